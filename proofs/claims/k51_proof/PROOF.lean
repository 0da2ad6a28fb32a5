import PyProof.Rows.All
import Wide.All
import OpenK.AllK
import Wide.FinOn
import Lean
import PyProof.EqAt
import PyProof.EqKinds
import PyProof.TupleCall
import PyProof.ExcAttrAll.ValueError
import PyProof.ZipIter
import PyProof.TupleIter
import PyProof.P3In
import PyProof.Rows.SeqMore2
import PyProof.FactsAll.tuple_3
import PyProof.FactsAll.list_3
import PyProof.Rows.Range3
import KE.KRevIter
import PyProof.Rows.FactsT2
import PySem.Builtin.Int.W1All
import PyProof.SetScanFacts
import PyProof.SetKind
import PyProof.DictKinds
import PyProof.DictStraight
import PyProof.Rows.SetFrom
import PyProof.CollectWalk
import PyProof.Seq
import PyProof.DictIter
import PyProof.Rows.Tup
import PyProof.FactsAll.set_1
import PyProof.FactsAll.set_2
import PyProof.Rows.SortWalk
import PyProof.ConsumeWalk
import PyProof.Rows.SumAny
import PySem.Syntax
import PyProof.ListRange
import PyProof.EnumMake
import PySem.Challenge.RW_talkleast_k51_codes
set_option Elab.async false
set_option linter.all false
set_option bootstrap.genMatcherCode false
set_option genSizeOfSpec false
set_option compiler.extract_closed false
set_option maxRecDepth 100000
set_option maxHeartbeats 4000000
section
namespace L2
open PySem PySem.Spec PyProof.Rows
noncomputable abbrev Key := Sum Int Str
noncomputable def z5j : Key -> Value -> Bool
 | .inl k, v => Value.isInt k v
 | .inr x, v => Value.isStrOf x v
noncomputable def keyH (w : World) : Key -> Int
 | .inl k => hashInt k
 | .inr x => hashStr w x
theorem q0J : ∀ {k : Key} {v : Value}, z5j k v = true -> (∃ i t, k = Sum.inl i /\ v = Value.int i t) \/ (∃ x t, k = Sum.inr x /\ v = Value.str x t)
 | .inl i, v, h => by
  obtain ⟨t, e⟩ := Value.isInt_shape (k := i) (v := v) h
  exact .inl ⟨i, t, rfl, e⟩
 | .inr x, v, h => by
  obtain ⟨t, e⟩ := Value.isStrOf_shape (x := x) (v := v) h
  exact .inr ⟨x, t, rfl, e⟩
theorem z3I (a b : Int) : decide ((Sum.inl a : Key) = Sum.inl b) = (a == b) := by
 by_cases e : a = b
 ·subst e; simp
 ·have h : ¬ (Sum.inl a : Key) = Sum.inl b := λ q => e (Sum.inl.inj q)
  rw [decide_eq_false h]
  exact (beq_eq_false_iff_ne.mpr e).symm
theorem z5k (a b : Str) : decide ((Sum.inr a : Key) = Sum.inr b) = decide (a = b) := by
 by_cases e : a = b
 ·subst e; simp
 ·have h : ¬ (Sum.inr a : Key) = Sum.inr b := λ q => e (Sum.inr.inj q)
  rw [decide_eq_false h, decide_eq_false e]
theorem z5a (a : Int) (b : Str) : decide ((Sum.inl a : Key) = Sum.inr b) = false := decide_eq_false (λ q => nomatch q)
theorem z4I (a : Str) (b : Int) : decide ((Sum.inr a : Key) = Sum.inl b) = false := decide_eq_false (λ q => nomatch q)
noncomputable def q5Z (prog : Program) (w : World) : PySem.KeyKind prog w Key where
 is := z5j
 hash := keyH w
 inj := λ v a b ha hb => by
  rcases q0J ha with ⟨i, t, rfl, rfl⟩ | ⟨x, t, rfl, rfl⟩
  ·rcases q0J hb with ⟨j, u, rfl, e⟩ | ⟨y, u, rfl, e⟩
   ·injection e with e1 _; rw [e1]
   ·exact nomatch e
  ·rcases q0J hb with ⟨j, u, rfl, e⟩ | ⟨y, u, rfl, e⟩
   ·exact nomatch e
   ·injection e with e1 _; rw [e1]
 byValue := λ k v h => by
  rcases q0J h with ⟨i, t, rfl, rfl⟩ | ⟨x, t, rfl, rfl⟩ <;> rfl
 pyHash := λ hv h => by
  rcases q0J hv with ⟨i, t, rfl, rfl⟩ | ⟨x, t, rfl, rfl⟩
  ·exact wpAny_pyHash_int h
  ·exact wpAny_pyHash_str h
 eqBool := λ hu hv h => by
  rcases q0J hu with ⟨i, t, rfl, rfl⟩ | ⟨x, t, rfl, rfl⟩
  ·rcases q0J hv with ⟨j, u, rfl, rfl⟩ | ⟨y, u, rfl, rfl⟩
   ·rw [z3I] at h; exact wpAny_eqBool_int h
   ·rw [z5a] at h; exact SeqAt.EqAt.int_str i t y u _ _ _ _ h
  ·rcases q0J hv with ⟨j, u, rfl, rfl⟩ | ⟨y, u, rfl, rfl⟩
   ·rw [z4I] at h; exact SeqAt.EqAt.str_int x t j u _ _ _ _ h
   ·rw [z5k] at h; exact wpAny_eqBool_str h
 «strs» := λ k x t v h => by
  rcases q0J h with ⟨i, u, rfl, e⟩ | ⟨y, u, rfl, e⟩
  ·exact nomatch e
  ·injection e with e1 _
   subst e1
   cases v <;> rfl
end L2
namespace L2
open PySem PySem.Spec PyProof.Rows
inductive V where
 | non | bl (b : Bool) | int (i : Int) | str (x : Str) | byt (b : Array UInt8) | flt (b : UInt64) | ref (a : Addr) | ty (n : String)
noncomputable instance V.decNon : (x : V) -> Decidable (x = V.non)
 | .non => isTrue rfl
 | .bl _ => isFalse (by intro h; cases h)
 | .int _ => isFalse (by intro h; cases h)
 | .str _ => isFalse (by intro h; cases h)
 | .byt _ => isFalse (by intro h; cases h)
 | .flt _ => isFalse (by intro h; cases h)
 | .ref _ => isFalse (by intro h; cases h)
 | .ty _ => isFalse (by intro h; cases h)
noncomputable def RelV : V -> Value -> Prop
 | .non, u => u = Value.none
 | .bl b, u => u = Value.bool b
 | .int i, u => ∃ t, u = Value.int i t
 | .str x, u => ∃ t, u = Value.str x t
 | .byt b, u => ∃ t, u = Value.bytes b t
 | .flt b, u => ∃ t, u = Value.float b t
 | .ref a, u => u = Value.ref a
 | .ty n, u => u = Value.type n
noncomputable abbrev Vals : List V -> List Value -> Prop := Paired RelV
theorem Vals.length {xs : List V} {us : List Value} (r : Vals xs us) : xs.length = us.length := Paired.length r
theorem Vals.get : ∀ {xs : List V} {us : List Value} {i : Nat} {x : V}, Vals xs us -> xs[i]? = some x -> ∃ u, us[i]? = some u /\ RelV x u
 | _, _, _, _, .nil, e => by simp at e
 | _, _, 0, _, .cons r _, e => by simp at e; subst e; exact ⟨_, rfl, r⟩
 | _, _, i + 1, x, .cons _ t, e => by
  obtain ⟨u, h1, h2⟩ := Vals.get (i := i) (x := x) t (by simpa using e)
  exact ⟨u, by simpa using h1, h2⟩
theorem Vals.set {x : V} {u : Value} (r : RelV x u) : ∀ {xs : List V} {us : List Value} (i : Nat), Vals xs us -> Vals (xs.set i x) (us.set i u)
 | _, _, _, .nil => .nil
 | _, _, 0, .cons _ t => .cons r t
 | _, _, i + 1, .cons q t => .cons q (Vals.set r i t)
theorem Vals.append : ∀ {xs ys : List V} {us ws : List Value}, Vals xs us -> Vals ys ws -> Vals (xs ++ ys) (us ++ ws)
 | _, _, _, _, .nil, s => s
 | _, _, _, _, .cons r t, s => .cons r (Vals.append t s)
theorem Vals.take : ∀ {xs : List V} {us : List Value} (n : Nat), Vals xs us -> Vals (xs.take n) (us.take n)
 | _, _, 0, _ => .nil
 | _, _, _ + 1, .nil => .nil
 | _, _, n + 1, .cons r t => .cons r (Vals.take n t)
theorem Vals.drop : ∀ {xs : List V} {us : List Value} (n : Nat), Vals xs us -> Vals (xs.drop n) (us.drop n)
 | _, _, 0, r => r
 | _, _, _ + 1, .nil => .nil
 | _, _, n + 1, .cons _ t => Vals.drop n t
noncomputable def RelO : Option V -> Option Value -> Prop
 | some v, some u => RelV v u
 | none, none => True
 | _, _ => False
noncomputable def KV {κ : Type} : List (κ × V) -> List (κ × Value) -> Prop := Paired λ (p : κ × V) (q : κ × Value) => p.1 = q.1 /\ RelV p.2 q.2
noncomputable def kV : Key -> V
 | .inl i => .int i
 | .inr x => .str x
inductive HO where
 | lst (xs : List V)
 | tup (xs : List V)
 | dK (kvs : List (Key × V)) | dT (kvs : List (List Key × V))
 | set (S : Int -> Bool) (n : Nat)
 | ins (C dx : Addr) (fs : List (Str × V))
 | own (x : Addr)
 | xd (fs : List (Str × V))
 | met (f x : Addr)
 | rng (lo hi : Int)
 | frz (o : Obj) (u : HO)
 | tbl (ps : Array Value)
 | ext (φ : Heap -> Prop)
noncomputable abbrev Hp := Addr -> Option HO
noncomputable def upd (H : Hp) (a : Addr) (o : HO) : Hp := λ b => if b = a then some o else H b
theorem q0A {H : Hp} {a : Addr} {o : HO} : upd H a o a = some o := by unfold upd; rw [if_pos rfl]
theorem q0j {H : Hp} {a b : Addr} {o : HO} (h : b ≠ a) : upd H a o b = H b := by unfold upd; rw [if_neg h]
theorem q0p {H : Hp} {a b : Addr} {o : HO} (h : H a = some o) (h' : H b = none) : a ≠ b := by
 intro e; subst e; rw [h] at h'; cases h'
noncomputable def q2M (h : Heap) (a : Addr) (items : Array Value) : Prop := ∃ o, h.get? a = some o /\ (o.cls = .type "tuple" /\ o.dict = none) /\ ∃ n, o.data = .seq items n
theorem q2M.tup {h : Heap} {a items} (x : q2M h a items) : IsTup h a items := let ⟨o, ho, hc, r⟩ := x; ⟨o, ho, hc.1, r⟩
theorem q2M.lt {h : Heap} {a items} (x : q2M h a items) : a < h.objs.size := let ⟨_, ho, _⟩ := x; Heap.lt_size ho
theorem q2M.new (h : Heap) (items : Array Value) : q2M (h.push { cls := .type "tuple", data := .seq items }) h.objs.size items := ⟨_, Heap.get?_push_size _ rfl, ⟨rfl, rfl⟩, _, rfl⟩
section
variable (P : Program) (w : World)
noncomputable def q1X (H : Hp) (h : Heap) (a : Addr) : HO -> Prop
 | .lst xs => xs.length <= sizeLine /\ ∃ (its : List Value) (n : Nat), Vals xs its /\ h.get? a = some { cls := .type "list", data := .seq its.toArray n }
 | .tup xs => xs.length <= sizeLine /\ ∃ its : List Value, Vals xs its /\ q2M h a its.toArray
 | .dK kvs => kvs.length <= sizeLine /\ (a == sysModules) = false /\ ∃ vs, KV kvs vs /\ h.DictOf (q5Z P w) a vs
 | .dT kvs => kvs.length <= sizeLine /\ (a == sysModules) = false /\ ∃ xs : List (List Key × Addr × Value),
   Paired (λ (p : List Key × V) (q : List Key × Addr × Value) => p.1 = q.1 /\ H q.2.1 = some (.tup (p.1.map kV)) /\ RelV p.2 q.2.2) kvs xs /\
   ∃ o es ep, h.get? a = some o /\ o.ExactDict /\ o.data = .dict es ep /\ es.toList = xs.map (entryOfKey (tupleKind (q5Z P w))) /\ (xs.map (·.1)).Nodup
 | .set S n => h.SetOf (intKind P w) a S n
 | .ins C dx fs => H dx = some (.own a) /\ fs.length <= 1000 /\ dx ≠ a /\ h.get? a = some (PySem.W.instObj C dx) /\
   ∃ mA, h.Ns1 dx mA /\ (∀ f, RelO (fs.lookup f) (mA f)) /\ PySem.Within mA (fs.map (·.1))
 | .own _ => ∃ o, h.get? a = some o
 | .xd fs => ∃ mA, h.Ns1 a mA /\ ∀ f, RelO (fs.lookup f) (mA f)
 | .rng lo hi => ∃ t u v, h.get? a = some { cls := .type "range", data := .fields #[.int lo t, .int hi u, .int 1 v] }
 | .frz o u => h.get? a = some o /\ q1X H h a u
 | .tbl ps => h.get? a = some { cls := .none, data := .fields ps }
 | .met f x => h.get? a = some (PySem.W.methodObj (.ref f) (.ref x))
 | .ext φ => φ h /\ (∃ o, h.get? a = some o) /\ ∀ h1 h2 : Heap, φ h1 -> (∀ o, h1.get? a = some o -> h2.get? a = some o) -> φ h2
noncomputable def HOk (H : Hp) (h : Heap) : Prop := ∀ a o, H a = some o -> q1X P w H h a o
end
section
variable {P : Program} {w : World} {H H' : Hp} {h h' : Heap} {a : Addr} {o : HO}
theorem q1X.lt (x : q1X P w H h a o) : a < h.objs.size := by
 cases o with
 | lst xs => obtain ⟨_, _, _, _, e⟩ := x; exact Heap.lt_size e
 | tup xs => obtain ⟨_, _, _, p⟩ := x; exact p.lt
 | dK kvs => obtain ⟨_, _, _, _, o, _, _, e, _⟩ := x; exact Heap.lt_size e
 | dT kvs => obtain ⟨_, _, _, _, o, _, _, e, _⟩ := x; exact Heap.lt_size e
 | set S n => obtain ⟨o, _, _, _, e, _⟩ := x; exact Heap.lt_size e
 | ins C dx fs => obtain ⟨_, _, _, e, _⟩ := x; exact Heap.lt_size e
 | own y => obtain ⟨_, e⟩ := x; exact Heap.lt_size e
 | xd fs => obtain ⟨_, ⟨_, _, _, e, _⟩, _⟩ := x; exact Heap.lt_size e
 | rng lo hi => obtain ⟨_, _, _, e⟩ := x; exact Heap.lt_size e
 | frz ob u => obtain ⟨e, _⟩ := x; exact Heap.lt_size e
 | tbl ps => exact Heap.lt_size (show h.get? a = some _ from x)
 | met f y => exact Heap.lt_size (show h.get? a = some _ from x)
 | ext φ => obtain ⟨_, ⟨_, e⟩, _⟩ := x; exact Heap.lt_size e
theorem Paired.mapP {α β : Type} {F G : α -> β -> Prop} : ∀ {l₁ : List α} {l₂ : List β}, Paired F l₁ l₂ -> (∀ a b, F a b -> G a b) -> Paired G l₁ l₂
 | _, _, .nil, _ => .nil
 | _, _, .cons r t, f => .cons (f _ _ r) (Paired.mapP t f)
theorem q1X.stay (x : q1X P w H h a o) (k : ∀ b u, (b = a \/ H b = some (.own a)) -> h.get? b = some u -> h'.get? b = some u)
  (ho : ∀ b, H b = some (.own a) -> H' b = some (.own a)) (ht : ∀ b xs, H b = some (.tup xs) -> H' b = some (.tup xs)) : q1X P w H' h' a o := by
 induction o with
 | lst xs => obtain ⟨z, its, n, r, e⟩ := x; exact ⟨z, its, n, r, k _ _ (.inl rfl) e⟩
 | tup xs => obtain ⟨z, its, r, ob, e, c⟩ := x; exact ⟨z, its, r, ob, k _ _ (.inl rfl) e, c⟩
 | dK kvs => obtain ⟨z, y, vs, r, ob, es, ep, e, c⟩ := x; exact ⟨z, y, vs, r, ob, es, ep, k _ _ (.inl rfl) e, c⟩
 | dT kvs =>
  obtain ⟨z, y, xs, r, ob, es, ep, e, c⟩ := x
  exact ⟨z, y, xs, Paired.mapP r λ p q z => ⟨z.1, ht _ _ z.2.1, z.2.2⟩, ob, es, ep, k _ _ (.inl rfl) e, c⟩
 | set S n => obtain ⟨ob, es, ep, t, e, c⟩ := x; exact ⟨ob, es, ep, t, k _ _ (.inl rfl) e, c⟩
 | ins C dx fs =>
  obtain ⟨d, z, ne, e, mA, ⟨od, es, ep, e2, c⟩, r⟩ := x
  exact ⟨ho _ d, z, ne, k _ _ (.inl rfl) e, mA, ⟨od, es, ep, k _ _ (.inr d) e2, c⟩, r⟩
 | own y => obtain ⟨ob, e⟩ := x; exact ⟨ob, k _ _ (.inl rfl) e⟩
 | xd fs => obtain ⟨mA, ⟨od, es, ep, e, c⟩, r⟩ := x; exact ⟨mA, ⟨od, es, ep, k _ _ (.inl rfl) e, c⟩, r⟩
 | rng lo hi => obtain ⟨t, u, v, e⟩ := x; exact ⟨t, u, v, k _ _ (.inl rfl) e⟩
 | frz ob u ih => obtain ⟨e, q⟩ := x; exact ⟨k _ _ (.inl rfl) e, ih q⟩
 | tbl ps =>
  have e : h.get? a = some { cls := .none, data := .fields ps } := x
  show h'.get? a = some { cls := .none, data := .fields ps }
  exact k a _ (.inl rfl) e
 | met f y =>
  have e : h.get? a = some (PySem.W.methodObj (.ref f) (.ref y)) := x
  show h'.get? a = some (PySem.W.methodObj (.ref f) (.ref y))
  exact k a _ (.inl rfl) e
 | ext φ => obtain ⟨p, ⟨o, e⟩, st⟩ := x; exact ⟨st _ _ p λ o q => k _ _ (.inl rfl) q, ⟨o, k _ _ (.inl rfl) e⟩, st⟩
theorem HOk.lt (x : HOk P w H h) (e : H a = some o) : a < h.objs.size := (x a o e).lt
theorem HOk.fresh (x : HOk P w H h) (e : h.objs.size <= a) : H a = none := by
 cases q : H a with
 | none => rfl
 | some u => exact absurd (Nat.lt_of_lt_of_le (x.lt q) e) (Nat.lt_irrefl _)
theorem HOk.kept (x : HOk P w H h) (k : ∀ b u, h.get? b = some u -> h'.get? b = some u) : HOk P w H h' := λ a o e =>
 (x a o e).stay (λ b u _ q => k b u q) (λ _ q => q) λ _ _ q => q
theorem HOk.laid (x : HOk P w H h) (k : ∀ b u, h.get? b = some u -> h'.get? b = some u) (hp : h.objs.size <= a) (new : q1X P w (upd H a o) h' a o) : HOk P w (upd H a o) h' := λ b u e => by
 have hn := x.fresh hp
 by_cases hb : b = a
 ·subst hb; rw [q0A] at e; cases e; exact new
 ·rw [q0j hb] at e
  exact (x b u e).stay (λ c v _ q => k c v q) (λ c q => by rw [q0j (q0p q hn)]; exact q) λ c xs q => by rw [q0j (q0p q hn)]; exact q
end
noncomputable def Rd (H : Hp) (a : Addr) (u : HO) : Prop := H a = some u \/ ∃ o, H a = some (.frz o u)
theorem Rd.ok {P : Program} {w : World} {H : Hp} {h : Heap} {a : Addr} {u : HO} (r : Rd H a u) (x : HOk P w H h) : q1X P w H h a u := by
 rcases r with r | ⟨o, r⟩
 ·exact x a u r
 ·obtain ⟨_, q⟩ := x a _ r
  exact q
noncomputable def Mut : Option HO -> Prop
 | some (.lst _) => True
 | some (.dK _) => True
 | some (.dT _) => True
 | some (.set _ _) => True
 | some (.ins _ _ _) => True
 | some (.ext _) => True
 | _ => False
section
variable {P : Program} {w : World} {H : Hp} {h h' : Heap} {x e : Addr} {o' : HO}
theorem HOk.write (ok : HOk P w H h) (mu : Mut (H x)) (he : e = x \/ H e = some (.own x)) (k : ∀ b u, b ≠ e -> h.get? b = some u -> h'.get? b = some u) (heo : ∃ u, h'.get? e = some u)
  (new : q1X P w (upd H x o') h' x o') : HOk P w (upd H x o') h' := λ b u q => by
 have nown : ∀ c y, H c = some (.own y) -> c ≠ x := λ c y r z => by subst z; rw [r] at mu; exact mu
 have ntup : ∀ c xs, H c = some (.tup xs) -> c ≠ x := λ c xs r z => by subst z; rw [r] at mu; exact mu
 by_cases hb : b = x
 ·subst hb; rw [q0A] at q; cases q; exact new
 ·rw [q0j hb] at q
  by_cases hbe : b = e
  ·have q' : H b = some (.own x) := by
    rcases he with z | z
    ·exact absurd (hbe.trans z) hb
    ·rw [hbe]; exact z
   rw [q] at q'; cases q'
   obtain ⟨v, hv⟩ := heo
   exact ⟨v, by rw [hbe]; exact hv⟩
  ·refine (ok b u q).stay (λ c v hc r => k c v ?_ r) (λ c r => by rw [q0j (nown c b r)]; exact r) λ c xs r => by rw [q0j (ntup c xs r)]; exact r
   rcases hc with rfl | hc
   ·exact hbe
   ·rintro rfl
    rcases he with z | z
    ·exact nown c b hc z
    ·rw [hc] at z; cases z; exact hb rfl
end
structure Un (fs ex : List Addr) (H H' : Hp) (h h' : Heap) : Prop where
 keep : ∀ b o, h.get? b = some o -> H b = none -> b ∉ fs -> b ∉ ex -> h'.get? b = some o
 slot : ∀ b o, h.get? b = some o -> H b = none -> b ∈ fs -> b ∉ ex -> ∃ sl, h'.get? b = some { o with slots := sl }
 free : ∀ b o, h.get? b = some o -> H b = none -> b ∉ ex -> H' b = none
 there : ∀ b o, h.get? b = some o -> b ∉ ex -> ∃ o', h'.get? b = some o'
 tups : ∀ b xs, H b = some (.tup xs) -> H' b = some (.tup xs)
 frzs : ∀ b o u, H b = some (.frz o u) -> H' b = some (.frz o u)
 tbls : ∀ b ps, H b = some (.tbl ps) -> ∃ more, H' b = some (.tbl (ps ++ more))
section
variable {fs fs' ex ex' : List Addr} {H H1 H2 : Hp} {h h1 h2 h' : Heap} {a x e : Addr} {o : HO}
theorem Un.any (u : Un fs ex H H1 h h1) {b : Addr} {ob : Obj} (q : h.get? b = some ob) (n : H b = none) (hx : b ∉ ex) : ∃ sl, h1.get? b = some { ob with slots := sl } := by
 by_cases hb : b ∈ fs
 ·exact u.slot b ob q n hb hx
 ·exact ⟨ob.slots, u.keep b ob q n hb hx⟩
theorem Un.kept (k : ∀ b u, h.get? b = some u -> h'.get? b = some u) : Un fs ex H H h h' :=
 ⟨λ b ob q _ _ _ => k b ob q, λ b ob q _ _ _ => ⟨ob.slots, k b ob q⟩, λ _ _ _ n _ => n, λ b ob q _ => ⟨ob, k b ob q⟩, λ _ _ q => q, λ _ _ _ q => q, λ _ ps q => ⟨#[], by rw [q]; simp⟩⟩
theorem Un.refl : Un fs ex H H h h := Un.kept λ _ _ q => q
theorem Un.laid (k : ∀ b u, h.get? b = some u -> h'.get? b = some u) (hp : h.objs.size <= a) (hn : H a = none) : Un fs ex H (upd H a o) h h' where
 keep := λ b u q _ _ _ => k b u q
 slot := λ b u q _ _ _ => ⟨u.slots, k b u q⟩
 free := λ b u q n _ => by rw [q0j (Nat.ne_of_lt (Nat.lt_of_lt_of_le (Heap.lt_size q) hp))]; exact n
 there := λ b u q _ => ⟨u, k b u q⟩
 tups := λ b xs q => by rw [q0j (q0p q hn)]; exact q
 frzs := λ b u xs q => by rw [q0j (q0p q hn)]; exact q
 tbls := λ b ps q => ⟨#[], by rw [q0j (q0p q hn), q]; simp⟩
theorem Un.write (mu : Mut (H x)) (he : e = x \/ H e = some (.own x)) (k : ∀ b u, b ≠ e -> h.get? b = some u -> h'.get? b = some u) (heo : ∃ u, h'.get? e = some u) : Un fs ex H (upd H x o) h h' := by
 have hx : ∀ b, H b = none -> b ≠ x := λ b n z => by subst z; rw [n] at mu; exact mu
 have hb : ∀ b, H b = none -> b ≠ e := λ b n z => by
  subst z
  rcases he with r | r
  ·exact hx b n r
  ·rw [n] at r; cases r
 have hm : ∀ b u, H b = some u -> ¬ Mut (some u) -> b ≠ x := λ b u q nm z => by subst z; rw [q] at mu; exact nm mu
 refine ⟨λ b u q n _ _ => k b u (hb b n) q, λ b u q n _ _ => ⟨u.slots, k b u (hb b n) q⟩, λ b u q n _ => by rw [q0j (hx b n)]; exact n, λ b u q _ => ?_,
  λ b xs q => by rw [q0j (hm b _ q λ z => z)]; exact q, λ b u xs q => by rw [q0j (hm b _ q λ z => z)]; exact q, λ b ps q => ⟨#[], by rw [q0j (hm b _ q λ z => z), q]; simp⟩⟩
 by_cases hbe : b = e
 ·subst hbe; exact heo
 ·exact ⟨u, k b u hbe q⟩
end
noncomputable def trk (h : Heap) (H : Hp) : List Addr := (List.range h.objs.size).filter λ a => (H a).isSome
noncomputable def hidT (h : Heap) (H : Hp) : Heap := PySem.W.hideAll h (trk h H)
theorem q7N (h : Heap) (H : Hp) : (hidT h H).objs.size = h.objs.size := PySem.W.hideAll_size _ _
theorem q9V {h : Heap} {H : Hp} {b : Addr} {o : Obj} (e : h.get? b = some o) (n : H b = none) : (hidT h H).get? b = some o :=
 PySem.W.hideAll_get _ e λ hm => by
  have q : (H b).isSome = true := (List.mem_filter.mp hm).2
  rw [n] at q; simp at q
theorem z3c {h : Heap} {H : Hp} {b : Addr} {o : Obj} (e : (hidT h H).get? b = some o) : h.get? b = some o /\ H b = none := by
 have e' : h.get? b = some o := PySem.W.of_hideAll (trk h H) e
 refine ⟨e', ?_⟩
 cases q : H b with
 | none => rfl
 | some x =>
  have hm : b ∈ trk h H := List.mem_filter.mpr ⟨List.mem_range.mpr (Heap.lt_size e'), by simp [q]⟩
  have z : (hidT h H).get? b = none := PySem.W.hideAll_none (trk h H) hm
  rw [z] at e; cases e
noncomputable def z3p (g h : Heap) (L : Addr) : List (Addr × Obj) := (List.range h.objs.size).filterMap λ a => if a = L \/ (g.get? a).isSome = true then none else (h.get? a).map λ o => (a, o)
noncomputable def rest (g h : Heap) (L d : Addr) : List (Addr × Obj) := (z3p g h L).filter λ p => decide (p.1 ≠ d)
end L2
namespace L2
open PySem PySem.Spec PyProof.Rows
structure Mod (K : PySem.W.Frag) (mg : Str -> Option Value) (base : Heap) : Prop where
 kin : K.In base
 glob : base.Ns mainGlobals mg
 blt : ∃ mb, base.Ns builtinsNs mb /\ ∀ x : Str, x ≠ "__name__" -> mb x = bootBuiltins x
 nolimit : base.NoLimit
structure Cx where
 prog : Program
 w : World
 K : PySem.W.Frag
 mg : Str -> Option Value
 base : Heap
 A : Around
 N : List Str
 s₀ : Shared
 H₀ : Hp
 env : Env
 outer : List Env
 stack : List Env
 ex : List Addr
 fn : Str -> Bool
 calm : Bool
 pn : List (Addr × Obj)
 xe : Value -> Shared -> Prop
noncomputable def frs (l : List Env) : List Addr := l.filterMap (·.frame)
noncomputable abbrev Cx.fs (X : Cx) : List Addr := frs X.outer
noncomputable def Vis (sc : Scope) (x : Str) : Prop := sc.names.lookup x = some .local \/ sc.names.lookup x = some .cell \/ sc.names.lookup x = some .free
noncomputable def Loc (sc : Scope) (x : Str) : Prop := sc.names.lookup x = some .local \/ sc.names.lookup x = some .cell
noncomputable def Look (env : Env) (h : Heap) (m : Str -> Option Value) (x : Str) (u : Value) : Prop :=
 (env.kindOf x = some .local /\ m x = some u) \/ ((env.kindOf x = some .cell \/ env.kindOf x = some .free) /\ ∃ c, env.cells.lookup x = some c /\ h.IsCell c (some u))
structure Cx.Ok (X : Cx) : Prop where
 mod : Mod X.K X.mg X.base
 kind : X.env.scope.kind = .function
 glob : X.env.globals = mainGlobals
 blt : X.env.builtins = builtinsNs
 above : X.s₀.heap.objs.size <= X.env.locals
 inj : ∀ x y c, X.env.cells.lookup x = some c -> X.env.cells.lookup y = some c -> x = y
 has : ∀ x, (X.env.kindOf x = some .cell \/ X.env.kindOf x = some .free) -> ∃ c, X.env.cells.lookup x = some c
 cab : ∀ x c, X.fn x = true -> X.env.cells.lookup x = some c -> X.s₀.heap.objs.size <= c
 hd : X.calm = true -> X.A.handled = none
 frames : X.A.frames = some X.stack
 stk : X.stack = X.outer \/ (X.stack = X.env :: X.outer /\ X.env.frame = some X.env.locals)
 exf : ∀ b ∈ X.ex, b ≠ X.env.locals /\ ∀ x c, X.env.cells.lookup x = some c -> c ≠ b
 bs : ∀ b o, X.base.get? b = some o -> X.s₀.heap.get? b = some o /\ X.H₀ b = none
 bsz : X.base.objs.size <= X.s₀.heap.objs.size
 noex : ∀ b o, X.base.get? b = some o -> b ∉ X.ex
 exfs : ∀ b ∈ X.ex, b ∉ X.fs
 funs : X.s₀.heap.FunFrames X.base X.outer
 frf : ∀ b ∈ X.fs, X.H₀ b = none
structure Inv (X : Cx) (pins : List (Addr × Obj)) (σ : List (Option V)) (H : Hp) (s : Shared) : Prop where
 ok : X.Ok
 os : s.os = X.s₀.os
 bare : AllBare s.gens
 base : Un X.fs X.ex X.H₀ H X.s₀.heap s.heap
 loc : ∃ m, s.heap.Ns X.env.locals m /\ ∀ (i : Nat) (x : Str) (v : V), X.N[i]? = some x -> σ[i]? = some (some v) -> Vis X.env.scope x -> ∃ u, RelV v u /\ Look X.env s.heap m x u
 cell : ∀ x c, X.env.cells.lookup x = some c -> ∃ v, s.heap.IsCell c v
 free : H X.env.locals = none
 freeC : ∀ x c, X.env.cells.lookup x = some c -> H c = none
 pin : ∀ p ∈ X.pn ++ pins, s.heap.get? p.1 = some p.2 /\ H p.1 = none /\ p.1 ≠ X.env.locals /\ p.1 ∉ X.fs /\ ∀ v, p.2.data ≠ .cell v
 hok : HOk X.prog X.w H s.heap
 len : σ.length = X.N.length
section
variable {X : Cx} {pins : List (Addr × Obj)} {σ : List (Option V)} {H H' : Hp} {s : Shared} {h' : Heap}
theorem Cx.Ok.nofr (ok : X.Ok) {b : Addr} {o : Obj} (e : X.base.get? b = some o) : b ∉ X.fs := λ hb => by
 have := (ok.funs.mem hb).1
 rw [e] at this; cases this
theorem Inv.bs (I : Inv X pins σ H s) : ∀ b o, X.base.get? b = some o -> s.heap.get? b = some o /\ H b = none := λ b o e =>
 ⟨I.base.keep b o (I.ok.bs b o e).1 (I.ok.bs b o e).2 (I.ok.nofr e) (I.ok.noex b o e), I.base.free b o (I.ok.bs b o e).1 (I.ok.bs b o e).2 (I.ok.noex b o e)⟩
theorem Inv.bk (I : Inv X pins σ H s) : ∀ b o, X.base.get? b = some o -> s.heap.get? b = some o := λ b o e => (I.bs b o e).1
theorem Inv.mod (I : Inv X pins σ H s) : Mod X.K X.mg X.base := I.ok.mod
theorem Inv.kIn (I : Inv X pins σ H s) : X.K.In s.heap := I.ok.mod.kin.keeps I.bk
theorem Inv.lt (I : Inv X pins σ H s) : X.env.locals < s.heap.objs.size := let ⟨_, hn, _⟩ := I.loc; hn.lt
theorem Inv.sz (I : Inv X pins σ H s) : X.s₀.heap.objs.size <= s.heap.objs.size := Nat.le_trans I.ok.above (Nat.le_of_lt I.lt)
theorem Inv.nofs (I : Inv X pins σ H s) {a : Addr} (h : s.heap.objs.size <= a) : a ∉ X.fs := λ hb => by
 obtain ⟨_, o, ho, _⟩ := I.ok.funs.mem hb
 exact absurd (Nat.lt_of_lt_of_le (Heap.lt_size ho) (Nat.le_trans I.sz h)) (Nat.lt_irrefl _)
theorem Inv.cne (I : Inv X pins σ H s) : ∀ x c, X.env.cells.lookup x = some c -> c ≠ X.env.locals := λ x c e z => by
 obtain ⟨v, o, ho, hd⟩ := I.cell x c e
 obtain ⟨m, ⟨o', es, ep, ho', hd', _⟩, _⟩ := I.loc
 rw [z, ho'] at ho; cases ho; rw [hd'] at hd; cases hd
theorem Inv.funs (I : Inv X pins σ H s) : s.heap.FunFrames X.base X.outer := by
 have all : ∀ (l : List Env), (∀ b ∈ frs l, b ∈ X.fs) -> X.s₀.heap.FunFrames X.base l -> s.heap.FunFrames X.base l := by
  intro l
  induction l with
  | nil => intro _ _; trivial
  | cons env r ih =>
   intro hs hl
   obtain ⟨hk, ⟨L, o, hf, hn, ho, hd⟩, hr⟩ := hl
   have hL : L ∈ X.fs := hs L (by unfold frs; rw [List.filterMap_cons, hf]; exact List.mem_cons_self)
   obtain ⟨sl, e⟩ := I.base.slot L o ho (I.ok.frf L hL) hL λ z => I.ok.exfs L z hL
   exact ⟨hk, ⟨L, _, hf, hn, e, hd⟩, ih (λ b hb => hs b (by unfold frs; rw [List.filterMap_cons, hf]; exact List.mem_cons_of_mem _ hb)) hr⟩
 exact all X.outer (λ _ hb => hb) I.ok.funs
theorem Inv.stack (I : Inv X pins σ H s) : s.heap.FunFrames X.base X.stack := by
 rcases I.ok.stk with e | ⟨e, hf⟩
 ·rw [e]; exact I.funs
 ·rw [e]
  obtain ⟨m, hn, _⟩ := I.loc
  refine .cons (by rw [I.ok.kind]; decide) hf hn ?_ I.funs
  exact Heap.get?_none_of_le (Nat.le_trans I.ok.bsz I.ok.above)
theorem Inv.stkSub (I : Inv X pins σ H s) : ∀ b ∈ frs X.stack, b ∈ X.env.locals :: X.fs := λ b hb => by
 rcases I.ok.stk with e | ⟨e, hf⟩
 ·rw [e] at hb; exact List.mem_cons_of_mem _ hb
 ·rw [e] at hb
  unfold frs at hb
  rw [List.filterMap_cons, hf] at hb
  exact hb
theorem Inv.stkFree (I : Inv X pins σ H s) : ∀ b ∈ frs X.stack, H b = none := λ b hb => by
 rcases List.mem_cons.mp (I.stkSub b hb) with e | hb
 ·rw [e]; exact I.free
 ·obtain ⟨_, o, ho, _⟩ := I.ok.funs.mem hb
  exact I.base.free b o ho (I.ok.frf b hb) λ z => I.ok.exfs b z hb
theorem Inv.step {g' : Array GenState} {t' : Nat} {d' : Drawn} {ch : List Addr} (I : Inv X pins σ H s)
  (hch : ∀ b ∈ ch, (b ∈ X.ex \/ X.s₀.heap.objs.size <= b) /\ b ≠ X.env.locals /\ (∀ x c, X.env.cells.lookup x = some c -> c ≠ b) /\ ∀ p ∈ X.pn ++ pins, p.1 ≠ b)
  (keep : ∀ b o, b ≠ X.env.locals -> b ∉ X.fs -> b ∉ ch -> s.heap.get? b = some o -> H b = none -> h'.get? b = some o)
  (slot : ∀ b o, b ≠ X.env.locals -> b ∈ X.fs -> b ∉ ch -> s.heap.get? b = some o -> H b = none -> ∃ sl, h'.get? b = some { o with slots := sl }) (free : ∀ b o, b ∉ ch -> s.heap.get? b = some o -> H b = none -> H' b = none)
  (there : ∀ b o, b ∉ ch -> s.heap.get? b = some o -> ∃ o', h'.get? b = some o')
  (tups : ∀ b xs, H b = some (.tup xs) -> H' b = some (.tup xs)) (frzs : ∀ b o u, H b = some (.frz o u) -> H' b = some (.frz o u)) (tbls : ∀ b ps, H b = some (.tbl ps) -> ∃ more, H' b = some (.tbl (ps ++ more)))
  (ns : ∀ m, s.heap.Ns X.env.locals m -> h'.Ns X.env.locals m) (hok : HOk X.prog X.w H' h') (hg : AllBare g') :
  Inv X pins σ H' { s with heap := h', gens := g', drawn := d', toks := t' } := by
 have neL : ∀ b o, X.s₀.heap.get? b = some o -> b ≠ X.env.locals := λ b o e => Nat.ne_of_lt (Nat.lt_of_lt_of_le (Heap.lt_size e) I.ok.above)
 have neC : ∀ b o, X.s₀.heap.get? b = some o -> b ∉ X.ex -> b ∉ ch := λ b o e hx hb => by
  rcases (hch b hb).1 with z | z
  ·exact hx z
  ·exact absurd (Nat.lt_of_lt_of_le (Heap.lt_size e) z) (Nat.lt_irrefl _)
 have cellK : ∀ x c, X.env.cells.lookup x = some c -> ∀ v, s.heap.IsCell c v -> h'.IsCell c v := λ x c e v ⟨o, ho, hd⟩ => by
  have nch : c ∉ ch := λ z => (hch c z).2.2.1 x c e rfl
  by_cases hc : c ∈ X.fs
  ·obtain ⟨sl, q⟩ := slot c o (I.cne x c e) hc nch ho (I.freeC x c e)
   exact ⟨_, q, hd⟩
  ·exact ⟨o, keep c o (I.cne x c e) hc nch ho (I.freeC x c e), hd⟩
 refine ⟨I.ok, I.os, hg, ⟨λ b o e n hb hx => ?_, λ b o e n hb hx => ?_, λ b o e n hx => ?_, λ b o e hx => ?_, λ b xs e => tups b xs (I.base.tups b xs e), λ b o xs e => frzs b o xs (I.base.frzs b o xs e), λ b ps e => ?_⟩, ?_, λ x c e => ?_, ?_, λ x c e => ?_, λ p hp => ?_, hok, I.len⟩
 ·exact keep b o (neL b o e) hb (neC b o e hx) (I.base.keep b o e n hb hx) (I.base.free b o e n hx)
 ·obtain ⟨sl, e1⟩ := I.base.slot b o e n hb hx
  obtain ⟨sl', e2⟩ := slot b _ (neL b o e) hb (neC b o e hx) e1 (I.base.free b o e n hx)
  exact ⟨sl', e2⟩
 ·obtain ⟨o', e1⟩ := I.base.there b o e hx
  exact free b o' (neC b o e hx) e1 (I.base.free b o e n hx)
 ·obtain ⟨o', e1⟩ := I.base.there b o e hx
  exact there b o' (neC b o e hx) e1
 ·obtain ⟨m1, e1⟩ := I.base.tbls b ps e
  obtain ⟨m2, e2⟩ := tbls b _ e1
  exact ⟨m1 ++ m2, by rw [e2, Array.append_assoc]⟩
 ·obtain ⟨m, hn, hl⟩ := I.loc
  refine ⟨m, ns m hn, λ i x v e1 e2 e3 => ?_⟩
  obtain ⟨u, r, l⟩ := hl i x v e1 e2 e3
  refine ⟨u, r, ?_⟩
  rcases l with l | ⟨k, c, e, z⟩
  ·exact .inl l
  ·exact .inr ⟨k, c, e, cellK x c e _ z⟩
 ·obtain ⟨v, z⟩ := I.cell x c e
  exact ⟨v, cellK x c e v z⟩
 ·obtain ⟨m, ⟨o, _, _, ho, _⟩, _⟩ := I.loc
  exact free _ o (λ z => (hch _ z).2.1 rfl) ho I.free
 ·obtain ⟨v, o, ho, hd⟩ := I.cell x c e
  exact free c o (λ z => (hch c z).2.2.1 x c e rfl) ho (I.freeC x c e)
 ·obtain ⟨e, n, ne, nf, d⟩ := I.pin p hp
  have nch : p.1 ∉ ch := λ z => (hch p.1 z).2.2.2 p hp rfl
  exact ⟨keep p.1 p.2 ne nf nch e n, free p.1 p.2 nch e n, ne, nf, d⟩
theorem Inv.un {t' : Nat} (I : Inv X pins σ H s) (u : Un X.fs [] H H' s.heap h') (hok : HOk X.prog X.w H' h') : Inv X pins σ H' { s with heap := h', toks := t' } := by
 obtain ⟨m, ⟨o, es, ep, ho, r⟩, _⟩ := id I.loc
 obtain ⟨sl, hL⟩ := u.any ho I.free (by simp)
 exact I.step (g' := s.gens) (d' := s.drawn) (ch := []) (λ _ z => nomatch z) (λ b o _ hb _ e n => u.keep b o e n hb (by simp)) (λ b o _ hb _ e n => u.slot b o e n hb (by simp)) (λ b o _ e n => u.free b o e n (by simp)) (λ b o _ e => u.there b o e (by simp)) u.tups u.frzs u.tbls (λ m' hm => by
  obtain ⟨o', es', ep', ho', r'⟩ := hm
  rw [ho] at ho'; cases ho'
  exact ⟨_, es', ep', hL, r'⟩) hok I.bare
theorem Inv.call {g' : Array GenState} {t' : Nat} {d' : Drawn} {ch : List Addr} (I : Inv X pins σ H s) (u : Un (frs X.stack) ch H H' s.heap h') (hok : HOk X.prog X.w H' h') (hg : AllBare g')
  (hch : ∀ b ∈ ch, (b ∈ X.ex \/ X.s₀.heap.objs.size <= b) /\ b ≠ X.env.locals /\ (∀ x c, X.env.cells.lookup x = some c -> c ≠ b) /\ ∀ p ∈ X.pn ++ pins, p.1 ≠ b) :
  Inv X pins σ H' { s with heap := h', gens := g', drawn := d', toks := t' } := by
 obtain ⟨m, ⟨o, es, ep, ho, r⟩, _⟩ := id I.loc
 obtain ⟨sl, hL⟩ := u.any ho I.free λ z => (hch _ z).2.1 rfl
 exact I.step (ch := ch) hch (λ b o hL hb hc e n => u.keep b o e n (λ z => (List.mem_cons.mp (I.stkSub b z)).elim hL hb) hc) (λ b o _ _ hc e n => u.any e n hc) (λ b o hc e n => u.free b o e n hc) (λ b o hc e => u.there b o e hc) u.tups u.frzs u.tbls (λ m' hm => by
  obtain ⟨o', es', ep', ho', r'⟩ := hm
  rw [ho] at ho'; cases ho'
  exact ⟨_, es', ep', hL, r'⟩) hok hg
theorem Inv.turned {t' : Nat} {it : Addr} (I : Inv X pins σ H s) (k : ∀ b o, b ≠ it -> s.heap.get? b = some o -> h'.get? b = some o) (hn : H it = none) (hL : it ≠ X.env.locals)
  (h1 : it ∈ X.ex \/ X.s₀.heap.objs.size <= it) (h2 : ∀ x c, X.env.cells.lookup x = some c -> c ≠ it) (h3 : ∀ p ∈ X.pn ++ pins, p.1 ≠ it) : Inv X pins σ H { s with heap := h', toks := t' } := by
 have nit : ∀ b u, H b = some u -> b ≠ it := λ b u e z => by rw [z, hn] at e; cases e
 refine I.step (g' := s.gens) (d' := s.drawn) (ch := [it]) (λ b hb => ?_) (λ b o _ _ hc e _ => k b o (λ z => hc (by simp [z])) e) (λ b o _ _ hc e _ => ⟨o.slots, k b o (λ z => hc (by simp [z])) e⟩) (λ _ _ _ _ n => n)
  (λ b o hc e => ⟨o, k b o (λ z => hc (by simp [z])) e⟩) (λ _ _ e => e) (λ _ _ _ e => e) (λ b ps e => ⟨#[], by rw [e]; simp⟩) (λ m hm => ?_) (λ b u e => ?_) I.bare
 ·have e : b = it := by simpa using hb
  subst e
  exact ⟨h1, hL, h2, h3⟩
 ·obtain ⟨o, es, ep, ho, r⟩ := hm
  exact ⟨o, es, ep, k _ o (Ne.symm hL) ho, r⟩
 ·refine (I.hok b u e).stay (λ c v hc q => k c v ?_ q) (λ _ q => q) λ _ _ q => q
  rcases hc with z | z
  ·rw [z]; exact nit b u e
  ·exact nit c _ z
theorem Inv.tok (I : Inv X pins σ H s) (t : Nat) : Inv X pins σ H { s with toks := t } := I.un (h' := s.heap) (t' := t) Un.refl I.hok
theorem Inv.kept {t' : Nat} (I : Inv X pins σ H s) (k : ∀ b u, s.heap.get? b = some u -> h'.get? b = some u) : Inv X pins σ H { s with heap := h', toks := t' } := I.un (Un.kept k) (I.hok.kept k)
theorem Inv.laid {a : Addr} {o : HO} {t' : Nat} (I : Inv X pins σ H s) (k : ∀ b u, s.heap.get? b = some u -> h'.get? b = some u) (hp : s.heap.objs.size <= a) (new : q1X X.prog X.w (upd H a o) h' a o) :
  Inv X pins σ (upd H a o) { s with heap := h', toks := t' } := I.un (Un.laid k hp (I.hok.fresh hp)) (I.hok.laid k hp new)
theorem Inv.write {x e : Addr} {o : HO} {t' : Nat} (I : Inv X pins σ H s) (mu : Mut (H x)) (he : e = x \/ H e = some (.own x)) (k : ∀ b u, b ≠ e -> s.heap.get? b = some u -> h'.get? b = some u) (heo : ∃ u, h'.get? e = some u)
  (new : q1X X.prog X.w (upd H x o) h' x o) : Inv X pins σ (upd H x o) { s with heap := h', toks := t' } := I.un (Un.write mu he k heo) (I.hok.write mu he k heo new)
theorem Inv.pins_of {pins' : List (Addr × Obj)} (I : Inv X pins σ H s) (h : ∀ p ∈ pins', s.heap.get? p.1 = some p.2 /\ H p.1 = none /\ p.1 ≠ X.env.locals /\ p.1 ∉ X.fs /\ ∀ v, p.2.data ≠ .cell v) : Inv X pins' σ H s :=
 ⟨I.ok, I.os, I.bare, I.base, I.loc, I.cell, I.free, I.freeC, λ p hp => (List.mem_append.mp hp).elim (λ z => I.pin p (List.mem_append_left _ z)) (h p), I.hok, I.len⟩
theorem q4Y {N : List Str} (hN : N.Nodup) {i j : Nat} {x : Str} (a : N[i]? = some x) (b : N[j]? = some x) : i = j := by
 obtain ⟨h1, e1⟩ := List.getElem?_eq_some_iff.mp a
 obtain ⟨h2, e2⟩ := List.getElem?_eq_some_iff.mp b
 exact (List.getElem_inj hN).mp (e1.trans e2.symm)
theorem q5g {M : Model} {A : Around} {E : Value -> Shared -> Prop} {i : Nat} {x : Str} {v : V} {u : Value} {Q : Unit -> Shared -> Prop} (I : Inv X pins σ H s) (hN : X.N.Nodup) (hi : X.N[i]? = some x) (hx : Loc X.env.scope x) (r : RelV v u)
  (h : ∀ s', Inv X pins (σ.set i (some v)) H s' -> (∃ a, Heap.SameBut a s.heap s'.heap /\ (a = X.env.locals \/ X.env.cells.lookup x = some a)) -> Q () s') (hf : X.fn x = true \/ X.env.scope.names.lookup x = some .local := by first | exact .inl rfl | exact .inr rfl | assumption) : wpAny M A (storeName X.env x u) Q E s := by
 obtain ⟨m, hn, hl⟩ := id I.loc
 have hcls : (X.env.scope.kind == .class || (X.env.scope.kind == .module && X.env.locals != X.env.globals)) = false := by rw [I.ok.kind]; rfl
 have hiσ : i < σ.length := by rw [I.len]; exact (List.getElem?_eq_some_iff.mp hi).1
 have cne := I.cne
 have tracked : ∀ {a : Addr} {h' : Heap}, (∃ o, s.heap.get? a = some o /\ H a = none) -> Heap.SameBut a s.heap h' -> HOk X.prog X.w H h' := λ {a h'} ha hs b ob e => by
  obtain ⟨_, _, hfree⟩ := ha
  refine (I.hok b ob e).stay (λ c w' hc q => (hs.2 c ?_).trans q) (λ _ q => q) λ _ _ q => q
  rintro rfl
  rcases hc with rfl | hc
  ·rw [hfree] at e; cases e
  ·rw [hfree] at hc; cases hc
 rcases hx with hk | hk
 ·refine wpAny_storeName_local hk hn (λ h' hn' hs => ?_) hcls
  obtain ⟨oL, _, _, hoL, _⟩ := id hn
  refine h _ ⟨I.ok, I.os, I.bare, ⟨λ b o e n hb hx => ?_, λ b o e n hb hx => ?_, I.base.free, λ b o e hx => ?_, I.base.tups, I.base.frzs, I.base.tbls⟩, ⟨_, hn', λ j y v' e1 e2 e3 => ?_⟩, λ y c e => ?_, I.free, I.freeC, λ p hp => ?_, tracked ⟨oL, hoL, I.free⟩ hs, by simpa using I.len⟩ ⟨_, hs, .inl rfl⟩
  ·exact (hs.2 b (Nat.ne_of_lt (Nat.lt_of_lt_of_le (Heap.lt_size e) I.ok.above))).trans (I.base.keep b o e n hb hx)
  ·obtain ⟨sl, e1⟩ := I.base.slot b o e n hb hx
   exact ⟨sl, (hs.2 b (Nat.ne_of_lt (Nat.lt_of_lt_of_le (Heap.lt_size e) I.ok.above))).trans e1⟩
  ·obtain ⟨o', e1⟩ := I.base.there b o e hx
   exact ⟨o', (hs.2 b (Nat.ne_of_lt (Nat.lt_of_lt_of_le (Heap.lt_size e) I.ok.above))).trans e1⟩
  ·by_cases hj : j = i
   ·subst hj
    rw [hi] at e1; cases e1
    rw [List.getElem?_set_self hiσ] at e2
    cases e2
    exact ⟨u, r, .inl ⟨hk, by simp⟩⟩
   ·rw [List.getElem?_set_ne (Ne.symm hj)] at e2
    obtain ⟨u', r', q⟩ := hl j y v' e1 e2 e3
    refine ⟨u', r', ?_⟩
    rcases q with ⟨k, e⟩ | ⟨k, c, e, z⟩
    ·refine .inl ⟨k, ?_⟩
     have : y ≠ x := λ e => hj (q4Y hN e1 (e ▸ hi))
     simp [this, e]
    ·exact .inr ⟨k, c, e, z.sameBut hs (cne y c e)⟩
  ·obtain ⟨w', z⟩ := I.cell y c e
   exact ⟨w', z.sameBut hs (cne y c e)⟩
  ·obtain ⟨e, n, ne, nf, d⟩ := I.pin p hp
   exact ⟨(hs.2 p.1 ne).trans e, n, ne, nf, d⟩
 ·have hfn : X.fn x = true := by
   rcases hf with z | z
   ·exact z
   ·rw [z] at hk; cases hk
  obtain ⟨c, hc⟩ := I.ok.has x (.inl hk)
  obtain ⟨w', z⟩ := I.cell x c hc
  refine wpAny_storeName_cell I.ok.kind hk hc z (λ h' hc' hs => ?_)
  obtain ⟨oc, hoc, hocd⟩ := id z
  refine h { s with heap := h' } ⟨I.ok, I.os, I.bare, ⟨λ b o e n hb hx => ?_, λ b o e n hb hx => ?_, I.base.free, λ b o e hx => ?_, I.base.tups, I.base.frzs, I.base.tbls⟩, ⟨m, hn.sameBut hs (Ne.symm (cne x c hc)), λ j y v' e1 e2 e3 => ?_⟩, λ y c' e => ?_, I.free, I.freeC, λ p hp => ?_, tracked ⟨oc, hoc, I.freeC x c hc⟩ hs, by simpa using I.len⟩ ⟨c, hs, .inr hc⟩
  ·exact (hs.2 b (Nat.ne_of_lt (Nat.lt_of_lt_of_le (Heap.lt_size e) (I.ok.cab x c hfn hc)))).trans (I.base.keep b o e n hb hx)
  ·obtain ⟨sl, e1⟩ := I.base.slot b o e n hb hx
   exact ⟨sl, (hs.2 b (Nat.ne_of_lt (Nat.lt_of_lt_of_le (Heap.lt_size e) (I.ok.cab x c hfn hc)))).trans e1⟩
  ·obtain ⟨o', e1⟩ := I.base.there b o e hx
   exact ⟨o', (hs.2 b (Nat.ne_of_lt (Nat.lt_of_lt_of_le (Heap.lt_size e) (I.ok.cab x c hfn hc)))).trans e1⟩
  ·by_cases hj : j = i
   ·subst hj
    rw [hi] at e1; cases e1
    rw [List.getElem?_set_self hiσ] at e2
    cases e2
    exact ⟨u, r, .inr ⟨.inl hk, c, hc, hc'⟩⟩
   ·rw [List.getElem?_set_ne (Ne.symm hj)] at e2
    obtain ⟨u', r', q⟩ := hl j y v' e1 e2 e3
    refine ⟨u', r', ?_⟩
    rcases q with q | ⟨k, c', e, z'⟩
    ·exact .inl q
    ·refine .inr ⟨k, c', e, z'.sameBut hs ?_⟩
     rintro rfl
     exact hj (q4Y hN e1 (I.ok.inj _ _ _ e hc ▸ hi))
  ·by_cases hcc : c' = c
   ·subst hcc; exact ⟨_, hc'⟩
   ·obtain ⟨w2, z2⟩ := I.cell y c' e
    exact ⟨w2, z2.sameBut hs hcc⟩
  ·obtain ⟨e, n, ne, nf, d⟩ := I.pin p hp
   refine ⟨(hs.2 p.1 ?_).trans e, n, ne, nf, d⟩
   intro q
   rw [q, hoc] at e
   have q' : oc = p.2 := Option.some.inj e
   exact d w' (by rw [← q']; exact hocd)
theorem q6G {M : Model} {A : Around} {E : Value -> Shared -> Prop} {i : Nat} {x : Str} {v : V} {u : Value} {Q : Unit -> Shared -> Prop} (I : Inv X pins σ H s) (hN : X.N.Nodup) (hi : X.N[i]? = some x) (hx : Loc X.env.scope x) (r : RelV v u)
  (h : ∀ s', Inv X pins (σ.set i (some v)) H s' -> Q () s') (hf : X.fn x = true \/ X.env.scope.names.lookup x = some .local := by first | exact .inl rfl | exact .inr rfl | assumption) : wpAny M A (storeName X.env x u) Q E s :=
 q5g I hN hi hx r (λ s' I' _ => h s' I') hf
theorem Inv.call' {s' : Shared} {ch : List Addr} (I : Inv X pins σ H s) (ho : s'.os = s.os) (u : Un (frs X.stack) ch H H' s.heap s'.heap) (hok : HOk X.prog X.w H' s'.heap) (hg : AllBare s'.gens)
  (hch : ∀ b ∈ ch, (b ∈ X.ex \/ X.s₀.heap.objs.size <= b) /\ b ≠ X.env.locals /\ (∀ x c, X.env.cells.lookup x = some c -> c ≠ b) /\ ∀ p ∈ X.pn ++ pins, p.1 ≠ b) : Inv X pins σ H' s' := by
 obtain ⟨h', g', d', t', o'⟩ := s'
 have e : o' = s.os := ho
 subst e
 exact I.call (g' := g') (t' := t') (d' := d') u hok hg hch
end
noncomputable abbrev XK := Value -> Option Addr -> Hp -> Prop
noncomputable abbrev St := List (Option V)
noncomputable abbrev VK := V -> Hp -> Prop
noncomputable abbrev TE := St -> Hp -> VK -> Prop
noncomputable abbrev TT := St -> Hp -> (Bool -> Hp -> Prop) -> Prop
noncomputable abbrev TA := St -> Hp -> (List V -> Hp -> Prop) -> Prop
structure Ends where
 nx : St -> Hp -> Prop
 rt : VK
 bk : St -> Hp -> Prop := λ _ _ => False
 ct : St -> Hp -> Prop := λ _ _ => False
noncomputable abbrev TS := Ends -> St -> Hp -> Prop
noncomputable def EP (X : Cx) (pins : List (Addr × Obj)) (σ : St) (Q : VK) (u : Value) (s' : Shared) : Prop := ∃ v H', Inv X pins σ H' s' /\ RelV v u /\ Q v H'
noncomputable def TP (X : Cx) (pins : List (Addr × Obj)) (σ : St) (Q : Bool -> Hp -> Prop) (b : Bool) (s' : Shared) : Prop := ∃ H', Inv X pins σ H' s' /\ Q b H'
noncomputable def AP (X : Cx) (pins : List (Addr × Obj)) (σ : St) (Q : List V -> Hp -> Prop) (us : List Value) (s' : Shared) : Prop := ∃ vs H', Inv X pins σ H' s' /\ Vals vs us /\ Q vs H'
noncomputable def SP (X : Cx) (pins : List (Addr × Obj)) (D : Ends) (f : Flow) (s' : Shared) : Prop :=
 match f with
 | .next => ∃ σ' H', Inv X pins σ' H' s' /\ D.nx σ' H'
 | .brk => ∃ σ' H', Inv X pins σ' H' s' /\ D.bk σ' H'
 | .cont => ∃ σ' H', Inv X pins σ' H' s' /\ D.ct σ' H'
 | .ret u => ∃ v σ' H', Inv X pins σ' H' s' /\ RelV v u /\ D.rt v H'
noncomputable def PE (X : Cx) (e : Expr) (t : TE) : Prop :=
 ∀ (pins : List (Addr × Obj)) (s : Shared) (σ : St) (H : Hp) (Q : VK), Inv X pins σ H s -> t σ H Q -> wpAny (model X.prog X.w) X.A (eval e X.env) (EP X pins σ Q) X.xe s
noncomputable def PT (X : Cx) (e : Expr) (t : TT) : Prop :=
 ∀ (pins : List (Addr × Obj)) (s : Shared) (σ : St) (H : Hp) (Q : Bool -> Hp -> Prop), Inv X pins σ H s -> t σ H Q -> wpAny (model X.prog X.w) X.A (isTrue e X.env (eval e X.env)) (TP X pins σ Q) X.xe s
noncomputable def PW (X : Cx) (e : Expr) (t : TT) : Prop :=
 ∀ (whole : Sem Value) (pins : List (Addr × Obj)) (s : Shared) (σ : St) (H : Hp) (Q : Bool -> Hp -> Prop), Inv X pins σ H s -> t σ H Q -> wpAny (model X.prog X.w) X.A (isTrue e X.env whole) (TP X pins σ Q) X.xe s
theorem PW.pt {X : Cx} {e : Expr} {t : TT} (h : PW X e t) : PT X e t := h _
noncomputable def PA (X : Cx) (es : List Expr) (t : TA) : Prop :=
 ∀ (pos : Pos) (pins : List (Addr × Obj)) (s : Shared) (σ : St) (H : Hp) (Q : List V -> Hp -> Prop), Inv X pins σ H s -> t σ H Q -> wpAny (model X.prog X.w) X.A (spliced (backTo pos (starEach es X.env))) (AP X pins σ Q) X.xe s
noncomputable def PS (X : Cx) (st : Stmt) (t : TS) : Prop :=
 ∀ (pins : List (Addr × Obj)) (s : Shared) (σ : St) (H : Hp) (D : Ends), Inv X pins σ H s -> t D σ H -> wpAny (model X.prog X.w) X.A (exec st X.env) (SP X pins D) X.xe s
noncomputable def PSs (X : Cx) (st : List Stmt) (t : TS) : Prop :=
 ∀ (pins : List (Addr × Obj)) (s : Shared) (σ : St) (H : Hp) (D : Ends), Inv X pins σ H s -> t D σ H -> wpAny (model X.prog X.w) X.A (execs st X.env) (SP X pins D) X.xe s
theorem thn {α : Type} {t : Sem α} {Q Q' : α -> Shared -> Prop} {M : Model} {A : Around} {E : Value -> Shared -> Prop} {s : Shared} (h : wpAny M A t Q E s) (hQ : ∀ a s, Q a s -> Q' a s) : wpAny M A t Q' E s := wpAny_mono h hQ λ _ _ x => x
end L2
namespace L2
open PySem PySem.Spec PyProof.Rows
section
variable {X : Cx}
theorem bin {a b : Expr} {ta tb : TE} (ha : PE X a ta) (hb : PE X b tb) {pins : List (Addr × Obj)} {s : Shared} {σ : St} {H : Hp} {R : V -> V -> Hp -> Prop} (I : Inv X pins σ H s) (h : ta σ H λ x H1 => tb σ H1 λ y H2 => R x y H2)
  {α : Type} {Q : α -> Shared -> Prop} {f : Value -> Value -> Sem α}
  (hf : ∀ v u s2 x y H2, Inv X pins σ H2 s2 -> RelV x v -> RelV y u -> R x y H2 -> wpAny (model X.prog X.w) X.A (f v u) Q X.xe s2) :
  wpAny (model X.prog X.w) X.A (eval a X.env) (λ v s₁ => wpAny (model X.prog X.w) X.A (eval b X.env) (λ u s₂ => wpAny (model X.prog X.w) X.A (f v u) Q X.xe s₂) X.xe s₁) X.xe s := by
 refine thn (ha pins s σ H _ I h) λ v s1 ⟨x, H1, I1, r1, q1⟩ => ?_
 refine thn (hb pins s1 σ H1 _ I1 q1) λ u s2 ⟨y, H2, I2, r2, q2⟩ => ?_
 exact hf v u s2 x y H2 I2 r1 r2 q2
noncomputable def tVar (i : Nat) : TE := λ σ H Q => ∃ v, σ[i]? = some (some v) /\ Q v H
noncomputable def tC (v : V) : TE := λ _ H Q => Q v H
theorem q5E {i : Nat} {x : Str} {pos : Pos} (hN : X.N[i]? = some x) (hv : Vis X.env.scope x) (hd : (x == ("__debug__" : Str)) = false := by decide) (hcd : (x == ("__classdict__" : Str)) = false := by decide) : PE X (.Name x pos) (tVar i) := by
 intro pins s σ H Q I h
 obtain ⟨v, e, h⟩ := h
 obtain ⟨m, hn, hl⟩ := I.loc
 obtain ⟨u, r, l⟩ := hl i x v hN e hv
 have fin : EP X pins σ Q u s := ⟨v, H, I, r, h⟩
 rcases l with ⟨hk, hm⟩ | ⟨hk, c, hc, hcell⟩
 ·exact wpAny_Name (wpAny_loadName_local I.ok.kind hk hn hm fin) hd
 ·rcases hk with hk | hk
  ·exact wpAny_Name (wpAny_loadName_cell I.ok.kind hk hc hcell fin) hd
  ·exact wpAny_Name (wpAny_loadName_free I.ok.kind hk hc hcell fin hcd) hd
theorem z1u {i j pos} : PE X (.Constant (.int i) j pos) (tC (.int i)) := λ _ _ _ H _ I h => wpAny_Constant_int ⟨.int i, H, I.tok _, ⟨_, rfl⟩, h⟩
theorem z6G {b j pos} : PE X (.Constant (.bool b) j pos) (tC (.bl b)) := λ _ _ _ H _ I h => Constant_bool ⟨.bl b, H, I, rfl, h⟩
theorem z4p {j pos} : PE X (.Constant .none j pos) (tC .non) := λ _ _ _ H _ I h => Constant_none ⟨.non, H, I, rfl, h⟩
theorem z4P {x j pos} : PE X (.Constant (.str x) j pos) (tC (.str x)) := λ _ _ _ H _ I h => Calls.Constant_str ⟨.str x, H, I.tok _, ⟨_, rfl⟩, h⟩
noncomputable def Gl (X : Cx) (x : Str) : Prop := X.env.kindOf x = some .globalImplicit
theorem q7P {E : Value -> Shared -> Prop} {pins : List (Addr × Obj)} {s : Shared} {σ : St} {H : Hp} {x : Str} {u : Value} {pos : Pos} {Q : Value -> Shared -> Prop} (I : Inv X pins σ H s) (hg : Gl X x) (hm : X.mg x = some u) (h : Q u s)
  (hd : (x == ("__debug__" : Str)) = false := by decide) : wpAny (model X.prog X.w) X.A (eval (.Name x pos) X.env) Q E s :=
 Calls.Name_function_global I.ok.kind hg (Calls.loadGlobal_global (by rw [I.ok.glob]; exact I.mod.glob.keeps I.bk) hm h) hd
theorem q3D {E : Value -> Shared -> Prop} {pins : List (Addr × Obj)} {s : Shared} {σ : St} {H : Hp} {x : Str} {u : Value} {pos : Pos} {Q : Value -> Shared -> Prop} (I : Inv X pins σ H s) (hg : Gl X x) (hm : X.mg x = none) (hv : bootBuiltins x = some u) (h : Q u s)
  (hn : x ≠ "__name__" := by decide) (hd : (x == ("__debug__" : Str)) = false := by decide) : wpAny (model X.prog X.w) X.A (eval (.Name x pos) X.env) Q E s := by
 obtain ⟨mb, h1, h2⟩ := I.mod.blt
 exact Calls.Name_function_global I.ok.kind hg (Calls.loadGlobal_builtin (by rw [I.ok.glob]; exact I.mod.glob.keeps I.bk) hm (by rw [I.ok.blt]; exact h1.keeps I.bk) ((h2 x hn).trans hv) h) hd
theorem z3g {x : Str} {v : V} {u : Value} {pos : Pos} (hg : Gl X x) (hm : X.mg x = none) (hv : bootBuiltins x = some u) (r : RelV v u) (hn : x ≠ "__name__" := by decide) (hd : (x == ("__debug__" : Str)) = false := by decide) : PE X (.Name x pos) (tC v) :=
 λ _ _ _ H _ I h => q3D I hg hm hv ⟨v, H, I, r, h⟩ hn hd
variable {a b : Expr} {ta tb : TE} {pos : Pos}
variable {tA tB' : TT} {rest : List Expr}
noncomputable def tAnd (t u : TT) : TT := λ σ H Q => t σ H λ c H1 => if c = true then u σ H1 Q else Q false H1
noncomputable def tOr (t u : TT) : TT := λ σ H Q => t σ H λ c H1 => if c = true then Q true H1 else u σ H1 Q
noncomputable def tNot (t : TT) : TT := λ σ H Q => t σ H λ c H1 => Q (!c) H1
theorem z2S (ha : PT X a tA) : PW X (.BoolOp .And [a] pos) tA := by
 intro wh pins s σ H Q I h
 refine isTrue_and (thn (ha pins s σ H Q I h) λ c s1 e => ?_)
 cases c with
 | true => exact isTrue_and_nil e
 | false => exact e
theorem z3L (ha : PT X a tA) : PW X (.BoolOp .Or [a] pos) tA := by
 intro wh pins s σ H Q I h
 refine isTrue_or (thn (ha pins s σ H Q I h) λ c s1 e => ?_)
 cases c with
 | false => exact isTrue_or_nil e
 | true => exact e
theorem q8H (ha : PT X a tA) (hb : PW X (.BoolOp .And (b :: rest) pos) tB') : PW X (.BoolOp .And (a :: b :: rest) pos) (tAnd tA tB') := by
 intro wh pins s σ H Q I h
 refine isTrue_and (thn (ha pins s σ H _ I h) λ c s1 ⟨H1, I1, q1⟩ => ?_)
 cases c with
 | true => exact hb wh pins s1 σ H1 Q I1 q1
 | false => exact ⟨H1, I1, q1⟩
theorem z2J (ha : PT X a tA) (hb : PW X (.BoolOp .Or (b :: rest) pos) tB') : PW X (.BoolOp .Or (a :: b :: rest) pos) (tOr tA tB') := by
 intro wh pins s σ H Q I h
 refine isTrue_or (thn (ha pins s σ H _ I h) λ c s1 ⟨H1, I1, q1⟩ => ?_)
 cases c with
 | true => exact ⟨H1, I1, q1⟩
 | false => exact hb wh pins s1 σ H1 Q I1 q1
theorem z1e (ha : PT X a tA) : PT X (.UnaryOp .Not a pos) (tNot tA) := by
 intro pins s σ H Q I h
 exact isTrue_not (ha pins s σ H (λ c H1 => Q (!c) H1) I h)
theorem z1v {op} {t : TE} (h : PE X a t) : PE X (.BoolOp op [a] pos) t := λ pins s σ H Q I hw => BoolOp_one (h pins s σ H Q I hw)
noncomputable def tIf (t : TT) (ta tb : TE) : TE := λ σ H Q => t σ H λ c H1 => if c = true then ta σ H1 Q else tb σ H1 Q
theorem q4x {c : Expr} (hc : PT X c tA) (ha : PE X a ta) (hb : PE X b tb) : PE X (.IfExp c a b pos) (tIf tA ta tb) := by
 intro pins s σ H Q I h
 refine wpAny_IfExp (thn (hc pins s σ H _ I h) λ d s1 ⟨H1, I1, q1⟩ => ?_)
 cases d with
 | true => exact ha pins s1 σ H1 Q I1 q1
 | false => exact hb pins s1 σ H1 Q I1 q1
end
end L2
namespace L2
open PySem PySem.Spec PyProof.Rows
noncomputable def SqL (K : PySem.W.Frag) (H : Hp) (a : Addr) (xs : List V) : Prop :=
 Rd H a (.lst xs) \/
  ∃ (o : Obj) (its : Array Value) (n : Nat), K.lookup a = some o /\ o.cls = .type "list" /\ o.dict = none /\ o.data = .seq its n /\ its.size <= sizeLine /\ Vals xs its.toList
noncomputable def SqT (K : PySem.W.Frag) (H : Hp) (a : Addr) (xs : List V) : Prop :=
 Rd H a (.tup xs) \/
  ∃ (o : Obj) (its : Array Value) (n : Nat), K.lookup a = some o /\ (o.cls = .type "tuple" /\ o.dict = none) /\ o.data = .seq its n /\ its.size <= sizeLine /\ Vals xs its.toList
noncomputable def absV : Value -> Option V
 | .none => some .non
 | .bool b => some (.bl b)
 | .int i _ => some (.int i)
 | .str x _ => some (.str x)
 | .bytes b _ => some (.byt b)
 | .float b _ => some (.flt b)
 | .ref a => some (.ref a)
 | .type n => some (.ty n)
 | _ => none
theorem RelV.abs {x : V} {u : Value} (r : RelV x u) : absV u = some x := by
 cases x with
 | non => cases r; rfl
 | bl _ => cases r; rfl
 | int _ => obtain ⟨t, rfl⟩ := r; rfl
 | str _ => obtain ⟨t, rfl⟩ := r; rfl
 | byt _ => obtain ⟨t, rfl⟩ := r; rfl
 | flt _ => obtain ⟨t, rfl⟩ := r; rfl
 | ref _ => cases r; rfl
 | ty _ => cases r; rfl
theorem RelV.inj {x y : V} {u : Value} (r : RelV x u) (q : RelV y u) : x = y := Option.some.inj (r.abs.symm.trans q.abs)
theorem Vals.inj {xs ys : List V} {us : List Value} (h : Vals xs us) : Vals ys us -> xs = ys := by
 induction h generalizing ys with
 | nil => intro t; cases t; rfl
 | cons r _ ih => intro t; cases t with | cons r' t' => rw [r.inj r', ih t']
section
variable {X : Cx} {pins : List (Addr × Obj)} {σ : St} {H : Hp} {s : Shared} {a : Addr} {xs ys : List V}
theorem SqL.of {K : PySem.W.Frag} (h : H a = some (.lst xs)) : SqL K H a xs := .inl (.inl h)
theorem SqT.of {K : PySem.W.Frag} (h : H a = some (.tup xs)) : SqT K H a xs := .inl (.inl h)
theorem Inv.list (I : Inv X pins σ H s) (h : SqL X.K H a xs) : ∃ its : List Value, Vals xs its /\ PlainL s.heap a its.toArray /\ xs.length <= sizeLine := by
 rcases h with h | ⟨o, its, n, hk, hc, hd, hs, hz, r⟩
 ·obtain ⟨z, its, n, r, e⟩ := h.ok I.hok
  exact ⟨its, r, ⟨_, n, e, rfl, rfl, rfl⟩, z⟩
 ·refine ⟨its.toList, r, ⟨o, n, I.kIn a o hk, hc, hd, by simpa using hs⟩, ?_⟩
  have e := r.length
  simp only [Array.length_toList] at e
  omega
theorem Inv.tuple (I : Inv X pins σ H s) (h : SqT X.K H a xs) : ∃ its : List Value, Vals xs its /\ IsTup s.heap a its.toArray /\ xs.length <= sizeLine := by
 rcases h with h | ⟨o, its, n, hk, hc, hs, hz, r⟩
 ·obtain ⟨z, its, r, p⟩ := h.ok I.hok
  exact ⟨its, r, p.tup, z⟩
 ·refine ⟨its.toList, r, ⟨o, I.kIn a o hk, hc.1, n, by simpa using hs⟩, ?_⟩
  have e := r.length
  simp only [Array.length_toList] at e
  omega
theorem Inv.tupleN (I : Inv X pins σ H s) (h : SqT X.K H a xs) : ∃ o, s.heap.get? a = some o /\ o.cls = .type "tuple" /\ o.dict = none := by
 rcases h with h | ⟨o, its, n, hk, hc, hs, hz, r⟩
 ·obtain ⟨z, its, r, o, e, c, _⟩ := h.ok I.hok
  exact ⟨o, e, c.1, c.2⟩
 ·exact ⟨o, I.kIn a o hk, hc.1, hc.2⟩
theorem Inv.list_inj (I : Inv X pins σ H s) (h : SqL X.K H a xs) (h' : SqL X.K H a ys) : xs = ys := by
 obtain ⟨its, r, ⟨o, n, e, _, _, d⟩, _⟩ := I.list h
 obtain ⟨its', r', ⟨o', n', e', _, _, d'⟩, _⟩ := I.list h'
 rw [e] at e'; cases e'
 rw [d] at d'
 injection d' with d1 _
 have : its = its' := by simpa using congrArg Array.toList d1
 subst this
 exact r.inj r'
theorem Inv.tuple_inj (I : Inv X pins σ H s) (h : SqT X.K H a xs) (h' : SqT X.K H a ys) : xs = ys := by
 obtain ⟨its, r, ⟨o, e, _, n, d⟩, _⟩ := I.tuple h
 obtain ⟨its', r', ⟨o', e', _, n', d'⟩, _⟩ := I.tuple h'
 rw [e] at e'; cases e'
 rw [d] at d'
 injection d' with d1 _
 have : its = its' := by simpa using congrArg Array.toList d1
 subst this
 exact r.inj r'
end
section
variable {X : Cx} {pins : List (Addr × Obj)} {σ : St} {H : Hp} {s : Shared} {E : Value -> Shared -> Prop}
end
section
variable {X : Cx} {st : Stmt} {rest : List Stmt} {t u : TS} {e : Expr} {te : TE} {pos : Pos}
noncomputable def z5H : TS := λ D σ H => D.nx σ H
noncomputable def tSeq (t u : TS) : TS := λ D σ H => t { D with nx := u D } σ H
theorem z2s : PSs X [] z5H := λ _ _ σ H _ I h => wpAny_execs_nil ⟨σ, H, I, h⟩
theorem q3t (h1 : PS X st t) (h2 : PSs X rest u) : PSs X (st :: rest) (tSeq t u) := by
 intro pins s σ H D I h
 refine wpAny_execs_cons (thn (h1 pins s σ H { D with nx := u D } I h) λ f s1 q => ?_)
 cases f with
 | next =>
  obtain ⟨σ', H', I', q⟩ := q
  exact h2 pins s1 σ' H' D I' q
 | ret v => exact q
 | brk => exact q
 | cont => exact q
theorem Inv.quiet {pins : List (Addr × Obj)} {σ : St} {H : Hp} {s : Shared} (I : Inv X pins σ H s) : interactive X.env = false := by simp [interactive, I.ok.kind]
noncomputable def z5S (te : TE) : TS := λ D σ H => te σ H λ _ H1 => D.nx σ H1
theorem q5O (he : PE X e te) (hs : swapsWith e none pos.line X.env = pure false := by rfl) : PS X (.Expr e pos) (z5S te) := by
 intro pins s σ H D I h
 exact wpAny_Expr_any (thn (he pins s σ H _ I h) λ v s1 ⟨x, H1, I1, r1, q1⟩ => ⟨σ, H1, I1, q1⟩) I.quiet hs
noncomputable def tRet (te : TE) : TS := λ D σ H => te σ H D.rt
theorem q6P (he : PE X e te) : PS X (.Return (some e) pos) (tRet te) := by
 intro pins s σ H D I h
 exact wpAny_Return_some (thn (he pins s σ H _ I h) λ v s1 ⟨x, H1, I1, r1, q1⟩ => ⟨x, σ, H1, I1, r1, q1⟩)
noncomputable def tIfS (c : TT) (t u : TS) : TS := λ D σ H => c σ H λ b H1 => if b = true then t D σ H1 else u D σ H1
theorem z1K {c : Expr} {a b : List Stmt} {tc : TT} (hc : PT X c tc) (ha : PSs X a t) (hb : PSs X b u) : PS X (.If c a b pos) (tIfS tc t u) := by
 intro pins s σ H D I h
 refine wpAny_If (thn (hc pins s σ H _ I h) λ d s1 ⟨H1, I1, q1⟩ => ?_)
 cases d with
 | true => exact ha pins s1 σ H1 D I1 q1
 | false => exact hb pins s1 σ H1 D I1 q1
noncomputable def z4t : TS := λ _ _ _ => False
theorem q1p {sts : List Stmt} : PSs X sts z4t := λ _ _ _ _ _ _ h => h.elim
end
noncomputable abbrev TG := V -> St -> Hp -> (St -> Hp -> Prop) -> Prop
noncomputable abbrev TGs := List V -> St -> Hp -> (St -> Hp -> Prop) -> Prop
noncomputable def PG (X : Cx) (target : Expr) (t : TG) : Prop :=
 ∀ (pins : List (Addr × Obj)) (s : Shared) (σ : St) (H : Hp) (v : V) (u : Value) (Q : St -> Hp -> Prop), Inv X pins σ H s -> RelV v u -> t v σ H Q ->
  wpAny (model X.prog X.w) X.A (assign target X.env u) (λ _ s' => ∃ σ' H', Inv X pins σ' H' s' /\ Q σ' H') X.xe s
noncomputable def PGs (X : Cx) (ts : List Expr) (t : TGs) : Prop :=
 ∀ (pins : List (Addr × Obj)) (s : Shared) (σ : St) (H : Hp) (vs : List V) (us : List Value) (Q : St -> Hp -> Prop), Inv X pins σ H s -> Vals vs us -> t vs σ H Q ->
  wpAny (model X.prog X.w) X.A (assignInOrder ((assignEach ts X.env).map (·.2)) us) (λ _ s' => ∃ σ' H', Inv X pins σ' H' s' /\ Q σ' H') X.xe s
noncomputable abbrev TSet := V -> V -> V -> Hp -> (Hp -> Prop) -> Prop
noncomputable def PSet (X : Cx) (t : TSet) : Prop :=
 ∀ (pins : List (Addr × Obj)) (s : Shared) (σ : St) (H : Hp) (o i v : V) (ov iv u : Value) (Q : Hp -> Prop), Inv X pins σ H s -> RelV o ov -> RelV i iv -> RelV v u -> t o i v H Q ->
  wpAny (model X.prog X.w) X.A (setItem ov iv u) (λ _ s' => ∃ H', Inv X pins σ H' s' /\ Q H') X.xe s
section
variable {X : Cx} {pos : Pos}
noncomputable def q9h (i : Nat) : TG := λ v σ H Q => Q (σ.set i (some v)) H
theorem q8O {i : Nat} {x : Str} (hN : X.N.Nodup) (hi : X.N[i]? = some x) (hx : Loc X.env.scope x) (hf : X.fn x = true \/ X.env.scope.names.lookup x = some .local := by first | exact .inl rfl | exact .inr rfl | assumption) : PG X (.Name x pos) (q9h i) := by
 intro pins s σ H v u Q I r h
 exact wpAny_assign_Name (q6G I hN hi hx r (λ s' I' => ⟨_, H, I', h⟩) hf)
noncomputable def gNil : TGs := λ vs σ H Q => vs = [] /\ Q σ H
noncomputable def z3v (t : TG) (u : TGs) : TGs := λ vs σ H Q => ∃ v r, vs = v :: r /\ t v σ H λ σ' H' => u r σ' H' Q
theorem z1F : PGs X [] gNil := by
 intro pins s σ H vs us Q I r h
 obtain ⟨e, h⟩ := h
 subst e
 cases r
 exact assignInOrder_nil ⟨σ, H, I, h⟩
theorem q9U {e : Expr} {es : List Expr} {t : TG} {u : TGs} (h1 : PG X e t) (h2 : PGs X es u)
  (hs : (assignEach (e :: es) X.env).map (·.2) = assign e X.env :: (assignEach es X.env).map (·.2) := by rfl) : PGs X (e :: es) (z3v t u) := by
 intro pins s σ H vs us Q I r h
 obtain ⟨v, vr, e1, h⟩ := h
 subst e1
 cases r with
 | cons r rr =>
  rw [hs]
  refine assignInOrder_cons (thn (h1 pins s σ H _ _ _ I r h) λ _ s1 ⟨σ1, H1, I1, q1⟩ => ?_)
  exact h2 pins s1 σ1 H1 _ _ Q I1 rr q1
noncomputable def gTup (K : PySem.W.Frag) (n : Nat) (t : TGs) : TG := λ v σ H Q => ∃ a xs, v = .ref a /\ SqT K H a xs /\ xs.length = n /\ t xs σ H Q
theorem z4i {es : List Expr} {k : Nat} {t : TGs} {n : Nat} (hc : X.calm = true) (h : PGs X es t)
  (hn : (assignEach es X.env).length = n := by rfl) (hst : (assignEach es X.env).findIdx? (·.1) = none := by rfl) : PG X (.Tuple es k pos) (gTup X.K n t) := by
 intro pins s σ H v u Q I r hw
 obtain ⟨a, xs, e1, hq, hl, hw⟩ := hw
 subst e1
 cases r
 obtain ⟨its, rv, ht, hz⟩ := I.tuple hq
 refine assign_Tuple_tuple (I.ok.hd hc) ht (by simp [hn, ← hl, rv.length]) hst λ h' hx => ?_
 have I1 : Inv X pins σ H { s with heap := h' } := I.kept (t' := s.toks) λ b o e => hx b o (Nat.ne_of_lt (Heap.lt_size e)) e
 exact h pins _ σ H xs _ Q I1 (by simpa using rv) hw
noncomputable def gSub (to ti : TE) (t : TSet) : TG := λ v σ H Q => to σ H λ o H1 => ti σ H1 λ i H2 => t o i v H2 λ H3 => Q σ H3
theorem z5t {o i : Expr} {to ti : TE} {t : TSet} (ho : PE X o to) (hi : PE X i ti) (hs : PSet X t)
  (ha : ∀ v, assign (.Subscript o i pos) X.env v = (do
   let ov ← holding [v] (eval o X.env)
   let iv ← holding [v, ov] (eval i X.env)
   standAt pos
   holding [v, ov, iv] (setItem ov iv v)
   release [v, ov, iv] []) := by intro _; rfl) : PG X (.Subscript o i pos) (gSub to ti t) := by
 intro pins s σ H v u Q I r h
 rw [ha]
 refine wpAny_bind (wpAny_holding (thn (ho pins s σ H _ I h) λ ov s1 ⟨x, H1, I1, r1, q1⟩ => ?_))
 refine wpAny_bind (wpAny_holding (thn (hi pins s1 σ H1 _ I1 q1) λ iv s2 ⟨y, H2, I2, r2, q2⟩ => ?_))
 refine wpAny_bind (wpAny_standAt (wpAny_bind (wpAny_holding (thn (hs pins s2 σ H2 x y v ov iv u _ I2 r1 r2 r q2) λ _ s3 ⟨H3, I3, q3⟩ => ?_))))
 exact wpAny_release ⟨σ, H3, I3, q3⟩
noncomputable def tAsg (te : TE) (g : TG) : TS := λ D σ H => te σ H λ x H1 => g x σ H1 D.nx
theorem z5b {tg e : Expr} {te : TE} {g : TG} (he : PE X e te) (hg : PG X tg g) (hs : swapsWithSole [tg] e pos.line X.env = pure false := by rfl) (hw : swappedStores [tg] e X.env = pure none := by rfl)
  (h1 : (assignEach [tg] X.env).map (·.2) = [assign tg X.env] := by rfl) : PS X (.Assign [tg] e pos) (tAsg te g) := by
 intro pins s σ H D I h
 refine wpAny_Assign_stores (thn (he pins s σ H _ I h) λ v s1 ⟨x, H1, I1, r1, q1⟩ => ?_) hs hw
 rw [h1]
 exact thn (hg pins s1 σ H1 x v _ I1 r1 q1) λ _ s2 q => q
theorem q8J {i : Nat} {x : Str} {e : Expr} {te : TE} {pos' : Pos} (hN : X.N.Nodup) (hi : X.N[i]? = some x) (hx : Loc X.env.scope x) (he : PE X e te) (hs : swapsWith e (some (.Name x pos')) pos.line X.env = pure false := by rfl) (hf : X.fn x = true \/ X.env.scope.names.lookup x = some .local := by first | exact .inl rfl | exact .inr rfl | assumption) :
  PS X (.Assign [.Name x pos'] e pos) (tAsg te (q9h i)) := by
 intro pins s σ H D I h
 refine wpAny_Assign_Name (thn (he pins s σ H _ I h) λ v s1 ⟨y, H1, I1, r1, q1⟩ => ?_) hs
 exact q6G I1 hN hi hx r1 (λ s2 I2 => ⟨_, H1, I2, q1⟩) hf
end
section
variable {X : Cx} {pos : Pos}
end
structure It where
 go : Nat -> Hp -> Prop
 yld : Nat -> Hp -> V -> Hp -> Prop
 stop : Nat -> Hp -> Prop
noncomputable def FpOk (X : Cx) (pins : List (Addr × Obj)) (H : Hp) (b : Addr) : Prop :=
 H b = none /\ b ≠ X.env.locals /\ b ∉ X.fs /\ (b ∈ X.ex \/ X.s₀.heap.objs.size <= b) /\ (∀ x c, X.env.cells.lookup x = some c -> c ≠ b) /\ ∀ p ∈ X.pn ++ pins, p.1 ≠ b
theorem Inv.fpOk {X : Cx} {pins : List (Addr × Obj)} {σ : St} {H H' : Hp} {s : Shared} {b : Addr} (I : Inv X pins σ H s) (hb : s.heap.objs.size <= b) (hn : H' b = none) : FpOk X pins H' b := by
 refine ⟨hn, Nat.ne_of_gt (Nat.lt_of_lt_of_le I.lt hb), I.nofs hb, .inr (Nat.le_trans I.sz hb), λ x c e z => ?_, λ p hp z => ?_⟩
 ·obtain ⟨v, q⟩ := I.cell x c e
  exact absurd (Nat.lt_of_lt_of_le q.lt (by rw [z]; exact hb)) (Nat.lt_irrefl _)
 ·exact absurd (Nat.lt_of_lt_of_le (Heap.lt_size (I.pin p hp).1) (by rw [z]; exact hb)) (Nat.lt_irrefl _)
structure Turn (P : Program) (w : World) (K : PySem.W.Frag) (tg : Expr) (J : It) (fp : List Addr) (it : Addr) (tn : Nat -> Heap -> Prop) : Prop where
 mem : it ∈ fp
 obj : ∀ i h, tn i h -> ∀ b ∈ fp, ∃ o, h.get? b = some o /\ ∀ v, o.data ≠ .cell v
 keep : ∀ i h h', tn i h -> (∀ b ∈ fp, ∀ o, h.get? b = some o -> h'.get? b = some o) -> tn i h'
 item : ∀ (X : Cx), X.prog = P -> X.w = w -> X.K = K -> X.calm = true -> ∀ (i : Nat) (pins : List (Addr × Obj)) (s : Shared) (σ : St) (H : Hp) (E : Value -> Shared -> Prop), Inv X pins σ H s -> (∀ b ∈ fp, FpOk X pins H b) -> tn i s.heap -> J.go i H ->
  wpAny (model P w) X.A (pyNext (.ref it)) (λ r s1 => ∃ u, r = some u /\
   wpAny (model P w) X.A (letOwnedTupleGo tg (.ref it) u) (λ _ s2 => ∃ x H', Inv X pins σ H' s2 /\ RelV x u /\ J.yld i H x H' /\ tn (i + 1) s2.heap /\ ∀ b ∈ fp, H' b = none) E s1) E s
 done : ∀ (X : Cx), X.prog = P -> X.w = w -> X.K = K -> X.calm = true -> ∀ (i : Nat) (pins : List (Addr × Obj)) (s : Shared) (σ : St) (H : Hp) (E : Value -> Shared -> Prop), Inv X pins σ H s -> (∀ b ∈ fp, FpOk X pins H b) -> tn i s.heap -> J.stop i H ->
  wpAny (model P w) X.A (pyNext (.ref it)) (λ r s1 => r = none /\ Inv X pins σ H s1) E s
 self : ∀ (A : Around) (i : Nat) (s : Shared) (Q : Value -> Shared -> Prop) (E : Value -> Shared -> Prop), tn i s.heap -> Q (.ref it) s -> wpAny (model P w) A (pyIter (.ref it)) Q E s
noncomputable abbrev TI := St -> Hp -> (It -> Hp -> Prop) -> Prop
noncomputable def PIE (X : Cx) (pins : List (Addr × Obj)) (σ : St) (tg : Expr) (R : It -> Hp -> Prop) (itv : Value) (s2 : Shared) : Prop :=
 ∃ (it : Addr) (fp : List Addr) (tn : Nat -> Heap -> Prop) (J : It) (H' : Hp), itv = .ref it /\ Inv X pins σ H' s2 /\ Turn X.prog X.w X.K tg J fp it tn /\ tn 0 s2.heap /\ (∀ b ∈ fp, FpOk X pins H' b) /\ R J H'
noncomputable def PI (X : Cx) (tg iter : Expr) (wi : TI) : Prop :=
 ∀ (pins : List (Addr × Obj)) (s : Shared) (σ : St) (H : Hp) (R : It -> Hp -> Prop), Inv X pins σ H s -> wi σ H R ->
  wpAny (model X.prog X.w) X.A (eval iter X.env) (λ v s1 => wpAny (model X.prog X.w) X.A (pyIter v) (PIE X pins σ tg R) X.xe s1) X.xe s
theorem z0J {M : Model} {A : Around} {E : Value -> Shared -> Prop} {s : Shared} {tg : Expr} {it : Addr} {u : Value} {o : Obj} {n : String} {vs : Array Value} {Q : Unit -> Shared -> Prop} (ho : s.heap.get? it = some o) (hc : o.cls = .type n) (hd : o.data = .fields vs)
    (hn : ["enumerate", "zip", "dict_itemiterator", "dict_reverseitemiterator", "odict_iterator", "itertools.zip_longest", "itertools.pairwise"].contains n = false) (hQ : Q () s) : wpAny M A (letOwnedTupleGo tg (.ref it) u) Q E s := by
  unfold letOwnedTupleGo
  cases tg <;> first
    | exact wpAny_pure hQ
    | (cases u <;> first
        | exact wpAny_pure hQ
        | (refine wpAny_bind (wpAny_load ho ?_)
           rw [hc, hd]
           show wpAny M A (if (["enumerate", "zip", "dict_itemiterator", "dict_reverseitemiterator", "odict_iterator", "itertools.zip_longest", "itertools.pairwise"].contains n && vs[0]? == some (rawInt _)) = true then _ else _) Q E s
           rw [if_neg (by intro h; rw [hn, Bool.false_and] at h; cases h)]
           exact wpAny_pure hQ))
noncomputable def Itl (K : PySem.W.Frag) (a : Addr) : It :=
 ⟨λ i H => ∃ xs x, SqL K H a xs /\ xs[i]? = some x, λ i H x H' => H' = H /\ ∀ xs, SqL K H a xs -> xs[i]? = some x, λ i H => ∃ xs, SqL K H a xs /\ xs.length <= i⟩
noncomputable def Itt (K : PySem.W.Frag) (a : Addr) : It :=
 ⟨λ i H => ∃ xs x, SqT K H a xs /\ xs[i]? = some x, λ i H x H' => H' = H /\ ∀ xs, SqT K H a xs -> xs[i]? = some x, λ i H => ∃ xs, SqT K H a xs /\ xs.length <= i⟩
noncomputable def Itr (lo : Int) (n : Nat) : It := ⟨λ i _ => i < n, λ i H x H' => H' = H /\ x = .int (lo + i), λ i _ => n <= i⟩
theorem q9i {P : Program} {w : World} {K : PySem.W.Frag} {tg : Expr} (a it : Addr) : Turn P w K tg (Itl K a) [it] it (λ i h => h.IsListIter it a i) where
 mem := by simp
 obj := λ i h st b hb => by
  have e : b = it := by simpa using hb
  subst e
  obtain ⟨o, e, c, d⟩ := st
  exact ⟨o, e, λ v z => by rw [d] at z; cases z⟩
 keep := λ i h h' st k => st.at λ o e => k it (by simp) o e
 item := by
  intro X hP hw hK hc i pins s σ H E I hf st hg
  subst hP hw hK
  obtain ⟨xs, x, hq, hx⟩ := hg
  obtain ⟨its, rv, p, hz⟩ := I.list hq
  obtain ⟨u, hu, ru⟩ := rv.get hx
  obtain ⟨f0, f1, f2, f3, f4, f5⟩ := hf it (by simp)
  refine wpAny_pyNext_list_item st p.isList (x := u) (by simpa using hu) λ h' st' sb => ?_
  have I1 : Inv X pins σ H { s with heap := h' } := I.turned (t' := s.toks) (λ b o hb e => (sb.2 b hb).trans e) f0 f1 f3 f4 f5
  obtain ⟨o, e, c, d⟩ := id st'
  exact ⟨u, rfl, z0J (s := { s with heap := h' }) e c d (by decide) ⟨x, H, I1, ru, ⟨rfl, λ ys hy => by rw [I.list_inj hy hq]; exact hx⟩, st', λ b hb => (hf b hb).1⟩⟩
 done := by
  intro X hP hw hK hc i pins s σ H E I hf st hg
  subst hP hw hK
  obtain ⟨xs, hq, hx⟩ := hg
  obtain ⟨its, rv, p, hz⟩ := I.list hq
  obtain ⟨f0, f1, f2, f3, f4, f5⟩ := hf it (by simp)
  have hl := rv.length
  exact wpAny_pyNext_list_end (I.ok.hd hc) st p.isList (by simp; omega) λ h' eb => ⟨rfl, I.turned (t' := s.toks) (λ b o hb e => eb b o hb e) f0 f1 f3 f4 f5⟩
 self := λ _ _ _ _ _ st h => wpAny_pyIter_listiter st h
theorem q7H {P : Program} {w : World} {K : PySem.W.Frag} {tg : Expr} (a it : Addr) : Turn P w K tg (Itt K a) [it] it (λ i h => h.IsTupleIter it a i) where
 mem := by simp
 obj := λ i h st b hb => by
  have e : b = it := by simpa using hb
  subst e
  obtain ⟨o, e, c, d⟩ := st
  exact ⟨o, e, λ v z => by rw [d] at z; cases z⟩
 keep := λ i h h' st k => st.at λ o e => k it (by simp) o e
 item := by
  intro X hP hw hK hc i pins s σ H E I hf st hg
  subst hP hw hK
  obtain ⟨xs, x, hq, hx⟩ := hg
  obtain ⟨its, rv, p, hz⟩ := I.tuple hq
  obtain ⟨u, hu, ru⟩ := rv.get hx
  obtain ⟨f0, f1, f2, f3, f4, f5⟩ := hf it (by simp)
  refine wpAny_pyNext_tuple_item st (show s.heap.IsTuple a its.toArray from p) (x := u) (by simpa using hu) λ h' st' sb => ?_
  have I1 : Inv X pins σ H { s with heap := h' } := I.turned (t' := s.toks) (λ b o hb e => (sb.2 b hb).trans e) f0 f1 f3 f4 f5
  obtain ⟨o, e, c, d⟩ := id st'
  exact ⟨u, rfl, z0J (s := { s with heap := h' }) e c d (by decide) ⟨x, H, I1, ru, ⟨rfl, λ ys hy => by rw [I.tuple_inj hy hq]; exact hx⟩, st', λ b hb => (hf b hb).1⟩⟩
 done := by
  intro X hP hw hK hc i pins s σ H E I hf st hg
  subst hP hw hK
  obtain ⟨xs, hq, hx⟩ := hg
  obtain ⟨its, rv, p, hz⟩ := I.tuple hq
  obtain ⟨f0, f1, f2, f3, f4, f5⟩ := hf it (by simp)
  have hl := rv.length
  exact wpAny_pyNext_tuple_end (I.ok.hd hc) st (show s.heap.IsTuple a its.toArray from p) (by simp; omega) λ h' eb => ⟨rfl, I.turned (t' := s.toks) (λ b o hb e => eb b o hb e) f0 f1 f3 f4 f5⟩
 self := λ _ _ _ _ _ st h => wpAny_pyIter_tupleiter st h
theorem q7g {P : Program} {w : World} {K : PySem.W.Frag} {tg : Expr} (it : Addr) (lo : Int) (n : Nat) : Turn P w K tg (Itr lo n) [it] it (λ i h => IsRangeIter h it (lo + (i : Nat) * 1) ((n : Int) - (i : Nat)) 1) where
 mem := by simp
 obj := λ i h st b hb => by
  have e : b = it := by simpa using hb
  subst e
  exact ⟨_, st, λ v z => by
   have z' : Data.fields _ = Data.cell v := z
   cases z'⟩
 keep := λ i h h' st k => k it (by simp) _ st
 item := by
  intro X hP hw hK hc i pins s σ H E I hf st hg
  subst hP hw hK
  obtain ⟨f0, f1, f2, f3, f4, f5⟩ := hf it (by simp)
  have W := Walks.range (prog := X.prog) (w := X.w) (I.ok.hd hc) it lo 1 n
  refine W.item i s _ _ hg st λ v h' tk hv st' kk => ?_
  obtain ⟨t, rfl⟩ := hv
  have I1 : Inv X pins σ H { s with heap := h', toks := tk } := I.turned (λ b o hb e => kk b o (by simpa using hb) e) f0 f1 f3 f4 f5
  refine ⟨_, rfl, z0J (s := { s with heap := h', toks := tk }) (n := "range_iterator") st' rfl rfl (by decide) ⟨.int (lo + i), H, I1, ⟨t, ?_⟩, ⟨rfl, rfl⟩, st', λ b hb => (hf b hb).1⟩⟩
  rw [Int.mul_one]
 done := by
  intro X hP hw hK hc i pins s σ H E I hf st hg
  subst hP hw hK
  obtain ⟨f0, f1, f2, f3, f4, f5⟩ := hf it (by simp)
  exact wpAny_pyNext_range_end (I.ok.hd hc) st (by have : n <= i := hg; omega) λ h' eb => ⟨rfl, I.turned (t' := s.toks) (λ b o hb e => eb b o hb e) f0 f1 f3 f4 f5⟩
 self := λ _ _ _ _ _ st h => wpAny_pyIter_rangeiter st h
end L2
namespace L2
open PySem PySem.Spec PyProof.Rows
section
variable {X : Cx} {tg : Expr}
noncomputable def z5N (K : PySem.W.Frag) (tl : TE) : TI := λ σ H R => tl σ H λ x H1 => ∃ a, x = .ref a /\ (∃ xs, SqL K H1 a xs) /\ R (Itl K a) H1
noncomputable def iTup (K : PySem.W.Frag) (tl : TE) : TI := λ σ H R => tl σ H λ x H1 => ∃ a, x = .ref a /\ (∃ xs, SqT K H1 a xs) /\ R (Itt K a) H1
theorem q6n {l : Expr} {tl : TE} (hl : PE X l tl) : PI X tg l (z5N X.K tl) := by
 intro pins s σ H R I h
 refine thn (hl pins s σ H _ I h) λ v s1 ⟨x, H1, I1, r1, q1⟩ => ?_
 obtain ⟨a, e, ⟨xs, hq⟩, q⟩ := q1
 subst e
 cases r1
 obtain ⟨its, rv, p, hz⟩ := I1.list hq
 refine wpAny_pyIter_list p.isList ?_
 refine ⟨s1.heap.objs.size, [s1.heap.objs.size], _, _, H1, rfl, I1.kept (t' := s1.toks) λ b o e => Heap.get?_push_of_some _ e, q9i a _, ⟨_, Heap.get?_push_size _ rfl, rfl, rfl⟩, λ b hb => ?_, q⟩
 have e : b = s1.heap.objs.size := by simpa using hb
 subst e
 exact I1.fpOk (Nat.le_refl _) (I1.hok.fresh (Nat.le_refl _))
theorem z4U {l : Expr} {tl : TE} (hl : PE X l tl) : PI X tg l (iTup X.K tl) := by
 intro pins s σ H R I h
 refine thn (hl pins s σ H _ I h) λ v s1 ⟨x, H1, I1, r1, q1⟩ => ?_
 obtain ⟨a, e, ⟨xs, hq⟩, q⟩ := q1
 subst e
 cases r1
 obtain ⟨its, rv, p, hz⟩ := I1.tuple hq
 refine wpAny_pyIter_tuple (show s1.heap.IsTuple a its.toArray from p) ?_
 refine ⟨s1.heap.objs.size, [s1.heap.objs.size], _, _, H1, rfl, I1.kept (t' := s1.toks) λ b o e => Heap.get?_push_of_some _ e, q7H a _, ⟨_, Heap.get?_push_size _ rfl, rfl, rfl⟩, λ b hb => ?_, q⟩
 have e : b = s1.heap.objs.size := by simpa using hb
 subst e
 exact I1.fpOk (Nat.le_refl _) (I1.hok.fresh (Nat.le_refl _))
theorem q6H {pins : List (Addr × Obj)} {σ : St} {H : Hp} {s : Shared} {R : It -> Hp -> Prop} {E : Value -> Shared -> Prop} {lo hi : Int} {t u v : Tok} {tk : Nat} (I : Inv X pins σ H s) (h1 : -(2 ^ 62) <= lo) (h2 : lo < 2 ^ 62) (h3 : -(2 ^ 62) <= hi) (h4 : hi < 2 ^ 62)
  (q : R (Itr lo (hi - lo).toNat) H) : wpAny (model X.prog X.w) X.A (pyIter (.ref s.heap.objs.size)) (PIE X pins σ tg R) E { s with heap := s.heap.push { cls := .type "range", data := .fields #[.int lo t, .int hi u, .int 1 v] }, toks := tk } := by
 refine wpAny_pyIter_range (IsRange.new ..) (small_one h1 h2 h3 h4) ?_
 have I1 : Inv X pins σ H { s with heap := s.heap.push { cls := .type "range", data := .fields #[.int lo t, .int hi u, .int 1 v] }, toks := tk } := I.kept λ b o e => Heap.get?_push_of_some _ e
 refine ⟨(s.heap.push { cls := .type "range", data := .fields #[.int lo t, .int hi u, .int 1 v] }).objs.size, [(s.heap.push { cls := .type "range", data := .fields #[.int lo t, .int hi u, .int 1 v] }).objs.size], _, _, H, rfl,
  I1.kept (t' := tk) λ b o e => Heap.get?_push_of_some _ e, q7g _ lo (hi - lo).toNat, ?_, λ b hb => ?_, q⟩
 ·have e1 : lo + ((0 : Nat) : Int) * 1 = lo := by simp
  have e2 : (((hi - lo).toNat : Nat) : Int) - ((0 : Nat) : Int) = Builtin.Range.rangeSize lo hi 1 := by rw [rangeSize_one]; split <;> omega
  show IsRangeIter _ _ (lo + ((0 : Nat) : Int) * 1) ((((hi - lo).toNat : Nat) : Int) - ((0 : Nat) : Int)) 1
  rw [e1, e2]
  exact Heap.get?_push_size _ rfl
 ·have e : b = (s.heap.push { cls := .type "range", data := .fields #[.int lo t, .int hi u, .int 1 v] }).objs.size := by simpa using hb
  subst e
  exact I1.fpOk (Nat.le_refl _) (I1.hok.fresh (Nat.le_refl _))
noncomputable def z5E (ta : TA) : TI := λ σ H R => ta σ H λ vs H1 => ∃ j : Int, vs = [.int j] /\ -(2 ^ 62) <= j /\ j < 2 ^ 62 /\ R (Itr 0 j.toNat) H1
noncomputable def z6t (ta : TA) : TI := λ σ H R => ta σ H λ vs H1 => ∃ i j : Int, vs = [.int i, .int j] /\ (-(2 ^ 62) <= i /\ i < 2 ^ 62 /\ -(2 ^ 62) <= j /\ j < 2 ^ 62) /\ R (Itr i (j - i).toNat) H1
theorem q9x {a : Expr} {ta : TA} {p pos : Pos} (hg : Gl X "range") (hm : X.mg "range" = none) (ha : PA X [a] ta) (hs : starEach [a] X.env = [(false, eval a X.env)] := by rfl) : PI X tg (.Call (.Name "range" p) [a] [] pos) (z5E ta) := by
 intro pins s σ H R I h
 refine Call_ (q3D I hg hm boot_range (PyProof.Rows.callWith_type1 (thn (ha pos pins s σ H _ I h) λ us s1 ⟨vs, H1, I1, r1, q1⟩ => ?_) hs rfl))
 obtain ⟨j, e, q1, q2, q⟩ := q1
 subst e
 cases r1 with
 | cons r rr =>
  cases rr
  obtain ⟨t, rfl⟩ := r
  exact call_range_1 (q6H I1 (by omega) (by omega) q1 q2 (by simpa using q))
theorem q9k {a b : Expr} {ta : TA} {p pos : Pos} (hg : Gl X "range") (hm : X.mg "range" = none) (ha : PA X [a, b] ta) (hs : starEach [a, b] X.env = [(false, eval a X.env), (false, eval b X.env)] := by rfl) (hs2 : starEach [b] X.env = [(false, eval b X.env)] := by rfl) :
  PI X tg (.Call (.Name "range" p) [a, b] [] pos) (z6t ta) := by
 intro pins s σ H R I h
 refine Call_ (q3D I hg hm boot_range (PyProof.Rows.callWith_type1 (thn (ha pos pins s σ H _ I h) λ us s1 ⟨vs, H1, I1, r1, q1⟩ => ?_) (by rw [hs, hs2]) (by rw [hs2]; rfl)))
 obtain ⟨i, j, e, ⟨q1, q2, q3, q4⟩, q⟩ := q1
 subst e
 cases r1 with
 | cons r rr =>
  cases rr with
  | cons r' rr =>
   cases rr
   obtain ⟨t, rfl⟩ := r
   obtain ⟨t', rfl⟩ := r'
   exact call_range_2 (q6H I1 q1 q2 q3 q4 q)
noncomputable def tFor (wi : TI) (g : TG) (tb : TS) : TS := λ D σ H => wi σ H λ J H1 => ∃ W : Nat -> Nat -> St -> Hp -> Prop, (∃ m, W 0 m σ H1) /\ ∀ i m σ H, W i m σ H ->
 (J.stop i H /\ D.nx σ H) \/ (J.go i H /\ ∃ N : St -> Hp -> Prop, (∀ σ' H', N σ' H' -> ∃ m', m' < m /\ W (i + 1) m' σ' H') /\ ∀ x H', J.yld i H x H' -> g x σ H' λ σ2 H2 => tb { D with nx := N, ct := N, bk := D.nx } σ2 H2)
noncomputable def q5n (fp : List Addr) (h : Heap) : List (Addr × Obj) := fp.filterMap λ b => (h.get? b).map λ o => (b, o)
theorem q2q {fp : List Addr} {h : Heap} {b : Addr} {o : Obj} (hb : b ∈ fp) (e : h.get? b = some o) : (b, o) ∈ q5n fp h := List.mem_filterMap.mpr ⟨b, hb, by rw [e]; rfl⟩
theorem q8w {fp : List Addr} {h : Heap} {p : Addr × Obj} (hp : p ∈ q5n fp h) : p.1 ∈ fp /\ h.get? p.1 = some p.2 := by
 obtain ⟨b, hb, e⟩ := List.mem_filterMap.mp hp
 cases q : h.get? b with
 | none => rw [q] at e; cases e
 | some o =>
  rw [q] at e
  have e' : (b, o) = p := Option.some.inj e
  subst e'
  exact ⟨hb, q⟩
theorem Inv.pinned {pins : List (Addr × Obj)} {σ : St} {H : Hp} {s : Shared} {fp : List Addr} (I : Inv X pins σ H s) (hf : ∀ b ∈ fp, FpOk X pins H b) (ho : ∀ b ∈ fp, ∃ o, s.heap.get? b = some o /\ ∀ v, o.data ≠ .cell v) : Inv X (pins ++ q5n fp s.heap) σ H s :=
 I.pins_of λ p hp => (List.mem_append.mp hp).elim (λ z => I.pin p (List.mem_append_right _ z)) λ z => by
  obtain ⟨hb, e⟩ := q8w z
  obtain ⟨f0, f1, f2, _⟩ := hf p.1 hb
  obtain ⟨o, e', d⟩ := ho p.1 hb
  rw [e] at e'; cases e'
  exact ⟨e, f0, f1, f2, d⟩
theorem Inv.unpinned {pins pl : List (Addr × Obj)} {σ : St} {H : Hp} {s : Shared} (I : Inv X (pins ++ pl) σ H s) : Inv X pins σ H s := I.pins_of λ p hp => I.pin p (List.mem_append_right _ (List.mem_append_left _ hp))
theorem z1b {iter : Expr} {body : List Stmt} {wi : TI} {g : TG} {tb : TS} {pos : Pos} (hp : PassesOwn (model X.prog X.w) X.A X.env X.xe) (hc : X.calm = true) (hi : PI X tg iter wi) (hg : PG X tg g) (hb : PSs X body tb)
  (hs : ∀ x, foldedSetIterable iter X.env x = pure x := by intro _; rfl) : PS X (.For tg iter body [] pos) (tFor wi g tb) := by
 intro pins s σ H D I h
 refine wpAny_For (thn (hi pins s σ H _ I h) λ v s1 h1 => thn h1 λ itv s2 h2 => ?_) hs
 obtain ⟨it, fp, tn, J, H2, e, I2, T, st2, f2, W, ⟨m0, w0⟩, turn⟩ := h2
 subst e
 have stat : ∀ {H' : Hp}, (∀ b ∈ fp, H' b = none) -> ∀ b ∈ fp, FpOk X pins H' b := λ hn b hb => ⟨hn b hb, (f2 b hb).2⟩
 refine codeAny_forLoop_any (λ n s' => ∃ i σ' H', Inv X pins σ' H' s' /\ tn i s'.heap /\ (∀ b ∈ fp, H' b = none) /\ W i n σ' H') ?_ m0 ⟨0, σ, H2, I2, st2, λ b hb => (f2 b hb).1, w0⟩
 rintro n s3 ⟨i, σ3, H3, I3, st3, fr3, w3⟩
 rcases turn i n σ3 H3 w3 with ⟨stop, qn⟩ | ⟨go, N, hN, step⟩
 ·refine wpAny_passesOwn hp (thn (T.done X rfl rfl rfl hc i pins s3 σ3 H3 X.xe I3 (stat fr3) st3 stop) λ r s4 ⟨hr, I4⟩ => ?_)
  subst hr
  exact wpAny_execs_nil ⟨σ3, H3, I4, qn⟩
 ·refine wpAny_passesOwn hp (thn (T.item X rfl rfl rfl hc i pins s3 σ3 H3 X.xe I3 (stat fr3) st3 go) λ r s4 ⟨u, hr, h4⟩ => ?_)
  subst hr
  refine wpAny_passesOwn hp (thn h4 λ _ s5 ⟨x, H5, I5, r5, y5, st5, fr5⟩ => ?_)
  have I5' := I5.pinned (stat fr5) (T.obj _ _ st5)
  refine wpAny_passesOwn hp (thn (hg _ s5 σ3 H5 x u _ I5' r5 (step x H5 y5)) λ _ s6 ⟨σ6, H6, I6, q6⟩ => ?_)
  refine wpAny_passesOwn hp (thn (hb _ s6 σ6 H6 _ I6 q6) λ f s7 q7 => ?_)
  have again : ∀ {σ7 : St} {H7 : Hp}, Inv X (pins ++ q5n fp s5.heap) σ7 H7 s7 -> N σ7 H7 -> ∃ m, m < n /\ ∃ i σ' H', Inv X pins σ' H' s7 /\ tn i s7.heap /\ (∀ b ∈ fp, H' b = none) /\ W i m σ' H' := λ {σ7 H7} I7 n7 => by
   obtain ⟨m', hm, w7⟩ := hN σ7 H7 n7
   refine ⟨m', hm, i + 1, σ7, H7, I7.unpinned, T.keep _ _ _ st5 λ b hb o e => (I7.pin (b, o) (List.mem_append_right _ (List.mem_append_right _ (q2q hb e)))).1, λ b hb => ?_, w7⟩
   obtain ⟨o, e, d⟩ := T.obj _ _ st5 b hb
   exact (I7.pin (b, o) (List.mem_append_right _ (List.mem_append_right _ (q2q hb e)))).2.1
  cases f with
  | next => obtain ⟨σ7, H7, I7, n7⟩ := q7; exact again I7 n7
  | cont => obtain ⟨σ7, H7, I7, n7⟩ := q7; exact again I7 n7
  | brk => obtain ⟨σ7, H7, I7, q7⟩ := q7; exact ⟨σ7, H7, I7.unpinned, q7⟩
  | ret v => obtain ⟨x7, σ7, H7, I7, r7, q7⟩ := q7; exact ⟨x7, σ7, H7, I7.unpinned, r7, q7⟩
end
end L2
namespace L2
open PySem PySem.Spec PyProof.Rows
noncomputable abbrev R2 := V -> V -> Hp -> VK -> Prop
noncomputable def OpR (X : Cx) (f : Value -> Value -> Sem Value) (r : R2) : Prop :=
 ∀ (pins : List (Addr × Obj)) (s : Shared) (σ : St) (H : Hp) (x y : V) (v u : Value) (Q : VK), Inv X pins σ H s -> RelV x v -> RelV y u -> r x y H Q ->
  wpAny (model X.prog X.w) X.A (f v u) (EP X pins σ Q) X.xe s
noncomputable def UnR (X : Cx) (f : Value -> Sem Value) (r : V -> Hp -> VK -> Prop) : Prop :=
 ∀ (pins : List (Addr × Obj)) (s : Shared) (σ : St) (H : Hp) (x : V) (v : Value) (Q : VK), Inv X pins σ H s -> RelV x v -> r x H Q ->
  wpAny (model X.prog X.w) X.A (f v) (EP X pins σ Q) X.xe s
noncomputable def q1D (X : Cx) (f : Value) (r : List V -> Hp -> VK -> Prop) : Prop :=
 ∀ (pins : List (Addr × Obj)) (s : Shared) (σ : St) (H : Hp) (xs : List V) (us : List Value) (Q : VK), Inv X pins σ H s -> Vals xs us -> r xs H Q ->
  wpAny (model X.prog X.w) X.A (call f us) (EP X pins σ Q) X.xe s
noncomputable def TruR (X : Cx) (r : V -> Hp -> (Bool -> Hp -> Prop) -> Prop) : Prop :=
 ∀ (pins : List (Addr × Obj)) (s : Shared) (σ : St) (H : Hp) (x : V) (v : Value) (Q : Bool -> Hp -> Prop), Inv X pins σ H s -> RelV x v -> r x H Q ->
  wpAny (model X.prog X.w) X.A (truthy v) (TP X pins σ Q) X.xe s
noncomputable def tOp (r : R2) (ta tb : TE) : TE := λ σ H Q => ta σ H λ x H1 => tb σ H1 λ y H2 => r x y H2 Q
noncomputable def tUn (r : V -> Hp -> VK -> Prop) (ta : TE) : TE := λ σ H Q => ta σ H λ x H1 => r x H1 Q
noncomputable def rI (C : Int -> Int -> Prop) (g : Int -> Int -> V) : R2 := λ x y H Q => ∃ i j, x = .int i /\ y = .int j /\ C i j /\ Q (g i j) H
noncomputable def rI0 (g : Int -> Int -> V) : R2 := λ x y H Q => ∃ i j, x = .int i /\ y = .int j /\ Q (g i j) H
noncomputable def rU (g : Int -> V) : V -> Hp -> VK -> Prop := λ x H Q => ∃ i, x = .int i /\ Q (g i) H
section
variable {X : Cx} {a b c : Expr} {ta tb tc : TE} {pos : Pos}
theorem binT (ha : PE X a ta) (hb : PE X b tb) {pins : List (Addr × Obj)} {s : Shared} {σ : St} {H : Hp} {R : V -> V -> Hp -> Prop} (I : Inv X pins σ H s)
  (h : ta σ H λ x H1 => tb σ H1 λ y H2 => R x y H2) {Q : Value -> Shared -> Prop} {f : Value -> Value -> Sem Value}
  (hf : ∀ v u s2 x y H2, Inv X pins σ H2 s2 -> RelV x v -> RelV y u -> R x y H2 -> wpAny (model X.prog X.w) X.A (f v u) Q X.xe s2) :
  wpAny (model X.prog X.w) X.A (eval a X.env) (λ v s₁ => wpAny (model X.prog X.w) X.A (eval b X.env) (λ u s₂ => wpAny (model X.prog X.w) X.A (f v u) Q X.xe s₂) X.xe s₁) X.xe s := by
 refine thn (ha pins s σ H _ I h) λ v s1 ⟨x, H1, I1, r1, q1⟩ => ?_
 refine thn (hb pins s1 σ H1 _ I1 q1) λ u s2 ⟨y, H2, I2, r2, q2⟩ => ?_
 exact hf v u s2 x y H2 I2 r1 r2 q2
theorem z6z {op : Operator} {r : R2} (ho : OpR X (binaryOp op) r) (ha : PE X a ta) (hb : PE X b tb) : PE X (.BinOp a op b pos) (tOp r ta tb) := by
 intro pins s σ H Q I h
 exact wpAny_BinOp (binT ha hb I h λ v u s2 x y H2 I2 rx ry q => ho pins s2 σ H2 x y v u Q I2 rx ry q)
theorem z6A {op : UnaryOp} {r : V -> Hp -> VK -> Prop} (ho : UnR X (unaryOp op) r) (ha : PE X a ta) : PE X (.UnaryOp op a pos) (tUn r ta) := by
 intro pins s σ H Q I h
 exact UnaryOp_ (thn (ha pins s σ H _ I h) λ v s1 ⟨x, H1, I1, r1, q1⟩ => ho pins s1 σ H1 x v Q I1 r1 q1)
theorem opI {f : Value -> Value -> Sem Value} {C : Int -> Int -> Prop} {g : Int -> Int -> Int}
  (rule : ∀ (i j : Int) (t u : Tok) (s : Shared) (Q : Value -> Shared -> Prop) (E : Value -> Shared -> Prop), C i j -> Q (.int (g i j) s.toks) { s with toks := s.toks + 1 } -> wpAny (model X.prog X.w) X.A (f (.int i t) (.int j u)) Q E s) :
  OpR X f (rI C λ i j => .int (g i j)) := by
 intro pins s σ H x y v u Q I rx ry h
 obtain ⟨i, j, rfl, rfl, hc, q⟩ := h
 obtain ⟨t, rfl⟩ := rx
 obtain ⟨t', rfl⟩ := ry
 exact rule i j t t' s _ _ hc ⟨.int (g i j), H, I.tok _, ⟨_, rfl⟩, q⟩
theorem opI0 {f : Value -> Value -> Sem Value} {g : Int -> Int -> Int}
  (rule : ∀ (i j : Int) (t u : Tok) (s : Shared) (Q : Value -> Shared -> Prop) (E : Value -> Shared -> Prop), Q (.int (g i j) s.toks) { s with toks := s.toks + 1 } -> wpAny (model X.prog X.w) X.A (f (.int i t) (.int j u)) Q E s) :
  OpR X f (rI0 λ i j => .int (g i j)) := by
 intro pins s σ H x y v u Q I rx ry h
 obtain ⟨i, j, rfl, rfl, q⟩ := h
 obtain ⟨t, rfl⟩ := rx
 obtain ⟨t', rfl⟩ := ry
 exact rule i j t t' s _ _ ⟨.int (g i j), H, I.tok _, ⟨_, rfl⟩, q⟩
theorem opB0 {f : Value -> Value -> Sem Value} {g : Int -> Int -> Bool}
  (rule : ∀ (i j : Int) (t u : Tok) (s : Shared) (Q : Value -> Shared -> Prop) (E : Value -> Shared -> Prop), Q (.bool (g i j)) s -> wpAny (model X.prog X.w) X.A (f (.int i t) (.int j u)) Q E s) :
  OpR X f (rI0 λ i j => .bl (g i j)) := by
 intro pins s σ H x y v u Q I rx ry h
 obtain ⟨i, j, rfl, rfl, q⟩ := h
 obtain ⟨t, rfl⟩ := rx
 obtain ⟨t', rfl⟩ := ry
 exact rule i j t t' s _ _ ⟨.bl (g i j), H, I, rfl, q⟩
noncomputable def CDiv (i j : Int) : Prop := 0 < j /\ j < 1073741824
noncomputable def CMul (i j : Int) : Prop := (-(2 ^ 64) < i /\ i < 2 ^ 64) \/ (-(2 ^ 64) < j /\ j < 2 ^ 64)
theorem CMul.ok {i j : Int} (h : CMul i j) : IntMulOk i j := by
 rcases h with ⟨h1, h2⟩ | ⟨h1, h2⟩
 ·exact .of_left (intBits_le_64 h1 h2)
 ·exact .of_right (intBits_le_64 h1 h2)
theorem q7k (k : Nat) : (0 : Int) <= 2 ^ k := by
 rw [two_pow_cast]
 exact Int.natCast_nonneg _
theorem z4T : OpR X (binaryOp .Add) (rI0 λ i j => .int (i + j)) := opI0 λ _ _ _ _ _ _ _ q => add_int q
theorem z5o : OpR X (binaryOp .Sub) (rI0 λ i j => .int (i - j)) := opI0 λ _ _ _ _ _ _ _ q => sub_int q
theorem z4k : OpR X (binaryOp .Mult) (rI CMul λ i j => .int (i * j)) := opI λ _ _ _ _ _ _ _ hc q => mul_int q hc.ok
theorem z2C : OpR X (binaryOp .FloorDiv) (rI CDiv λ i j => .int (i / j)) := opI λ i j _ _ _ _ _ hc q => by
 have h1 : (0 : Int) < j := hc.1
 have h2 : j < 1073741824 := hc.2
 exact floordiv_int (by omega) (by rw [Int.fdiv_eq_ediv_of_nonneg i (by omega)]; exact q) (.inl (PyProof.noPylong_small (by omega)))
theorem z3A : OpR X (binaryOp .Mod) (rI (λ _ j => 0 < j) λ i j => .int (i % j)) := opI λ i j _ _ _ _ _ hc q => by
 have h1 : (0 : Int) < j := hc
 exact mod_int' (by omega) (by rw [Int.fmod_eq_emod_of_nonneg i (by omega)]; exact q)
theorem z3Z : OpR X (binaryOp .RShift) (rI (λ _ j => 0 <= j) λ i j => .int (i / 2 ^ j.toNat)) := opI λ i j _ _ _ _ _ hc q =>
 rshift_int hc (by rw [Int.fdiv_eq_ediv_of_nonneg i (q7k _)]; exact q)
theorem z3y : OpR X (binaryOp .BitAnd) (rI0 λ i j => .int (Builtin.bitAnd i j)) := opI0 λ _ _ _ _ _ _ _ q => and_int q
theorem unI {f : Value -> Sem Value} {g : Int -> Int}
  (rule : ∀ (i : Int) (t : Tok) (s : Shared) (Q : Value -> Shared -> Prop) (E : Value -> Shared -> Prop), Q (.int (g i) s.toks) { s with toks := s.toks + 1 } -> wpAny (model X.prog X.w) X.A (f (.int i t)) Q E s) :
  UnR X f (rU λ i => .int (g i)) := by
 intro pins s σ H x v Q I rx h
 obtain ⟨i, rfl, q⟩ := h
 obtain ⟨t, rfl⟩ := rx
 exact rule i t s _ _ ⟨.int (g i), H, I.tok _, ⟨_, rfl⟩, q⟩
theorem z5i : UnR X (unaryOp .USub) (rU λ i => .int (-i)) := unI λ _ _ _ _ _ q => neg_int q
end
section
variable {X : Cx} {a b c : Expr} {ta tb tc : TE} {pos : Pos}
theorem z1c {pins : List (Addr × Obj)} {σ : St} {H : Hp} {s : Shared} {Q : VK} {k k' : Bool} (I : Inv X pins σ H s) (q : Q (.bl k) H) (e : k = k') : EP X pins σ Q (.bool k') s := by
 subst e
 exact ⟨.bl k, H, I, rfl, q⟩
theorem z5W : OpR X (compareOp .Lt) (rI0 λ i j => .bl (decide (i < j))) := opB0 λ _ _ _ _ _ _ _ q => lt_int q
theorem z6B : OpR X (compareOp .LtE) (rI0 λ i j => .bl (decide (i <= j))) := opB0 λ _ _ _ _ _ _ _ q => le_int q
theorem z6k : OpR X (compareOp .Gt) (rI0 λ i j => .bl (decide (j < i))) := opB0 λ _ _ _ _ _ _ _ q => gt_int q
theorem z4K : OpR X (compareOp .Is) (λ x y H Q => y = .non /\ Q (.bl (decide (x = .non))) H) := by
 intro pins s σ H x y v u Q I rx ry h
 obtain ⟨rfl, q⟩ := h
 cases ry
 refine is_none_gen (z1c I q ?_)
 cases x <;> first
  | (cases rx; rfl)
  | (obtain ⟨t, rfl⟩ := rx; rfl)
theorem z1E : OpR X (compareOp .IsNot) (λ x y H Q => y = .non /\ Q (.bl (!decide (x = .non))) H) := by
 intro pins s σ H x y v u Q I rx ry h
 obtain ⟨rfl, q⟩ := h
 cases ry
 refine isnot_none_gen (z1c I q ?_)
 cases x <;> first
  | (cases rx; rfl)
  | (obtain ⟨t, rfl⟩ := rx; rfl)
theorem OpR.or {f : Value -> Value -> Sem Value} {r r' : R2} (h : OpR X f r) (h' : OpR X f r') : OpR X f (λ x y H Q => r x y H Q \/ r' x y H Q) := by
 intro pins s σ H x y v u Q I rx ry q
 rcases q with q | q
 ·exact h pins s σ H x y v u Q I rx ry q
 ·exact h' pins s σ H x y v u Q I rx ry q
theorem z6H (b : Expr) {op : CmpOp} (h : op ≠ .In := by decide) (h2 : op ≠ .NotIn := by decide) : behindInMarks op b = false := by
 have e1 : (op == CmpOp.In) = false := by cases op <;> first | rfl | exact absurd rfl h
 have e2 : (op == CmpOp.NotIn) = false := by cases op <;> first | rfl | exact absurd rfl h2
 cases b <;> simp [behindInMarks, e1, e2]
theorem z1P {op : CmpOp} {r : R2} (ho : OpR X (compareOp op) r) (ha : PE X a ta) (hb : PE X b tb) (hm : behindInMarks op b = false) : PE X (.Compare a [op] [b] pos) (tOp r ta tb) := by
 intro pins s σ H Q I h
 exact wpAny_Compare1 (binT ha hb I h λ v u s2 x y H2 I2 rx ry q => ho pins s2 σ H2 x y v u Q I2 rx ry q) hm
noncomputable def z5L (t : TE) : TT := λ σ H Q => t σ H λ x H' => ∃ k, x = .bl k /\ Q k H'
theorem z2R {op : CmpOp} {r : R2} (ho : OpR X (compareOp op) r) (ha : PE X a ta) (hb : PE X b tb) (hm : behindInMarks op b = false) : PT X (.Compare a [op] [b] pos) (z5L (tOp r ta tb)) := by
 intro pins s σ H Q I h
 refine wpAny_isTrue_Compare1 (thn (ha pins s σ H _ I h) λ v s1 ⟨x, H1, I1, r1, q1⟩ => thn (hb pins s1 σ H1 _ I1 q1) λ u s2 ⟨y, H2, I2, r2, q2⟩ =>
  thn (ho pins s2 σ H2 x y v u _ I2 r1 r2 q2) λ c s3 ⟨z, H3, I3, r3, k, e, q3⟩ => ?_) hm
 subst e
 cases r3
 exact wpAny_truthy_bool ⟨H3, I3, q3⟩
noncomputable def TruV (K : PySem.W.Frag) (x : V) (H : Hp) (k : Bool) : Prop :=
 match x with
 | .non => k = false
 | .bl b => k = b
 | .int i => k = (i != 0)
 | .str y => y.length <= sizeLine /\ k = ((y.length : Int) != 0)
 | .byt y => y.size <= sizeLine /\ k = ((y.size : Int) != 0)
 | .ref p => (∃ xs, SqL K H p xs /\ k = !xs.isEmpty) \/ (∃ xs, SqT K H p xs /\ k = !xs.isEmpty) \/ ∃ kvs, H p = some (.dK kvs) /\ k = !kvs.isEmpty
 | _ => False
theorem q7h {κ : Type} {kvs : List (κ × V)} {vs : List (κ × Value)} (r : KV kvs vs) : (!vs.isEmpty) = !kvs.isEmpty := by
 cases r <;> rfl
theorem q4d {xs : List V} {its : List Value} (r : Vals xs its) : (!its.toArray.isEmpty) = !xs.isEmpty := by
 cases r <;> simp
theorem q3F : (sizeLine : Nat) < 2 ^ 63 := by rw [sizeLine_eq]; decide
theorem q6w : TruR X (λ x H Q => ∃ k, TruV X.K x H k /\ Q k H) := by
 intro pins s σ H x v Q I rx h
 obtain ⟨k, e, q⟩ := h
 have hl := q3F
 have hs : sizeLine = 16777216 := sizeLine_eq
 cases x with
 | non =>
  cases rx
  have e' : k = false := e
  subst e'
  exact truthy_none ⟨H, I, q⟩
 | bl b =>
  cases rx
  have e' : k = b := e
  subst e'
  exact wpAny_truthy_bool ⟨H, I, q⟩
 | int i =>
  obtain ⟨t, rfl⟩ := rx
  have e' : k = (i != 0) := e
  subst e'
  exact PySem.P.truthy_int ⟨H, I, q⟩
 | str y =>
  obtain ⟨t, rfl⟩ := rx
  obtain ⟨hy, e'⟩ : y.length <= sizeLine /\ k = ((y.length : Int) != 0) := e
  subst e'
  exact PySem.P.truthy_str (by omega) ⟨H, I.tok _, q⟩
 | byt y =>
  obtain ⟨t, rfl⟩ := rx
  obtain ⟨hy, e'⟩ : y.size <= sizeLine /\ k = ((y.size : Int) != 0) := e
  subst e'
  exact PySem.W.truthy_bytes (by omega) ⟨H, I.tok _, q⟩
 | ref p =>
  cases rx
  have e' : (∃ xs, SqL X.K H p xs /\ k = !xs.isEmpty) \/ (∃ xs, SqT X.K H p xs /\ k = !xs.isEmpty) \/ ∃ kvs, H p = some (.dK kvs) /\ k = !kvs.isEmpty := e
  rcases e' with ⟨xs, hx, e'⟩ | ⟨xs, hx, e'⟩ | ⟨kvs, hx, e'⟩
  ·subst e'
   obtain ⟨its, r, pl, hz⟩ := I.list hx
   have hlen := r.length
   exact wpAny_truthy_list pl.isList (by simp only [List.size_toArray]; omega) ⟨H, I.tok _, by rw [q4d r]; exact q⟩
  ·subst e'
   obtain ⟨its, r, pl, hz⟩ := I.tuple hx
   have hlen := r.length
   exact truthy_tuple pl (by simp only [List.size_toArray]; omega) ⟨H, I.tok _, by rw [q4d r]; exact q⟩
  ·subst e'
   obtain ⟨hz, hS, vs, r, m⟩ : kvs.length <= sizeLine /\ (p == sysModules) = false /\ ∃ vs, KV kvs vs /\ s.heap.DictOf (q5Z X.prog X.w) p vs := I.hok p _ hx
   have hlen : kvs.length = vs.length := Paired.length r
   exact wpAny_truthy_dict hS m (by omega) ⟨H, I.tok _, by rw [q7h r]; exact q⟩
 | _ => exact (show False from e).elim
theorem q6y (ha : PE X a ta) (he : ∀ whole, isTrue a X.env whole = (do let v ← whole; standAt a.pos; holding [v] (truthy v))) :
  PT X a (λ σ H Q => ta σ H λ x H' => ∃ k, TruV X.K x H' k /\ Q k H') := by
 intro pins s σ H Q I h
 exact isTrue_plain (thn (ha pins s σ H _ I h) λ v s1 ⟨x, H1, I1, r1, q1⟩ => q6w pins s1 σ H1 x v Q I1 r1 q1) (he _)
theorem q5C {x : V} {us : List Value} (r : Vals [x] us) : ∃ u, us = [u] /\ RelV x u := by
 cases r with
 | cons r1 r2 => cases r2; exact ⟨_, rfl, r1⟩
theorem z2h {x y : V} {us : List Value} (r : Vals [x, y] us) : ∃ u w', us = [u, w'] /\ RelV x u /\ RelV y w' := by
 cases r with
 | cons r1 r2 =>
  cases r2 with
  | cons r3 r4 => cases r4; exact ⟨_, _, rfl, r1, r3⟩
theorem q8o (hc : X.calm = true) : q1D X (.builtin "max") (λ xs H Q => ∃ i j, xs = [.int i, .int j] /\ Q (.int (if j > i then j else i)) H) := by
 intro pins s σ H xs us Q I r h
 obtain ⟨i, j, rfl, q⟩ := h
 obtain ⟨u, w', rfl, ⟨t, rfl⟩, ⟨t', rfl⟩⟩ := z2h r
 refine max_two_ints (I.ok.hd hc) λ h' tk k => ⟨_, H, I.kept k, ?_, q⟩
 by_cases hj : j > i
 ·rw [if_pos hj, if_pos hj]; exact ⟨_, rfl⟩
 ·rw [if_neg hj, if_neg hj]; exact ⟨_, rfl⟩
theorem q8T (hc : X.calm = true) : q1D X (.builtin "min") (λ xs H Q => ∃ i j, xs = [.int i, .int j] /\ Q (.int (if j < i then j else i)) H) := by
 intro pins s σ H xs us Q I r h
 obtain ⟨i, j, rfl, q⟩ := h
 obtain ⟨u, w', rfl, ⟨t, rfl⟩, ⟨t', rfl⟩⟩ := z2h r
 refine min_two_ints (I.ok.hd hc) λ h' tk k => ⟨_, H, I.kept k, ?_, q⟩
 by_cases hj : j < i
 ·rw [if_pos hj, if_pos hj]; exact ⟨_, rfl⟩
 ·rw [if_neg hj, if_neg hj]; exact ⟨_, rfl⟩
end
end L2
namespace L2
open PySem PySem.Spec PyProof.Rows
structure ObjM (h : Heap) (x dx C : Addr) (mA : Str -> Option Value) : Prop where
 obj : h.get? x = some (PySem.W.instObj C dx)
 ns : h.Ns1 dx mA
 ne : dx ≠ x
section
variable {prog : Program} {w : World} {A : Around} {E : Value -> Shared -> Prop} {s : Shared} {K : PySem.W.Frag} {x dx C f : Addr} {mA : Str -> Option Value} {name : Str} {v : Value}
end
section
variable {P : Program} {w : World} {H H' : Hp} {h h' : Heap} {a C dx : Addr} {fs fs' : List (Str × V)}
end
structure Cls (K : PySem.W.Frag) (C : Addr) : Prop where
 pg : PySem.W.plainGet K C Str.empty = true
 hd : PySem.W.hasDictIn K C = true
 po : PySem.W.plainOver K C = true
 sa : PySem.W.findIn K (.ref C) "__setattr__" = some (some (.builtin "object.__setattr__"))
structure Con (K : PySem.W.Frag) (C : Addr) (f : Str) (v : V) (u : Value) : Prop where
 at_ : PySem.W.findIn K (.ref C) f = some (some u)
 rel : RelV v u
 get : PySem.W.specialIn K u "__get__" = some none
 cp : PySem.W.copiedNames.contains f = false
structure Meth (K : PySem.W.Frag) (C : Addr) (m : Str) (f : Addr) : Prop where
 at_ : PySem.W.findIn K (.ref C) m = some (some (.ref f))
 fn : PySem.W.isFn K (.ref f) = true
 kp : PySem.W.keepIn K (.ref f) = true
section
variable {X : Cx} {pins : List (Addr × Obj)} {σ : St} {H : Hp} {s : Shared} {a C dx : Addr} {fs : List (Str × V)} {f : Str} {v : V} {A : Around} {E : Value -> Shared -> Prop}
end
section
variable {X : Cx} {o e value : Expr} {f : Str} {pos pos' tpos : Pos} {ta tv : TE}
end
section
variable {X : Cx} {pins : List (Addr × Obj)} {σ : St} {H : Hp} {s : Shared} {A : Around} {E : Value -> Shared -> Prop} {Q : Value -> Shared -> Prop} {c : Value} {b : Bool}
inductive TyOf (K : PySem.W.Frag) (H : Hp) : V -> Value -> Prop where
 | non : TyOf K H .non (.type "NoneType")
 | bl (x : Bool) : TyOf K H (.bl x) (.type "bool")
 | int (i : Int) : TyOf K H (.int i) (.type "int")
 | str (x : Str) : TyOf K H (.str x) (.type "str")
 | flt (x : UInt64) : TyOf K H (.flt x) (.type "float")
 | lst {a : Addr} {xs : List V} (e : H a = some (.lst xs)) : TyOf K H (.ref a) (.type "list")
 | frz {a : Addr} {o : Obj} {xs : List V} (e : H a = some (.frz o (.lst xs))) : TyOf K H (.ref a) (.type "list")
 | tup {a : Addr} {xs : List V} (e : H a = some (.tup xs)) : TyOf K H (.ref a) (.type "tuple")
 | dK {a : Addr} {kvs : List (Key × V)} (e : H a = some (.dK kvs)) : TyOf K H (.ref a) (.type "dict")
 | dT {a : Addr} {kvs : List (List Key × V)} (e : H a = some (.dT kvs)) : TyOf K H (.ref a) (.type "dict")
 | ins {a C dx : Addr} {fs : List (Str × V)} (e : H a = some (.ins C dx fs)) (cl : Cls K C) (ha : PySem.W.findIn K (.ref C) "__class__" = some (some (.builtin "object.__class__")))
   (hn : PySem.W.specialIn K (.builtin "object.__class__") "__get__" = some (some (.builtin "getset_descriptor.__get__"))) (htk : PySem.W.takesIn K (.builtin "object.__class__") = some true)
   (hm : PySem.W.mroIn K C (.type "object") = some true) : TyOf K H (.ref a) (.ref C)
end
end L2
namespace L2
open PySem PySem.Spec PyProof.Rows
structure Room (k : Nat) (A : Around) : Prop where
 hd : A.handled = none
 dp : A.depth + 3 * k + 5 < recursionLimit
 un : A.units + 16 * k + 200 < cLine
theorem Room.deeper {k : Nat} {A : Around} (r : Room (k + 1) A) (env : Env) : Room k (A.deeper env) :=
 ⟨r.hd, by have := r.dp; show A.depth + 1 + 3 * k + 5 < _; omega, by have := r.un; show A.units + 3 + 16 * k + 200 < _; omega⟩
theorem Room.depth {k : Nat} {A : Around} (r : Room k A) : A.depth < recursionLimit := by have := r.dp; omega
theorem Room.units {k : Nat} {A : Around} (r : Room k A) : A.units + 64 < cLine := by have := r.un; omega
noncomputable def tNil : TA := λ _ H Q => Q [] H
noncomputable def z3x (ta : TE) (tr : TA) : TA := λ σ H Q => ta σ H λ x H1 => tr σ H1 λ xs H2 => Q (x :: xs) H2
section
variable {X : Cx} {e : Expr} {es : List Expr} {te : TE} {t : TA} {pos : Pos}
theorem q3E : PA X [] tNil := λ _ _ _ _ H Q I h => Calls.spliced_nil ⟨[], H, I, .nil, h⟩
theorem q1n (ha : PE X e te) (hr : PA X es t) (hs : starEach (e :: es) X.env = (false, eval e X.env) :: starEach es X.env := by rfl) : PA X (e :: es) (z3x te t) := by
 intro pos pins s σ H Q I h
 rw [hs]
 show wpAny _ _ (spliced ((false, eval e X.env) :: backTo pos (starEach es X.env))) _ _ s
 refine Calls.spliced_cons (thn (ha pins s σ H _ I h) λ u s1 ⟨x, H1, I1, r1, q1⟩ => ?_)
 exact thn (hr pos pins s1 σ H1 _ I1 q1) λ us s2 ⟨xs, H2, I2, r2, q2⟩ => ⟨x :: xs, H2, I2, .cons r1 r2, q2⟩
noncomputable def tTup (t : TA) : TE := λ σ H Q => t σ H λ xs H1 => xs.length <= sizeLine /\ ∀ p, H1 p = none -> Q (.ref p) (upd H1 p (.tup xs))
noncomputable def tLst (t : TA) : TE := λ σ H Q => t σ H λ xs H1 => xs.length <= sizeLine /\ ∀ p, H1 p = none -> Q (.ref p) (upd H1 p (.lst xs))
theorem z5d {x1} (h : PA X es t) : PE X (.Tuple es x1 pos) (tTup t) := by
 intro pins s σ H Q I hq
 refine wpAny_Tuple_spliced (thn (h pos pins s σ H _ I hq) λ us s1 ⟨xs, H1, I1, r, z, q⟩ => ⟨by rw [← r.length]; exact z, ?_⟩)
 have hf : H1 s1.heap.objs.size = none := I1.hok.fresh (Nat.le_refl _)
 refine ⟨.ref s1.heap.objs.size, upd H1 s1.heap.objs.size (.tup xs), I1.laid (t' := s1.toks) (λ b u e => Heap.get?_push_of_some _ e) (Nat.le_refl _) ?_, rfl, q _ hf⟩
 exact ⟨z, us, r, ⟨_, Heap.get?_push_size _ rfl, ⟨rfl, rfl⟩, _, rfl⟩⟩
theorem z3W (h : PA X es t) : PE X (.List es pos) (tLst t) := by
 intro pins s σ H Q I hq
 refine wpAny_List_spliced (thn (h pos pins s σ H _ I hq) λ us s1 ⟨xs, H1, I1, r, z, q⟩ => ⟨by rw [← r.length]; exact z, ?_⟩)
 have hf : H1 s1.heap.objs.size = none := I1.hok.fresh (Nat.le_refl _)
 refine ⟨.ref s1.heap.objs.size, upd H1 s1.heap.objs.size (.lst xs), I1.laid (t' := s1.toks) (λ b u e => Heap.get?_push_of_some _ e) (Nat.le_refl _) ?_, rfl, q _ hf⟩
 exact ⟨z, us, 0, r, Heap.get?_push_size _ rfl⟩
end
noncomputable abbrev Sp := List V -> Hp -> VK -> XK -> Prop
noncomputable abbrev CXT := List Env -> Hp -> Shared -> XK -> Value -> Shared -> Prop
structure Env0 (P : Program) (w : World) (K : PySem.W.Frag) (mg : Str -> Option Value) (base : Heap) (A : Around) (outer : List Env) (s : Shared) (H : Hp) : Prop where
 frames : A.frames = some outer
 mod : Mod K mg base
 bs : ∀ b o, base.get? b = some o -> s.heap.get? b = some o /\ H b = none
 bsz : base.objs.size <= s.heap.objs.size
 funs : s.heap.FunFrames base outer
 frf : ∀ b ∈ frs outer, H b = none
 hok : HOk P w H s.heap
 bare : AllBare s.gens
noncomputable def CE (outer : List Env) (P : Program) (w : World) (H : Hp) (s : Shared) (Q : VK) (u : Value) (s' : Shared) : Prop :=
 ∃ v H', s'.os = s.os /\ AllBare s'.gens /\ Un (frs outer) [] H H' s.heap s'.heap /\ HOk P w H' s'.heap /\ RelV v u /\ Q v H'
noncomputable def CR (CX : CXT) (outer : List Env) (P : Program) (w : World) (H : Hp) (s : Shared) (Q : VK) (E : XK) (r : Result) (s' : Shared) : Prop :=
 match r with
 | .ok (.ret u) => CE outer P w H s Q u s'
 | .ok _ => False
 | .error e => CX outer H s E e s'
structure FnOk (P : Program) (w : World) (K : PySem.W.Frag) (mg : Str -> Option Value) (base : Heap) (CX : CXT) (k : Nat) (f : Addr) (fd : FuncData) (ps : List Str) (sp : Sp) : Prop where
 len : ∀ vs H Q E, sp vs H Q E -> vs.length = ps.length
 run : ∀ (A : Around) (outer : List Env) (s : Shared) (H : Hp) (args : Args) (us : List Value) (vs : List V) (Q : VK) (E : XK), Room k A -> Env0 P w K mg base A outer s H -> BindsTo s fd args (ps.zip us) -> Vals vs us -> sp vs H Q E ->
  codeAny (model P w) A (.call (.ref f) args) (CR CX outer P w H s Q E) s
section
variable {X : Cx} {pins : List (Addr × Obj)} {σ : St} {H : Hp} {s s' : Shared}
theorem Inv.env0 (I : Inv X pins σ H s) : Env0 X.prog X.w X.K X.mg X.base X.A X.stack s H :=
 ⟨I.ok.frames, I.ok.mod, I.bs, Nat.le_trans I.ok.bsz I.sz, I.stack, I.stkFree, I.hok, I.bare⟩
theorem Inv.after {Q : VK} {u : Value} (I : Inv X pins σ H s) (h : CE X.stack X.prog X.w H s Q u s') : EP X pins σ Q u s' := by
 obtain ⟨v, H', os, bare, un, hok, r, q⟩ := h
 obtain ⟨hh, g, d, t, os'⟩ := s'
 obtain rfl : os' = s.os := os
 exact ⟨v, H', I.call (h' := hh) (g' := g) (d' := d) (t' := t) (ch := []) un hok bare (λ b z => absurd z (by simp)), r, q⟩
end
noncomputable def q3l (K : PySem.W.Frag) (fd : FuncData) (ps : List Str) (ds : List Value) : Prop :=
 ∀ (s : Shared) (us : List Value), K.In s.heap -> (us ++ ds).length = ps.length -> BindsTo s fd ⟨us, []⟩ (ps.zip (us ++ ds))
theorem q3l.all {K : PySem.W.Frag} {fd : FuncData} {ps : List Str} (h : ∀ us : List Value, us.length = ps.length -> bindArgs fd ⟨us, []⟩ = pure (ps.zip us)) : q3l K fd ps [] := λ s us _ hl => by
 rw [List.append_nil] at hl ⊢
 exact .of_eq (h us hl)
noncomputable def q8G (CX : CXT) (X : Cx) (E : XK) : Prop := ∀ (pins : List (Addr × Obj)) (σ : St) (H : Hp) (s : Shared) (e : Value) (s' : Shared), Inv X pins σ H s -> CX X.stack H s E e s' -> X.xe e s'
section
variable {X : Cx} {CX : CXT} {k : Nat} {f C : Addr} {fd : FuncData} {ps : List Str} {sp : Sp} {dvs : List V} {ds : List Value} {E : XK} {x m : Str} {p pos apos : Pos} {e o : Expr} {es : List Expr} {ta : TE} {t : TA}
structure Mk (K : PySem.W.Frag) (C f : Addr) : Prop where
 makes : PySem.W.makesIn K C = true
 init : PySem.W.findIn K (.ref C) "__init__" = some (some (.ref f))
 fn : PySem.W.isFn K (.ref f) = true
 kp : PySem.W.keepIn K (.ref C) = true
end
noncomputable def PK (X : Cx) (kws : List Keyword) (t : TA) : Prop :=
 ∀ (pos : Pos) (pins : List (Addr × Obj)) (s : Shared) (σ : St) (H : Hp) (Q : List V -> Hp -> Prop), Inv X pins σ H s -> t σ H Q -> wpAny (model X.prog X.w) X.A (evalAll ((backToKw pos (keywordEach kws X.env)).map (·.2))) (AP X pins σ Q) X.xe s
section
variable {X : Cx} {CX : CXT} {k : Nat} {f C : Addr} {fd : FuncData} {ps ks : List Str} {sp : Sp} {E : XK} {x m : Str} {p pos apos kpos : Pos} {e o : Expr} {es : List Expr} {kws : List Keyword} {te ta : TE} {t tk : TA} {nm : Option Str}
theorem z4o : PK X [] tNil := λ _ _ _ _ H Q I h => wpAny_evalAll_nil ⟨[], H, I, .nil, h⟩
theorem z3k (ha : PE X e te) (hr : PK X kws t) : PK X (⟨nm, e, kpos⟩ :: kws) (z3x te t) := by
 intro pos pins s σ H Q I h
 show wpAny _ _ (evalAll ((do let v ← eval e X.env; standAt pos; pure v) :: (backToKw pos (keywordEach kws X.env)).map (·.2))) _ _ s
 refine wpAny_evalAll_cons (wpAny_bind (thn (ha pins s σ H _ I h) λ u s1 ⟨x, H1, I1, r1, q1⟩ => wpAny_bind (wpAny_standAt (wpAny_pure ?_))))
 exact thn (hr pos pins s1 σ H1 _ I1 q1) λ us s2 ⟨xs, H2, I2, r2, q2⟩ => ⟨x :: xs, H2, I2, .cons r1 r2, q2⟩
structure KBinds (K : PySem.W.Frag) (fd : FuncData) (ps ks : List Str) (g : List Value -> List Value -> List Value) (gV : List V -> List V -> List V) : Prop where
 to : ∀ (s : Shared) (us ws : List Value), K.In s.heap -> (g us ws).length = ps.length -> BindsTo s fd ⟨us, ks.zip ws⟩ (ps.zip (g us ws))
 rel : ∀ {vs : List V} {us : List Value} {zs : List V} {ws : List Value}, Vals vs us -> Vals zs ws -> Vals (gV vs zs) (g us ws)
variable {g : List Value -> List Value -> List Value} {gV : List V -> List V -> List V}
end
structure FnScope (N P : List Str) (sc : Scope) : Prop where
 kind : sc.kind = .function
 co : sc.isCoroutine = false
 gen : sc.isGenerator = false
 nd : N.Nodup
 pre : N.take P.length = P
 par : ∀ x ∈ P, sc.names.lookup x = some .local \/ sc.names.lookup x = some .cell
 nofree : ∀ y ∈ sc.names, y.2 ≠ .free
theorem q5I {kindOf : Str -> Option NameKind} {x : Str} : ∀ {binds : List (Str × Value)} {m : Str -> Option Value}, (∀ v, (x, v) ∉ binds) -> bindL kindOf binds m x = m x
 | [], _, _ => rfl
 | (n, v) :: r, m, h => by
  unfold bindL
  rw [q5I λ w hw => h w (List.mem_cons_of_mem _ hw)]
  split
  ·have : x ≠ n := by rintro rfl; exact h v List.mem_cons_self
   simp [this]
  ·rfl
theorem q5m {kindOf : Str -> Option NameKind} {x : Str} : ∀ {binds : List (Str × Value)} {m : Str -> Option Value}, (∀ v, (x, v) ∉ binds) -> bindC kindOf binds m x = m x
 | [], _, _ => rfl
 | (n, v) :: r, m, h => by
  unfold bindC
  rw [q5m λ w hw => h w (List.mem_cons_of_mem _ hw)]
  split
  ·rfl
  ·have : x ≠ n := by rintro rfl; exact h v List.mem_cons_self
   simp [this]
theorem q5K {kindOf : Str -> Option NameKind} {x : Str} {v : Value} : ∀ {P : List Str} {vs : List Value} {i : Nat} {m : Str -> Option Value}, P.Nodup -> P[i]? = some x -> vs[i]? = some v -> kindOf x = some .local ->
  bindL kindOf (P.zip vs) m x = some v
 | [], _, _, _, _, h, _, _ => by simp at h
 | _ :: _, [], _, _, _, _, h, _ => by simp at h
 | p :: P, w :: vs, 0, m, nd, h1, h2, hk => by
  simp at h1 h2; subst h1; subst h2
  show bindL kindOf ((p, w) :: P.zip vs) m p = _
  unfold bindL
  rw [q5I λ v hv => (List.nodup_cons.mp nd).1 (List.of_mem_zip hv).1, if_pos hk]
  simp
 | p :: P, w :: vs, i + 1, m, nd, h1, h2, hk => by
  show bindL kindOf ((p, w) :: P.zip vs) m x = _
  unfold bindL
  exact q5K (i := i) (List.nodup_cons.mp nd).2 (by simpa using h1) (by simpa using h2) hk
theorem q5r {kindOf : Str -> Option NameKind} {x : Str} {v : Value} : ∀ {P : List Str} {vs : List Value} {i : Nat} {m : Str -> Option Value}, P.Nodup -> P[i]? = some x -> vs[i]? = some v -> kindOf x ≠ some .local ->
  bindC kindOf (P.zip vs) m x = some v
 | [], _, _, _, _, h, _, _ => by simp at h
 | _ :: _, [], _, _, _, _, h, _ => by simp at h
 | p :: P, w :: vs, 0, m, nd, h1, h2, hk => by
  simp at h1 h2; subst h1; subst h2
  show bindC kindOf ((p, w) :: P.zip vs) m p = _
  unfold bindC
  rw [q5m λ v hv => (List.nodup_cons.mp nd).1 (List.of_mem_zip hv).1, if_neg hk]
  simp
 | p :: P, w :: vs, i + 1, m, nd, h1, h2, hk => by
  show bindC kindOf ((p, w) :: P.zip vs) m x = _
  unfold bindC
  exact q5r (i := i) (List.nodup_cons.mp nd).2 (by simpa using h1) (by simpa using h2) hk
noncomputable def start (N : List Str) (vs : List V) : St := vs.map some ++ List.replicate (N.length - vs.length) none
noncomputable def cxOf (CX : CXT) (P : Program) (w : World) (K : PySem.W.Frag) (mg : Str -> Option Value) (base : Heap) (N : List Str) (qual : Str) (scope : Scope) (f : Addr) (cd : Value) (A : Around) (outer : List Env) (s : Shared) (H : Hp) (E : XK) : Cx where
 prog := P
 w := w
 K := K
 mg := mg
 base := base
 A := A.deeper (envOfC qual scope s.heap.objs.size f cd)
 N := N
 s₀ := s
 H₀ := H
 env := envOfC qual scope s.heap.objs.size f cd
 outer := outer
 stack := envOfC qual scope s.heap.objs.size f cd :: outer
 ex := []
 calm := true
 fn := λ _ => true
 pn := []
 xe := λ e s' => wpAny (model P w) (A.deeper (envOfC qual scope s.heap.objs.size f cd)) (leaving (envOfC qual scope s.heap.objs.size f cd) e) (λ _ s'' => CX outer H s E e s'') (λ e' s'' => CX outer H s E e' s'') s'
theorem q6O {sc : Scope} {n : Nat} {x : Str} (h : sc.names.lookup x = some .cell) : ∃ c, (cellsFrom n sc.names []).lookup x = some c := by
 have q := PySem.W.cellsFrom_some sc.names n [] (.inl h)
 exact Option.isSome_iff_exists.mp q
theorem q8p {CX : CXT} {P : Program} {w : World} {K : PySem.W.Frag} {mg : Str -> Option Value} {base : Heap} {N ps : List Str} {qual : Str} {scope : Scope} {f : Addr} {cd : Value} {A : Around} {outer : List Env} {s s1 : Shared} {H : Hp} {E : XK} {us : List Value} {vs : List V}
  (S : FnScope N ps scope) (hd : A.handled = none) (e0 : Env0 P w K mg base A outer s H) (hl : vs.length = ps.length) (r : Vals vs us)
  (x : InCallC s s.heap.objs.size (bindL (envOfC qual scope s.heap.objs.size f cd).kindOf (ps.zip us) λ _ => none) (cellsFrom (s.heap.objs.size + 1) scope.names []) (bindC (envOfC qual scope s.heap.objs.size f cd).kindOf (ps.zip us) λ _ => none) s1) :
  Inv (cxOf CX P w K mg base N qual scope f cd A outer s H E) [] (start N vs) H s1 := by
 have hpl : ps.length <= N.length := by have := congrArg List.length S.pre; rw [List.length_take] at this; omega
 obtain ⟨h1, tk, rfl, hk⟩ := x.done
 have noA : ∀ b : Addr, b ∉ (cxOf CX P w K mg base N qual scope f cd A outer s H E).ex := λ b z => absurd (show b ∈ ([] : List Addr) from z) (by simp)
 refine ⟨⟨e0.mod, S.kind, rfl, rfl, Nat.le_refl _, λ y z c h1 h2 => ?_, λ y hy => ?_, λ y c _ h => ?_, λ _ => hd, Around.frames_deeper e0.frames, .inr ⟨rfl, rfl⟩, λ b z => absurd z (noA b), e0.bs, e0.bsz, λ b _ _ => noA b, λ b z => absurd z (noA b), e0.funs, e0.frf⟩,
  rfl, e0.bare, Un.kept hk, ⟨_, x.toInCall.ns, λ i y v h1 h2 h3 => ?_⟩, λ y c h => ⟨_, x.cell y c h⟩, e0.hok.fresh (Nat.le_refl _), λ y c h => ?_, λ p hp => absurd (show p ∈ ([] : List (Addr × Obj)) from hp) (by simp), e0.hok.kept hk, ?_⟩
 ·exact name_of_addr x.apart (PySem.mem_of_lookup h1) (PySem.mem_of_lookup h2)
 ·have hy : scope.names.lookup y = some .cell \/ scope.names.lookup y = some .free := hy
  rcases hy with hy | hy
  ·exact q6O hy
  ·exact absurd rfl (S.nofree _ (PySem.mem_of_lookup hy))
 ·exact Nat.le_of_lt (x.above y c (PySem.mem_of_lookup h))
 ·have hi : i < vs.length := by
   unfold start at h2
   by_cases hi : i < vs.length
   ·exact hi
   ·rw [List.getElem?_append_right (by simpa using hi)] at h2
    rw [List.getElem?_replicate] at h2
    split at h2 <;> cases h2
  have ha : vs[i]? = some v := by
   unfold start at h2
   rw [List.getElem?_append_left (by simpa using hi), List.getElem?_map] at h2
   cases e : vs[i]? with
   | none => rw [e] at h2; cases h2
   | some a => rw [e] at h2; cases h2; rfl
  obtain ⟨u, hu, rv⟩ := r.get ha
  have hp : ps[i]? = some y := by
   rw [← S.pre, List.getElem?_take_of_lt (by omega)]; exact h1
  have ndP : ps.Nodup := by rw [← S.pre]; exact S.nd.sublist (List.take_sublist _ _)
  refine ⟨u, rv, ?_⟩
  rcases S.par y (List.mem_of_getElem? hp) with k | k
  ·exact .inl ⟨k, q5K ndP hp hu k⟩
  ·obtain ⟨c, e⟩ := q6O (n := s.heap.objs.size + 1) k
   refine .inr ⟨.inl k, c, e, ?_⟩
   have q := x.cell y c e
   rw [q5r ndP hp hu (by show scope.names.lookup y ≠ _; rw [k]; decide)] at q
   exact q
 ·exact e0.hok.fresh (Nat.le_of_lt (x.above y c (PySem.mem_of_lookup h)))
 ·unfold start
  show _ = N.length
  rw [List.length_append, List.length_map, List.length_replicate]
  omega
theorem z5P {CX : CXT} {P : Program} {w : World} {K : PySem.W.Frag} {mg : Str -> Option Value} {base : Heap} {k : Nat} {f : Addr} {name qual : Str} {params : Arguments} {body : List Stmt} {scope : Scope} {dV kV doc pm cdv ct oc : Value} {an od : Option Addr}
  {osl : Array (Option Value)} {N ps : List Str} {sp : Sp} (lk : K.lookup f = some ⟨oc, od, .func (PySem.W.fnOf name qual params body scope dV kV doc pm an cdv ct), osl⟩) (hcd : PySem.W.codeIn K cdv qual = true) (S : FnScope N ps scope)
  (len : ∀ vs H Q E, sp vs H Q E -> vs.length = ps.length)
  (hbody : ∀ (A : Around) (outer : List Env) (s : Shared) (H : Hp) (vs : List V) (Q : VK) (E : XK), Room k (A.deeper (envOfC qual scope s.heap.objs.size f cdv)) -> sp vs H Q E ->
   ∃ t, PSs (cxOf CX P w K mg base N qual scope f cdv A outer s H E) body t /\ t { nx := λ _ H' => Q .non H', rt := Q } (start N vs) H) :
  FnOk P w K mg base CX (k + 1) f (PySem.W.fnOf name qual params body scope dV kV doc pm an cdv ct) ps sp := by
 refine ⟨len, λ A outer s H args us vs Q E hr e0 hb r hsp => ?_⟩
 have hl := len _ _ _ _ hsp
 have KX : K.In s.heap := e0.mod.kin.keeps λ b o e => (e0.bs b o e).1
 have lim : s.heap.NoLimit := e0.mod.nolimit.keeps λ b o e => (e0.bs b o e).1
 have hkind : ∀ y ∈ ps.zip us, scope.names.lookup y.1 = some .local \/ (scope.names.lookup y.1 = some .cell /\ ((cellsFrom (s.heap.objs.size + 1) scope.names []).lookup y.1).isSome = true) := λ ⟨n, v⟩ hy => by
  rcases S.par n (List.of_mem_zip hy).1 with q | q
  ·exact .inl q
  ·exact .inr ⟨q, PySem.W.cellsFrom_some _ _ _ (.inl q)⟩
 refine codeAny_call_function hr.depth (KX _ _ lk) rfl S.co S.gen rfl (PySem.W.codeRec_of KX hcd) (hb _ _ _ _ ?_)
 refine wpAny_newFunctionEnv_cells S.kind hkind λ env he s1 x => ?_
 subst he
 refine ⟨lim.keeps x.toInCall.keep, codeAny_func ?_⟩
 obtain ⟨t, ht, hq⟩ := hbody A outer s H vs Q E (hr.deeper _) hsp
 have I : Inv (cxOf CX P w K mg base N qual scope f cdv A outer s H E) [] (start N vs) H s1 := q8p S hr.hd e0 hl r x
 refine wpAny_mono (ht [] s1 (start N vs) H _ I hq) (λ fl s' hs => ?_) λ e s' hs => hs
 have fin : ∀ {σ' : St} {H' : Hp} {v : V} {u : Value}, Inv (cxOf CX P w K mg base N qual scope f cdv A outer s H E) [] σ' H' s' -> RelV v u -> Q v H' -> CE outer P w H s Q u s' :=
  λ {σ' H' v u} J rv q => ⟨v, H', J.os, J.bare, J.base, J.hok, rv, q⟩
 cases fl with
 | ret u =>
  obtain ⟨v, σ', H', J, rv, q⟩ := hs
  exact fin J rv q
 | next =>
  obtain ⟨σ', H', J, q⟩ := hs
  exact fin (v := V.non) (u := Value.none) J rfl q
 | brk =>
  obtain ⟨_, _, _, q⟩ := hs
  exact False.elim q
 | cont =>
  obtain ⟨_, _, _, q⟩ := hs
  exact False.elim q
end L2
namespace L2
open PySem PySem.Spec PyProof.Rows
section
variable {X : Cx} {x : Str} {p pos : Pos} {e : Expr} {es : List Expr} {t : TA} {id T : String} {r : List V -> Hp -> VK -> Prop}
noncomputable def tCB (r : List V -> Hp -> VK -> Prop) (t : TA) : TE := λ σ H Q => t σ H λ vs H1 => r vs H1 Q
theorem q4z (hc : q1D X (.builtin id) r) (hg : Gl X x) (hm : X.mg x = none) (hv : bootBuiltins x = some (.builtin id)) (ha : PA X (e :: es) t) (hn : x ≠ "__name__" := by decide) (hdb : (x == ("__debug__" : Str)) = false := by decide)
  (he : starEach (e :: es) X.env = (false, eval e X.env) :: starEach es X.env := by rfl) (hpl : (backTo pos (starEach es X.env)).any (·.1) = false := by rfl) : PE X (.Call (.Name x p) (e :: es) [] pos) (tCB r t) := by
 intro pins s σ H Q I h
 refine wpAny_Call_Name_kw (q3D I hg hm hv ?_ hn hdb)
 exact PyProof.Rows.callWith_builtin1 (thn (ha pos pins s σ H _ I h) λ us s1 ⟨vs, H1, I1, r1, q1⟩ => hc pins s1 σ H1 vs us Q I1 r1 q1) he hpl
theorem q5A (hc : q1D X (.type T) r) (hg : Gl X x) (hm : X.mg x = none) (hv : bootBuiltins x = some (.type T)) (ha : PA X (e :: es) t) (hn : x ≠ "__name__" := by decide) (hdb : (x == ("__debug__" : Str)) = false := by decide)
  (he : starEach (e :: es) X.env = (false, eval e X.env) :: starEach es X.env := by rfl) (hpl : (backTo pos (starEach es X.env)).any (·.1) = false := by rfl) : PE X (.Call (.Name x p) (e :: es) [] pos) (tCB r t) := by
 intro pins s σ H Q I h
 refine wpAny_Call_Name_kw (q3D I hg hm hv ?_ hn hdb)
 exact PyProof.Rows.callWith_type1 (thn (ha pos pins s σ H _ I h) λ us s1 ⟨vs, H1, I1, r1, q1⟩ => hc pins s1 σ H1 vs us Q I1 r1 q1) he hpl
end
end L2
namespace HT
open PySem PyProof.Rows
section
open PySem.SeqAt
open PySem.AutoSeq1 (wpAny_loadPart')
open PySem.MeetsSeq PySem.MeetsSeq2 PySem.MeetsSeq3
end
section
variable {prog : Program} {w : World} {A : Around} {E : Value -> Shared -> Prop} {s : Shared}
noncomputable def sIx (n d : Nat) : Option Int -> Nat
 | none => d
 | some v => if v < 0 then (v + (n : Int)).toNat else min v.toNat n
theorem z3S (n d : Nat) (hd : d <= n) (o : Option Int) : sIx n d o <= n := by
 cases o with
 | none => exact hd
 | some v =>
  show (if v < 0 then (v + (n : Int)).toNat else min v.toNat n) <= n
  by_cases hv : v < 0
  ·rw [if_pos hv]; omega
  ·rw [if_neg hv]; exact Nat.min_le_right _ _
theorem q8N (v : Int) (n d : Nat) : (if v < 0 then max (v + (n : Int)) 0 else min v (n : Int)) = ((sIx n d (some v) : Nat) : Int) := by
 show (if v < 0 then max (v + (n : Int)) 0 else min v (n : Int)) = (((if v < 0 then (v + (n : Int)).toNat else min v.toNat n) : Nat) : Int)
 by_cases hv : v < 0
 ·simp only [if_pos hv]; omega
 ·simp only [if_neg hv]; omega
theorem q7L (lo hi : Option Int) (n : Nat) : Builtin.Slice.sliceAdjust lo hi 1 (n : Int) = (((sIx n 0 lo : Nat) : Int), ((sIx n n hi : Nat) : Int)) := by
 have h1 : ¬ ((1 : Int) < 0) := by omega
 unfold Builtin.Slice.sliceAdjust
 simp only [h1, if_false]
 refine Prod.ext ?_ ?_
 ·cases lo with
  | none => rfl
  | some v => exact q8N v n 0
 ·cases hi with
  | none => rfl
  | some v => exact q8N v n n
theorem q7G (i j : Nat) : Builtin.Slice.slicePlaces (i : Int) (j : Int) 1 = j - i := by
 unfold Builtin.Slice.slicePlaces
 have h1 : (1 : Int) > 0 := by omega
 simp only [h1, if_true, Int.ediv_one]
 split <;> omega
theorem q4i {v : Value} {o : Option Int} {Q : Option Int -> Shared -> Prop} (p : IsPart v o) (h : Q o s) : wpAny (model prog w) A (Builtin.Slice.slicePartIndex v) Q E s := by
 cases p with
 | none => exact slicePart_none h
 | int i t => exact slicePart_int h
theorem q3n {sl : Addr} {vl vu : Value} {lo hi : Option Int} {n : Nat} {Q : Int × Int × Nat -> Shared -> Prop} (hs : s.heap.IsSliceOf sl vl vu .none) (pl : IsPart vl lo) (pu : IsPart vu hi)
  (h : Q (((sIx n 0 lo : Nat) : Int), 1, sIx n n hi - sIx n 0 lo) s) : wpAny (model prog w) A (Builtin.Slice.sliceApplied (.ref sl) (pure (n : Int))) Q E s := by
 obtain ⟨os, hos, hcs, hds⟩ := id hs
 unfold Builtin.Slice.sliceApplied Builtin.Slice.sliceFields
 refine wpAny_bind (wpAny_bind (wpAny_field hos hds (x := vl) rfl (wpAny_bind (wpAny_field hos hds (x := vu) rfl (wpAny_bind (wpAny_field hos hds (x := .none) rfl (wpAny_pure ?_)))))))
 refine wpAny_bind (slicePart_none ?_)
 show wpAny _ _ (if ((1 : Int) == 0) = true then _ else _) _ _ s
 rw [if_neg (by decide)]
 refine wpAny_bind (q4i pl (wpAny_bind (q4i pu (wpAny_bind (wpAny_pure ?_)))))
 show wpAny _ _ (match Builtin.Slice.sliceAdjust lo hi 1 (n : Int) with | (lo, hi) => pure (lo, (1 : Int), Builtin.Slice.slicePlaces lo hi 1)) _ _ s
 rw [q7L lo hi n]
 show wpAny _ _ (pure (((sIx n 0 lo : Nat) : Int), (1 : Int), Builtin.Slice.slicePlaces ((sIx n 0 lo : Nat) : Int) ((sIx n n hi : Nat) : Int) 1)) _ _ s
 rw [q7G]
 exact wpAny_pure h
theorem q9W (xs : Array Value) (i k : Nat) : ((List.range k).filterMap λ (m : Nat) => xs[((i : Int) + (m : Int) * 1).toNat]?).toArray = ((xs.toList.drop i).take k).toArray := by
 have e : (λ (m : Nat) => xs[((i : Int) + (m : Int) * 1).toNat]?) = λ m => xs[i + m]? := by
  funext m
  have : ((i : Int) + (m : Int) * 1).toNat = i + m := by omega
  rw [this]
 rw [e]
 have := pick_run xs i k
 rw [List.filterMap_map] at this
 have e2 : ((λ x => xs[x]?) ∘ λ x => i + x) = λ m => xs[i + m]? := rfl
 rw [e2] at this
 rw [this]
theorem getItem_tuple_cut {t sl : Addr} {items : Array Value} {vl vu : Value} {lo hi : Option Int} {Q : Value -> Shared -> Prop} (ht : IsTup s.heap t items) (hs : s.heap.IsSliceOf sl vl vu .none) (pl : IsPart vl lo) (pu : IsPart vu hi)
  (hw : ¬ (sIx items.size 0 lo = 0 /\ sIx items.size items.size hi = items.size))
  (h : Q (.ref s.heap.objs.size) { s with heap := s.heap.push { cls := .type "tuple", data := .seq ((items.toList.drop (sIx items.size 0 lo)).take (sIx items.size items.size hi - sIx items.size 0 lo)).toArray } })
  (hsz : items.size <= sizeLine) : wpAny (model prog w) A (getItem (.ref t) (.ref sl)) Q E s := by
 have htake : sizeOk (.seq ((items.toList.drop (sIx items.size 0 lo)).take (sIx items.size items.size hi - sIx items.size 0 lo)).toArray) := by
  show ((items.toList.drop (sIx items.size 0 lo)).take (sIx items.size items.size hi - sIx items.size 0 lo)).toArray.size <= sizeLine
  rw [List.size_toArray, List.length_take, List.length_drop, Array.length_toList]
  omega
 have hj : sIx items.size items.size hi <= items.size := z3S _ _ (Nat.le_refl _) hi
 obtain ⟨os, hos, hcs, hds⟩ := id hs
 have hTs : s.TypeIs (.ref sl) "slice" := ⟨os, hos, hcs⟩
 unfold getItem
 try with_reducible refine wpAny_holding ?_
 first | refine wpAny_bind (wpAny_pure ?_) | skip
 refine wpAny_bind (wpAny_sequenceKey ht.typeIs (by decide) ?_)
 refine wpAny_bind (wpAny_callSpecial?_slot (name := Str.ofString "__getitem__") ht.typeIs PyProof.Rows.slot_tuple_getitem
  (wpAny_call_entry PyProof.Rows.slot_tuple_getitem ht.typeIs entry_tuple_getitem ?_ (args_tuple_getitem _ _)))
 show wpAny _ _ (Builtin.Tuple.tupleItemsOf (.ref t) >>= _) _ _ s
 refine wpAny_bind (tupleItemsOf_ ht ?_)
 refine wpAny_bind (wpAny_typeOf hTs ?_)
 rw [if_pos (by decide)]
 refine wpAny_bind (q3n hs pl pu ?_)
 have hno : ¬ ((((sIx items.size 0 lo : Nat) : Int) == 0 && (1 : Int) == 1 && (sIx items.size items.size hi - sIx items.size 0 lo) == items.size) = true) := by
  intro q
  rw [Bool.and_eq_true, Bool.and_eq_true] at q
  have q1 : ((sIx items.size 0 lo : Nat) : Int) = 0 := eq_of_beq q.1.1
  have q2 : sIx items.size items.size hi - sIx items.size 0 lo = items.size := eq_of_beq q.2
  exact hw ⟨by omega, by omega⟩
 show wpAny _ _ (if (((sIx items.size 0 lo : Nat) : Int) == 0 && (1 : Int) == 1 && (sIx items.size items.size hi - sIx items.size 0 lo) == items.size) = true then _ else _) _ _ s
 rw [if_neg hno, q9W]
 first
  | exact wpAny_bind (m := Builtin.Tuple.tupleExact _) (wpAny_newObj_type (wpAny_pure ⟨_, rfl, wpAny_pure h⟩) htake)
  | exact wpAny_bind (m := Builtin.Tuple.tupleExact _) (wpAny_newObj_type (wpAny_bind (wpAny_pure (wpAny_pure ⟨_, rfl, wpAny_pure h⟩))) htake)
  | exact wpAny_bind (wpAny_bind (m := Builtin.Tuple.tupleExact _) (wpAny_newObj_type (wpAny_pure (wpAny_pure ⟨_, rfl, wpAny_pure h⟩)) htake))
  | exact wpAny_bind (wpAny_bind (m := Builtin.Tuple.tupleExact _) (wpAny_newObj_type (wpAny_pure ⟨_, rfl, wpAny_pure h⟩) htake))
end
end HT
namespace L2
open PySem PySem.Spec PyProof.Rows
noncomputable abbrev TO := St -> Hp -> (Option Int -> Hp -> Prop) -> Prop
noncomputable def PO (X : Cx) (e : Option Expr) (t : TO) : Prop :=
 ∀ (pins : List (Addr × Obj)) (s : Shared) (σ : St) (H : Hp) (Q : Option Int -> Hp -> Prop), Inv X pins σ H s -> t σ H Q ->
  wpAny (model X.prog X.w) X.A (evalPart e X.env) (λ u s' => ∃ o H', Inv X pins σ H' s' /\ IsPart u o /\ Q o H') X.xe s
noncomputable def z5B (t : TE) : TO := λ σ H Q => t σ H λ x H1 => ∃ i, x = .int i /\ Q (some i) H1
section
variable {X : Cx} {e : Expr} {te : TE} {lo hi : Option Expr} {tl th : TO} {pos p2 : Pos}
theorem q8q (h : PE X e te) : PO X (some e) (z5B te) := by
 intro pins s σ H Q I hw
 rw [evalPart_some]
 refine thn (h pins s σ H _ I hw) λ u s1 ⟨x, H1, I1, r1, q1⟩ => ?_
 obtain ⟨i, rfl, q⟩ := q1
 obtain ⟨t, rfl⟩ := r1
 exact ⟨some i, H1, I1, .int i t, q⟩
noncomputable def SlR (X : Cx) (r : V -> Option Int -> Option Int -> Hp -> VK -> Prop) : Prop :=
 ∀ (pins : List (Addr × Obj)) (s : Shared) (σ : St) (H : Hp) (x : V) (v vl vu : Value) (lo hi : Option Int) (sl : Addr) (Q : VK), Inv X pins σ H s -> RelV x v -> s.heap.IsSliceOf sl vl vu .none -> IsPart vl lo -> IsPart vu hi -> r x lo hi H Q ->
  ∃ T id, typeLookup (.type T) "__getitem__" = pure (some (.builtin id)) /\ s.TypeIs v T /\ wpAny (model X.prog X.w) X.A (getItem v (.ref sl)) (EP X pins σ Q) X.xe s
theorem SlR.or {r r' : V -> Option Int -> Option Int -> Hp -> VK -> Prop} (h : SlR X r) (h' : SlR X r') : SlR X (λ x lo hi H Q => r x lo hi H Q \/ r' x lo hi H Q) := by
 intro pins s σ H x v vl vu lo hi sl Q I rx hs pl pu q
 rcases q with q | q
 ·exact h pins s σ H x v vl vu lo hi sl Q I rx hs pl pu q
 ·exact h' pins s σ H x v vl vu lo hi sl Q I rx hs pl pu q
noncomputable def tSl (r : V -> Option Int -> Option Int -> Hp -> VK -> Prop) (te : TE) (tl th : TO) : TE := λ σ H Q => te σ H λ x H1 => tl σ H1 λ l H2 => th σ H2 λ u H3 => r x l u H3 Q
theorem q3v {r : V -> Option Int -> Option Int -> Hp -> VK -> Prop} (hr : SlR X r) (he : PE X e te) (hl : PO X lo tl) (hu : PO X hi th) : PE X (.Subscript e (.Slice lo hi none p2) pos) (tSl r te tl th) := by
 intro pins s σ H Q I h
 refine Subscript_ (thn (he pins s σ H _ I h) λ v s1 ⟨x, H1, I1, r1, q1⟩ => ?_)
 refine wpAny_Slice (thn (hl pins s1 σ H1 _ I1 q1) λ vl s2 ⟨l, H2, I2, pl, q2⟩ => thn (hu pins s2 σ H2 _ I2 q2) λ vu s3 ⟨u, H3, I3, pu, q3⟩ => ?_)
 rw [evalPart_none]
 refine wpAny_pure ?_
 have I4 : Inv X pins σ H3 { s3 with heap := s3.heap.push { cls := .type "slice", data := .fields #[vl, vu, .none] } } := I3.kept (t' := s3.toks) λ b ob q => Heap.get?_push_of_some _ q
 obtain ⟨T, id, hT, ht, hg⟩ := hr pins { s3 with heap := s3.heap.push { cls := .type "slice", data := .fields #[vl, vu, .none] } } σ H3 x v vl vu l u s3.heap.objs.size Q I4 r1 (Heap.IsSliceOf.new ..) pl pu q3
 show wpAny (model X.prog X.w) X.A (subscriptTail e (.Slice lo hi none p2) v (.ref s3.heap.objs.size)) (EP X pins σ Q) X.xe { s3 with heap := s3.heap.push { cls := .type "slice", data := .fields #[vl, vu, .none] } }
 exact tail_any (ops := [.ref s3.heap.objs.size, v]) ht hT hg (by with_unfolding_all rfl)
noncomputable def cutV (xs : List V) (lo hi : Option Int) : List V := (xs.drop (HT.sIx xs.length 0 lo)).take (HT.sIx xs.length xs.length hi - HT.sIx xs.length 0 lo)
theorem q3T (xs : List V) (lo hi : Option Int) : (cutV xs lo hi).length <= xs.length := by
 unfold cutV
 rw [List.length_take, List.length_drop]
 omega
noncomputable def rSlT (K : PySem.W.Frag) : V -> Option Int -> Option Int -> Hp -> VK -> Prop := λ x lo hi H Q => ∃ a xs, x = .ref a /\ SqT K H a xs /\
 ¬ (HT.sIx xs.length 0 lo = 0 /\ HT.sIx xs.length xs.length hi = xs.length) /\ ∀ p, H p = none -> Q (.ref p) (upd H p (.tup (cutV xs lo hi)))
theorem z4R : SlR X (rSlT X.K) := by
 intro pins s σ H x v vl vu lo hi sl Q I rx hs pl pu h
 obtain ⟨a, xs, rfl, hx, hw, q⟩ := h
 cases rx
 obtain ⟨its, r, ht, hz⟩ := I.tuple hx
 have hlen : its.toArray.size = xs.length := by rw [List.size_toArray]; exact r.length.symm
 refine ⟨"tuple", _, PyProof.Rows.slot_tuple_getitem.lookup, ht.typeIs, ?_⟩
 refine HT.getItem_tuple_cut ht hs pl pu (by rw [hlen]; exact hw) ?_ (by rw [hlen]; exact hz)
 rw [hlen]
 refine ⟨.ref s.heap.objs.size, _, I.laid (t' := s.toks) (o := .tup (cutV xs lo hi)) (λ b ob q => Heap.get?_push_of_some _ q) (Nat.le_refl _) ?_, rfl, q _ (I.hok.fresh (Nat.le_refl _))⟩
 exact ⟨Nat.le_trans (q3T xs lo hi) hz, _, (r.drop (HT.sIx xs.length 0 lo)).take (HT.sIx xs.length xs.length hi - HT.sIx xs.length 0 lo), q2M.new _ _⟩
end
end L2
namespace L2
open PySem PySem.Spec PyProof.Rows
noncomputable def ixN (n : Nat) (i : Int) : Option Nat := if 0 <= i then (if i < n then some i.toNat else none) else if -(n : Int) <= i then some (i + n).toNat else none
noncomputable def atI {α : Type} (xs : List α) (i : Int) : Option α := (ixN xs.length i).bind λ j => xs[j]?
theorem q8c {n : Nat} {i : Int} {j : Nat} (h : ixN n i = some j) : seqIndex? i n = some j /\ j < n /\ -(n : Int) <= i /\ i < n := by
 unfold ixN at h
 by_cases h0 : 0 <= i
 ·rw [if_pos h0] at h
  by_cases h1 : i < n
  ·rw [if_pos h1] at h
   have e : i.toNat = j := Option.some.inj h
   exact ⟨by rw [seqIndex_of h0 h1, e], by omega, by omega, h1⟩
  ·rw [if_neg h1] at h; cases h
 ·rw [if_neg h0] at h
  by_cases h1 : -(n : Int) <= i
  ·rw [if_pos h1] at h
   have e : (i + n).toNat = j := Option.some.inj h
   exact ⟨by rw [seqIndex_neg (by omega) h1, e], by omega, h1, by omega⟩
  ·rw [if_neg h1] at h; cases h
theorem q6e {α : Type} {xs : List α} {i : Int} {v : α} (h : atI xs i = some v) : ∃ j, seqIndex? i xs.length = some j /\ xs[j]? = some v /\ j < xs.length /\ -(xs.length : Int) <= i /\ i < xs.length := by
 unfold atI at h
 cases e : ixN xs.length i with
 | none => rw [e] at h; cases h
 | some j =>
  rw [e] at h
  obtain ⟨h1, h2, h3, h4⟩ := q8c e
  exact ⟨j, h1, h, h2, h3, h4⟩
noncomputable def z2p (b : Expr) : Prop := ∀ o i, subscripted b false o i = operate [o, i] (getItem o i)
noncomputable def IxR (X : Cx) (r : R2) : Prop :=
 ∀ (value slice : Expr) (pins : List (Addr × Obj)) (s : Shared) (σ : St) (H : Hp) (x y : V) (v u : Value) (Q : VK), Inv X pins σ H s -> RelV x v -> RelV y u -> r x y H Q ->
  subscripted slice false v u = operate [v, u] (getItem v u) -> wpAny (model X.prog X.w) X.A (subscriptTail value slice v u) (EP X pins σ Q) X.xe s
noncomputable def MtR (X : Cx) (id : String) (r : V -> List V -> Hp -> VK -> Prop) : Prop :=
 ∀ (pins : List (Addr × Obj)) (s : Shared) (σ : St) (H : Hp) (x : V) (xs : List V) (v : Value) (us : List Value) (Q : VK), Inv X pins σ H s -> RelV x v -> Vals xs us -> r x xs H Q ->
  wpAny (model X.prog X.w) X.A (call (.builtin id) (v :: us)) (EP X pins σ Q) X.xe s
section
variable {X : Cx} {a b : Expr} {ta tb : TE} {pos : Pos}
theorem IxR.or {r r' : R2} (h : IxR X r) (h' : IxR X r') : IxR X (λ x y H Q => r x y H Q \/ r' x y H Q) := by
 intro value slice pins s σ H x y v u Q I rx ry q hs
 rcases q with q | q
 ·exact h value slice pins s σ H x y v u Q I rx ry q hs
 ·exact h' value slice pins s σ H x y v u Q I rx ry q hs
theorem z4d {r : R2} (hr : IxR X r) (ha : PE X a ta) (hb : PE X b tb) (hs : z2p b) : PE X (.Subscript a b pos) (tOp r ta tb) := by
 intro pins s σ H Q I h
 exact Subscript_ (binT ha hb I h λ v u s2 x y H2 I2 rx ry q => hr a b pins s2 σ H2 x y v u Q I2 rx ry q (hs _ _))
noncomputable def rIxL (K : PySem.W.Frag) : R2 := λ x y H Q => ∃ p xs i v, x = .ref p /\ y = .int i /\ SqL K H p xs /\ atI xs i = some v /\ Q v H
noncomputable def rIxT (K : PySem.W.Frag) : R2 := λ x y H Q => ∃ p xs i v, x = .ref p /\ y = .int i /\ SqT K H p xs /\ atI xs i = some v /\ Q v H
noncomputable def rIxS : R2 := λ x y H Q => ∃ z i c, x = .str z /\ y = .int i /\ z.length <= sizeLine /\ atI z.cps.toList i = some c /\ Q (.str ⟨#[c]⟩) H
theorem q8t : IxR X (rIxL X.K) := by
 intro value slice pins s σ H x y v u Q I rx ry h hs
 obtain ⟨p, xs, i, z, rfl, rfl, hq, he, q⟩ := h
 cases rx
 obtain ⟨t, rfl⟩ := ry
 obtain ⟨its, r, pl, hz⟩ := I.list hq
 obtain ⟨j, h1, h2, h3, h4, h5⟩ := q6e he
 obtain ⟨w, ew, rw'⟩ := r.get h2
 have hl := r.length
 have hn := q3F
 have fin : EP X pins σ Q w s := ⟨z, H, I, rw', q⟩
 by_cases h0 : 0 <= i
 ·have hj : i.toNat = j := by
   rw [seqIndex_of h0 h5] at h1
   exact Option.some.inj h1
  exact item_listR pl.isList h0 (by omega) (by rw [hj]; simpa using ew) fin hs
 ·have hj : (i + (its.toArray.size : Int)).toNat = j := by
   rw [seqIndex_neg (by omega) h4] at h1
   rw [List.size_toArray, ← hl]
   exact Option.some.inj h1
  exact subscriptTail_builtinR (x := w) pl.isList.typeIs slot_list_getitem.lookup
   (wpAny_getItem_list_neg (Q := λ r s' => r = w /\ EP X pins σ Q r s') pl.isList (by omega) (by rw [List.size_toArray] <;> omega) (by omega) (by rw [hj]; simpa using ew) ⟨rfl, fin⟩) hs
theorem z4w : IxR X (rIxT X.K) := by
 intro value slice pins s σ H x y v u Q I rx ry h hs
 obtain ⟨p, xs, i, z, rfl, rfl, hq, he, q⟩ := h
 cases rx
 obtain ⟨t, rfl⟩ := ry
 obtain ⟨its, r, pl, hz⟩ := I.tuple hq
 obtain ⟨j, h1, h2, h3, h4, h5⟩ := q6e he
 obtain ⟨w, ew, rw'⟩ := r.get h2
 have hl := r.length
 have hn := q3F
 have fin : EP X pins σ Q w s := ⟨z, H, I, rw', q⟩
 exact subscriptTail_builtinR (x := w) pl.typeIs slot_tuple_getitem.lookup
  (getItem_tuple (j := j) (Q := λ r s' => r = w /\ EP X pins σ Q r s') pl (by omega) (by omega) (by rw [List.size_toArray, ← hl]; exact h1) (by simpa using ew) ⟨rfl, fin⟩) hs
theorem z5l : IxR X rIxS := by
 intro value slice pins s σ H x y v u Q I rx ry h hs
 obtain ⟨z, i, c, rfl, rfl, hz, he, q⟩ := h
 obtain ⟨t, rfl⟩ := rx
 obtain ⟨t', rfl⟩ := ry
 obtain ⟨j, h1, h2, h3, h4, h5⟩ := q6e he
 have hl : z.cps.toList.length = z.length := by simp [Str.length]
 rw [hl] at h1 h4 h5
 have hn := q3F
 exact tail_any (typeIs_str s z t) slot_str_getitem.lookup (getItem_str (c := c) (by
  have e1 : decide (i < -(2 ^ 63 : Int)) = false := decide_eq_false (by omega)
  have e2 : decide (i ≥ 2 ^ 63) = false := decide_eq_false (by omega)
  rw [e1, e2, Bool.or_false]) (by rw [h1]; simpa using h2) ⟨.str ⟨#[c]⟩, H, I.tok _, ⟨_, rfl⟩, q⟩) hs
noncomputable def rIx (K : PySem.W.Frag) : R2 := λ x y H Q => rIxL K x y H Q \/ rIxT K x y H Q \/ rIxS x y H Q
theorem z5s : IxR X (rIx X.K) := q8t.or (z4w.or z5l)
theorem q7m (its : List Value) (n j : Nat) (u : Value) : Obj.mapSeq (·.setIfInBounds j u) { cls := .type "list", data := .seq its.toArray n } = { cls := .type "list", data := .seq (its.set j u).toArray n } := by
 simp [Obj.mapSeq]
theorem Inv.lst {pins : List (Addr × Obj)} {σ : St} {H : Hp} {s : Shared} {p : Addr} {xs : List V} (I : Inv X pins σ H s) (h : H p = some (.lst xs)) :
  ∃ (its : List Value) (n : Nat), Vals xs its /\ s.heap.get? p = some { cls := .type "list", data := .seq its.toArray n } /\ xs.length <= sizeLine := by
 obtain ⟨z, its, n, r, e⟩ := I.hok p _ h
 exact ⟨its, n, r, e, z⟩
theorem Inv.lstUpd {pins : List (Addr × Obj)} {σ : St} {H : Hp} {s : Shared} {p : Addr} {xs ys : List V} {its its' : List Value} {n n' : Nat} {f : Obj -> Obj} (I : Inv X pins σ H s) (h : H p = some (.lst xs))
  (ho : s.heap.get? p = some { cls := .type "list", data := .seq its.toArray n }) (hf : f { cls := .type "list", data := .seq its.toArray n } = { cls := .type "list", data := .seq its'.toArray n' }) (r : Vals ys its') (hz : ys.length <= sizeLine) (t : Nat) :
  Inv X pins σ (upd H p (.lst ys)) { s with heap := s.heap.update p f, toks := t } := by
 have e : (s.heap.update p f).get? p = some { cls := .type "list", data := .seq its'.toArray n' } := by
  rw [Heap.get?_update_self f ho (by rw [hf] <;> rfl), hf]
 refine I.write (x := p) (e := p) (by rw [h]; trivial) (.inl rfl) (λ b u hb q => (Heap.get?_update_other _ _ (Ne.symm hb)).trans q) ⟨_, e⟩ ?_
 exact ⟨hz, its', n', r, e⟩
noncomputable def z5G : V -> V -> V -> Hp -> (Hp -> Prop) -> Prop := λ o i v H Q => ∃ p xs k j, o = .ref p /\ i = .int k /\ H p = some (.lst xs) /\ ixN xs.length k = some j /\ Q (upd H p (.lst (xs.set j v)))
theorem z0H : PSet X z5G := by
 intro pins s σ H o i v ov iv u Q I ro ri rv h
 obtain ⟨p, xs, k, j, rfl, rfl, hp, hj, q⟩ := h
 cases ro
 obtain ⟨t, rfl⟩ := ri
 obtain ⟨its, n, r, ho, hz⟩ := I.lst hp
 obtain ⟨h1, h2, h3, h4⟩ := q8c hj
 have hl := r.length
 have hn := q3F
 have I' : Inv X pins σ (upd H p (.lst (xs.set j v))) { s with heap := s.heap.update p (Obj.mapSeq (·.setIfInBounds j u)) } :=
  I.lstUpd hp ho (q7m its n j u) (r.set rv j) (by rw [List.length_set]; exact hz) s.toks
 by_cases h0 : 0 <= k
 ·have hk : k.toNat = j := by
   rw [seqIndex_of h0 h4] at h1
   exact Option.some.inj h1
  exact PySem.W.ki_setAt ho h0 (by omega) (by rw [List.size_toArray, ← hl]; exact h4) (by rw [hk]; exact ⟨_, I', q⟩)
 ·have hk : (k + (its.toArray.size : Int)).toNat = j := by
   rw [seqIndex_neg (by omega) h3] at h1
   rw [List.size_toArray, ← hl]
   exact Option.some.inj h1
  exact PySem.W.ki_setBack ho (by omega) (by rw [List.size_toArray, ← hl]; exact h3) (by omega) (by rw [hk]; exact ⟨_, I', q⟩)
theorem q5B (lo hi : Option Int) (n : Nat) : (sliceBounds lo hi none n).1 = ((HT.sIx n 0 lo : Nat) : Int) /\ (sliceBounds lo hi none n).2.1 = ((HT.sIx n n hi : Nat) : Int) /\ (sliceBounds lo hi none n).2.2 = 1 := by
 refine ⟨?_, ?_, rfl⟩
 ·cases lo with
  | none => simp [sliceBounds, HT.sIx]
  | some i =>
   simp only [sliceBounds, HT.sIx, Option.getD_none, show (1 : Int) > 0 by decide, if_true]
   by_cases h : i < 0
   ·simp only [h, if_true] <;> omega
   ·simp only [h, if_false] <;> omega
 ·cases hi with
  | none => simp [sliceBounds, HT.sIx]
  | some i =>
   simp only [sliceBounds, HT.sIx, Option.getD_none, show (1 : Int) > 0 by decide, if_true]
   by_cases h : i < 0
   ·simp only [h, if_true] <;> omega
   ·simp only [h, if_false] <;> omega
theorem q4t (its : List Value) (lo hi : Option Int) : slicePick its.toArray lo hi none = ((its.drop (HT.sIx its.length 0 lo)).take (HT.sIx its.length its.length hi - HT.sIx its.length 0 lo)).toArray := by
 obtain ⟨h1, h2, h3⟩ := q5B lo hi its.toArray.size
 unfold slicePick
 rw [h1, h2, h3]
 simp only [sliceRange_one, pick_run, List.size_toArray] <;> rfl
noncomputable def rSlL (K : PySem.W.Frag) : V -> Option Int -> Option Int -> Hp -> VK -> Prop := λ x lo hi H Q => ∃ a xs, x = .ref a /\ SqL K H a xs /\ ∀ p, H p = none -> Q (.ref p) (upd H p (.lst (cutV xs lo hi)))
theorem z2V : SlR X (rSlL X.K) := by
 intro pins s σ H x v vl vu lo hi sl Q I rx hs pl pu h
 obtain ⟨a, xs, rfl, hx, q⟩ := h
 cases rx
 obtain ⟨its, r, ht, hz⟩ := I.list hx
 have hlen := r.length
 refine ⟨"list", _, slot_list_getitem.lookup, ht.isList.typeIs, ?_⟩
 refine wpAny_getItem_list_slice ht.isList hs pl pu .none (by simp) ?_ (by rw [List.size_toArray] <;> omega)
 rw [q4t, ← hlen]
 refine ⟨.ref s.heap.objs.size, _, I.laid (t' := s.toks) (o := .lst (cutV xs lo hi)) (λ b ob q => Heap.get?_push_of_some _ q) (Nat.le_refl _) ?_, rfl, q _ (I.hok.fresh (Nat.le_refl _))⟩
 exact ⟨Nat.le_trans (q3T xs lo hi) hz, _, 0, (r.drop (HT.sIx xs.length 0 lo)).take (HT.sIx xs.length xs.length hi - HT.sIx xs.length 0 lo), Heap.get?_push_size _ rfl⟩
theorem q2g : q1D X (.builtin "len") (λ xs H Q => ∃ p ys, xs = [.ref p] /\ (SqL X.K H p ys \/ SqT X.K H p ys) /\ Q (.int ys.length) H) := by
 intro pins s σ H xs us Q I r h
 obtain ⟨p, ys, rfl, hq, q⟩ := h
 obtain ⟨u, rfl, rx⟩ := q5C r
 cases rx
 have hn := q3F
 rcases hq with hq | hq
 ·obtain ⟨its, r', pl, hz⟩ := I.list hq
  have hlen := r'.length
  exact Calls.call_len_list pl.isList (by simp only [List.size_toArray] <;> omega) ⟨.int ys.length, H, I.tok _, ⟨s.toks + 1, by rw [List.size_toArray, hlen]⟩, q⟩
 ·obtain ⟨its, r', pl, hz⟩ := I.tuple hq
  have hlen := r'.length
  exact len_tuple pl (by simp only [List.size_toArray] <;> omega) ⟨.int ys.length, H, I.tok _, ⟨s.toks + 1, by rw [List.size_toArray, hlen]⟩, q⟩
theorem q5M : q1D X (.builtin "len") (λ xs H Q => ∃ z, xs = [.str z] /\ z.length <= sizeLine /\ Q (.int z.length) H) := by
 intro pins s σ H xs us Q I r h
 obtain ⟨z, rfl, hz, q⟩ := h
 obtain ⟨u, rfl, t, rfl⟩ := q5C r
 have hn := q3F
 exact len_str (by omega) ⟨.int z.length, H, I.tok _, ⟨_, rfl⟩, q⟩
theorem q2c : q1D X (.type "list") (λ xs H Q => ∃ p ys, xs = [.ref p] /\ (SqL X.K H p ys \/ SqT X.K H p ys) /\ ∀ l, H l = none -> Q (.ref l) (upd H l (.lst ys))) := by
 intro pins s σ H xs us Q I r h
 obtain ⟨p, ys, rfl, hq, q⟩ := h
 obtain ⟨u, rfl, rx⟩ := q5C r
 cases rx
 have fin : ∀ (its : List Value), Vals ys its -> ys.length <= sizeLine -> ∀ (h' : Heap) (c' : Nat), (∀ b o', s.heap.get? b = some o' -> h'.get? b = some o') ->
   h'.get? s.heap.objs.size = some { cls := .type "list", dict := none, data := .seq its.toArray c', slots := #[] } -> EP X pins σ Q (.ref s.heap.objs.size) { s with heap := h' } := λ its r' hz h' c' kp e =>
  ⟨.ref s.heap.objs.size, _, I.laid (t' := s.toks) kp (Nat.le_refl _) (show q1X X.prog X.w _ h' _ (.lst ys) from ⟨hz, its, c', r', e⟩), rfl, q _ (I.hok.fresh (Nat.le_refl _))⟩
 rcases hq with hq | hq
 ·obtain ⟨its, r', pl, hz⟩ := I.list hq
  have hlen := r'.length
  obtain ⟨o, ho, hc, n, hd⟩ := pl.isList
  exact call_list_seq p (.inl rfl) ho hc hd (λ h' c' kp e => fin its r' hz h' c' kp e) (by simp only [List.size_toArray] <;> omega)
 ·obtain ⟨its, r', pl, hz⟩ := I.tuple hq
  have hlen := r'.length
  obtain ⟨o, ho, hc, n, hd⟩ := pl
  exact call_list_seq p (.inr rfl) ho hc hd (λ h' c' kp e => fin its r' hz h' c' kp e) (by simp only [List.size_toArray] <;> omega)
theorem q2N : q1D X (.type "tuple") (λ xs H Q => ∃ p ys, xs = [.ref p] /\ ((SqL X.K H p ys /\ ∀ l, H l = none -> Q (.ref l) (upd H l (.tup ys))) \/ (SqT X.K H p ys /\ Q (.ref p) H))) := by
 intro pins s σ H xs us Q I r h
 obtain ⟨p, ys, rfl, h⟩ := h
 obtain ⟨u, rfl, rx⟩ := q5C r
 cases rx
 rcases h with ⟨hq, q⟩ | ⟨hq, q⟩
 ·obtain ⟨its, r', pl, hz⟩ := I.list hq
  have hlen := r'.length
  refine call_tuple_list pl.isList (λ h' kp => ?_) (by simp only [List.size_toArray] <;> omega)
  have I1 : Inv X pins σ H { s with heap := h' } := I.kept (t' := s.toks) kp
  have I2 : Inv X pins σ (upd H h'.objs.size (.tup ys)) { s with heap := h'.push { cls := .type "tuple", data := .seq its.toArray } } :=
   I1.laid (t' := s.toks) (λ b o e => Heap.get?_push_of_some _ e) (Nat.le_refl _) (show q1X X.prog X.w _ _ _ (.tup ys) from ⟨hz, its, r', q2M.new _ _⟩)
  exact ⟨.ref h'.objs.size, _, I2, rfl, q _ (I1.hok.fresh (Nat.le_refl _))⟩
 ·obtain ⟨its, r', pl, hz⟩ := I.tuple hq
  exact call_tuple_same pl ⟨.ref p, H, I, rfl, q⟩
noncomputable def tyV (K : PySem.W.Frag) (T : String) (x : V) (H : Hp) : Prop := match x with
 | .str _ => T = "str"
 | .int _ => T = "int"
 | .ref p => (T = "list" /\ ∃ xs, SqL K H p xs) \/ (T = "tuple" /\ ∃ o, K.lookup p = some o /\ o.cls = .type "tuple" /\ o.dict = none) \/
   (T = "dict" /\ ((∃ kvs, H p = some (.dK kvs)) \/ ∃ kvs, H p = some (.dT kvs))) \/ (T = "set" /\ ∃ S n, H p = some (.set S n))
 | _ => False
theorem z1k {pins : List (Addr × Obj)} {σ : St} {H : Hp} {s : Shared} {T : String} {x : V} {v : Value} (I : Inv X pins σ H s) (r : RelV x v) (ty : tyV X.K T x H) :
  s.TypeIs v T /\ ∀ a, v = .ref a -> ∃ ob, s.heap.get? a = some ob /\ ob.dict = none := by
 cases x with
 | str z =>
  obtain ⟨t, rfl⟩ := r
  cases (show T = "str" from ty)
  exact ⟨typeIs_str s z t, λ _ e => nomatch e⟩
 | int i =>
  obtain ⟨t, rfl⟩ := r
  cases (show T = "int" from ty)
  exact ⟨typeIs_int s i t, λ _ e => nomatch e⟩
 | ref p =>
  cases r
  rcases ty with ⟨rfl, xs, hq⟩ | ⟨rfl, o, hk, hc, hd⟩ | ⟨rfl, hk⟩ | ⟨rfl, S, n, hk⟩
  ·obtain ⟨its, _, pl, _⟩ := I.list hq
   refine ⟨pl.isList.typeIs, λ a e => ?_⟩
   cases e
   obtain ⟨o, n, e, c, hd, _⟩ := pl
   exact ⟨o, e, hd⟩
  ·refine ⟨⟨o, I.kIn p o hk, hc⟩, λ a e => ?_⟩
   cases e
   exact ⟨o, I.kIn _ o hk, hd⟩
  ·have z : ∃ o, s.heap.get? p = some o /\ o.ExactDict := by
    rcases hk with ⟨kvs, hk⟩ | ⟨kvs, hk⟩
    ·obtain ⟨_, _, _, _, o, _, _, e, ex, _⟩ := I.hok p _ hk
     exact ⟨o, e, ex⟩
    ·obtain ⟨_, _, _, _, o, _, _, e, ex, _⟩ := I.hok p _ hk
     exact ⟨o, e, ex⟩
   obtain ⟨o, e, ex⟩ := z
   refine ⟨⟨o, e, ex.1⟩, λ a e2 => ?_⟩
   cases e2
   exact ⟨o, e, ex.2.1⟩
  ·obtain ⟨o, _, _, _, e, ex, _⟩ := I.hok p _ hk
   refine ⟨⟨o, e, ex.1⟩, λ a e2 => ?_⟩
   cases e2
   exact ⟨o, e, ex.2.1⟩
 | _ => exact False.elim ty
noncomputable def tBM0 (K : PySem.W.Frag) (T : String) (r : V -> List V -> Hp -> VK -> Prop) (to : TE) : TE := λ σ H Q => to σ H λ x H1 => tyV K T x H1 /\ r x [] H1 Q
noncomputable def tBM (K : PySem.W.Frag) (T : String) (r : V -> List V -> Hp -> VK -> Prop) (to : TE) (t : TA) : TE := λ σ H Q => to σ H λ x H1 => tyV K T x H1 /\ t σ H1 λ xs H2 => r x xs H2 Q
variable {o e : Expr} {es : List Expr} {to : TE} {t : TA} {name : Str} {apos cpos : Pos} {T id : String} {r : V -> List V -> Hp -> VK -> Prop}
theorem z4u (pa : PlainAttrs T) (slot : Slot T name id) (hty : typeOf (.builtin id) = pure (.type "method_descriptor")) (hm : MtR X id r) (ho : PE X o to)
  (hbase : attributeBase o name X.env (eval o X.env) = eval o X.env := by rfl) (hline : (apos.endLine == cpos.line) = true := by rfl) : PE X (.Call (.Attribute o name apos) [] [] cpos) (tBM0 X.K T r to) := by
 intro pins s σ H Q I h
 refine wpAny_Call_method0_late hbase hline (thn (ho pins s σ H _ I h) λ v s1 ⟨x, H1, I1, r1, ty, q1⟩ => ?_)
 obtain ⟨h1, h2⟩ := z1k I1 r1 ty
 exact ⟨T, id, pa, slot, hty, h1, h2, Calls.callWith_builtin rfl (PySem.evalArgs_none (hm pins s1 σ H1 x [] v [] Q I1 r1 .nil q1))⟩
theorem z2K (pa : PlainAttrs T) (slot : Slot T name id) (hty : typeOf (.builtin id) = pure (.type "method_descriptor")) (hm : MtR X id r) (ho : PE X o to) (ha : PA X (e :: es) t)
  (hbase : attributeBase o name X.env (eval o X.env) = eval o X.env := by rfl)
  (hfew : ((backTo cpos (starEach (e :: es) X.env)).all (λ x => !x.1) && (backToKw cpos (keywordEach [] X.env)).all (λ x => x.1.isSome)
   && decide ((e :: es).length + ([] : List Keyword).length + (if ([] : List Keyword).isEmpty then 0 else 1) < 30)) = true := by rfl)
  (hline : (apos.endLine == cpos.line) = true := by rfl) (hs : starEach (e :: es) X.env = (false, eval e X.env) :: starEach es X.env := by rfl) (hplain : (backTo cpos (starEach es X.env)).any (·.1) = false := by rfl) :
  PE X (.Call (.Attribute o name apos) (e :: es) [] cpos) (tBM X.K T r to t) := by
 intro pins s σ H Q I h
 refine wpAny_Call_method_late hbase hfew hline rfl (thn (ho pins s σ H _ I h) λ v s1 ⟨x, H1, I1, r1, ty, q1⟩ => ?_)
 obtain ⟨h1, h2⟩ := z1k I1 r1 ty
 refine ⟨T, id, pa, slot, hty, h1, h2, ?_⟩
 have hA := ha cpos pins s1 σ H1 _ I1 q1
 rw [hs] at hA ⊢
 refine Calls.callWith_builtin (by show (false || (backTo cpos (starEach es X.env)).any (·.1)) = false; rw [hplain] <;> rfl) (Calls.evalArgs_plain ?_)
 exact thn hA λ us s2 ⟨vs, H2, I2, r2, q2⟩ => hm pins s2 σ H2 x vs v us Q I2 r1 r2 q2
end
end L2
namespace L2
open PySem PySem.Spec PyProof.Rows
noncomputable def MtM (X : Cx) (id : String) (r : V -> List V -> Hp -> VK -> Prop) : Prop :=
 ∀ (pins : List (Addr × Obj)) (s : Shared) (σ : St) (H : Hp) (x : V) (xs : List V) (v : Value) (us : List Value) (Q : VK), Inv X pins σ H s -> RelV x v -> Vals xs us -> r x xs H Q ->
  wpAny (model X.prog X.w) X.A (call (.builtin id) (v :: us)) (EP X pins σ Q) X.xe s
theorem Vals.unc {x : V} {xs : List V} {us : List Value} (h : Vals (x :: xs) us) : ∃ u ws, us = u :: ws /\ RelV x u /\ Vals xs ws := by
 cases h with
 | cons r t => exact ⟨_, _, rfl, r, t⟩
theorem Vals.nl {us : List Value} (h : Vals [] us) : us = [] := by cases h; rfl
theorem Vals.one {x : V} {us : List Value} (h : Vals [x] us) : ∃ u, us = [u] /\ RelV x u := by
 obtain ⟨u, ws, rfl, r, t⟩ := h.unc
 cases t.nl
 exact ⟨_, rfl, r⟩
theorem Vals.two {x y : V} {us : List Value} (h : Vals [x, y] us) : ∃ u v, us = [u, v] /\ RelV x u /\ RelV y v := by
 obtain ⟨u, ws, rfl, r, t⟩ := h.unc
 obtain ⟨v, rfl, q⟩ := t.one
 exact ⟨_, _, rfl, r, q⟩
theorem Vals.rep {xs : List V} {us : List Value} (h : Vals xs us) : ∀ k : Nat, Vals (List.replicate k xs).flatten (List.replicate k us).flatten
 | 0 => .nil
 | k + 1 => by
  rw [List.replicate_succ, List.replicate_succ, List.flatten_cons, List.flatten_cons]
  exact Vals.append h (Vals.rep h k)
theorem q5J (its : List Value) : ∀ (k : Nat) (acc : List Value),
  List.foldl (λ x1 x2 => x1 ++ x2) acc.toArray (List.replicate k its.toArray) = (acc ++ (List.replicate k its).flatten).toArray
 | 0, acc => by simp
 | k + 1, acc => by
  have e : acc.toArray ++ its.toArray = (acc ++ its).toArray := by simp
  have e2 : (acc ++ its) ++ (List.replicate k its).flatten = acc ++ (List.replicate (k + 1) its).flatten := by
   rw [List.replicate_succ, List.flatten_cons, List.append_assoc]
  rw [← e2, ← q5J its k (acc ++ its), ← e, List.replicate_succ, List.foldl_cons]
section
variable {X : Cx} {pins : List (Addr × Obj)} {σ : St} {H : Hp} {s : Shared} {l b : Addr} {xs ys zs : List V}
theorem Inv.lset {its its' : List Value} {n : Nat} {f : Array Value -> Array Value} {t' : Nat} (I : Inv X pins σ H s) (hH : H l = some (.lst xs))
  (e : s.heap.get? l = some { cls := .type "list", data := .seq its.toArray n }) (hf : f its.toArray = its'.toArray) (hv : Vals ys its') (hz : ys.length <= sizeLine) :
  Inv X pins σ (upd H l (.lst ys)) { s with heap := s.heap.update l (Obj.mapSeq f), toks := t' } := by
 have q := PySem.IsL.update e f
 rw [hf] at q
 refine I.write (x := l) (e := l) (by rw [hH]; exact trivial) (.inl rfl) (λ b' u hb hu => (Heap.get?_update_other s.heap (Obj.mapSeq f) (Ne.symm hb)).trans hu) ⟨_, q⟩ ?_
 exact ⟨hz, its', _, hv, q⟩
theorem Inv.lnew {its : List Value} {t' : Nat} (I : Inv X pins σ H s) (hv : Vals ys its) (hz : ys.length <= sizeLine) :
  Inv X pins σ (upd H s.heap.objs.size (.lst ys)) { s with heap := s.heap.push { cls := .type "list", data := .seq its.toArray }, toks := t' } :=
 I.laid (λ _ _ q => Heap.get?_push_of_some _ q) (Nat.le_refl _) ⟨hz, its, 0, hv, Heap.get?_push_size _ rfl⟩
theorem Inv.fresh (I : Inv X pins σ H s) : H s.heap.objs.size = none := I.hok.fresh (Nat.le_refl _)
theorem Inv.lstM (I : Inv X pins σ H s) (hH : H l = some (.lst xs)) : xs.length <= sizeLine /\ ∃ (its : List Value) (n : Nat), Vals xs its /\ xs.length = its.length /\ s.heap.get? l = some { cls := .type "list", data := .seq its.toArray n } := by
 obtain ⟨z, its, n, r, e⟩ := I.hok l _ hH
 exact ⟨z, its, n, r, r.length, e⟩
theorem q9N {n : Nat} (h : n <= sizeLine) : Builtin.List.listTooLong n = false := by
 unfold Builtin.List.listTooLong
 exact decide_eq_false (by omega)
end
section
variable {X : Cx}
noncomputable def z2t : V -> List V -> Hp -> VK -> Prop := λ x vs H Q => ∃ l xs y, x = .ref l /\ vs = [y] /\ H l = some (.lst xs) /\ xs.length < sizeLine /\ Q .non (upd H l (.lst (xs ++ [y])))
theorem q3C : MtM X "list.append" z2t := by
 intro pins s σ H x vs v us Q I rx rv h
 obtain ⟨l, xs, y, rfl, rfl, hH, hz, q⟩ := h
 cases rx
 obtain ⟨u, rfl, ru⟩ := rv.one
 obtain ⟨z, its, n, r, hl, e⟩ := I.lstM hH
 refine call_meets F.slot_list_append ⟨_, e, rfl⟩ F.entry_list_append (F.args_list_append_2 _ _) (PySem.list_append l its.toArray n u (by rw [List.size_toArray]; omega)) ⟨e, ?_⟩
 refine ⟨.non, _, I.lset (its' := its ++ [u]) hH e (by simp) (r.append (.cons ru .nil)) ?_, rfl, q⟩
 rw [List.length_append, List.length_singleton]
 omega
noncomputable def rCat : R2 := λ x y H Q => ∃ l b xs zs, x = .ref l /\ y = .ref b /\ H l = some (.lst xs) /\ H b = some (.lst zs) /\ xs.length + zs.length <= sizeLine /\ ∀ p, H p = none -> Q (.ref p) (upd H p (.lst (xs ++ zs)))
theorem z3G : OpR X (binaryOp .Add) rCat := by
 intro pins s σ H x y v u Q I rx ry h
 obtain ⟨l, b, xs, zs, rfl, rfl, hH, hB, hz, q⟩ := h
 cases rx
 cases ry
 obtain ⟨z, its, n, r, hl, e⟩ := I.lstM hH
 obtain ⟨z2, its2, n2, r2, hl2, e2⟩ := I.lstM hB
 refine PySem.P.add_list e e2 ?_ (by rw [List.size_toArray, List.size_toArray]; omega)
 have ea : its.toArray ++ its2.toArray = (its ++ its2).toArray := by simp
 rw [ea]
 exact ⟨.ref _, _, I.lnew (t' := s.toks) (r.append r2) (by rw [List.length_append]; omega), rfl, q _ I.fresh⟩
noncomputable def rRep : R2 := λ x y H Q => ∃ l k xs, x = .ref l /\ y = .int k /\ H l = some (.lst xs) /\ -(2 ^ 63) <= k /\ k < 2 ^ 63 /\ xs.length * k.toNat <= sizeLine /\
 ∀ p, H p = none -> Q (.ref p) (upd H p (.lst (List.replicate k.toNat xs).flatten))
theorem z2u {α : Type} (xs : List α) (k : Nat) : (List.replicate k xs).flatten.length = k * xs.length := by
 induction k with
 | zero => simp
 | succ k ih => rw [List.replicate_succ, List.flatten_cons, List.length_append, ih, Nat.succ_mul, Nat.add_comm]
theorem z3C : OpR X (binaryOp .Mult) rRep := by
 intro pins s σ H x y v u Q I rx ry h
 obtain ⟨l, k, xs, rfl, rfl, hH, h1, h2, hz, q⟩ := h
 cases rx
 obtain ⟨t, rfl⟩ := ry
 obtain ⟨z, its, n, r, hl, e⟩ := I.lstM hH
 have hlen : its.toArray.size * k.toNat <= sizeLine := by rw [List.size_toArray, ← hl]; exact hz
 have hcap : ¬ its.toArray.size * k.toNat > (2 ^ 63 - 1) / 8 := by
  have : (sizeLine : Nat) <= (2 ^ 63 - 1) / 8 := by decide
  omega
 have hfit : ¬ (!Builtin.List.listFitsIndex k) = true := by
  rw [fitsIndex_both h1 h2]
  exact Bool.false_ne_true
 have hlong : ¬ Builtin.List.listTooLong (its.toArray.size * k.toNat) = true := by
  rw [q9N hlen]
  exact Bool.false_ne_true
 have hnew : List.foldl (λ x1 x2 => x1 ++ x2) #[] (List.replicate (if its.toArray.isEmpty = true then 0 else k.toNat) its.toArray) = (List.replicate k.toNat its).flatten.toArray := by
  have f0 : ∀ m : Nat, List.foldl (λ x1 x2 => x1 ++ x2) #[] (List.replicate m its.toArray) = (List.replicate m its).flatten.toArray := λ m => by
   have := q5J its m []
   rw [List.nil_append] at this
   exact this
  rw [f0]
  cases its with
  | nil => simp
  | cons a r' => rw [if_neg (by simp)]
 refine wpAny_binaryOp_repeat_ref (T := "list") (U := "int") (by decide) ⟨_, e, rfl⟩ (λ s' => typeIs_int s' k t) noFill_list_mul F.fills_int_mul F.slot_int_rmul repeat_list F.slot_int_index.lookup
  (call_meets F.slot_int_rmul (typeIs_int s k t) F.entry_int_rmul (F.args_int_rmul_2 _ _) (int___rmul___int_list k t l its.toArray n)
   ⟨e, rfl, ⟨_, e, rfl⟩, call_meets F.slot_list_mul ⟨_, e, rfl⟩ F.entry_list_mul (F.args_list_mul_2 _ _) (AutoListH.list___mul___list_int_3 l its.toArray n k t hfit hcap hlong) ⟨e, ?_⟩⟩)
 rw [hnew]
 exact ⟨.ref _, _, I.lnew (t' := s.toks) (r.rep k.toNat) (by rw [z2u, Nat.mul_comm]; exact hz), rfl, q _ I.fresh⟩
end
section
variable {prog : Program} {w : World} {A : Around} {E : Value -> Shared -> Prop} {s : Shared}
end
section
variable {X : Cx}
end
end L2
namespace Att
open PySem PySem.W PySem.Calls PyProof.Rows
theorem q3z {P : Params} {h : Heap} : ∀ (ns : List Int) (vs : List Value), WellAll P h vs (ns.map WData.int) -> IntsAre vs ns := by
 intro ns
 induction ns with
 | nil =>
  intro vs w
  rw [List.map_nil] at w
  cases w
  exact .nil
 | cons n ns ih =>
  intro vs w
  rw [List.map_cons] at w
  cases w with
  | cons a b =>
   cases a
   exact .cons _ _ (ih _ b)
theorem q8I {l : OpenLaw} {n : Nat} (hn : l.most = some n) {P : Params} {h : Heap} {args : List WData} {vals : List Value}
  (hpre : l.row.toRowW.claim.pre args = true) (hwl : WellAll P h vals args) :
  ∃ a vs ns, vals = [Value.ref a] /\ args = [WData.list (ns.map WData.int)] /\ h.get? a = some { cls := .type "list", data := .seq vs.toArray } /\ IntsAre vs ns /\ ns.length <= n := by
 have hsh : WShape.hasAll [] args [.list .int] = true := (pre_splitW hpre).1
 have hc : l.pre.holds [] { args := args } = true := (pre_splitW hpre).2
 obtain ⟨d, r, rfl, h1, h2⟩ := hasAllW_cons hsh
 obtain rfl := hasAllW_nil h2
 obtain ⟨xs, rfl, h3⟩ := hasW_list h1
 obtain ⟨ns, rfl⟩ := items_int h3
 have hlen : ns.length <= n := by
  unfold OpenLaw.pre at hc
  have h4 : (WTm.not (.lt (.lit (.int (n : Int))) (.len (.arg 0)))).holds [] { args := [.list (ns.map .int)] } = true := by
   have h4 := (holds_andW hc).1
   rw [hn] at h4
   exact h4
  have h5 := condW_of h4 (w_not (w_lt w_lit (w_len_list (w_arg rfl))))
  rw [List.length_map] at h5
  refine Nat.le_of_not_lt λ q => ?_
  have q' : (n : Int) < ((ns.length : Nat) : Int) := by omega
  first
   | (rw [decide_eq_true q'] at h5; exact absurd h5 (by decide))
   | (simp at h5; omega)
 cases hwl with
 | cons w1 w2 =>
  cases w2
  cases w1 with
  | list ho hall => exact ⟨_, _, ns, rfl, rfl, ho, q3z ns _ hall, hlen⟩
theorem q9j (l : OpenLaw) (args : List WData) : l.row.toRowW.claim.post args (.bool true) args = true :=
 postW_of (r := l.row.toRowW) (X := (true == true))
  (show WShape.has [] (.bool true) .bool = true by first | rfl | decide | simp [WShape.has, WShape.arms, WShape.armsAll])
  (show (WTm.eq .res (.lit (.bool true))).value [] { args := args, res := some (.bool true), after := args } = some (.bool (true == true)) from w_eq_bool (w_res rfl) w_lit) rfl
theorem attach_call {l : OpenLaw} {n : Nat} {q : Program} {loose : List Str} {XP : (Str -> Option Value) -> Heap -> Prop} {YP : World -> Heap -> Prop} {d : DefRec}
  (hn : l.most = some n) (hdf : d.params.defaults = [])
  (call : ∀ (w : World) (s₀ s₁ : Shared) (mg mb : Str -> Option Value) (fa : Addr) (o : Obj) (pm cd doc : Value) (a : Addr) (vs : List Value) (ns : List Int),
   Ground q loose [] XP w s₀ mg mb s₁.heap -> YP w s₁.heap ->
   s₁.heap.get? fa = some o -> o.data = .func (docDef d.name d.params d.body d.scope pm cd doc) -> s₁.heap.CodeRec cd d.name -> mg d.name = some (.ref fa) ->
   s₁.heap.get? a = some { cls := .type "list", data := .seq vs.toArray } -> IntsAre vs ns -> ns.length <= n -> s₁.gens = #[] ->
   codeAny (model l.prog w) callerA (.call (.ref fa) ⟨[.ref a], []⟩) (λ r s' => r = .ok (.ret (.bool true)) /\ OldK s₁.heap s'.heap /\ s'.os = s₁.os /\ AllBare s'.gens) s₁) :
  WalkO q loose XP YP l.row.toRowW d [] (λ f vs => PySem.call f vs) := by
 intro w s₀ s₁ mg mb G Y fa o pm cd doc dV kV ho hd hcd hD hmg hg args vals as hpre hlay hrd hwl hlo
 obtain rfl : dV = .none := Dflts.none hD hdf
 obtain rfl : kV = .none := Dflts.noKw hD
 obtain ⟨a, vs, ns, rfl, rfl, hobj, hints, hlen⟩ := q8I hn hpre hwl
 refine enter_call (codeAny_mono (call w s₀ s₁ mg mb fa o pm cd doc a vs ns G Y ho (fd_plain hd) hcd hmg hobj hints hlen hg) λ r s' hq => ?_)
 obtain ⟨rfl, h2, h3, h4⟩ := hq
 exact ⟨.inl ⟨.bool true, .bool true, [], rfl, λ _ => rfl, .bool true, q9j l _, λ _ => ⟨List.Pairwise.nil, λ _ hm => (nomatch hm)⟩⟩, h2, h3, h4⟩
section
variable {prog : Program} {w : World} {A : Around} {E : Value -> Shared -> Prop} {s : Shared} {K : Frag}
noncomputable def z6I (h : Heap) (L d : Addr) : List (Addr × Obj) := (List.range h.objs.size).filterMap λ a => if a = L \/ a = d then none else (h.get? a).map λ o => (a, o)
end
end Att
namespace L2
open PySem PySem.Spec PyProof.Rows
theorem q5i : ∀ {vs : List Value} {ns : List Int}, IntsAre vs ns -> Vals (ns.map V.int) vs
 | _, _, .nil => .nil
 | _, _, .cons n t h => .cons ⟨t, rfl⟩ (q5i h)
noncomputable def Only (H : Hp) : Prop := ∀ b, H b = none \/ ∃ o xs, H b = some (.frz o (.lst xs))
theorem z0l {P : Program} {w : World} {K : PySem.W.Frag} {mg mb : Str -> Option Value} {CX : CXT} {k : Nat} {fa a : Addr} {fd : FuncData} {x : Str} {sp : Sp} {s₁ : Shared} {vs : List Value} {ns : List Int}
  (KX : K.In s₁.heap) (hns : s₁.heap.Ns mainGlobals mg) (hb : s₁.heap.Ns builtinsNs mb) (hbb : ∀ x : Str, x ≠ "__name__" -> mb x = bootBuiltins x) (hlim : s₁.heap.NoLimit) (hg : s₁.gens = #[])
  (ha : s₁.heap.get? a = some { cls := .type "list", data := .seq vs.toArray }) (hi : IntsAre vs ns) (hl : ns.length <= sizeLine) (hr : Room k callerA)
  (F : ∀ base : Heap, K.In base -> base.Ns mainGlobals mg -> FnOk P w K mg base CX k fa fd [x] sp) (hbind : ∀ (s : Shared) (u : Value), BindsTo s fd ⟨[u], []⟩ [(x, u)])
  (hsp : ∀ H : Hp, Only H -> SqL K H a (ns.map V.int) -> sp [.ref a] H (λ v _ => v = .bl true) λ _ _ _ => False)
  (hCX : ∀ H e s', CX [] H s₁ (λ _ _ _ => False) e s' -> False) :
  codeAny (model P w) callerA (.call (.ref fa) ⟨[.ref a], []⟩) (λ r s' => r = .ok (.ret (.bool true)) /\ OldK s₁.heap s'.heap /\ s'.os = s₁.os /\ AllBare s'.gens) s₁ := by
 have rv := q5i hi
 have lenV := hi.length
 have core : ∀ H : Hp, Only H -> SqL K H a (ns.map V.int) -> HOk P w H s₁.heap -> (∀ b, H b ≠ none -> b = a) -> (H a ≠ none -> K.lookup a = none) ->
   codeAny (model P w) callerA (.call (.ref fa) ⟨[.ref a], []⟩) (λ r s' => r = .ok (.ret (.bool true)) /\ OldK s₁.heap s'.heap /\ s'.os = s₁.os /\ AllBare s'.gens) s₁ := by
  intro H hO hS hok hA hK
  have base_of : ∀ {b : Addr} {o : Obj}, s₁.heap.get? b = some o -> H b = none -> (hidT s₁.heap H).get? b = some o := λ e n => q9V e n
  have noA : ∀ {b : Addr} {o : Obj} {es : Array DictEntry} {ep : Nat}, s₁.heap.get? b = some o -> o.data = .dict es ep -> H b = none := λ {b o es ep} e d => by
   cases q : H b with
   | none => rfl
   | some u =>
    have e' : b = a := hA b (by rw [q]; simp)
    subst e'
    rw [ha] at e; cases e
    have d' : Data.seq vs.toArray _ = Data.dict es ep := d
    cases d'
  have nsK : ∀ {b : Addr} {m : Str -> Option Value}, s₁.heap.Ns b m -> (hidT s₁.heap H).Ns b m := λ {b m} ⟨o, es, ep, e, d, r⟩ => ⟨o, es, ep, base_of e (noA e d), d, r⟩
  have hKb : K.In (hidT s₁.heap H) := λ b o e => base_of (KX b o e) (by
   cases q : H b with
   | none => rfl
   | some u =>
    have e' : b = a := hA b (by rw [q]; simp)
    subst e'
    rw [hK (by rw [q]; simp)] at e; cases e)
  have hM : Mod K mg (hidT s₁.heap H) := ⟨hKb, nsK hns, ⟨mb, nsK hb, hbb⟩, let ⟨mc, h1, h2⟩ := hlim; ⟨mc, nsK h1, h2⟩⟩
  have e0 : Env0 P w K mg (hidT s₁.heap H) callerA [] s₁ H := ⟨rfl, hM, λ b o e => z3c e, Nat.le_of_eq (q7N _ _), trivial, λ b hb => absurd (show b ∈ ([] : List Addr) from hb) (by simp), hok, .of_eq hg⟩
  refine codeAny_mono ((F _ hKb (nsK hns)).run callerA [] s₁ H ⟨[.ref a], []⟩ [.ref a] [.ref a] _ _ hr e0 (hbind s₁ (.ref a)) (.cons rfl .nil) (hsp H hO hS)) λ r s' h => ?_
  cases r with
  | error e => exact (hCX H e s' h).elim
  | ok fl =>
   cases fl with
   | next => exact False.elim h
   | brk => exact False.elim h
   | cont => exact False.elim h
   | ret u =>
    obtain ⟨v, H', os, bare, un, hok', r', q⟩ := h
    have q' : v = .bl true := q
    subst q'
    obtain rfl : u = Value.bool true := r'
    refine ⟨rfl, OldK.of_keep λ b o e => ?_, os, bare⟩
    cases q : H b with
    | none => exact un.keep b o e q (by intro z; exact absurd (show b ∈ ([] : List Addr) from z) (by simp)) (by simp)
    | some u =>
     rcases hO b with z | ⟨ob, xs, z⟩
     ·rw [q] at z; cases z
     ·have z2 := un.frzs b ob _ z
      obtain ⟨e1, _⟩ := hok b _ z
      obtain ⟨e2, _⟩ := hok' b _ z2
      rw [e] at e1; cases e1
      exact e2
 cases hk : K.lookup a with
 | some o =>
  have e := KX a o hk
  rw [ha] at e
  cases e
  refine core (λ _ => none) (λ _ => .inl rfl) (.inr ⟨_, vs.toArray, _, hk, rfl, rfl, rfl, by rw [List.size_toArray, lenV]; exact hl, by simpa using rv⟩) (λ b u z => by have z' : (none : Option HO) = some u := z; cases z') (λ b z => absurd rfl z) λ z => absurd rfl z
 | none =>
  refine core (λ b => if b = a then some (.frz { cls := .type "list", data := .seq vs.toArray } (.lst (ns.map V.int))) else none) (λ b => ?_) (.inl (.inr ⟨{ cls := .type "list", data := .seq vs.toArray }, if_pos rfl⟩)) (λ b u z => ?_) (λ b z => ?_) λ _ => hk
  ·by_cases hb : b = a
   ·exact .inr ⟨_, _, if_pos hb⟩
   ·exact .inl (if_neg hb)
  ·by_cases hb : b = a
   ·have z' := (if_pos hb).symm.trans z
    cases z'
    subst hb
    exact ⟨ha, by rw [List.length_map]; exact hl, vs, _, rv, ha⟩
   ·have z' := (if_neg hb).symm.trans z
    cases z'
  ·by_cases hb : b = a
   ·exact hb
   ·exact absurd (if_neg hb) z
end L2
namespace L2
open PySem PySem.Spec PyProof.Rows
noncomputable abbrev KOf {K : PySem.W.Frag} {h : Heap} (_ : K.In h) : PySem.W.Frag := K
theorem walk_of {l : PySem.W.OpenLaw} {n k : Nat} {q : Program} {loose : List Str} {XP : (Str -> Option Value) -> Heap -> Prop} {YP : World -> Heap -> Prop} {d : DefRec} {K : Params -> PySem.W.Frag} {CX : World -> CXT} {sp : World -> Sp} {x : Str}
  (hn : l.most = some n) (hn2 : n <= sizeLine) (hdf : d.params.defaults = []) (hr : Room k callerA)
  (hY : ∀ (w : World) (h : Heap), YP w h -> (K w.params).In h)
  (F : ∀ (w : World) (mg : Str -> Option Value) (fa : Addr) (h : Heap), (K w.params).In h -> h.Ns mainGlobals mg -> mg d.name = some (.ref fa) ->
   ∃ fd : FuncData, (∀ (s : Shared) (u : Value), BindsTo s fd ⟨[u], []⟩ [(x, u)]) /\
    ∀ base : Heap, (K w.params).In base -> base.Ns mainGlobals mg -> FnOk l.prog w (K w.params) mg base (CX w) k fa fd [x] (sp w))
  (hsp : ∀ (w : World) (H : Hp) (a : Addr) (ns : List Int), ns.length <= n -> Only H -> SqL (K w.params) H a (ns.map V.int) -> sp w [.ref a] H (λ v _ => v = .bl true) λ _ _ _ => False)
  (hCX : ∀ (w : World) (H : Hp) (s : Shared) (e : Value) (s' : Shared), CX w [] H s (λ _ _ _ => False) e s' -> False) :
  PySem.W.WalkO q loose XP YP l.row.toRowW d [] (λ f vs => PySem.call f vs) := by
 refine Att.attach_call hn hdf λ w s₀ s₁ mg mb fa o pm cd doc a vs ns G Y ho hd hcd hmg hobj hints hlen hg => ?_
 have KX := hY w _ Y
 obtain ⟨fd, hb, hF⟩ := F w mg fa _ KX G.T.g hmg
 exact z0l KX G.T.g G.T.b G.T.builtins G.T.nolimit hg hobj hints (Nat.le_trans hlen hn2) hr hF hb (λ H hO hS => hsp w H a ns hlen hO hS) λ H e s' => hCX w H s₁ e s'
end L2
namespace L2
open PySem PySem.Spec PyProof.Rows
noncomputable def q0t (s : Stmt) : Arguments := match s with
 | .FunctionDef _ a _ _ _ _ _ _ _ _ => a
 | _ => { posonlyargs := [], args := [], vararg := none, kwonlyargs := [], kw_defaults := [], kwarg := none, defaults := [] }
noncomputable def q0o (s : Stmt) : List Stmt := match s with
 | .FunctionDef _ _ b _ _ _ _ _ _ _ => b
 | _ => []
noncomputable def q0c (s : Stmt) : Scope := match s with
 | .FunctionDef _ _ _ _ _ _ sc _ _ _ => sc
 | _ => { kind := .function, names := [], isGenerator := false, isCoroutine := false }
noncomputable abbrev CX0 : CXT := λ _ _ _ _ _ _ => False
noncomputable abbrev E0 : XK := λ _ _ _ => False
structure Fun (K : PySem.W.Frag) (x qual : Str) (st : Stmt) (f : Addr) (fd : FuncData) : Prop where
 ex : ∃ (oc : Value) (od : Option Addr) (kV doc pm : Value) (an : Option Addr) (cdv ct : Value) (osl : Array (Option Value)),
  fd = PySem.W.fnOf x qual (q0t st) (q0o st) (q0c st) .none kV doc pm an cdv ct /\ K.lookup f = some ⟨oc, od, .func fd, osl⟩ /\ PySem.W.codeIn K cdv qual = true
 kp : PySem.W.keepIn K (.ref f) = true
section
variable {P : Program} {w : World} {K : PySem.W.Frag} {mg : Str -> Option Value} {base : Heap}
end
section
variable {X : Cx}
end
theorem iteF {A B : Prop} (h : B) : if false = true then A else B := by
 rw [if_neg Bool.false_ne_true]
 exact h
theorem iteT {A B : Prop} (h : A) : if true = true then A else B := by
 rw [if_pos rfl]
 exact h
noncomputable def Same (H H' : Hp) : Prop := ∀ b o, H b = some o -> H' b = some o
theorem Same.refl (H : Hp) : Same H H := λ _ _ h => h
theorem Same.trans {H H1 H2 : Hp} (a : Same H H1) (b : Same H1 H2) : Same H H2 := λ c o h => b c o (a c o h)
theorem Same.free {H H' : Hp} (e : Same H H') {l : Addr} (h : H' l = Option.none) : H l = Option.none := by
 cases q : H l with
 | none => rfl
 | some o =>
  rw [e l o q] at h
  cases h
theorem Same.seq {K : PySem.W.Frag} {H H' : Hp} {a : Addr} {xs : List V} (e : Same H H') (h : SqL K H a xs) : SqL K H' a xs := by
 rcases h with (h | ⟨o, h⟩) | h
 ·exact .inl (.inl (e _ _ h))
 ·exact .inl (.inr ⟨o, e _ _ h⟩)
 ·exact .inr h
end L2
end
section
namespace L2
open PySem PySem.Spec PyProof.Rows
noncomputable def q0i (cells : List (Str × Addr)) : List (Str × NameKind) -> List (Str × Addr) -> List (Str × Addr)
 | [], acc => acc
 | (n, k) :: r, acc => if (k == NameKind.free) = true then q0i cells r ((n, (cells.lookup n).getD 0) :: acc) else q0i cells r acc
theorem q1A {env : Env} : ∀ (names : List (Str × NameKind)) (acc : List (Str × Addr)), (∀ y ∈ names, y.2 = NameKind.free -> ∃ c, env.cells.lookup y.1 = some c) ->
  (forIn names acc (λ (x : Str × NameKind) (cs : List (Str × Addr)) => (match x with | (name, kind) => if (kind == NameKind.free) = true then (do let a ← cellOf env name; pure (ForInStep.yield ((name, a) :: cs))) else pure (ForInStep.yield cs) : Sem (ForInStep (List (Str × Addr))))) : Sem (List (Str × Addr))) = pure (q0i env.cells names acc)
 | [], acc, _ => rfl
 | (n, k) :: r, acc, h => by
  have hr : ∀ y ∈ r, y.2 = NameKind.free -> ∃ c, env.cells.lookup y.1 = some c := λ y hy => h y (List.mem_cons_of_mem _ hy)
  rw [List.forIn_cons]
  by_cases hk : (k == NameKind.free) = true
  ·obtain ⟨c, hc⟩ := h (n, k) List.mem_cons_self (beq_iff_eq.mp hk)
   have e1 : cellOf env n = pure c := by unfold cellOf; rw [hc]
   have e2 : q0i env.cells ((n, k) :: r) acc = q0i env.cells r ((n, c) :: acc) := by
    show (if (k == NameKind.free) = true then q0i env.cells r ((n, (env.cells.lookup n).getD 0) :: acc) else q0i env.cells r acc) = _
    rw [if_pos hk, hc]; rfl
   rw [e2, ← q1A r ((n, c) :: acc) hr]
   simp only [hk, if_true, e1]
   rfl
  ·have e2 : q0i env.cells ((n, k) :: r) acc = q0i env.cells r acc := by
    show (if (k == NameKind.free) = true then q0i env.cells r ((n, (env.cells.lookup n).getD 0) :: acc) else q0i env.cells r acc) = _
    rw [if_neg hk]
   rw [e2, ← q1A r acc hr]
   simp only [hk, if_false]
   rfl
theorem q1Y {scope : Scope} {env : Env} (h : ∀ y ∈ scope.names, y.2 = NameKind.free -> ∃ c, env.cells.lookup y.1 = some c) : closureFor scope env = pure (q0i env.cells scope.names []) := by
 have q := q1A (env := env) scope.names [] h
 unfold closureFor
 first
  | exact (congrArg (λ t => (t >>= λ cs => pure cs)) q).trans rfl
  | (simp only [q]; rfl)
theorem q1V {cells : List (Str × Addr)} : ∀ {names : List (Str × NameKind)} {acc : List (Str × Addr)} {x : Str} {c : Addr}, (∀ y ∈ names, y.2 = NameKind.free -> ∃ c, cells.lookup y.1 = some c) ->
  (x, c) ∈ q0i cells names acc -> (x, c) ∈ acc \/ (cells.lookup x = some c /\ (x, NameKind.free) ∈ names)
 | [], acc, x, c, _, h => .inl h
 | (n, k) :: r, acc, x, c, hh, h => by
  have hr : ∀ y ∈ r, y.2 = NameKind.free -> ∃ c, cells.lookup y.1 = some c := λ y hy => hh y (List.mem_cons_of_mem _ hy)
  unfold q0i at h
  by_cases hk : (k == NameKind.free) = true
  ·rw [if_pos hk] at h
   obtain ⟨c', hc⟩ := hh (n, k) List.mem_cons_self (beq_iff_eq.mp hk)
   rcases q1V hr h with z | ⟨z1, z2⟩
   ·rcases List.mem_cons.mp z with z | z
    ·cases z
     exact .inr ⟨by rw [hc]; rfl, by rw [← beq_iff_eq.mp hk]; exact List.mem_cons_self⟩
    ·exact .inl z
   ·exact .inr ⟨z1, List.mem_cons_of_mem _ z2⟩
  ·rw [if_neg hk] at h
   rcases q1V hr h with z | ⟨z1, z2⟩
   ·exact .inl z
   ·exact .inr ⟨z1, List.mem_cons_of_mem _ z2⟩
theorem q1U {cells : List (Str × Addr)} : ∀ {names : List (Str × NameKind)} {acc : List (Str × Addr)} {y : Str × Addr}, y ∈ acc -> y ∈ q0i cells names acc
 | [], _, _, h => h
 | (n, k) :: r, acc, y, h => by
  unfold q0i
  split
  ·exact q1U (List.mem_cons_of_mem _ h)
  ·exact q1U h
theorem q1S {cells : List (Str × Addr)} : ∀ {names : List (Str × NameKind)} {acc : List (Str × Addr)} {x : Str} {c : Addr}, (x, NameKind.free) ∈ names -> cells.lookup x = some c -> (x, c) ∈ q0i cells names acc
 | (n, k) :: r, acc, x, c, h, hc => by
  unfold q0i
  rcases List.mem_cons.mp h with z | z
  ·cases z
   rw [if_pos (show (NameKind.free == NameKind.free) = true from rfl), hc]
   exact q1U List.mem_cons_self
  ·split
   ·exact q1S z hc
   ·exact q1S z hc
theorem q0U : ∀ (names : List (Str × NameKind)) (n : Nat) (acc : List (Str × Addr)), cellsFrom n names acc = cellsFrom n names [] ++ acc
 | [], _, _ => rfl
 | (x, k) :: r, n, acc => by
  unfold cellsFrom
  split
  ·rw [q0U r (n + 1) ((x, n) :: acc), q0U r (n + 1) [(x, n)], List.append_assoc]; rfl
  ·exact q0U r n acc
theorem q1O : ∀ {names : List (Str × NameKind)} {n : Nat} {x : Str} {c : Addr}, (x, c) ∈ cellsFrom n names [] -> (x, NameKind.cell) ∈ names
 | [], _, _, _, h => nomatch h
 | (y, k) :: r, n, x, c, h => by
  unfold cellsFrom at h
  by_cases hk : (k == NameKind.cell) = true
  ·rw [if_pos hk, q0U] at h
   rcases List.mem_append.mp h with z | z
   ·exact List.mem_cons_of_mem _ (q1O z)
   ·have z' : (x, c) = (y, n) := by simpa using z
    cases z'
    rw [beq_iff_eq.mp hk]; exact List.mem_cons_self
  ·rw [if_neg hk] at h
   exact List.mem_cons_of_mem _ (q1O h)
theorem q1G {α : Type} {x : Str} : ∀ {l r : List (Str × α)}, (l ++ r).lookup x = (l.lookup x).or (r.lookup x)
 | [], r => by simp
 | (y, v) :: l, r => by
  rw [List.cons_append, List.lookup_cons, List.lookup_cons]
  cases hb : x == y with
  | true => rfl
  | false => exact q1G
theorem q2y {α : Type} {x : Str} : ∀ {l : List (Str × α)}, (∀ c, (x, c) ∉ l) -> l.lookup x = none
 | [], _ => rfl
 | (y, v) :: l, h => by
  rw [List.lookup_cons]
  cases hb : x == y with
  | true => exact absurd (by rw [beq_iff_eq.mp hb]; exact List.mem_cons_self) (h v)
  | false => exact q2y λ c hc => h c (List.mem_cons_of_mem _ hc)
theorem q2z {α : Type} {x : Str} : ∀ {l : List (Str × α)} {c : α}, (x, c) ∈ l -> ∃ c', l.lookup x = some c'
 | (y, v) :: l, c, h => by
  rw [List.lookup_cons]
  cases hb : x == y with
  | true => exact ⟨v, rfl⟩
  | false =>
   rcases List.mem_cons.mp h with z | z
   ·cases z; rw [beq_self_eq_true] at hb; cases hb
   ·exact q2z z
theorem q0H {α : Type} {x : Str} : ∀ {l : List (Str × α)} {c : α}, (l.map (·.1)).Nodup -> (x, c) ∈ l -> l.lookup x = some c
 | (y, v) :: l, c, nd, h => by
  rw [List.lookup_cons]
  rw [List.map_cons] at nd
  have nd' := List.nodup_cons.mp nd
  rcases List.mem_cons.mp h with z | z
  ·cases z; rw [beq_self_eq_true]
  ·have : x ≠ y := λ e => nd'.1 (by rw [← e]; exact List.mem_map.mpr ⟨_, z, rfl⟩)
   rw [beq_eq_false_iff_ne.mpr this]
   exact q0H nd'.2 z
theorem q1x {scope : Scope} {env : Env} {x : Str} : (relabel scope env).names.lookup x = (scope.names.lookup x).map λ k => if (k == NameKind.free && env.scope.kind == .function && env.kindOf x == some .cell) = true then NameKind.cell else k := by
 unfold relabel
 show (scope.names.map _).lookup x = _
 generalize scope.names = l
 induction l with
 | nil => rfl
 | cons y r ih =>
  obtain ⟨n, k⟩ := y
  rw [List.map_cons]
  show List.lookup x ((if (k == NameKind.free && env.scope.kind == .function && env.kindOf n == some .cell) = true then (n, NameKind.cell) else (n, k)) :: _) = _
  have e : (if (k == NameKind.free && env.scope.kind == .function && env.kindOf n == some .cell) = true then (n, NameKind.cell) else (n, k)) = (n, if (k == NameKind.free && env.scope.kind == .function && env.kindOf n == some .cell) = true then NameKind.cell else k) := by split <;> rfl
  rw [e, List.lookup_cons, List.lookup_cons]
  cases hb : x == n with
  | true => rw [beq_iff_eq.mp hb]; rfl
  | false => exact ih
theorem q6i {M : Model} {A : Around} {E : Value -> Shared -> Prop} {s : Shared} {scope : Scope} {g : Addr} {cl : List (Str × Addr)} {q : Str} {env : Env} {Q : Env -> Shared -> Prop}
  (hQ : Q (newEnv scope s.heap.objs.size g (cellsFrom (s.heap.objs.size + 1) scope.names cl) q none .none (some env) builtinsNs) { s with heap := pushCells (s.heap.push { cls := .type "dict", data := .dict #[] }) scope.names }) :
  wpAny M A (newFunctionEnv scope g cl [] q none .none (some env)) Q E s := by
 simp only [newFunctionEnv, Option.isSome_some, if_true]
 refine wpAny_bind (wpAny_alloc ?_)
 refine wpAny_bind (wpAny_layCells _ (λ name kind cells => by cases hkc : kind == NameKind.cell <;> simp [hkc]) _ _ _ _ ?_)
 rw [show ({ s with heap := s.heap.push { cls := .type "dict", data := .dict #[] } } : Shared).heap.objs.size = s.heap.objs.size + 1 from Heap.size_push ..]
 exact wpAny_bind (wpAny_pure (wpAny_pure hQ))
theorem q5F {prog : Program} {w : World} {A : Around} {R : Result -> Shared -> Prop} {s : Shared} {elt target iter : Expr} {ifs : List Expr} {scope : Scope} {pos : Pos} {it acc : Value} {env : Env} (I : Nat -> Shared -> Prop)
  (turn : ∀ n s, I n s -> wpAny (model prog w) A (pyNext it) (λ r s₁ => match r with
   | none => R (.ok .next) s₁
   | some v => wpAny (model prog w) A (letOwnedTupleGo target it v) (λ _ s₁' => wpAny (model prog w) A (assign target env v) (λ _ s₂ =>
     wpAny (model prog w) A (forIn ifs true λ c r => if r = true then do let ok ← isTrue c env (eval c env); pure (ForInStep.yield ok) else pure (ForInStep.yield r)) (λ ok s₃ =>
      if ok = true then wpAny (model prog w) A (eval elt env) (λ x s₄ =>
       wpAny (model prog w) A (call (.builtin "list.append") [acc, x]) (λ _ s₅ => ∃ m, m < n /\ I m s₅) (notedBy (model prog w) A env λ e s' => R (.error e) s') s₄) (notedBy (model prog w) A env λ e s' => R (.error e) s') s₃
      else ∃ m, m < n /\ I m s₃) (notedBy (model prog w) A env λ e s' => R (.error e) s') s₂) (notedBy (model prog w) A env λ e s' => R (.error e) s') s₁') (notedBy (model prog w) A env λ e s' => R (.error e) s') s₁) (notedBy (model prog w) A env λ e s' => R (.error e) s') s)
  (n : Nat) (h : I n s) :
  codeAny (model prog w) A (.compLoop (.ListComp elt [⟨target, iter, ifs, 0⟩] scope pos) 0 it acc env) R s := by
 refine codeAny_loop rfl I (λ n s hI => ?_) n h
 show wpAny _ A ((compTurn (.ListComp elt [⟨target, iter, ifs, 0⟩] scope pos) 0 it acc env).onRaise (λ x => do noteFrame x env; theTreesLotGoes x)) _ _ s
 refine wpAny_noted ?_
 rw [compTurn_list]
 refine wpAny_bind (wpAny_standAt (wpAny_bind (wpAny_mono (turn n s hI) (λ r s₁ h₁ => ?_) λ _ _ h' => h')))
 cases r with
 | none => exact wpAny_pure h₁
 | some v =>
  refine wpAny_bind (wpAny_mono h₁ (λ _ s₁' h₁' => ?_) λ _ _ h' => h')
  refine wpAny_bind (wpAny_mono h₁' (λ _ s₂ h₂ => wpAny_bind (wpAny_mono h₂ (λ ok s₃ h₃ => ?_) λ _ _ h' => h')) λ _ _ h' => h')
  cases ok with
  | false => exact wpAny_pure ⟨rfl, h₃⟩
  | true =>
   exact wpAny_bind (wpAny_bind (wpAny_mono h₃ (λ x s₄ h₄ => wpAny_bind (wpAny_mono h₄ (λ _ s₅ h₅ => wpAny_pure (wpAny_pure ⟨rfl, h₅⟩)) λ _ _ h' => h')) λ _ _ h' => h'))
theorem HOk.track {P : Program} {w : World} {H : Hp} {h : Heap} {a : Addr} {o : HO} (x : HOk P w H h) (hn : H a = none) (new : q1X P w (upd H a o) h a o) : HOk P w (upd H a o) h := λ b u e => by
 by_cases hb : b = a
 ·subst hb; rw [q0A] at e; cases e; exact new
 ·rw [q0j hb] at e
  exact (x b u e).stay (λ c v _ q => q) (λ c q => by rw [q0j (q0p q hn)]; exact q) λ c xs q => by rw [q0j (q0p q hn)]; exact q
theorem Un.track {fs ex : List Addr} {H H' : Hp} {h h' : Heap} {a : Addr} {o : HO} (u : Un fs ex H H' h h') (hn : H' a = none) (hh : h.get? a = none) : Un fs ex H (upd H' a o) h h' where
 keep := u.keep
 slot := u.slot
 free := λ b ob q n hx => by
  have : b ≠ a := λ z => by rw [z, hh] at q; cases q
  rw [q0j this]; exact u.free b ob q n hx
 there := u.there
 tups := λ b xs q => by have z := u.tups b xs q; rw [q0j (q0p z hn)]; exact z
 frzs := λ b ob xs q => by have z := u.frzs b ob xs q; rw [q0j (q0p z hn)]; exact z
 tbls := λ b ps q => by
  obtain ⟨m, z⟩ := u.tbls b ps q
  exact ⟨m, by rw [q0j (q0p z hn)]; exact z⟩
structure CompScope (N N' : List Str) (sc osc : Scope) (fr : List (Option Nat)) : Prop where
 kind : sc.kind = .function
 nd : N'.Nodup
 snd : (sc.names.map (·.1)).Nodup
 len : fr.length = N'.length
 fre : ∀ (j i : Nat), fr[j]? = some (some i) -> ∃ x, N'[j]? = some x /\ N[i]? = some x /\ (x, NameKind.free) ∈ sc.names
 out : ∀ y ∈ sc.names, y.2 = NameKind.free -> osc.names.lookup y.1 = some .cell \/ osc.names.lookup y.1 = some .free
noncomputable def inner (fr : List (Option Nat)) (σ : St) : St := fr.map λ o => o.bind λ i => (σ[i]?).join
noncomputable def q0m (X : Cx) (scope : Scope) (N' : List Str) (C : Addr) (cells : List (Str × Addr)) (s₂ : Shared) (H₂ : Hp) (fp : List Addr) : Cx :=
 { X with N := N', s₀ := s₂, H₀ := H₂, env := compEnvC scope cells C X.env, outer := X.stack, stack := X.stack, ex := fp, fn := λ x => scope.names.lookup x == some .cell, pn := [], xe := λ _ _ => False }
section
variable {X : Cx} {pins : List (Addr × Obj)} {σ : St} {H : Hp} {s₂ : Shared} {N' : List Str} {scope : Scope} {fr : List (Option Nat)} {fp : List Addr}
noncomputable abbrev q1H : Obj := { cls := .type "list", dict := none, data := .seq ([] : List Value).toArray }
noncomputable abbrev q5u : Obj := { cls := .type "dict", data := .dict #[] }
theorem z0i (S : CompScope X.N N' scope X.env.scope fr) (I : Inv X pins σ H s₂) (f : ∀ b ∈ fp, FpOk X pins H b) (ho : ∀ b ∈ fp, @LT.lt Nat _ b s₂.heap.objs.size) {C : Nat} (hC : C = s₂.heap.objs.size + 1) {h4 : Heap} (h4e : h4 = pushCells ((s₂.heap.push q1H).push q5u) scope.names) :
  Inv (q0m X scope N' C (cellsFrom (C + 1) scope.names (q0i X.env.cells scope.names [])) s₂ H fp) [] (inner fr σ) H { s₂ with heap := h4 } /\ h4.get? s₂.heap.objs.size = some q1H /\ (∀ b o, s₂.heap.get? b = some o -> h4.get? b = some o) := by
 have hsz1 : (s₂.heap.push q1H).objs.size = s₂.heap.objs.size + 1 := Heap.size_push ..
 have hsz2 : ((s₂.heap.push q1H).push q5u).objs.size = C + 1 := by rw [Heap.size_push, hsz1, hC]
 have keep : ∀ b o, s₂.heap.get? b = some o -> h4.get? b = some o := λ b o e => by rw [h4e]; exact pushCells_keeps _ _ b o (Heap.get?_push_of_some _ (Heap.get?_push_of_some _ e))
 have hD : h4.get? s₂.heap.objs.size = some q1H := by rw [h4e]; exact pushCells_keeps _ _ _ _ (Heap.get?_push_of_some _ (Heap.get?_push_size _ rfl))
 have hns : h4.Ns C λ _ => none := by
  have q := (Heap.Ns.new (s₂.heap.push q1H) (.type "dict")).keeps (pushCells_keeps scope.names _)
  rw [hsz1, ← hC] at q
  rw [h4e]; exact q
 have ok := cellsFrom_ok scope.names ((s₂.heap.push q1H).push q5u) (C + 1) [] ⟨λ _ _ hm => (nomatch hm), List.Pairwise.nil⟩ (by rw [hsz2]; exact Nat.le_refl _)
 rw [hsz2, ← h4e] at ok
 have hfree : ∀ y ∈ scope.names, y.2 = NameKind.free -> ∃ c, X.env.cells.lookup y.1 = some c := λ y hy hk => I.ok.has y.1 (S.out y hy hk)
 generalize hcl : q0i X.env.cells scope.names [] = cl
 have memcl : ∀ {x : Str} {c : Addr}, (x, c) ∈ cl -> X.env.cells.lookup x = some c /\ (x, NameKind.free) ∈ scope.names := λ {x c} hm => by
  rw [← hcl] at hm
  rcases q1V hfree hm with z | z
  ·exact nomatch z
  ·exact z
 generalize hown : cellsFrom (C + 1) scope.names [] = own at ok
 have app : cellsFrom (C + 1) scope.names cl = own ++ cl := by rw [q0U, hown]
 rw [app]
 have memown : ∀ {x : Str} {c : Addr}, (x, c) ∈ own -> (x, NameKind.cell) ∈ scope.names := λ {x c} hm => by rw [← hown] at hm; exact q1O hm
 have L1 : ∀ x c, (own ++ cl).lookup x = some c -> ((x, c) ∈ own) \/ (X.env.cells.lookup x = some c /\ (x, NameKind.free) ∈ scope.names /\ own.lookup x = none) := λ x c e => by
  rw [q1G] at e
  cases q : own.lookup x with
  | some c' => rw [q] at e; cases e; exact .inl (PySem.mem_of_lookup q)
  | none => rw [q] at e; have z := memcl (PySem.mem_of_lookup (show cl.lookup x = some c from e)); exact .inr ⟨z.1, z.2, rfl⟩
 have own_ge : ∀ {x : Str} {c : Nat}, (x, c) ∈ own -> @LE.le Nat _ (C + 1) c := λ {x c} hm => (ok.empty x c hm).2
 have cell_lt : ∀ {x : Str} {c : Nat}, X.env.cells.lookup x = some c -> @LT.lt Nat _ c s₂.heap.objs.size := λ {x c} e => by
  obtain ⟨v, z⟩ := I.cell x c e
  exact z.lt
 have free_no : ∀ {x : Str}, (x, NameKind.free) ∈ scope.names -> own.lookup x = none := λ {x} hm => by
  refine q2y λ c hc => ?_
  have a := q0H S.snd hm
  have b := q0H S.snd (memown hc)
  rw [a] at b; cases b
 have cl_get : ∀ {x : Str} {c : Addr}, (x, NameKind.free) ∈ scope.names -> X.env.cells.lookup x = some c -> (own ++ cl).lookup x = some c := λ {x c} hm hc => by
  rw [q1G, free_no hm]
  obtain ⟨c', e⟩ := q2z (l := cl) (by rw [← hcl]; exact q1S hm hc)
  have z := (memcl (PySem.mem_of_lookup e)).1
  rw [hc] at z; cases z
  exact e
 have hX : (q0m X scope N' C (own ++ cl) s₂ H fp).Ok := by
  refine ⟨I.ok.mod, S.kind, I.ok.glob, I.ok.blt, ?_, λ x y c h1 h2 => ?_, λ x hx => ?_, λ x c hf hc => ?_, I.ok.hd, I.ok.frames, .inl rfl, λ b hb => ⟨?_, λ x c e => ?_⟩, I.bs, Nat.le_trans I.ok.bsz I.sz, λ b o e hb => ?_, λ b hb hs => ?_, I.stack, I.stkFree⟩
  ·show s₂.heap.objs.size <= C
   rw [hC]; exact Nat.le_succ _
  ·have h1 : (own ++ cl).lookup x = some c := h1
   have h2 : (own ++ cl).lookup y = some c := h2
   rcases L1 x c h1 with a | ⟨a, _⟩ <;> rcases L1 y c h2 with b | ⟨b, _⟩
   ·exact name_of_addr ok.apart a b
   ·exfalso; have q1 := own_ge a; have q2 := cell_lt b; omega
   ·exfalso; have q1 := own_ge b; have q2 := cell_lt a; omega
   ·exact I.ok.inj x y c a b
  ·have hx' : (relabel scope X.env).names.lookup x = some .cell \/ (relabel scope X.env).names.lookup x = some .free := hx
   show ∃ c, (own ++ cl).lookup x = some c
   rw [q1x] at hx'
   cases q : scope.names.lookup x with
   | none => rw [q] at hx'; rcases hx' with z | z <;> cases z
   | some k =>
    have km := PySem.mem_of_lookup q
    by_cases k1 : k = .cell
    ·subst k1
     have z := PySem.W.cellsFrom_some scope.names (C + 1) [] (.inl q)
     rw [hown] at z
     obtain ⟨c, z⟩ := Option.isSome_iff_exists.mp z
     exact ⟨c, by rw [q1G, z]; rfl⟩
    ·by_cases k2 : k = .free
     ·subst k2
      obtain ⟨c, e⟩ := hfree _ km rfl
      exact ⟨c, cl_get km e⟩
     ·exfalso
      rw [q] at hx'
      have e0 : (k == NameKind.free) = false := beq_eq_false_iff_ne.mpr k2
      simp only [Option.map_some, e0, Bool.false_and] at hx'
      rcases hx' with z | z
      ·exact k1 (by simpa using z)
      ·exact k2 (by simpa using z)
  ·have hf' : (scope.names.lookup x == some .cell) = true := hf
   have q : scope.names.lookup x = some .cell := by simpa using hf'
   have z := PySem.W.cellsFrom_some scope.names (C + 1) [] (.inl q)
   rw [hown] at z
   obtain ⟨c', z⟩ := Option.isSome_iff_exists.mp z
   have hc' : (own ++ cl).lookup x = some c := hc
   rw [q1G, z] at hc'
   have e : c' = c := Option.some.inj hc'
   subst e
   have := own_ge (PySem.mem_of_lookup z)
   show @LE.le Nat _ s₂.heap.objs.size c'
   omega
  ·have := ho b hb
   show @Ne Nat b C
   omega
  ·rcases L1 x c e with a | ⟨a, _⟩
   ·have := own_ge a; have := ho b hb; show @Ne Nat c b; omega
   ·exact (f b hb).2.2.2.2.1 x c a
  ·rcases (f b hb).2.2.2.1 with z | z
   ·exact I.ok.noex b o e z
   ·exact absurd (Nat.lt_of_lt_of_le (Heap.lt_size e) (Nat.le_trans I.ok.bsz z)) (Nat.lt_irrefl _)
  ·rcases List.mem_cons.mp (I.stkSub b hs) with z | z
   ·exact (f b hb).2.1 z
   ·exact (f b hb).2.2.1 z
 refine ⟨⟨hX, rfl, I.bare, Un.kept keep, ⟨_, hns, λ i x v e1 e2 e3 => ?_⟩, λ x c e => ?_, I.hok.fresh (by show @LE.le Nat _ s₂.heap.objs.size C; omega), λ x c e => ?_, λ p hp => absurd (show p ∈ ([] : List (Addr × Obj)) from hp) (by simp), I.hok.kept keep, ?_⟩, hD, keep⟩
 ·have e1 : N'[i]? = some x := e1
  unfold inner at e2
  rw [List.getElem?_map] at e2
  cases q : fr[i]? with
  | none => rw [q] at e2; cases e2
  | some o =>
   rw [q] at e2
   cases o with
   | none => cases e2
   | some j =>
    have e2' : (σ[j]?).join = some v := Option.some.inj e2
    have hv : σ[j]? = some (some v) := by
     cases z : σ[j]? with
     | none => rw [z] at e2'; cases e2'
     | some o => rw [z] at e2'; rw [show o = some v from e2']
    obtain ⟨x', a1, a2, a3⟩ := S.fre i j q
    rw [e1] at a1; cases a1
    obtain ⟨m, hn, hl⟩ := I.loc
    have ko := S.out _ a3 rfl
    obtain ⟨u, r, l⟩ := hl j x v a2 hv (ko.elim (λ z => .inr (.inl z)) λ z => .inr (.inr z))
    rcases l with ⟨k, _⟩ | ⟨k, c, e, z⟩
    ·have k' : X.env.scope.names.lookup x = some .local := k
     rcases ko with w | w <;> (rw [show X.env.scope.names.lookup x = _ from w] at k'; cases k')
    ·refine ⟨u, r, .inr ⟨?_, c, cl_get a3 e, z.keeps keep⟩⟩
     show (relabel scope X.env).names.lookup x = some .cell \/ (relabel scope X.env).names.lookup x = some .free
     rw [q1x, q0H S.snd a3]
     simp only [Option.map_some]
     split
     ·exact .inl rfl
     ·exact .inr rfl
 ·rcases L1 x c e with a | ⟨a, _⟩
  ·exact ⟨none, (ok.empty x c a).1⟩
  ·obtain ⟨v, z⟩ := I.cell x c a
   exact ⟨v, z.keeps keep⟩
 ·rcases L1 x c e with a | ⟨a, _⟩
  ·exact I.hok.fresh (by have := own_ge a; show @LE.le Nat _ s₂.heap.objs.size c; omega)
  ·exact I.freeC x c a
 ·show (inner fr σ).length = N'.length
  unfold inner
  rw [List.length_map, S.len]
end
noncomputable def PTs (X : Cx) (ifs : List Expr) (t : TT) : Prop :=
 ∀ (pins : List (Addr × Obj)) (s : Shared) (σ : St) (H : Hp) (Q : Bool -> Hp -> Prop), Inv X pins σ H s -> t σ H Q ->
  wpAny (model X.prog X.w) X.A (forIn ifs true λ c r => if r = true then do let ok ← isTrue c X.env (eval c X.env); pure (ForInStep.yield ok) else pure (ForInStep.yield r)) (TP X pins σ Q) X.xe s
noncomputable def tYes : TT := λ _ H Q => Q true H
theorem q9z {X : Cx} : PTs X [] tYes := λ _ _ _ H _ I h => wpAny_tests_nil ⟨H, I, h⟩
theorem z3t {X : Cx} {c : Expr} {t : TT} (h : PT X c t) : PTs X [c] t := λ pins s σ H Q I hq => wpAny_tests_one (h pins s σ H Q I hq)
noncomputable def z0b (J : It) (g : TG) (tc : TT) (te : TE) (Fin : List V -> Hp -> Prop) (σ : St) (H : Hp) : Prop :=
 ∃ W : Nat -> Nat -> List V -> St -> Hp -> Prop, (∃ m, W 0 m [] σ H) /\ ∀ i m ys σ H, W i m ys σ H ->
  (J.stop i H /\ Fin ys H) \/ (J.go i H /\ ys.length < sizeLine /\ ∀ x H', J.yld i H x H' -> g x σ H' λ σ2 H2 => tc σ2 H2 λ b H3 =>
   if b = true then te σ2 H3 λ y H4 => ∃ m', m' < m /\ W (i + 1) m' (ys ++ [y]) σ2 H4 else ∃ m', m' < m /\ W (i + 1) m' ys σ2 H3)
theorem Vals.snoc {xs : List V} {us : List Value} {x : V} {u : Value} (r : Vals xs us) (q : RelV x u) : Vals (xs ++ [x]) (us ++ [u]) := r.append (.cons q .nil)
theorem q6E {X : Cx} {pins : List (Addr × Obj)} {σ : St} {H : Hp} {s₂ : Shared} {N' : List Str} {scope : Scope} {fr : List (Option Nat)} {fp : List Addr} {iter elt tg : Expr} {ifs : List Expr} {pos : Pos} {g : TG} {te : TE} {tc : TT} {it : Addr} {tn : Nat -> Heap -> Prop} {J : It}
  {E : Value -> Shared -> Prop} {Fin : List V -> Hp -> Prop} {RR : Value -> Addr -> Result -> Shared -> Prop}
  (S : CompScope X.N N' scope X.env.scope fr) (hc : X.calm = true)
  (hg : ∀ C cells s₂ H₂ fp, PG (q0m X scope N' C cells s₂ H₂ fp) tg g) (ht : ∀ C cells s₂ H₂ fp, PTs (q0m X scope N' C cells s₂ H₂ fp) ifs tc) (he : ∀ C cells s₂ H₂ fp, PE (q0m X scope N' C cells s₂ H₂ fp) elt te)
  (I : Inv X pins σ H s₂) (T : Turn X.prog X.w X.K tg J fp it tn) (st : tn 0 s₂.heap) (f : ∀ b ∈ fp, FpOk X pins H b) (h : z0b J g tc te Fin (inner fr σ) H)
  (hRR : ∀ D C H' s' m ys, Inv X pins σ (upd H' D (.lst ys)) s' -> H' D = none -> s'.heap.Ns C m -> upd H' D (.lst ys) C = none -> C ≠ X.env.locals -> X.s₀.heap.objs.size <= C -> (∀ x c, X.env.cells.lookup x = some c -> c ≠ C) -> (∀ p ∈ X.pn ++ pins, p.1 ≠ C) -> Fin ys H' -> RR (.ref D) C (.ok .next) s') :
  wpAny (model X.prog X.w) X.A (newList []) (λ acc s₃ => wpAny (model X.prog X.w) X.A (newFunctionEnv scope X.env.globals (q0i X.env.cells scope.names []) [] X.env.qual none .none (some X.env)) (λ cenv s₄ =>
   codeAny (model X.prog X.w) X.A (.compStart (.ListComp elt [⟨tg, iter, ifs, 0⟩] scope pos) 0 (.ref it) acc { cenv with scope := relabel scope X.env }) (RR acc cenv.locals) s₄) E s₃) E s₂ := by
 have ho : ∀ b ∈ fp, b < s₂.heap.objs.size := λ b hb => by
  obtain ⟨o, e, _⟩ := T.obj _ _ st b hb
  exact Heap.lt_size e
 refine wpAny_newObj_type (q6i ?_)
 have hsz1 : (s₂.heap.push q1H).objs.size = s₂.heap.objs.size + 1 := Heap.size_push ..
 obtain ⟨I4, hD4, keep⟩ := z0i (C := s₂.heap.objs.size + 1) S I f ho rfl rfl
 show codeAny _ _ (.compStart _ 0 (.ref it) (.ref s₂.heap.objs.size) (compEnvC scope (cellsFrom ((s₂.heap.push q1H).objs.size + 1) scope.names (q0i X.env.cells scope.names [])) (s₂.heap.push q1H).objs.size X.env)) (RR (.ref s₂.heap.objs.size) (s₂.heap.push q1H).objs.size) { s₂ with heap := pushCells ((s₂.heap.push q1H).push q5u) scope.names }
 rw [hsz1]
 generalize hDe : s₂.heap.objs.size = D at *
 generalize cellsFrom (D + 1 + 1) scope.names (q0i X.env.cells scope.names []) = cells at *
 generalize pushCells ((s₂.heap.push q1H).push q5u) scope.names = h4 at *
 have hfp : ∀ {pins' : List (Addr × Obj)} {H' : Hp}, (∀ b ∈ fp, H' b = none) -> (∀ p ∈ pins', p.1 = D) -> ∀ b ∈ fp, FpOk (q0m X scope N' (D + 1) cells s₂ H fp) pins' H' b := λ {pins' H'} hn hp b hb =>
  ⟨hn b hb, (I4.ok.exf b hb).1, I4.ok.exfs b hb, .inl hb, (I4.ok.exf b hb).2, λ p hp' z => by
   have hp' : p ∈ ([] : List (Addr × Obj)) ++ pins' := hp'
   rw [List.nil_append] at hp'
   have := ho b hb
   rw [← z, hp p hp'] at this
   exact Nat.lt_irrefl _ this⟩
 obtain ⟨W, ⟨m0, w0⟩, turn⟩ := h
 have hDC : D ≠ (q0m X scope N' (D + 1) cells s₂ H fp).env.locals := by show D ≠ D + 1; omega
 have hDcell : ∀ x c, (q0m X scope N' (D + 1) cells s₂ H fp).env.cells.lookup x = some c -> c ≠ D := λ x c e z => by
  obtain ⟨v, o, hoc, hd⟩ := I4.cell x c e
  have q : h4.get? D = some o := by rw [← z]; exact hoc
  rw [hD4] at q; cases q; cases hd
 have hDfs : D ∉ (q0m X scope N' (D + 1) cells s₂ H fp).fs := λ z => by
  obtain ⟨_, o, ho', _⟩ := I4.ok.funs.mem z
  have := Heap.lt_size ho'
  have e : s₂.heap.objs.size = D := hDe
  exact absurd this (by show ¬ D < s₂.heap.objs.size; omega)
 have loop : codeAny (model X.prog X.w) X.A (.compLoop (.ListComp elt [⟨tg, iter, ifs, 0⟩] scope pos) 0 (.ref it) (.ref D) (compEnvC scope cells (D + 1) X.env)) (RR (.ref D) (D + 1)) { s₂ with heap := h4 } := by
  refine q5F (λ n s' => ∃ i ys its k σ' H', Inv (q0m X scope N' (D + 1) cells s₂ H fp) [] σ' H' s' /\ tn i s'.heap /\ (∀ b ∈ fp, H' b = none) /\ H' D = none /\
   s'.heap.get? D = some { cls := .type "list", data := .seq (its : List Value).toArray k } /\ Vals ys its /\ ys.length <= sizeLine /\ W i n ys σ' H') ?_ m0
   ⟨0, [], [], _, _, H, I4, T.keep _ _ _ st λ b _ o e => keep b o e, λ b hb => (f b hb).1, I.hok.fresh (by omega), hD4, .nil, Nat.zero_le _, w0⟩
  rintro n s3 ⟨i, ys, its, k, σ3, H3, I3, st3, fr3, hD3, oD3, rv, hl, w3⟩
  have I3p : Inv (q0m X scope N' (D + 1) cells s₂ H fp) [(D, { cls := .type "list", data := .seq its.toArray k })] σ3 H3 s3 := I3.pins_of λ p hp => by
   have e : p = (D, { cls := .type "list", data := .seq its.toArray k }) := by simpa using hp
   subst e
   exact ⟨oD3, hD3, hDC, hDfs, λ v z => by cases z⟩
  have pinD : ∀ p ∈ [((D : Addr), ({ cls := .type "list", data := .seq its.toArray k } : Obj))], p.1 = D := λ p hp => by
   have e : p = (D, { cls := .type "list", data := .seq its.toArray k }) := by simpa using hp
   subst e; rfl
  rcases turn i n ys σ3 H3 w3 with ⟨stop, fin⟩ | ⟨go, hlt, step⟩
  ·refine thn (T.done (q0m X scope N' (D + 1) cells s₂ H fp) rfl rfl rfl hc i _ s3 σ3 H3 _ I3p (hfp fr3 pinD) st3 stop) λ r s4 ⟨hr, I4'⟩ => ?_
   subst hr
   have oD := (I4'.pin (D, _) (List.mem_append_right _ List.mem_cons_self)).1
   have un : Un (frs X.stack) fp H H3 s₂.heap s4.heap := I4'.base
   have hn : s₂.heap.get? D = none := Heap.get?_none_of_le (by rw [hDe]; exact Nat.le_refl _)
   obtain ⟨mC, hnC, _⟩ := I4'.loc
   refine hRR D (D + 1) H3 s4 mC ys (I.call' I4'.os (un.track hD3 hn) (I4'.hok.track hD3 ⟨hl, its, k, rv, oD⟩) I4'.bare λ b hb => ?_) hD3 hnC ?_ ?_ ?_ (λ x c e => ?_) (λ p hp => ?_) fin
   ·obtain ⟨_, f1, f2, f3, f4, f5⟩ := f b hb
    exact ⟨f3, f1, f4, f5⟩
   ·rw [q0j (show @Ne Nat (D + 1) D by omega)]; exact I4'.free
   ·have q : @LT.lt Nat _ X.env.locals s₂.heap.objs.size := I.lt
    show @Ne Nat (D + 1) X.env.locals
    omega
   ·have q : @LE.le Nat _ X.s₀.heap.objs.size s₂.heap.objs.size := I.sz
    show @LE.le Nat _ X.s₀.heap.objs.size (D + 1)
    omega
   ·obtain ⟨v, z⟩ := I.cell x c e
    have q : @LT.lt Nat _ c s₂.heap.objs.size := z.lt
    show @Ne Nat c (D + 1)
    omega
   ·have q : @LT.lt Nat _ p.1 s₂.heap.objs.size := Heap.lt_size (I.pin p hp).1
    show @Ne Nat p.1 (D + 1)
    omega
  ·refine thn (T.item (q0m X scope N' (D + 1) cells s₂ H fp) rfl rfl rfl hc i _ s3 σ3 H3 _ I3p (hfp fr3 pinD) st3 go) λ r s4 ⟨u, hr, h4'⟩ => ?_
   subst hr
   refine thn h4' λ _ s5 ⟨x, H5, I5, r5, y5, st5, fr5⟩ => ?_
   have I5' := I5.pinned (hfp fr5 pinD) (T.obj _ _ st5)
   refine wpAny_mono (hg (D + 1) cells s₂ H fp _ s5 σ3 H5 x u _ I5' r5 (step x H5 y5)) (λ _ s6 ⟨σ6, H6, I6, q6⟩ => ?_) λ _ _ z => z.elim
   refine wpAny_mono (ht (D + 1) cells s₂ H fp _ s6 σ6 H6 _ I6 q6) (λ b s7 ⟨H7, I7, q7⟩ => ?_) λ _ _ z => z.elim
   have fpK : ∀ {H' : Hp} {s' : Shared}, Inv (q0m X scope N' (D + 1) cells s₂ H fp) ([(D, { cls := .type "list", data := .seq its.toArray k })] ++ q5n fp s5.heap) σ6 H' s' -> tn (i + 1) s'.heap /\ (∀ b ∈ fp, H' b = none) /\ s'.heap.get? D = some { cls := .type "list", data := .seq its.toArray k } /\ H' D = none := λ {H' s'} J' => by
    refine ⟨T.keep _ _ _ st5 λ b hb o e => (J'.pin (b, o) (List.mem_append_right _ (List.mem_append_right _ (q2q hb e)))).1, λ b hb => ?_, ?_, ?_⟩
    ·obtain ⟨o, e, d⟩ := T.obj _ _ st5 b hb
     exact (J'.pin (b, o) (List.mem_append_right _ (List.mem_append_right _ (q2q hb e)))).2.1
    ·exact (J'.pin (D, _) (List.mem_append_right _ (List.mem_append_left _ List.mem_cons_self))).1
    ·exact (J'.pin (D, _) (List.mem_append_right _ (List.mem_append_left _ List.mem_cons_self))).2.1
   cases b with
   | false =>
    rw [if_neg Bool.false_ne_true] at q7 ⊢
    obtain ⟨m', hm, w7⟩ := q7
    obtain ⟨k1, k2, k3, k4⟩ := fpK I7
    exact ⟨m', hm, i + 1, ys, its, k, σ6, H7, I7.pins_of (λ p hp => (nomatch hp)), k1, k2, k4, k3, rv, hl, w7⟩
   | true =>
    rw [if_pos rfl] at q7 ⊢
    refine wpAny_mono (he (D + 1) cells s₂ H fp _ s7 σ6 H7 _ I7 q7) (λ y s8 ⟨v8, H8, I8, r8, q8⟩ => ?_) λ _ _ z => z.elim
    obtain ⟨m', hm, w8⟩ := q8
    obtain ⟨k1, k2, k3, k4⟩ := fpK I8
    have hits : its.length <= sizeLine := by rw [← rv.length]; exact hl
    refine append_at k3 (λ h9 hs9 hD9 => ?_) (by rw [List.size_toArray]; exact hits)
    have I9 : Inv (q0m X scope N' (D + 1) cells s₂ H fp) [] σ6 H8 s8 := I8.pins_of λ p hp => (nomatch hp)
    refine ⟨m', hm, i + 1, ys ++ [v8], its ++ [y], k + 1, σ6, H8, I9.turned (it := D) (t' := s8.toks) (λ b o hb e => (hs9.2 b hb).trans e) k4 hDC (.inr (by show s₂.heap.objs.size <= D; omega)) hDcell (λ p hp => (nomatch hp)), ?_, k2, k4, ?_, rv.snoc r8, ?_, w8⟩
    ·exact T.keep _ _ _ k1 λ b hb o e => (hs9.2 b (by have q : @LT.lt Nat _ b D := ho b hb; show @Ne Nat b D; omega)).trans e
    ·rw [hD9, List.push_toArray]
    ·rw [List.length_append, List.length_singleton]; omega
 exact codeAny_compStart_list loop (T.self X.A 0 _ _ _ (T.keep _ _ _ st λ b _ o e => keep b o e) loop)
noncomputable def q9X (fr : List (Option Nat)) (wi : TI) (g : TG) (tc : TT) (te : TE) : TE := λ σ H Q => wi σ H λ J H1 => z0b J g tc te (λ ys H' => ∀ p, H' p = none -> Q (.ref p) (upd H' p (.lst ys))) (inner fr σ) H1
theorem q8Z {X : Cx} {N' : List Str} {scope : Scope} {fr : List (Option Nat)} {iter elt tg : Expr} {ifs : List Expr} {pos : Pos} {wi : TI} {g : TG} {te : TE} {tc : TT} (S : CompScope X.N N' scope X.env.scope fr) (hc : X.calm = true) (hi : PI X tg iter wi)
  (hg : ∀ C cells s₂ H₂ fp, PG (q0m X scope N' C cells s₂ H₂ fp) tg g) (ht : ∀ C cells s₂ H₂ fp, PTs (q0m X scope N' C cells s₂ H₂ fp) ifs tc) (he : ∀ C cells s₂ H₂ fp, PE (q0m X scope N' C cells s₂ H₂ fp) elt te)
  (hs : ∀ x, foldedSetIterable iter X.env x = pure x := by intro _; rfl) : PE X (.ListComp elt [⟨tg, iter, ifs, 0⟩] scope pos) (q9X fr wi g tc te) := by
 intro pins s σ H Q I h
 rw [eval_ListComp]
 have hfree : ∀ y ∈ scope.names, y.2 = NameKind.free -> ∃ c, X.env.cells.lookup y.1 = some c := λ y hy hk => I.ok.has y.1 (S.out y hy hk)
 refine wpAny_comprehension_free (use := none) rfl hs (q1Y hfree) S.kind (λ x hx hl => q0H S.snd (by rw [← hl]; exact hx)) (thn (hi pins s σ H _ I h) λ v s1 h1 => thn h1 λ itv s2 h2 => ?_)
 obtain ⟨it, fp, tn, J, H2, e, I2, T, st2, f2, w⟩ := h2
 subst e
 refine q6E (RR := λ acc C => compPost (model X.prog X.w) X.A X.xe none (EP X pins σ Q) acc C) S hc hg ht he I2 T st2 f2 w ?_
 intro D C H' s' m ys I' hD hnC hCn hCL hCs hCc hCp fin
 exact ⟨m, hnC, λ h' hs' => ⟨.ref D, _, I'.turned (it := C) (t' := s'.toks) (λ b o hb e => (hs'.2 b hb).trans e) hCn hCL (.inr hCs) hCc hCp, rfl, fin D hD⟩⟩
theorem q7v {X : Cx} {N' : List Str} {scope : Scope} {fr : List (Option Nat)} {iter elt tg : Expr} {ifs : List Expr} {pos spos py : Pos} {y : Str} {i : Nat} {wi : TI} {g : TG} {te : TE} {tc : TT} (S : CompScope X.N N' scope X.env.scope fr) (hc : X.calm = true) (hN : X.N.Nodup) (hiN : X.N[i]? = some y)
  (hy : X.env.scope.names.lookup y = some .local) (hi : PI X tg iter wi)
  (hg : ∀ C cells s₂ H₂ fp, PG (q0m X scope N' C cells s₂ H₂ fp) tg g) (ht : ∀ C cells s₂ H₂ fp, PTs (q0m X scope N' C cells s₂ H₂ fp) ifs tc) (he : ∀ C cells s₂ H₂ fp, PE (q0m X scope N' C cells s₂ H₂ fp) elt te)
  (hsw : swapsWith (.ListComp elt [⟨tg, iter, ifs, 0⟩] scope pos) (some (.Name y py)) spos.line X.env = pure true := by rfl)
  (hs : ∀ x, foldedSetIterable iter X.env x = pure x := by intro _; rfl) : PS X (.Assign [.Name y py] (.ListComp elt [⟨tg, iter, ifs, 0⟩] scope pos) spos) (tAsg (q9X fr wi g tc te) (q9h i)) := by
 intro pins s σ H Dn I h
 rw [exec_Assign_Name_used _ _ _ _ hsw]
 refine wpAny_bind (wpAny_standAt (wpAny_bind ?_))
 show wpAny _ _ (do let _ ← comprehension (.ListComp elt [⟨tg, iter, ifs, 0⟩] scope pos) scope X.env _ (newList []) false (eval iter X.env) (some (assign (.Name y py) X.env))) _ _ s
 have hfree : ∀ y ∈ scope.names, y.2 = NameKind.free -> ∃ c, X.env.cells.lookup y.1 = some c := λ y hy hk => I.ok.has y.1 (S.out y hy hk)
 refine wpAny_bind (wpAny_mono (wpAny_comprehension_free (use := some (assign (.Name y py) X.env)) (Q := λ _ s' => SP X pins Dn .next s') rfl hs (q1Y hfree) S.kind (λ x hx hl => q0H S.snd (by rw [← hl]; exact hx))
  (thn (hi pins s σ H _ I h) λ v s1 h1 => thn h1 λ itv s2 h2 => ?_)) (λ _ s' hq => wpAny_pure (wpAny_pure hq)) λ _ _ e => e)
 obtain ⟨it, fp, tn, J, H2, e, I2, T, st2, f2, w⟩ := h2
 subst e
 refine q6E (RR := λ acc C => compPost (model X.prog X.w) X.A X.xe (some (assign (.Name y py) X.env)) (λ _ s' => SP X pins Dn .next s') acc C) S hc hg ht he I2 T st2 f2 w ?_
 intro D C H' s' m ys I' hD hnC hCn hCL hCs hCc hCp fin
 refine wpAny_assign_Name (q5g (v := .ref D) I' hN hiN (Or.inl hy) rfl (λ s'' I'' ⟨a, hsb, ha⟩ => ⟨m, hnC.sameBut hsb ?_, λ h' hs' => ⟨_, _, I''.turned (it := C) (t' := s''.toks) (λ b o hb e => (hs'.2 b hb).trans e) hCn hCL (.inr hCs) hCc hCp, fin D hD⟩⟩) (.inr hy))
 rcases ha with z | z
 ·rw [z]; exact hCL
 ·exact Ne.symm (hCc y a z)
end L2
end
section
namespace L2
open PySem PySem.Spec PyProof.Rows
structure Fly (P : Program) (w : World) (base : Heap) (l : List Env) (ea : Addr) (C : Value) (H : Hp) (B h : Heap) : Prop where
 fly : ∃ a0, Heap.FlyingW B l ea C a0 h
 bas : ∀ b o, base.get? b = some o -> B.get? b = some o
 hok : HOk P w H B
theorem Fly.stays {P : Program} {w : World} {base : Heap} {l : List Env} {ea : Addr} {C : Value} {H : Hp} {B h : Heap} (F : Fly P w base l ea C H B h) : ∀ b o, B.get? b = some o -> h.get? b = some o := by
 obtain ⟨a0, f⟩ := F.fly
 exact f.1
noncomputable def CXx (P : Program) (w : World) (base : Heap) : CXT := λ outer H s E e s' => ∃ (ea : Addr) (C : Value) (H' : Hp) (B : Heap), e = .ref ea /\ s'.os = s.os /\ AllBare s'.gens /\ Un (frs outer) [] H H' s.heap s'.heap /\
 Fly P w base outer ea C H' B s'.heap /\ (∀ b o, s.heap.get? b = some o -> b ∉ frs outer -> ∃ o', B.get? b = some o') /\ E C none H'
theorem Un.flown {fs ex : List Addr} {H H' : Hp} {h0 h1 h2 B : Heap} (u : Un fs ex H H' h0 h1) (cov : ∀ b o, h0.get? b = some o -> b ∉ fs -> b ∉ ex -> ∃ o', B.get? b = some o') (s1 : ∀ b o, B.get? b = some o -> h1.get? b = some o) (s2 : ∀ b o, B.get? b = some o -> h2.get? b = some o)
  (up : h1.UpToSlots h2) (fd : ∀ b ∈ fs, b ∉ ex /\ H b = none /\ ∀ o, h0.get? b = some o -> ∀ vs, o.data ≠ .fields vs) : Un fs ex H H' h0 h2 := by
 have keep : ∀ b o, h0.get? b = some o -> H b = none -> b ∉ fs -> b ∉ ex -> h2.get? b = some o := λ b o e n hb hx => by
  have e1 := u.keep b o e n hb hx
  obtain ⟨o', q⟩ := cov b o e hb hx
  have q1 := s1 b o' q
  rw [e1] at q1; cases q1
  exact s2 b o q
 have slot : ∀ b o, h0.get? b = some o -> H b = none -> b ∈ fs -> b ∉ ex -> ∃ sl, h2.get? b = some { o with slots := sl } := λ b o e n hb hx => by
  obtain ⟨sl, e1⟩ := u.slot b o e n hb hx
  obtain ⟨sl', e2⟩ := up b _ e1 ((fd b hb).2.2 o e)
  exact ⟨sl', e2⟩
 refine ⟨keep, slot, u.free, λ b o e hx => ?_, u.tups, u.frzs, u.tbls⟩
 by_cases hb : b ∈ fs
 ·obtain ⟨sl, q⟩ := slot b o e (fd b hb).2.1 hb hx
  exact ⟨_, q⟩
 ·obtain ⟨o', q⟩ := cov b o e hb hx
  exact ⟨o', s2 b o' q⟩
section
variable {X : Cx} {pins : List (Addr × Obj)} {σ : St} {H : Hp} {s : Shared}
theorem Inv.frameData (I : Inv X pins σ H s) : ∀ b ∈ X.fs, b ∉ X.ex /\ X.H₀ b = none /\ ∀ o, X.s₀.heap.get? b = some o -> ∀ vs, o.data ≠ .fields vs := λ b hb => by
 refine ⟨λ z => I.ok.exfs b z hb, I.ok.frf b hb, λ o e => ?_⟩
 obtain ⟨_, o', e', d⟩ := I.ok.funs.mem hb
 rw [e] at e'; cases e'
 exact d
theorem Inv.notStk (I : Inv X pins σ H s) {b : Addr} {o : Obj} (e : X.s₀.heap.get? b = some o) (hb : b ∉ X.fs) : b ∉ frs X.stack := λ z => by
 rcases List.mem_cons.mp (I.stkSub b z) with q | q
 ·exact absurd (Nat.lt_of_lt_of_le (Heap.lt_size e) I.ok.above) (by rw [q]; exact Nat.lt_irrefl _)
 ·exact hb q
end
section
variable {P : Program} {w : World} {K : PySem.W.Frag} {mg : Str -> Option Value} {base : Heap} {N : List Str} {qual : Str} {scope : Scope} {f : Addr} {cd : Value} {A : Around} {outer : List Env} {s : Shared} {H : Hp} {E : XK}
noncomputable abbrev cxD (P : Program) (w : World) (K : PySem.W.Frag) (mg : Str -> Option Value) (base : Heap) (N : List Str) (qual : Str) (scope : Scope) (f : Addr) (cd : Value) (A : Around) (outer : List Env) (s : Shared) (H : Hp) (E : XK) : Cx :=
 cxOf (CXx P w base) P w K mg base N qual scope f cd A outer s H E
theorem q5T {pins : List (Addr × Obj)} {σ : St} {H1 : Hp} {s1 : Shared} {h' : Heap} {ea : Addr} {C : Value} {vs : List Value} (I : Inv (cxD P w K mg base N qual scope f cd A outer s H E) pins σ H1 s1) (hx : Heap.MadeExcOf s1.heap h' ea C vs) (hE : E C none H1) :
  (cxD P w K mg base N qual scope f cd A outer s H E).xe (.ref ea) { s1 with heap := h' } := by
 have hstk := I.stack
 have hin : ∀ env ∈ (cxD P w K mg base N qual scope f cd A outer s H E).stack, ∀ a, env.frame = some a -> a ∈ frs (cxD P w K mg base N qual scope f cd A outer s H E).stack := λ env he b hb => List.mem_filterMap.mpr ⟨env, he, hb⟩
 have hB1 : ∀ b o, (PySem.W.hideAll s1.heap (frs (cxD P w K mg base N qual scope f cd A outer s H E).stack)).get? b = some o -> s1.heap.get? b = some o := λ b o q => PySem.W.of_hideAll _ q
 have hHid : ∀ b u, H1 b ≠ none -> s1.heap.get? b = some u -> (PySem.W.hideAll s1.heap (frs (cxD P w K mg base N qual scope f cd A outer s H E).stack)).get? b = some u := λ b u hb q => PySem.W.hideAll_get _ q λ z => hb (I.stkFree b z)
 refine wpAny_leaves_madeW (base := PySem.W.hideAll s1.heap (frs (cxD P w K mg base N qual scope f cd A outer s H E).stack)) (h := s1.heap) I.ok.frames rfl hB1 (PySem.W.funFrames_hide hstk hin) hx λ h2 t fl tup nt up => ?_
 have hcov : ∀ b o, s.heap.get? b = some o -> b ∉ frs outer -> ∃ o', (PySem.W.hideAll s1.heap (frs (cxD P w K mg base N qual scope f cd A outer s H E).stack)).get? b = some o' := λ b o e hb => by
  obtain ⟨o1, e1⟩ := I.base.there b o e (by intro z; exact nomatch z)
  exact ⟨o1, PySem.W.hideAll_get _ e1 (I.notStk e hb)⟩
 refine ⟨ea, C, H1, _, rfl, I.os, I.bare, I.base.flown (λ b o e hb _ => hcov b o e hb) hB1 fl.1 ((Heap.UpToSlots.of_keeps hx.keeps).trans up) I.frameData, ⟨⟨_, fl⟩, λ b o e => ?_, λ a o q => ?_⟩, hcov, hE⟩
 ·refine PySem.W.hideAll_get _ (I.bk b o e) λ z => ?_
  have q : base.get? b = none := (hstk.mem z).1
  rw [q] at e; cases e
 ·refine (I.hok a o q).stay (λ b u hc e => hHid b u ?_ e) (λ _ z => z) λ _ _ z => z
  rcases hc with z | z
  ·subst z; rw [q]; intro z; cases z
  ·rw [z]; intro z; cases z
theorem q9S {pins : List (Addr × Obj)} {σ : St} {H1 : Hp} {s1 : Shared} {ea : Addr} {C : Value} {B : Heap} (I : Inv (cxD P w K mg base N qual scope f cd A outer s H E) pins σ H1 s1) (F : Fly P w base (cxD P w K mg base N qual scope f cd A outer s H E).stack ea C H1 B s1.heap)
  (cov : ∀ b o, s.heap.get? b = some o -> b ∉ frs (cxD P w K mg base N qual scope f cd A outer s H E).stack -> ∃ o', B.get? b = some o') (hE : E C none H1) : (cxD P w K mg base N qual scope f cd A outer s H E).xe (.ref ea) s1 := by
 obtain ⟨a0, fl⟩ := F.fly
 refine wpAny_leaves_onW I.ok.frames rfl fl λ h2 fl2 up => ?_
 have hcov : ∀ b o, s.heap.get? b = some o -> b ∉ frs outer -> ∃ o', B.get? b = some o' := λ b o e hb => cov b o e (I.notStk e hb)
 exact ⟨ea, C, H1, B, rfl, I.os, I.bare, I.base.flown (λ b o e hb _ => hcov b o e hb) F.stays fl2.1 up I.frameData, ⟨⟨_, fl2⟩, F.bas, F.hok⟩, hcov, hE⟩
theorem q7l : q8G (CXx P w base) (cxD P w K mg base N qual scope f cd A outer s H E) E := by
 intro pins σ H0 s0 e s' I hcx
 obtain ⟨ea, C, H', B, rfl, os, bare, un, F, cov, hE⟩ := hcx
 have I' : Inv (cxD P w K mg base N qual scope f cd A outer s H E) pins σ H' s' := I.call' os un (F.hok.kept F.stays) bare λ b hb => nomatch hb
 refine q9S I' F (λ b o e hb => ?_) hE
 obtain ⟨o1, e1⟩ := I.base.there b o e (by intro z; exact nomatch z)
 exact cov b o1 e1 hb
end
noncomputable def excO (ea : Addr) (C : Value) : HO := .ext λ h => ∃ oe vs, h.get? ea = some oe /\ oe.cls = C /\ oe.data = .fields vs
noncomputable def XP (X : Cx) (pins : List (Addr × Obj)) (E : St -> Value -> Hp -> Prop) (e : Value) (s' : Shared) : Prop := ∃ (ea : Addr) (C : Value) (σ' : St) (H' : Hp) (B : Heap), e = .ref ea /\ Inv X pins σ' H' s' /\ Fly X.prog X.w X.base X.stack ea C H' B s'.heap /\
 (∀ b o, X.s₀.heap.get? b = some o -> b ∉ frs X.stack -> b ∉ X.ex -> ∃ o', B.get? b = some o') /\ (∀ p ∈ X.pn ++ pins, ∃ o', B.get? p.1 = some o') /\ E σ' C H'
section
variable {X : Cx} {pins pins' : List (Addr × Obj)} {σ : St} {H : Hp} {s : Shared} {E : St -> Value -> Hp -> Prop} {ea : Addr}
theorem Inv.track {a : Addr} {o : HO} (I : Inv X pins σ H s) (hn : H a = none) (h0 : X.s₀.heap.get? a = none) (hL : a ≠ X.env.locals) (hc : ∀ x c, X.env.cells.lookup x = some c -> c ≠ a) (hp : ∀ p ∈ X.pn ++ pins, p.1 ≠ a) (new : q1X X.prog X.w (upd H a o) s.heap a o) :
  Inv X pins σ (upd H a o) s :=
 ⟨I.ok, I.os, I.bare, I.base.track hn h0, I.loc, I.cell, by rw [q0j (Ne.symm hL)]; exact I.free, λ x c e => by rw [q0j (hc x c e)]; exact I.freeC x c e, λ p hq => by
  obtain ⟨e, n, ne, nf, d⟩ := I.pin p hq
  exact ⟨e, by rw [q0j (hp p hq)]; exact n, ne, nf, d⟩, I.hok.track hn new, I.len⟩
end
noncomputable def q1M (CX : CXT) (X : Cx) (E : St -> XK) : Prop := ∀ (pins : List (Addr × Obj)) (σ : St) (H : Hp) (s : Shared) (e : Value) (s' : Shared), Inv X pins σ H s -> CX X.stack H s (E σ) e s' -> X.xe e s'
theorem q8G.s {CX : CXT} {X : Cx} {E : XK} (h : q8G CX X E) : q1M CX X λ _ => E := λ pins σ H s e s' I q => h pins σ H s e s' I q
section
variable {X : Cx} {CX : CXT} {k : Nat} {f C : Addr} {fd : FuncData} {ps : List Str} {sp : Sp} {dvs : List V} {ds : List Value} {E : St -> XK} {x m : Str} {p pos apos : Pos} {e o : Expr} {es : List Expr} {ta : TE} {t : TA}
theorem z2L {pins : List (Addr × Obj)} {σ : St} {H : Hp} {s : Shared} {Q : VK} {us : List Value} {vs : List V} (F : FnOk X.prog X.w X.K X.mg X.base CX k f fd ps sp) (hr : Room k X.A) (hb : q3l X.K fd ps ds) (hd : Vals dvs ds) (hx : q1M CX X E)
  (I : Inv X pins σ H s) (r : Vals vs us) (h : sp (vs ++ dvs) H Q (E σ)) : wpAny (model X.prog X.w) X.A (call (.ref f) us) (EP X pins σ Q) X.xe s := by
 have r2 : Vals (vs ++ dvs) (us ++ ds) := r.append hd
 have hl : (us ++ ds).length = ps.length := by rw [← r2.length]; exact F.len _ _ _ _ h
 refine wpAny_call (codeAny_mono (F.run X.A X.stack s H ⟨us, []⟩ (us ++ ds) (vs ++ dvs) Q (E σ) hr I.env0 (hb s us I.kIn hl) r2 h) λ r s' hq => ?_)
 cases r with
 | error e => exact hx pins σ H s e s' I hq
 | ok fl =>
  cases fl with
  | ret u => exact I.after hq
  | next => exact False.elim hq
  | brk => exact False.elim hq
  | cont => exact False.elim hq
noncomputable def z4W (sp : Sp) (dvs : List V) (E : St -> XK) (t : TA) : TE := λ σ H Q => t σ H λ vs H1 => sp (vs ++ dvs) H1 Q (E σ)
theorem q4H (F : FnOk X.prog X.w X.K X.mg X.base CX k f fd ps sp) (hr : Room k X.A) (hg : Gl X x) (hm : X.mg x = some (.ref f)) (hk : PySem.W.keepIn X.K (.ref f) = true) (hb : q3l X.K fd ps ds) (hd : Vals dvs ds) (hx : q1M CX X E)
  (ha : PA X (e :: es) t) (hdb : (x == ("__debug__" : Str)) = false := by decide) (he : starEach (e :: es) X.env = (false, eval e X.env) :: starEach es X.env := by rfl) (hpl : (backTo pos (starEach es X.env)).any (·.1) = false := by rfl) :
  PE X (.Call (.Name x p) (e :: es) [] pos) (z4W sp dvs E t) := by
 intro pins s σ H Q I h
 refine wpAny_Call_Name_kw (q7P I hg hm ?_ hdb)
 refine PySem.W.callWith_K (h₀ := X.base) I.ok.mod.kin hk (thn (ha pos pins s σ H _ I h) λ us s1 ⟨vs, H1, I1, r, q⟩ => ⟨I1.kIn, ?_⟩) he hpl
 exact z2L F hr hb hd hx I1 r q
end
noncomputable def q6R (X : Cx) (E : St -> XK) : Prop := ∀ (pins : List (Addr × Obj)) (σ : St) (H : Hp) (s : Shared) (h' : Heap) (ea : Addr) (C : Value) (vs : List Value), Inv X pins σ H s -> Heap.MadeExcOf s.heap h' ea C vs -> E σ C none H -> X.xe (.ref ea) { s with heap := h' }
theorem q7J {P : Program} {w : World} {K : PySem.W.Frag} {mg : Str -> Option Value} {base : Heap} {N : List Str} {qual : Str} {scope : Scope} {f : Addr} {cd : Value} {A : Around} {outer : List Env} {s : Shared} {H : Hp} {E : XK} :
  q6R (cxD P w K mg base N qual scope f cd A outer s H E) λ _ => E := λ pins σ H1 s1 h' ea C vs I hx hE => q5T I hx hE
end L2
end
section
namespace L2
open PySem PySem.W PySem.Spec PySem.Calls PyProof.Rows PySem.Builtin PySem.Builtin.ObjectAttr PySem.Builtin.Getset_descriptor
section
variable {prog : Program} {w : World} {K : Frag} {x D : Addr} {M : Model} {h : Heap}
structure ClsK (K : Frag) (D : Addr) : Prop where
 ga : findIn K (.ref D) "__getattribute__" = some (some (.builtin "BaseException.__getattribute__"))
 gt : findIn K (.ref D) "__getattr__" = some none
 mb : mroIn K D (.type "BaseException") = some true
 hd : hasDictIn K D = true
 fc : findIn K (.ref D) "__class__" = some (some (.builtin "object.__class__"))
 sg : specialIn K (.builtin "object.__class__") "__get__" = some (some (.builtin "getset_descriptor.__get__"))
 tk : takesIn K (.builtin "object.__class__") = some true
 mo : mroIn K D (.type "object") = some true
variable {A : Around} {E : Value -> Shared -> Prop} {s : Shared}
end
end L2
end
section
namespace L2
open PySem PySem.Spec PyProof.Rows
structure Src (P : Program) (w : World) (ia la : Addr) (vs : Array Value) (S : Nat -> Heap -> Prop) : Prop where
 keep : ∀ k h h', S k h -> (∀ o, h.get? ia = some o -> h'.get? ia = some o) -> (∀ o, h.get? la = some o -> h'.get? la = some o) -> S k h'
 there : ∀ k h, S k h -> ∃ o xs, h.get? ia = some o /\ o.data = .fields xs
 step : ∀ {A : Around} {E : Value -> Shared -> Prop} {s : Shared} {Q : Value -> Shared -> Prop} (k : Nat) (x : Value), S k s.heap -> vs[k]? = some x -> (∀ h', S (k + 1) h' -> Heap.SameBut ia s.heap h' -> Q x { s with heap := h' }) ->
  wpAny (model P w) A (Builtin.SmallTypes.nextOf (.ref ia)) Q E s
 stop : ∀ {A : Around} {E : Value -> Shared -> Prop} {s : Shared} {Q : Value -> Shared -> Prop} (k : Nat), A.handled = none -> S k s.heap -> vs[k]? = none ->
  (∀ h' e, Heap.ExtBut ia s.heap h' -> (∃ o, h'.get? e = some o /\ o.cls = .type "StopIteration") -> E (.ref e) { s with heap := h' }) -> wpAny (model P w) A (Builtin.SmallTypes.nextOf (.ref ia)) Q E s
noncomputable def sL (ia la : Addr) (vs : Array Value) : Nat -> Heap -> Prop := λ k h => h.IsListIter ia la k /\ h.IsList la vs
noncomputable def sT (ia la : Addr) (vs : Array Value) : Nat -> Heap -> Prop := λ k h => h.IsTupleIter ia la k /\ h.IsTuple la vs
theorem q9Y {P : Program} {w : World} {ia la : Addr} {vs : Array Value} (ne : la ≠ ia) : Src P w ia la vs (sL ia la vs) where
 keep := λ k h h' ⟨p, q⟩ e1 e2 => ⟨p.at e1, q.at e2⟩
 there := λ k h ⟨p, q⟩ => by obtain ⟨o, e, _, d⟩ := p; exact ⟨o, _, e, d⟩
 step := λ k x ⟨p, q⟩ hx hq => wpAny_nextOf_list_item p q hx λ h' p' sb => hq h' ⟨p', q.extBut sb.extBut ne⟩ sb
 stop := λ k hh ⟨p, q⟩ hx hq => wpAny_nextOf_list_end hh p q hx hq
section
variable {P : Program} {w : World} {A : Around} {E : Value -> Shared -> Prop} {s : Shared}
theorem q9Z {ja ta : Addr} {k : Nat} {vs : Array Value} {x : Value} {Q : Value -> Shared -> Prop} (p : s.heap.IsTupleIter ja ta k) (q : s.heap.IsTuple ta vs) (hx : vs[k]? = some x) (hq : ∀ h', h'.IsTupleIter ja ta (k + 1) -> Heap.SameBut ja s.heap h' -> Q x { s with heap := h' }) :
  wpAny (model P w) A (Builtin.SmallTypes.nextOf (.ref ja)) Q E s := by
 obtain ⟨ob, e1, e2, e3⟩ := id p
 obtain ⟨ot, f1, _, nn, f3⟩ := q
 unfold Builtin.SmallTypes.nextOf
 refine wpAny_bind (wpAny_callSpecial?_slot (name := Str.ofString "__next__") p.typeIs F.slot_tuple_iterator_next (wpAny_call_entry F.slot_tuple_iterator_next p.typeIs F.entry_tuple_iterator_next ?_ (F.args_tuple_iterator_next_1 _)))
 show wpAny _ _ (field (.ref ja) 0 >>= _) _ _ s
 refine wpAny_bind (wpAny_field e1 e3 (x := .ref ta) rfl ?_)
 show wpAny _ _ (if (Value.ref ta == Value.none) = true then _ else _) _ _ s
 rw [if_neg (show ¬ ((Value.ref ta == Value.none) = true) from Bool.false_ne_true)]
 show wpAny _ _ (field (.ref ja) 1 >>= _) _ _ s
 refine wpAny_bind (wpAny_field e1 e3 (x := .int k 0) rfl ?_)
 show wpAny _ _ (seqItems? (.ref ta) >>= _) _ _ s
 refine wpAny_bind (wpAny_seqItems f1 f3 ?_)
 simp only [Int.toNat_natCast, hx]
 refine wpAny_bind (wpAny_setField e1 e3 (by simp) (wpAny_pure ⟨x, rfl, wpAny_pure (hq _ ?_ (Heap.SameBut.update ..))⟩))
 exact ⟨_, Heap.get?_update_self _ e1 (Obj.isFreed_of_fields (Obj.data_mapFields e3 _)), (Obj.cls_mapFields ..).trans e2, by rw [Obj.data_mapFields e3]; simp [rawInt]⟩
theorem z0c {ja ta : Addr} {k : Nat} {vs : Array Value} {Q : Value -> Shared -> Prop} (hh : A.handled = none) (p : s.heap.IsTupleIter ja ta k) (q : s.heap.IsTuple ta vs) (hx : vs[k]? = none) (hE : ∀ h' e, Heap.ExtBut ja s.heap h' -> (∃ o, h'.get? e = some o /\ o.cls = .type "StopIteration") -> E (.ref e) { s with heap := h' }) :
  wpAny (model P w) A (Builtin.SmallTypes.nextOf (.ref ja)) Q E s := by
 obtain ⟨ob, e1, e2, e3⟩ := id p
 obtain ⟨ot, f1, _, nn, f3⟩ := q
 unfold Builtin.SmallTypes.nextOf
 refine wpAny_bind (wpAny_callSpecial?_slot (name := Str.ofString "__next__") p.typeIs F.slot_tuple_iterator_next (wpAny_call_entry F.slot_tuple_iterator_next p.typeIs F.entry_tuple_iterator_next ?_ (F.args_tuple_iterator_next_1 _)))
 show wpAny _ _ (field (.ref ja) 0 >>= _) _ _ s
 refine wpAny_bind (wpAny_field e1 e3 (x := .ref ta) rfl ?_)
 show wpAny _ _ (if (Value.ref ta == Value.none) = true then _ else _) _ _ s
 rw [if_neg (show ¬ ((Value.ref ta == Value.none) = true) from Bool.false_ne_true)]
 show wpAny _ _ (field (.ref ja) 1 >>= _) _ _ s
 refine wpAny_bind (wpAny_field e1 e3 (x := .int k 0) rfl ?_)
 show wpAny _ _ (seqItems? (.ref ta) >>= _) _ _ s
 refine wpAny_bind (wpAny_seqItems f1 f3 ?_)
 simp only [Int.toNat_natCast, hx]
 refine wpAny_bind (wpAny_rule (wpAny_bind (wpAny_setField e1 e3 (by simp) ?_)))
 show wpAny _ _ (newExc (.type "StopIteration") [] >>= λ y => raiseNew y) _ _ _
 refine wpAny_bind ?_
 simp only [newExc, newTuple]
 refine wpAny_bind (wpAny_newObj_type ?_ (by size_fits)); refine wpAny_bind (m := firstArgMember _ _) (wpAny_of_eq (a := Value.none) (by first | rfl | (simp only [firstArgMember]; rfl)) ?_)
 refine wpAny_newObj_type ?_ (by size_fits); simp only [raiseNew]; refine wpAny_bind (wpAny_handled ?_)
 first | rw [show A.in1.handled = none from hh] | rw [hh]
 refine wpAny_bind (wpAny_pure (wpAny_throw (hE _ _ (((Heap.SameBut.update ..).extBut.push _).push _) ⟨_, Heap.get?_push_size _ rfl, rfl⟩)))
theorem z2f {ia la : Addr} {vs : Array Value} (ne : la ≠ ia) : Src P w ia la vs (sT ia la vs) where
 keep := λ k h h' ⟨p, q⟩ e1 e2 => ⟨by obtain ⟨o, e, r⟩ := p; exact ⟨o, e1 o e, r⟩, by obtain ⟨o, e, r⟩ := q; exact ⟨o, e2 o e, r⟩⟩
 there := λ k h ⟨p, q⟩ => by obtain ⟨o, e, _, d⟩ := p; exact ⟨o, _, e, d⟩
 step := λ k x ⟨p, q⟩ hx hq => q9Z p q hx λ h' p' sb => hq h' ⟨p', q.extBut sb.extBut ne⟩ sb
 stop := λ k hh ⟨p, q⟩ hx hq => z0c hh p q hx hq
variable {Z U W a b l1 l2 : Addr} {k : Nat} {vs1 vs2 : Array Value} {S1 S2 : Nat -> Heap -> Prop} {x y c d : Value}
theorem Src.ext {ia la : Addr} {vs : Array Value} {S : Nat -> Heap -> Prop} {h h' : Heap} {e : Addr} (R : Src P w ia la vs S) (q : S k h) (hs : Heap.ExtBut e h h') (n1 : ia ≠ e) (n2 : la ≠ e) : S k h' := R.keep k h h' q (λ o z => hs _ _ n1 z) (λ o z => hs _ _ n2 z)
theorem z0E {Q : Value -> Shared -> Prop} (D : ZipApart Z U W a b l1 l2) (R1 : Src P w a l1 vs1 S1) (R2 : Src P w b l2 vs2 S2) (hz : IsZip s.heap Z U W .none) (hU : IsPair s.heap U (.ref a) (.ref b)) (hW : IsPair s.heap W c d) (h1 : S1 k s.heap) (h2 : S2 k s.heap) (hx : vs1[k]? = some x) (hy : vs2[k]? = some y)
  (hQ : ∀ h', IsZip h' Z U W (rawInt s.heap.objs.size) -> IsPair h' W x y -> S1 (k + 1) h' -> S2 (k + 1) h' -> IsPair h' s.heap.objs.size x y -> h'.objs.size = s.heap.objs.size + 1 -> (∀ e o, e ≠ Z -> e ≠ W -> e ≠ a -> e ≠ b -> s.heap.get? e = some o -> h'.get? e = some o) -> Q (.ref s.heap.objs.size) { s with heap := h' }) :
  wpAny (model P w) A (Builtin.«zip.__next__» ⟨[.ref Z], []⟩) (λ fin s' => ∃ v, fin = .done (.ret v) /\ Q v s') E s := by
 show wpAny _ _ (field (.ref Z) 2 >>= _) _ _ _
 refine wpAny_bind (wpAny_field hz rfl (x := .bool false) rfl ?_)
 show wpAny _ _ (field (.ref Z) 3 >>= _) _ _ _
 refine wpAny_bind (wpAny_field hz rfl (x := .ref U) rfl (wpAny_bind (wpAny_seqItems hU rfl ?_)))
 show wpAny _ _ (Builtin.SmallTypes.ownedTupleIsFree (.ref Z) >>= _) _ _ _
 refine wpAny_bind ?_; unfold Builtin.SmallTypes.ownedTupleIsFree
 refine wpAny_bind (wpAny_field hz rfl (x := .none) rfl (wpAny_pure ?_)); simp only [if_true]
 refine wpAny_bind (wpAny_rule (wpAny_bind (wpAny_field hz rfl (x := .ref W) rfl ?_)))
 refine wpAny_bind (wpAny_setField_rec hz (by simp) λ g1 z1 t1 => ?_)
 replace z1 : IsZip g1 Z U W .ellipsis := z1
 refine wpAny_bind ?_; simp only [List.zipIdx_cons, List.zipIdx_nil, List.forIn_cons, List.forIn_nil]
 refine wpAny_bind (wpAny_bind (wpAny_onRaise ?_)); show wpAny _ _ (Builtin.SmallTypes.nextOf (.ref a) >>= _) _ _ _
 refine wpAny_bind (R1.step k x (R1.ext h1 t1.extBut D.i1z D.l1z) hx λ g2 r2 t2 => wpAny_pure ?_)
 have w2 : IsPair g2 W c d := t2.extBut _ _ D.TOi1 (t1.extBut _ _ D.TOz hW)
 refine wpAny_bind (wpAny_seqItems w2 rfl (wpAny_bind (wpAny_updateSeq_pair w2 λ g3 w3 t3 => ?_)))
 replace w3 : IsPair g3 W x d := w3
 refine wpAny_bind (wpAny_letGo (wpAny_pure ?_))
 refine wpAny_bind (wpAny_bind (wpAny_onRaise ?_)); show wpAny _ _ (Builtin.SmallTypes.nextOf (.ref b) >>= _) _ _ _
 refine wpAny_bind (R2.step k y (R2.ext (R2.ext (R2.ext h2 t1.extBut D.i2z D.l2z) t2.extBut D.i12.symm D.l2i1) t3.extBut D.TOi2.symm D.l2TO) hy λ g4 r4 t4 => wpAny_pure ?_)
 have w4 : IsPair g4 W x d := t4.extBut _ _ D.TOi2 w3
 refine wpAny_bind (wpAny_seqItems w4 rfl (wpAny_bind (wpAny_updateSeq_pair w4 λ g5 w5 t5 => ?_)))
 replace w5 : IsPair g5 W x y := w5
 refine wpAny_bind (wpAny_letGo (wpAny_pure (wpAny_pure (wpAny_bind (wpAny_seqItems w5 rfl (wpAny_bind (wpAny_newTuple ?_)))))))
 have sz : g5.objs.size = s.heap.objs.size := by rw [t5.1, t4.1, t3.1, t2.1, t1.1]
 have z5 : IsZip g5 Z U W .ellipsis := t5.extBut _ _ D.TOz.symm (t4.extBut _ _ D.i2z.symm (t3.extBut _ _ D.TOz.symm (t2.extBut _ _ D.i1z.symm z1)))
 have kk : ∀ e o, e ≠ Z -> e ≠ W -> e ≠ a -> e ≠ b -> s.heap.get? e = some o -> g5.get? e = some o := λ e o n1 n2 n3 n4 z => t5.extBut _ _ n2 (t4.extBut _ _ n4 (t3.extBut _ _ n2 (t2.extBut _ _ n3 (t1.extBut _ _ n1 z))))
 have r15 : S1 (k + 1) g5 := R1.ext (R1.ext (R1.ext r2 t3.extBut D.TOi1.symm D.l1TO) t4.extBut D.i12 D.l1i2) t5.extBut D.TOi1.symm D.l1TO
 have r25 : S2 (k + 1) g5 := R2.ext r4 t5.extBut D.TOi2.symm D.l2TO
 have zlt : Z < g5.objs.size := Heap.lt_size z5
 show wpAny _ _ (Builtin.SmallTypes.ownedTupleHandOut (.ref Z) (.ref g5.objs.size) >>= _) _ _ _
 refine wpAny_bind ?_; unfold Builtin.SmallTypes.ownedTupleHandOut
 have z6 : IsZip (g5.push { cls := .type "tuple", data := .seq #[x, y] }) Z U W .ellipsis := Heap.get?_push_of_some _ z5
 refine wpAny_bind (wpAny_setField_rec z6 (by simp) λ g7 z7 t7 => ?_)
 replace z7 : IsZip g7 Z U W (rawInt g5.objs.size) := z7
 refine wpAny_setField_rec z7 (by simp) λ g8 z8 t8 => ?_
 replace z8 : IsZip g8 Z U W (rawInt g5.objs.size) := z8
 have up : ∀ e o, e ≠ Z -> g5.get? e = some o -> g8.get? e = some o := λ e o n z => t8.extBut _ _ n (t7.extBut _ _ n (Heap.get?_push_of_some _ z))
 have T8 : IsPair g8 g5.objs.size x y := t8.extBut _ _ (Nat.ne_of_gt zlt) (t7.extBut _ _ (Nat.ne_of_gt zlt) (Heap.get?_push_size _ rfl))
 have s8 : g8.objs.size = g5.objs.size + 1 := by rw [t8.1, t7.1, Heap.size_push]
 rw [sz] at z8 T8 s8
 refine wpAny_pure ⟨_, rfl, ?_⟩; show Q (.ref g5.objs.size) _
 rw [sz]
 exact hQ g8 z8 (up _ _ D.TOz w5) (R1.keep _ _ _ r15 (λ o z => up _ o D.i1z z) (λ o z => up _ o D.l1z z)) (R2.keep _ _ _ r25 (λ o z => up _ o D.i2z z) (λ o z => up _ o D.l2z z)) T8 s8 λ e o n1 n2 n3 n4 z => up e o n1 (kk e o n1 n2 n3 n4 z)
theorem z0M {Q : Fin -> Shared -> Prop} (hh : A.handled = none) (D : ZipApart Z U W a b l1 l2) (R1 : Src P w a l1 vs1 S1) (R2 : Src P w b l2 vs2 S2) (hz : IsZip s.heap Z U W .none) (hU : IsPair s.heap U (.ref a) (.ref b)) (hW : IsPair s.heap W c d) (h1 : S1 k s.heap) (h2 : S2 k s.heap) (hend : vs1[k]? = none \/ vs2[k]? = none)
  (hE : ∀ h' e, (∀ f o, f ≠ Z -> f ≠ W -> f ≠ a -> f ≠ b -> s.heap.get? f = some o -> h'.get? f = some o) -> (∃ o, h'.get? e = some o /\ o.cls = .type "StopIteration") -> E (.ref e) { s with heap := h' }) :
  wpAny (model P w) A (Builtin.«zip.__next__» ⟨[.ref Z], []⟩) Q E s := by
 show wpAny _ _ (field (.ref Z) 2 >>= _) _ _ _
 refine wpAny_bind (wpAny_field hz rfl (x := .bool false) rfl ?_)
 show wpAny _ _ (field (.ref Z) 3 >>= _) _ _ _
 refine wpAny_bind (wpAny_field hz rfl (x := .ref U) rfl (wpAny_bind (wpAny_seqItems hU rfl ?_)))
 show wpAny _ _ (Builtin.SmallTypes.ownedTupleIsFree (.ref Z) >>= _) _ _ _
 refine wpAny_bind ?_; unfold Builtin.SmallTypes.ownedTupleIsFree
 refine wpAny_bind (wpAny_field hz rfl (x := .none) rfl (wpAny_pure ?_)); simp only [if_true]
 refine wpAny_bind (wpAny_rule (wpAny_bind (wpAny_field hz rfl (x := .ref W) rfl ?_)))
 refine wpAny_bind (wpAny_setField_rec hz (by simp) λ g1 z1 t1 => ?_)
 replace z1 : IsZip g1 Z U W .ellipsis := z1
 refine wpAny_bind ?_; simp only [List.zipIdx_cons, List.zipIdx_nil, List.forIn_cons, List.forIn_nil]
 refine wpAny_bind (wpAny_bind (wpAny_onRaise ?_)); show wpAny _ _ (Builtin.SmallTypes.nextOf (.ref a) >>= _) _ _ _
 cases hx : vs1[k]? with
 | none =>
  refine wpAny_bind (R1.stop k hh (R1.ext h1 t1.extBut D.i1z D.l1z) hx λ g2 e t2 he => ?_)
  obtain ⟨oe, q1, q2⟩ := he
  have z2 : IsZip g2 Z U W .ellipsis := t2 _ _ D.i1z.symm z1
  have ez : e ≠ Z := λ z => by subst z; rw [z2] at q1; cases q1; simp at q2
  exact wpAny_setField_rec z2 (by simp) λ g3 _ t3 => hE g3 e (λ f o n1 _ n3 _ z => t3.extBut _ _ n1 (t2 _ _ n3 (t1.extBut _ _ n1 z))) ⟨oe, t3.extBut _ _ ez q1, q2⟩
 | some x =>
  have hy : vs2[k]? = none := by rcases hend with h | h; rw [hx] at h; cases h; exact h
  refine wpAny_bind (R1.step k x (R1.ext h1 t1.extBut D.i1z D.l1z) hx λ g2 r2 t2 => wpAny_pure ?_)
  have w2 : IsPair g2 W c d := t2.extBut _ _ D.TOi1 (t1.extBut _ _ D.TOz hW)
  refine wpAny_bind (wpAny_seqItems w2 rfl (wpAny_bind (wpAny_updateSeq_pair w2 λ g3 w3 t3 => ?_)))
  refine wpAny_bind (wpAny_letGo (wpAny_pure ?_))
  refine wpAny_bind (wpAny_bind (wpAny_onRaise ?_)); show wpAny _ _ (Builtin.SmallTypes.nextOf (.ref b) >>= _) _ _ _
  refine wpAny_bind (R2.stop k hh (R2.ext (R2.ext (R2.ext h2 t1.extBut D.i2z D.l2z) t2.extBut D.i12.symm D.l2i1) t3.extBut D.TOi2.symm D.l2TO) hy λ g4 e t4 he => ?_)
  obtain ⟨oe, q1, q2⟩ := he
  have z4 : IsZip g4 Z U W .ellipsis := t4 _ _ D.i2z.symm (t3.extBut _ _ D.TOz.symm (t2.extBut _ _ D.i1z.symm z1))
  have ez : e ≠ Z := λ z => by subst z; rw [z4] at q1; cases q1; simp at q2
  exact wpAny_setField_rec z4 (by simp) λ g5 _ t5 => hE g5 e (λ f o n1 n2 n3 n4 z => t5.extBut _ _ n1 (t4 _ _ n4 (t3.extBut _ _ n2 (t2.extBut _ _ n3 (t1.extBut _ _ n1 z))))) ⟨oe, t5.extBut _ _ ez q1, q2⟩
theorem q7Q {Q : Option Value -> Shared -> Prop} (D : ZipApart Z U W a b l1 l2) (R1 : Src P w a l1 vs1 S1) (R2 : Src P w b l2 vs2 S2) (hz : IsZip s.heap Z U W .none) (hU : IsPair s.heap U (.ref a) (.ref b)) (hW : IsPair s.heap W c d) (h1 : S1 k s.heap) (h2 : S2 k s.heap) (hx : vs1[k]? = some x) (hy : vs2[k]? = some y)
  (hQ : ∀ h', IsZip h' Z U W (rawInt s.heap.objs.size) -> IsPair h' W x y -> S1 (k + 1) h' -> S2 (k + 1) h' -> IsPair h' s.heap.objs.size x y -> h'.objs.size = s.heap.objs.size + 1 -> (∀ e o, e ≠ Z -> e ≠ W -> e ≠ a -> e ≠ b -> s.heap.get? e = some o -> h'.get? e = some o) -> Q (some (.ref s.heap.objs.size)) { s with heap := h' }) :
  wpAny (model P w) A (pyNext (.ref Z)) Q E s := by
 have T : s.TypeIs (.ref Z) "zip" := ⟨_, hz, rfl⟩
 unfold pyNext
 exact wpAny_bind (wpAny_attempt (wpAny_callSpecial?_slot (name := Str.ofString "__next__") T F.slot_zip_next (wpAny_call_entry F.slot_zip_next T F.entry_zip_next (z0E D R1 R2 hz hU hW h1 h2 hx hy λ h' b1 b2 b3 b4 b5 b6 b7 => wpAny_pure (hQ h' b1 b2 b3 b4 b5 b6 b7)) (F.args_zip_next_1 _))))
theorem q8b {Q : Option Value -> Shared -> Prop} (hh : A.handled = none) (D : ZipApart Z U W a b l1 l2) (R1 : Src P w a l1 vs1 S1) (R2 : Src P w b l2 vs2 S2) (hz : IsZip s.heap Z U W .none) (hU : IsPair s.heap U (.ref a) (.ref b)) (hW : IsPair s.heap W c d) (h1 : S1 k s.heap) (h2 : S2 k s.heap) (hend : vs1[k]? = none \/ vs2[k]? = none)
  (hQ : ∀ h', (∀ f o, f ≠ Z -> f ≠ W -> f ≠ a -> f ≠ b -> s.heap.get? f = some o -> h'.get? f = some o) -> Q none { s with heap := h' }) : wpAny (model P w) A (pyNext (.ref Z)) Q E s := by
 have T : s.TypeIs (.ref Z) "zip" := ⟨_, hz, rfl⟩
 unfold pyNext
 refine wpAny_bind (wpAny_attempt (wpAny_callSpecial?_slot (name := Str.ofString "__next__") T F.slot_zip_next (wpAny_call_entry F.slot_zip_next T F.entry_zip_next (z0M hh D R1 R2 hz hU hW h1 h2 hend λ h' e hk he => ?_) (F.args_zip_next_1 _))))
 obtain ⟨o, q1, q2⟩ := he
 exact wpAny_bind (wpAny_isInstance (T := "StopIteration") (b := true) ⟨o, q1, q2⟩ isSubtype_stop (wpAny_pure (hQ _ hk)))
end
noncomputable def SqK (t : Bool) (h : Heap) (l : Addr) (vs : Array Value) : Prop := match t with | false => h.IsList l vs | true => h.IsTuple l vs
noncomputable def sK (t : Bool) (ia la : Addr) (vs : Array Value) : Nat -> Heap -> Prop := match t with | false => sL ia la vs | true => sT ia la vs
theorem q9R {P : Program} {w : World} {ia la : Addr} {vs : Array Value} (t : Bool) (ne : la ≠ ia) : Src P w ia la vs (sK t ia la vs) := by
 cases t
 ·exact q9Y ne
 ·exact z2f ne
noncomputable def itN : Bool -> String | false => "list_iterator" | true => "tuple_iterator"
noncomputable abbrev itO (t : Bool) (l : Addr) : Obj := { cls := .type (itN t), data := .fields #[.ref l, .int 0 0] }
noncomputable abbrev zH1 (h : Heap) (t1 : Bool) (l1 : Addr) : Heap := h.push (itO t1 l1)
noncomputable abbrev zH2 (h : Heap) (t1 t2 : Bool) (l1 l2 : Addr) : Heap := (zH1 h t1 l1).push (itO t2 l2)
noncomputable abbrev zH3 (h : Heap) (t1 t2 : Bool) (l1 l2 : Addr) : Heap := (zH2 h t1 t2 l1 l2).push { cls := .type "tuple", data := .seq #[.ref h.objs.size, .ref (zH1 h t1 l1).objs.size] }
noncomputable abbrev zH4 (h : Heap) (t1 t2 : Bool) (l1 l2 : Addr) : Heap := (zH3 h t1 t2 l1 l2).push { cls := .type "tuple", data := .seq #[.none, .none] }
noncomputable abbrev zH5 (h : Heap) (t1 t2 : Bool) (l1 l2 : Addr) : Heap := (zH4 h t1 t2 l1 l2).push { cls := .type "zip", data := .fields #[.none, .bool false, .bool false, .ref (zH2 h t1 t2 l1 l2).objs.size, .ref (zH3 h t1 t2 l1 l2).objs.size] }
theorem q9G (t1 t2 : Bool) (l1 l2 : Addr) (vs1 vs2 : Array Value) : Meets (Builtin.«zip.__new__» ⟨[.type "zip", .ref l1, .ref l2], []⟩) (λ _ R s => SqK t1 s.heap l1 vs1 /\ SqK t2 s.heap l2 vs2 /\ R (.ok (.ret (.ref (zH4 s.heap t1 t2 l1 l2).objs.size))) { s with heap := zH5 s.heap t1 t2 l1 l2 }) :=
 .of_wp λ P w A R s h => by
  obtain ⟨h0, g0, d0, k0, o0⟩ := s
  obtain ⟨q1, q2, h⟩ := h
  have hsub := sub_zip
  cases t1 <;> cases t2
  ·have e1 : Heap.IsList (Shared.heap ⟨h0, g0, d0, k0, o0⟩) l1 vs1 := q1
   have e2 : Heap.IsList (Shared.heap ⟨h0.push { cls := .type "list_iterator", data := .fields #[.ref l1, .int 0 0] }, g0, d0, k0, o0⟩) l2 vs2 := Heap.IsList.push q2 _
   wp_walk using wpAny_pyIter_list e1, wpAny_pyIter_list e2
   exact ⟨_, rfl, h⟩
  ·have e1 : Heap.IsList (Shared.heap ⟨h0, g0, d0, k0, o0⟩) l1 vs1 := q1
   have e2 : Heap.IsTuple (Shared.heap ⟨h0.push { cls := .type "list_iterator", data := .fields #[.ref l1, .int 0 0] }, g0, d0, k0, o0⟩) l2 vs2 := Heap.IsTuple.push q2 _
   wp_walk using wpAny_pyIter_list e1, wpAny_pyIter_tuple e2
   exact ⟨_, rfl, h⟩
  ·have e1 : Heap.IsTuple (Shared.heap ⟨h0, g0, d0, k0, o0⟩) l1 vs1 := q1
   have e2 : Heap.IsList (Shared.heap ⟨h0.push { cls := .type "tuple_iterator", data := .fields #[.ref l1, .int 0 0] }, g0, d0, k0, o0⟩) l2 vs2 := Heap.IsList.push q2 _
   wp_walk using wpAny_pyIter_tuple e1, wpAny_pyIter_list e2
   exact ⟨_, rfl, h⟩
  ·have e1 : Heap.IsTuple (Shared.heap ⟨h0, g0, d0, k0, o0⟩) l1 vs1 := q1
   have e2 : Heap.IsTuple (Shared.heap ⟨h0.push { cls := .type "tuple_iterator", data := .fields #[.ref l1, .int 0 0] }, g0, d0, k0, o0⟩) l2 vs2 := Heap.IsTuple.push q2 _
   wp_walk using wpAny_pyIter_tuple e1, wpAny_pyIter_tuple e2
   exact ⟨_, rfl, h⟩
theorem z1j {t : Bool} {ia la : Addr} {vs : Array Value} {h h' : Heap} (e : h'.get? ia = some (itO t la)) (q : SqK t h la vs) (k : ∀ c o, h.get? c = some o -> h'.get? c = some o) : sK t ia la vs 0 h' := by
 cases t
 ·exact ⟨⟨_, e, rfl, rfl⟩, Heap.IsList.at q λ o z => k _ o z⟩
 ·exact ⟨⟨_, e, rfl, rfl⟩, by obtain ⟨o, z, r⟩ := q; exact ⟨o, k _ o z, r⟩⟩
theorem q9A {P : Program} {w : World} {A : Around} {E : Value -> Shared -> Prop} {s : Shared} {l1 l2 : Addr} {vs1 vs2 : Array Value} {Q : Value -> Shared -> Prop} (t1 t2 : Bool) (q1 : SqK t1 s.heap l1 vs1) (q2 : SqK t2 s.heap l2 vs2)
  (h : ∀ h', IsZip h' (s.heap.objs.size + 4) (s.heap.objs.size + 2) (s.heap.objs.size + 3) .none -> IsPair h' (s.heap.objs.size + 2) (.ref s.heap.objs.size) (.ref (s.heap.objs.size + 1)) -> IsPair h' (s.heap.objs.size + 3) .none .none -> sK t1 s.heap.objs.size l1 vs1 0 h' -> sK t2 (s.heap.objs.size + 1) l2 vs2 0 h' -> h'.objs.size = s.heap.objs.size + 5 ->
   (∀ c o, s.heap.get? c = some o -> h'.get? c = some o) -> Q (.ref (s.heap.objs.size + 4)) { s with heap := h' }) : wpAny (model P w) A (call (.type "zip") [.ref l1, .ref l2]) Q E s := by
 refine callType_new F.called_zip (by decide) (F.typeCall_zip_2 _ _) (F.newCall_zip_2 _ _) (λ obj => F.args_object_init_3 obj _ _) F.entry_zip_new (q9G t1 t2 l1 l2 vs1 vs2) ⟨q1, q2, ?_⟩
 have n1 : (zH1 s.heap t1 l1).objs.size = s.heap.objs.size + 1 := Heap.size_push ..
 have n2 : (zH2 s.heap t1 t2 l1 l2).objs.size = s.heap.objs.size + 2 := by rw [Heap.size_push, n1]
 have n3 : (zH3 s.heap t1 t2 l1 l2).objs.size = s.heap.objs.size + 3 := by rw [Heap.size_push, n2]
 have n4 : (zH4 s.heap t1 t2 l1 l2).objs.size = s.heap.objs.size + 4 := by rw [Heap.size_push, n3]
 have n5 : (zH5 s.heap t1 t2 l1 l2).objs.size = s.heap.objs.size + 5 := by rw [Heap.size_push, n4]
 have e5 : (zH5 s.heap t1 t2 l1 l2).get? (zH4 s.heap t1 t2 l1 l2).objs.size = some _ := Heap.get?_push_size _ rfl
 have e4 : (zH5 s.heap t1 t2 l1 l2).get? (zH3 s.heap t1 t2 l1 l2).objs.size = some _ := Heap.get?_push_of_some _ (Heap.get?_push_size _ rfl)
 have e3 : (zH5 s.heap t1 t2 l1 l2).get? (zH2 s.heap t1 t2 l1 l2).objs.size = some _ := Heap.get?_push_of_some _ (Heap.get?_push_of_some _ (Heap.get?_push_size _ rfl))
 have e2 : (zH5 s.heap t1 t2 l1 l2).get? (zH1 s.heap t1 l1).objs.size = some _ := Heap.get?_push_of_some _ (Heap.get?_push_of_some _ (Heap.get?_push_of_some _ (Heap.get?_push_size _ rfl)))
 have e1 : (zH5 s.heap t1 t2 l1 l2).get? s.heap.objs.size = some _ := Heap.get?_push_of_some _ (Heap.get?_push_of_some _ (Heap.get?_push_of_some _ (Heap.get?_push_of_some _ (Heap.get?_push_size _ rfl))))
 have kp : ∀ c o, s.heap.get? c = some o -> (zH5 s.heap t1 t2 l1 l2).get? c = some o := λ c o z => Heap.get?_push_of_some _ (Heap.get?_push_of_some _ (Heap.get?_push_of_some _ (Heap.get?_push_of_some _ (Heap.get?_push_of_some _ z))))
 show _ /\ _
 rw [n2, n3, n4] at e5
 rw [n1, n2] at e3
 rw [n3] at e4
 rw [n1] at e2
 rw [n4]
 exact ⟨⟨_, e5, rfl⟩, h _ e5 e3 e4 (z1j e1 q1 kp) (z1j e2 q2 kp) n5 kp⟩
end L2
end
section
namespace PySem.SeqAt
open AutoSeq1 (wpAny_loadPart')
open MeetsSeq MeetsSeq2 MeetsSeq3 SeqRoads2
theorem q3Y {M : Model} {A : Around} {E : Value -> Shared -> Prop} {s : Shared} {β : Type} (f : Nat -> β -> Sem (ForInStep β)) (I : List Nat -> β -> Shared -> Prop) (Q : β -> Shared -> Prop)
  {n : Nat} {b : β} (turn : ∀ x rest b s, I (x :: rest) b s -> wpAny M A (f x b) (λ r s' => match r with | .yield b' => I rest b' s' | .done b' => Q b' s') E s)
  (fin : ∀ b s, I [] b s -> Q b s) (h : I (List.range' 0 n 1) b s) : wpAny M A (forIn [:n] b f) Q E s := by
 rw [Std.Legacy.Range.forIn_eq_forIn_range']
 have hsz : ([:n] : Std.Legacy.Range).size = n := by simp [Std.Legacy.Range.size]
 show wpAny M A (forIn (List.range' 0 ([:n] : Std.Legacy.Range).size 1) b f) Q E s
 rw [hsz]
 exact wpAny_forIn_list f I Q turn fin _ b h
theorem q4E (l : Addr) (items : Array Value) (n : Nat) (dd : Option Addr) (sl : Array (Option Value)) (x : Value) (e : Value -> Bool) (j : Nat) (hj : j < items.size)
  (hit : e items[j] = true) (hno : ∀ m (hm : m < items.size), m < j -> e items[m] = false) :
  Meets (Builtin.«tuple.index» ⟨[.ref l, x], []⟩)
   (λ A R s => s.heap.get? l = some { cls := .type "tuple", dict := dd, data := .seq items n, slots := sl } /\ (∀ y, y ∈ items -> EqAt A.in1 s y x (e y)) /\ R (.ok (.ret (.int j s.toks))) { s with toks := s.toks + 1 }) :=
 .of_wp λ prog w A R s h => by
  obtain ⟨hp, g, d, tk, os⟩ := s; obtain ⟨hl, he, h⟩ := h
  wp_walk using wpAny_loadPart' hl, q3Y _ (λ rest b s' => b.1 = none /\ s' = ⟨hp, g, d, tk, os⟩ /\ ∃ i, i <= j /\ rest = List.range' i (items.size - i) 1) _
  case turn =>
   rintro i rest b s' ⟨hb, rfl, i', hi', hr⟩
   obtain ⟨m, hm⟩ : ∃ m, items.size - i' = m + 1 := ⟨items.size - i' - 1, by omega⟩
   rw [hm, List.range'_succ] at hr
   obtain ⟨rfl, rfl⟩ := List.cons.inj hr
   have hlt : i < items.size := by omega
   rw [show items[i]? = some items[i] by simp [hlt]]
   refine wpAny_bind (he _ (Array.getElem_mem hlt) prog w _ _ ?_)
   by_cases q : i = j
   ·subst q
    rw [hit]
    wp_walk
    exact ⟨_, rfl, h⟩
   ·rw [hno i hlt (by omega)]
    wp_walk
    exact ⟨rfl, rfl, i + 1, by omega, by congr 1; omega⟩
  case fin =>
   rintro ⟨b1, b2⟩ s' ⟨hb, rfl, i, hi, hr⟩
   obtain ⟨m, hm⟩ : ∃ m, items.size - i = m + 1 := ⟨items.size - i - 1, by omega⟩
   rw [hm, List.range'_succ] at hr
   cases hr
  case h =>
   exact ⟨rfl, rfl, 0, Nat.zero_le _, by simp⟩
section
variable {prog : Program} {w : World} {A : Around} {E : Value -> Shared -> Prop} {s : Shared}
theorem q6K {h : Heap} {d : PyData} : ∀ (xs : List PyData) (vs : List Value) (as : List Addr), PyData.canLayAll0 xs = true -> ReadsAll h vs xs as -> vs.length = xs.length /\ ∀ m (h1 : m < vs.length) (h2 : m < xs.length), PyData.eqv (readOf h vs[m]) d = PyData.eqv xs[m] d := by
 intro xs vs as hc r
 have e := readsAll_map xs vs as hc r
 have hl : vs.length = xs.length := by rw [← e, List.length_map]
 refine ⟨hl, λ m h1 h2 => ?_⟩
 congr 1
 subst e
 rw [List.getElem_map]
theorem index_list_reads {c x : Value} {xs : List PyData} {d : PyData} {as bs : List Addr} {Q : Value -> Shared -> Prop} {j : Nat} (rc : Reads s.heap c (.list xs) as) (rx : Reads s.heap x d bs) (hxs : PyData.canLayAll0 xs = true) (hd : d.canLay0 = true)
  (hu : A.units + 1 + min (PyData.depthAll xs) d.depth < cLine) (hj : j < xs.length) (hj63 : (j : Int) < 2 ^ 63 - 1) (hit : PyData.eqv xs[j] d = true) (hno : ∀ m (hm : m < xs.length), m < j -> PyData.eqv xs[m] d = false) (h : Q (.int j s.toks) { s with toks := s.toks + 1 }) : wpAny (model prog w) A (call (.builtin "list.index") [c, x]) Q E s := by
 cases rc with
 | list h1 h2 h3 h4 =>
  rename_i l o vs n as'
  obtain ⟨cls, dd, data, sl⟩ := o
  simp only at h2 h3
  subst h2 h3
  obtain ⟨hl, ha⟩ := q6K (d := d) xs vs.toList _ hxs h4
  have hl' : vs.size = xs.length := by rw [← hl]; simp
  refine PySem.call_meets PySem.F.slot_list_index ⟨_, h1, rfl⟩ PySem.F.entry_list_index (PySem.F.args_list_index_2 _ _)
   (list_indexAt l vs _ dd sl x (λ y => PyData.eqv (readOf s.heap y) d) j (by omega) hj63 ?_ ?_) ⟨h1, items_eqAt h4 rx hxs hd hu, h⟩
  ·rw [← hit]
   exact ha j (by simpa using (by omega : j < vs.size)) hj
  ·intro m hm hlt
   rw [← hno m (by omega) hlt]
   exact ha m (by simpa using hm) (by omega)
theorem index_tuple_reads {c x : Value} {xs : List PyData} {d : PyData} {as bs : List Addr} {Q : Value -> Shared -> Prop} {j : Nat} (rc : Reads s.heap c (.tuple xs) as) (rx : Reads s.heap x d bs) (hxs : PyData.canLayAll0 xs = true) (hd : d.canLay0 = true)
  (hu : A.units + 1 + min (PyData.depthAll xs) d.depth < cLine) (hj : j < xs.length) (hit : PyData.eqv xs[j] d = true) (hno : ∀ m (hm : m < xs.length), m < j -> PyData.eqv xs[m] d = false) (h : Q (.int j s.toks) { s with toks := s.toks + 1 }) : wpAny (model prog w) A (call (.builtin "tuple.index") [c, x]) Q E s := by
 cases rc with
 | tuple h1 h2 h3 h4 =>
  rename_i l o vs n
  obtain ⟨cls, dd, data, sl⟩ := o
  simp only at h2 h3
  subst h2 h3
  obtain ⟨hl, ha⟩ := q6K (d := d) xs vs.toList _ hxs h4
  have hl' : vs.size = xs.length := by rw [← hl]; simp
  refine PySem.call_meets PySem.F.slot_tuple_index ⟨_, h1, rfl⟩ PySem.F.entry_tuple_index (PySem.F.args_tuple_index_2 _ _)
   (q4E l vs _ dd sl x (λ y => PyData.eqv (readOf s.heap y) d) j (by omega) ?_ ?_) ⟨h1, items_eqAt h4 rx hxs hd hu, h⟩
  ·rw [← hit]
   exact ha j (by simpa using (by omega : j < vs.size)) hj
  ·intro m hm hlt
   rw [← hno m (by omega) hlt]
   exact ha m (by simpa using hm) (by omega)
end
end PySem.SeqAt
end
section
namespace PySem
section
variable {prog : Program} {w : World} {A : Around} {E : Value -> Shared -> Prop} {s : Shared}
theorem q2w (a b : Int) : Builtin.Range.rangeSize a b (-1) = if b < a then a - b else 0 := by
 unfold Builtin.Range.rangeSize
 simp
theorem q7p {a b : Int} (ha : -(2 ^ 62) <= a) (ha' : a < 2 ^ 62) (hb : -(2 ^ 62) <= b) (hb' : b < 2 ^ 62) : Builtin.Range.small a b (-1) = true := by
 unfold Builtin.Range.small
 rw [q2w]
 simp only [Builtin.Range.rangeFitsLong, Bool.and_eq_true, Bool.or_eq_true, decide_eq_true_eq, beq_iff_eq, show ¬ ((-1 : Int) > 0) by decide, if_false]
 split <;> omega
end
end PySem
namespace L2
open PySem PySem.Spec PyProof.Rows
variable {X : Cx} {tg : Expr}
noncomputable def Itd (hi : Int) (n : Nat) : It := ⟨λ i _ => i < n, λ i H x H' => H' = H /\ x = .int (hi - i), λ i _ => n <= i⟩
theorem q7X {P : Program} {w : World} {K : PySem.W.Frag} {tg : Expr} (it : Addr) (hi : Int) (n : Nat) : Turn P w K tg (Itd hi n) [it] it (λ i h => IsRangeIter h it (hi + (i : Nat) * (-1)) ((n : Int) - (i : Nat)) (-1)) where
 mem := by simp
 obj := λ i h st b hb => by
  have e : b = it := by simpa using hb
  subst e
  exact ⟨_, st, λ v z => by
   have z' : Data.fields _ = Data.cell v := z
   cases z'⟩
 keep := λ i h h' st k => k it (by simp) _ st
 item := by
  intro X hP hw hK hc i pins s σ H E I hf st hg
  subst hP hw hK
  obtain ⟨f0, f1, f2, f3, f4, f5⟩ := hf it (by simp)
  have W := Walks.range (prog := X.prog) (w := X.w) (I.ok.hd hc) it hi (-1) n
  refine W.item i s _ _ hg st λ v h' tk hv st' kk => ?_
  obtain ⟨t, rfl⟩ := hv
  have I1 : Inv X pins σ H { s with heap := h', toks := tk } := I.turned (λ b o hb e => kk b o (by simpa using hb) e) f0 f1 f3 f4 f5
  refine ⟨_, rfl, z0J (s := { s with heap := h', toks := tk }) (n := "range_iterator") st' rfl rfl (by decide) ⟨.int (hi - i), H, I1, ⟨t, ?_⟩, ⟨rfl, rfl⟩, st', λ b hb => (hf b hb).1⟩⟩
  rw [show hi + (i : Int) * (-1) = hi - i by omega]
 done := by
  intro X hP hw hK hc i pins s σ H E I hf st hg
  subst hP hw hK
  obtain ⟨f0, f1, f2, f3, f4, f5⟩ := hf it (by simp)
  exact wpAny_pyNext_range_end (I.ok.hd hc) st (by have : n <= i := hg; omega) λ h' eb => ⟨rfl, I.turned (t' := s.toks) (λ b o hb e => eb b o hb e) f0 f1 f3 f4 f5⟩
 self := λ _ _ _ _ _ st h => wpAny_pyIter_rangeiter st h
theorem z2r {pins : List (Addr × Obj)} {σ : St} {H : Hp} {s : Shared} {R : It -> Hp -> Prop} {E : Value -> Shared -> Prop} {lo hi : Int} {t u v : Tok} {tk : Nat} (I : Inv X pins σ H s) (h1 : -(2 ^ 62) <= lo) (h2 : lo < 2 ^ 62) (h3 : -(2 ^ 62) <= hi) (h4 : hi < 2 ^ 62)
  (q : R (Itd lo (lo - hi).toNat) H) : wpAny (model X.prog X.w) X.A (pyIter (.ref s.heap.objs.size)) (PIE X pins σ tg R) E { s with heap := s.heap.push { cls := .type "range", data := .fields #[.int lo t, .int hi u, .int (-1) v] }, toks := tk } := by
 refine wpAny_pyIter_range (IsRange.new ..) (q7p h1 h2 h3 h4) ?_
 have I1 : Inv X pins σ H { s with heap := s.heap.push { cls := .type "range", data := .fields #[.int lo t, .int hi u, .int (-1) v] }, toks := tk } := I.kept λ b o e => Heap.get?_push_of_some _ e
 refine ⟨(s.heap.push { cls := .type "range", data := .fields #[.int lo t, .int hi u, .int (-1) v] }).objs.size, [(s.heap.push { cls := .type "range", data := .fields #[.int lo t, .int hi u, .int (-1) v] }).objs.size], _, _, H, rfl,
  I1.kept (t' := tk) λ b o e => Heap.get?_push_of_some _ e, q7X _ lo (lo - hi).toNat, ?_, λ b hb => ?_, q⟩
 ·have e1 : lo + ((0 : Nat) : Int) * (-1) = lo := by simp
  have e2 : (((lo - hi).toNat : Nat) : Int) - ((0 : Nat) : Int) = Builtin.Range.rangeSize lo hi (-1) := by rw [q2w]; split <;> omega
  show IsRangeIter _ _ (lo + ((0 : Nat) : Int) * (-1)) ((((lo - hi).toNat : Nat) : Int) - ((0 : Nat) : Int)) (-1)
  rw [e1, e2]
  exact Heap.get?_push_size _ rfl
 ·have e : b = (s.heap.push { cls := .type "range", data := .fields #[.int lo t, .int hi u, .int (-1) v] }).objs.size := by simpa using hb
  subst e
  exact I1.fpOk (Nat.le_refl _) (I1.hok.fresh (Nat.le_refl _))
noncomputable def z6p (ta : TA) : TI := λ σ H R => ta σ H λ vs H1 => ∃ i j : Int, vs = [.int i, .int j, .int (-1)] /\ (-(2 ^ 62) <= i /\ i < 2 ^ 62 /\ -(2 ^ 62) <= j /\ j < 2 ^ 62) /\ R (Itd i (i - j).toNat) H1
theorem noPl (a : Int) : Builtin.divisionGoesByPylong a (-1) = false := PyProof.noPylong_small (by omega)
theorem q8n {a b c : Expr} {ta : TA} {p pos : Pos} (hg : Gl X "range") (hm : X.mg "range" = none) (ha : PA X [a, b, c] ta) (hs : starEach [a, b, c] X.env = [(false, eval a X.env), (false, eval b X.env), (false, eval c X.env)]) (hs2 : starEach [b, c] X.env = [(false, eval b X.env), (false, eval c X.env)]) :
  PI X tg (.Call (.Name "range" p) [a, b, c] [] pos) (z6p ta) := by
 intro pins s σ H R I h
 refine Call_ (q3D I hg hm boot_range (PyProof.Rows.callWith_type1 (thn (ha pos pins s σ H _ I h) λ us s1 ⟨vs, H1, I1, r1, q1⟩ => ?_) (by rw [hs, hs2]) (by rw [hs2]; rfl)))
 obtain ⟨i, j, e, ⟨q1, q2, q3, q4⟩, q⟩ := q1
 subst e
 cases r1 with
 | cons r rr =>
  cases rr with
  | cons r' rr =>
   cases rr with
   | cons r'' rr =>
    cases rr
    obtain ⟨t, rfl⟩ := r
    obtain ⟨t', rfl⟩ := r'
    obtain ⟨t'', rfl⟩ := r''
    exact call_range_3 (by decide) (z2r I1 q1 q2 q3 q4 q) (Or.inl (noPl _))
end L2
end
section
namespace L2
open PySem
inductive DKey where
 | i (n : Int) | s (x : Str) | t (l : List (Sum Int Str))
 deriving DecidableEq
inductive DV where
 | non | bl (b : Bool) | int (i : Int) | str (x : Str) | tup (ds : List DV) | lst (ds : List DV) | dct (ks : List DKey) (vs : List DV)
 | exc (c : Str) | fn (x : Str)
 | scr (ns : List Int)
inductive Cl where
 | weak | top | strong | fresh | ft
 deriving DecidableEq
inductive Re where
 | ok (d : DV) (c : Cl) | ex (c : Str)
inductive Rs where
 | ok (l : List (DV × Cl)) | ex (c : Str)
inductive Rt where
 | ok (b : Bool) | ex (c : Str)
inductive Sv where
 | no | val (d : DV) | own (d : DV) | ot (d : DV)
 | o2 (d : DV)
inductive Ou where
 | v (d : DV) (fr : Bool) | x (c : Str) | t (d : DV)
inductive Out where
 | nx (δ : List Sv) | rt (d : DV) (fr : Bool) | ex (c : Str) (δ : List Sv) | rtt (d : DV)
inductive Bi where
 | len | min | max | sset | list | tuple
inductive Mt where
 | bitLength | index | get
 deriving DecidableEq
inductive Tg where
 | one (i : Nat) | many (is : List Nat)
inductive ME where
 | var (i : Nat) | int (i : Int) | bl (b : Bool) | str (x : Str) | non
 | bin (op : Operator) (a b : ME) | neg (a : ME)  | not (a : ME)
 | cmp (op : CmpOp) (a b : ME)
 | and (es : List ME) | or (es : List ME) | ite (c a b : ME)
 | lst (es : List ME) | tup (es : List ME)
 | ix (a b : ME) | sl (a lo hi : ME)
 | call (f : Nat) (es : List ME) | calld (f : Nat) (es : List ME) | callk (f : Nat) (es : List ME) (kn : Str) (ke : ME) | bi (f : Bi) (es : List ME) | isi (a : ME) (ts : List Str)  | meth (m : Mt) (a : ME) (es : List ME)
 | comp (elt : ME) (tg : Tg) (it : ME) (fr : List (Option Nat)) | compi (elt : ME) (tg : Tg) (it c : ME) (fr : List (Option Nat))
 | idx (a b : ME)
 | rng (es : List ME)  | zp (a b : ME)
inductive MS where
  | set (i : Nat) (own : Bool) (e : ME)
  | app (i : Nat) (e : ME)  | seti (i : Nat) (k e : ME)
   | ret (e : ME)  | iff (c : ME) (a b : List MS) | fo (tg : Tg) (it : ME) (body : List MS)
  | retc (elt : ME) (tg : Tg) (it : ME) (fr : List (Option Nat)) | setf (i : Nat) (f : Nat) (es : List ME) | apo (i : Nat) (e : ME) | appo (i : Nat) (e : ME)
  | frz (i : Nat)
structure FD where
 n : Nat
 np : Nat
 dfl : List DV := []
 kn : Option Str := none
 body : List MS
noncomputable def Re.thn (r : Option Re) (k : DV -> Cl -> Option Re) : Option Re := match r with
 | none => none
 | some (.ex c) => some (.ex c)
 | some (.ok d c) => k d c
noncomputable def Rs.thn (r : Option Rs) (k : List (DV × Cl) -> Option Re) : Option Re := match r with
 | none => none
 | some (.ex c) => some (.ex c)
 | some (.ok l) => k l
noncomputable def Rt.thn (r : Option Rt) (k : Bool -> Option Re) : Option Re := match r with
 | none => none
 | some (.ex c) => some (.ex c)
 | some (.ok b) => k b
noncomputable def Re.thnT (r : Option Re) (k : DV -> Cl -> Option Rt) : Option Rt := match r with
 | none => none
 | some (.ex c) => some (.ex c)
 | some (.ok d c) => k d c
mutual
noncomputable def DV.immut : DV -> Bool
 | .non => true | .bl _ => true | .int _ => true | .str _ => true | .exc _ => true | .fn _ => true | .scr _ => true
 | .tup ds => DV.immuts ds
 | .lst _ => false | .dct _ _ => false
noncomputable def DV.immuts : List DV -> Bool
 | [] => true
 | d :: r => d.immut && DV.immuts r
end
noncomputable def stro (d : DV) : Cl -> Bool
 | .strong => true | .fresh => true | .ft => true | _ => d.immut
noncomputable def stros (l : List (DV × Cl)) : Bool := l.all λ p => stro p.1 p.2
noncomputable def Cl.item : Cl -> Cl
 | .weak => .weak | _ => .strong
noncomputable def Cl.anew : Cl -> Cl -> Cl
 | .weak, _ => .weak | _, .weak => .weak | _, _ => .fresh
noncomputable def mostLen : Nat := 1000000
mutual
noncomputable def deq : DV -> DV -> Bool
 | .non, .non => true
 | .bl a, .bl b => a == b
 | .bl a, .int j => (if a then 1 else 0) == j
 | .int i, .bl b => i == (if b then 1 else 0)
 | .int i, .int j => i == j
 | .str a, .str b => decide (a = b)
 | .tup a, .tup b => deqs a b
 | .lst a, .lst b => deqs a b
 | _, _ => false
noncomputable def deqs : List DV -> List DV -> Bool
 | [], [] => true
 | a :: r, b :: s => deq a b && deqs r s
 | _, _ => false
end
mutual
noncomputable def DV.plain : Nat -> DV -> Bool
 | _, .non => true | _, .bl _ => true | _, .int _ => true
 | _, .str x => x.cps.all (· < 0x110000)
 | 0, _ => false
 | n + 1, .tup ds => DV.plains n ds | n + 1, .lst ds => DV.plains n ds
 | _, _ => false
noncomputable def DV.plains : Nat -> List DV -> Bool
 | _, [] => true
 | n, d :: r => d.plain n && DV.plains n r
end
noncomputable def q2m : DV -> Option Bool
 | .non => some false
 | .bl b => some b
 | .int i => some (i != 0)
 | .str x => some (x.cps.size != 0)
 | .tup ds => some (!ds.isEmpty)
 | .lst ds => some (!ds.isEmpty)
 | .dct ks _ => some (!ks.isEmpty)
 | _ => none
noncomputable def q1T (n : Nat) (i : Int) : Option Nat := if 0 <= i then (if i < n then some i.toNat else none) else if -(n : Int) <= i then some (i + n).toNat else none
noncomputable def atD (ds : List DV) (i : Int) : Option DV := (q1T ds.length i).bind λ j => ds[j]?
noncomputable def keyL : List DV -> Option (List (Sum Int Str))
 | [] => some []
 | .int i :: r => (keyL r).map (Sum.inl i :: ·)
 | .str x :: r => (keyL r).map (Sum.inr x :: ·)
 | _ => none
noncomputable def z6o : DV -> Option DKey
 | .int i => some (.i i)
 | .str x => some (.s x)
 | .tup ds => (keyL ds).map DKey.t
 | _ => none
noncomputable def z5e (k : DKey) : List DKey -> List DV -> Option DV
 | k' :: ks, v :: vs => if k' = k then some v else z5e k ks vs
 | _, _ => none
noncomputable def ixD (a b : DV) : Option DV := match a, b with
 | .scr ns, .int i => ((q1T ns.length i).bind λ j => ns[j]?).map DV.int
 | .lst ds, .int i => atD ds i
 | .tup ds, .int i => atD ds i
 | .str z, .int i => (q1T z.cps.size i).bind λ j => (z.cps[j]?).map λ c => .str ⟨#[c]⟩
 | .dct ks vs, k => (z6o k).bind λ k => z5e k ks vs
 | _, _ => none
noncomputable def slIx (n d : Nat) : Option Int -> Nat
 | none => d
 | some v => if v < 0 then (v + (n : Int)).toNat else min v.toNat n
noncomputable def cutD (ds : List DV) (lo hi : Option Int) : List DV := (ds.drop (slIx ds.length 0 lo)).take (slIx ds.length ds.length hi - slIx ds.length 0 lo)
noncomputable def slD (a : DV) (lo hi : Option Int) : Option DV := match a with
 | .scr ns => some (.lst (cutD (ns.map DV.int) lo hi))
 | .lst ds => some (.lst (cutD ds lo hi))
 | .tup ds => if slIx ds.length 0 lo = 0 /\ slIx ds.length ds.length hi = ds.length then none else some (.tup (cutD ds lo hi))
 | _ => none
noncomputable def slCl (a : DV) (c : Cl) : Cl := match a with
 | .scr _ => .fresh
 | .lst _ => Cl.anew c c
 | _ => c.item
noncomputable def q3f (i j : Int) : Bool := (decide (-(2 ^ 64) < i) && decide (i < 2 ^ 64)) || (decide (-(2 ^ 64) < j) && decide (j < 2 ^ 64))
noncomputable def binD (op : Operator) (a b : DV) (ca cb : Cl) : Option Re := match op, a, b with
 | .Add, .int i, .int j => some (.ok (.int (i + j)) .strong)
 | .Sub, .int i, .int j => some (.ok (.int (i - j)) .strong)
 | .Mult, .int i, .int j => if q3f i j then some (.ok (.int (i * j)) .strong) else none
 | .Mod, .int i, .int j => if 0 < j then some (.ok (.int (i % j)) .strong) else none
 | .FloorDiv, .int i, .int j => if 0 < j /\ j < 1073741824 then some (.ok (.int (i / j)) .strong) else none
 | .RShift, .int i, .int j => if 0 <= j then some (.ok (.int (i / 2 ^ j.toNat)) .strong) else none
 | .BitAnd, .int i, .int j => some (.ok (.int (Builtin.bitAnd i j)) .strong)
 | .Add, .lst x, .lst y => if x.length + y.length <= mostLen then some (.ok (.lst (x ++ y)) (Cl.anew ca cb)) else none
 | .Mult, .lst x, .int k => if x.length * k.toNat <= mostLen /\ -(2 ^ 63) <= k /\ k < 2 ^ 63 then some (.ok (.lst (List.replicate k.toNat x).flatten) (Cl.anew ca ca)) else none
 | _, _, _ => none
noncomputable def isN : DV -> Bool
 | .non => true
 | _ => false
noncomputable def cmpD (op : CmpOp) (a b : DV) : Option Bool := match op, a, b with
 | .Lt, .int i, .int j => some (decide (i < j))
 | .LtE, .int i, .int j => some (decide (i <= j))
 | .Gt, .int i, .int j => some (decide (j < i))
 | .Eq, a, b => if a.plain 60 && b.plain 60 then some (deq a b) else none
 | .NotEq, a, b => if a.plain 60 && b.plain 60 then some (!deq a b) else none
 | .Is, a, .non => some (isN a)
 | .IsNot, a, .non => some (!isN a)
 | .NotIn, a, .lst ds => if a.plain 60 && DV.plains 60 ds then some (!ds.any λ d => deq d a) else none
 | _, _, _ => none
noncomputable def ints? : List DV -> Option (List Int)
 | [] => some []
 | .int i :: r => (ints? r).map (i :: ·)
 | _ => none
noncomputable def minI : Int -> List Int -> Int
 | m, [] => m
 | m, x :: r => minI (if x < m then x else m) r
noncomputable def maxI : Int -> List Int -> Int
 | m, [] => m
 | m, x :: r => maxI (if m < x then x else m) r
noncomputable def insI (x : Int) : List Int -> List Int
 | [] => [x]
 | y :: r => if x < y then x :: y :: r else y :: insI x r
noncomputable def q2k : List Int -> List Int
 | [] => []
 | x :: r => insI x (q2k r)
noncomputable def dk (σ : List Int) (k : Int) : List Int := if k ∈ σ then σ else σ ++ [k]
noncomputable def q3V (i : Int) : Int := if i = 0 then 0 else (i.natAbs.log2 : Int) + 1
noncomputable def lenD : List (DV × Cl) -> Option Re
 | [(.lst ds, _)] => some (.ok (.int ds.length) .strong)
 | [(.tup ds, _)] => some (.ok (.int ds.length) .strong)
 | [(.scr ns, _)] => some (.ok (.int ns.length) .strong)
 | [(.str z, _)] => some (.ok (.int z.length) .strong)
 | _ => none
noncomputable def minD : List (DV × Cl) -> Option Re
 | [(.int i, _), (.int j, _)] => some (.ok (.int (if j < i then j else i)) .strong)
 | [(.lst ds, _)] => match ints? ds with
  | some (n :: r) => some (.ok (.int (minI n r)) .strong)
  | _ => none
 | _ => none
noncomputable def maxD : List (DV × Cl) -> Option Re
 | [(.int i, _), (.int j, _)] => some (.ok (.int (if j > i then j else i)) .strong)
 | [(.lst ds, _)] => match ints? ds with
  | some (n :: r) => some (.ok (.int (maxI n r)) .strong)
  | _ => none
 | _ => none
noncomputable def q8Q : List (DV × Cl) -> Option Re
 | [(.lst ds, _)] => match ints? ds with
  | some ns => if ns.length < 4000 /\ (ns.foldl dk []).length < 64 then some (.ok (.lst ((q2k (ns.foldl dk [])).map DV.int)) .fresh) else none
  | none => none
 | _ => none
noncomputable def q7i : List (DV × Cl) -> Option Re
 | [(.scr ns, _)] => some (.ok (.lst (ns.map DV.int)) .fresh)
 | [(.lst ds, c)] => some (.ok (.lst ds) (Cl.anew c c))
 | [(.tup ds, c)] => some (.ok (.lst ds) (Cl.anew c c))
 | _ => none
noncomputable def q4l : List (DV × Cl) -> Option Re
 | [(.lst ds, c)] => some (.ok (.tup ds) c.item)
 | [(.tup ds, c)] => some (.ok (.tup ds) c)
 | _ => none
noncomputable def biD (f : Bi) (l : List (DV × Cl)) : Option Re := match f with
 | .len => lenD l
 | .min => minD l
 | .max => maxD l
 | .list => q7i l
 | .tuple => q4l l
 | .sset => q8Q l
noncomputable def biOk : Bi -> Bool
 | .len => true | .min => true | .max => true | .list => true | .tuple => true | .sset => true
noncomputable def mtD (m : Mt) (a : DV) : Option Re := match m, a with
 | .bitLength, .int i => some (.ok (.int (q3V i)) .strong)
 | _, _ => none
structure Gs where
 dcs : List (Str × List (Str × Str)) := []
 con : List (Str × DV)
 cls : List (Str × List Str)
 dfl : List (Nat × List DV) := []
 kws : List (Nat × Str) := []
noncomputable def q2I (G : Gs) (c c' : Str) : Bool := c == c' || ((G.cls.lookup c).getD []).contains c'
noncomputable def tyOf : DV -> List Str
 | .non => ["NoneType"]
 | .bl _ => ["bool", "int"]
 | .int _ => ["int"]
 | .str _ => ["str"]
 | .tup _ => ["tuple"]
 | .lst _ => ["list"]
 | .dct _ _ => ["dict"]
 | _ => []
noncomputable def q1Z : List Str := ["int", "bool", "str", "list", "tuple", "dict"]
noncomputable def isiD (G : Gs) (d : DV) (ts : List Str) : Option Bool := match d with
 | .scr _ => none
 | .exc _ => none
 | .dct _ _ => none
 | .fn _ => none
 | d => match ts with
  | [t] => if q1Z.contains t then some ((tyOf d).contains t) else none
  | _ => none
noncomputable def upTo (lo : Int) (n : Nat) : List DV := (List.range n).map λ (i : Nat) => DV.int (lo + i)
noncomputable def q1q (lo : Int) (n : Nat) : List DV := (List.range n).map λ (i : Nat) => DV.int (lo - i)
noncomputable def q0I (i : Int) : Bool := decide (-(2 ^ 62) <= i) && decide (i < 2 ^ 62)
noncomputable def q3m (y : DV) : List DV -> Option Nat
 | [] => none
 | d :: r => if deq d y then some 0 else (q3m y r).map (· + 1)
noncomputable def seqB : DV -> Bool
 | .lst _ => true | .tup _ => true | _ => false
noncomputable def idxD (x y : DV) : Option DV := match x with
 | .lst ds => if y.plain 60 && DV.plains 60 ds && decide (ds.length <= mostLen) then (q3m y ds).map λ (j : Nat) => DV.int (j : Int) else none
 | .tup ds => if y.plain 60 && DV.plains 60 ds && decide (ds.length <= mostLen) then (q3m y ds).map λ (j : Nat) => DV.int (j : Int) else none
 | _ => none
noncomputable def rngD (l : List (DV × Cl)) : Option (List DV) := match l with
 | [(.int j, _)] => if q0I j && decide (j <= mostLen) then some (upTo 0 j.toNat) else none
 | [(.int i, _), (.int j, _)] => if q0I i && q0I j && decide (j - i <= mostLen) then some (upTo i (j - i).toNat) else none
 | [(.int i, _), (.int j, _), (.int k, _)] => if q0I i && q0I j && decide (i - j <= mostLen) && decide (k = -1) then some (q1q i (i - j).toNat) else none
 | _ => none
noncomputable def zpD : List DV -> List DV -> List DV
 | a :: r, b :: s => .tup [a, b] :: zpD r s
 | _, _ => []
noncomputable def Cl.meet : Cl -> Cl -> Cl
 | .weak, _ => .weak | _, .weak => .weak | .top, _ => .top | _, .top => .top | _, _ => .strong
noncomputable def z2M : DV -> Option (Bool × List DV)
 | .lst ds => some (false, ds)
 | .tup ds => some (true, ds)
 | _ => none
noncomputable def zipD (x y : DV) (c c' : Cl) : Option Re := match z2M x, z2M y with
 | some (_, xs), some (_, ys) => some (.ok (.lst (zpD xs ys)) (Cl.meet c c'))
 | _, _ => none
noncomputable def seqD : DV -> Option (List DV)
 | .scr ns => some (ns.map DV.int)
 | .lst ds => some ds
 | .tup ds => some ds
 | _ => none
noncomputable def q4g (δ : List Sv) : List Nat -> List DV -> Option (List Sv)
 | [], [] => some δ
 | i :: is, d :: ds => q4g (δ.set i (.val d)) is ds
 | _, _ => none
noncomputable def Tg.bind (tg : Tg) (d : DV) (δ : List Sv) : Option (List Sv) := match tg with
 | .one i => some (δ.set i (.val d))
 | .many is => match d with
  | .tup ds => q4g δ is ds
  | _ => none
noncomputable def Sv.plain : Sv -> Sv
 | .ot _ => .no
 | .o2 _ => .no
 | s => s
noncomputable def q0v (fr : List (Option Nat)) (δ : List Sv) : List Sv := fr.map λ o => match o with
 | some i => (δ.getD i .no).plain
 | none => .no
inductive Rc where
 | skip | item (d : DV)
noncomputable def q0z (g : DV -> Option Rc) : List DV -> Option (List DV)
 | [] => some []
 | d :: r => match g d with
  | none => none
  | some .skip => q0z g r
  | some (.item x) => match q0z g r with
   | none => none
   | some xs => some (x :: xs)
noncomputable def q1h (r : Option (List DV)) : Option Re := match r with
 | none => none
 | some xs => some (.ok (.lst xs) .fresh)
noncomputable def Rc.of (r : Option Re) : Option Rc := match r with
 | some (.ok d c) => if stro d c then some (.item d) else none
 | _ => none
noncomputable def Rc.ofF (r : Option Re) : Option Rc := match r with
 | some (.ok (.lst ds) .fresh) => match ints? ds with
  | some _ => some (.item (.lst ds))
  | none => none
 | _ => none
noncomputable def Rc.test (t : Option Rt) (r : Option Rc) : Option Rc := match t with
 | some (.ok true) => r
 | some (.ok false) => some .skip
 | _ => none
inductive Ri where
 | ok (ds : List DV) (c : Cl) | ex (c : Str)
noncomputable def Ri.thn (r : Option Ri) (k : List DV -> Cl -> Option Re) : Option Re := match r with
 | none => none
 | some (.ex c) => some (.ex c)
 | some (.ok ds c) => k ds c
noncomputable def Re.thnI (r : Option Re) (k : DV -> Cl -> Option Ri) : Option Ri := match r with
 | none => none
 | some (.ex c) => some (.ex c)
 | some (.ok d c) => k d c
noncomputable def z5I (d : DV) (c : Cl) : Option Ri := (seqD d).map λ ds => .ok ds c
noncomputable def q1f (F : Nat -> List DV -> Option Ou) (f : Nat) (l : List (DV × Cl)) : Option Re := match F f (l.map (·.1)) with
 | none => none
 | some (.x c) => some (.ex c)
 | some (.t d) => some (.ok d (if l.all λ p => p.2 == .strong || p.2 == .fresh then (match d with | .lst _ => .fresh | _ => .ft) else .weak))
 | some (.v d fr) => some (.ok d (if l.all λ p => p.2 == .strong || p.2 == .fresh then (if fr then .fresh else .strong) else .weak))
noncomputable def andD (x : DV) (c : Cl) (r : Option Re) : Option Re := match q2m x with
 | none => none
 | some true => r
 | some false => some (.ok x c)
noncomputable def orD (x : DV) (c : Cl) (r : Option Re) : Option Re := match q2m x with
 | none => none
 | some true => some (.ok x c)
 | some false => r
noncomputable def tstD (r : Option Re) : Option Rt := Re.thnT r λ x _ => (q2m x).map Rt.ok
noncomputable def q0K (r : Option Re) : Option Ri := Re.thnI r λ x c => z5I x c
mutual
noncomputable def evE (G : Gs) (F : Nat -> List DV -> Option Ou) : ME -> List Sv -> Option Re
 | .var i, δ => match δ[i]? with
  | some (.val d) => some (.ok d .strong)
  | some (.own d) => some (.ok d .top)
  | some (.ot d) => some (.ok d .weak)
  | some (.o2 d) => some (.ok d .weak)
  | _ => none
 | .int i, _ => some (.ok (.int i) .strong)
 | .bl i, _ => some (.ok (.bl i) .strong)
 | .str i, _ => some (.ok (.str i) .strong)
 | .non, _ => some (.ok .non .strong)
 | .bin op a b, δ => Re.thn (evE G F a δ) λ x cx => Re.thn (evE G F b δ) λ y cy => binD op x y cx cy
 | .neg a, δ => Re.thn (evE G F a δ) λ x _ => match x with | .int i => some (.ok (.int (-i)) .strong) | _ => none
 | .not a, δ => Re.thn (evE G F a δ) λ x _ => (q2m x).map λ k => .ok (.bl (!k)) .strong
 | .cmp op a b, δ => Re.thn (evE G F a δ) λ x _ => Re.thn (evE G F b δ) λ y _ => (cmpD op x y).map λ k => .ok (.bl k) .strong
 | .and es, δ => q3Z G F es δ
 | .or es, δ => evOr G F es δ
 | .ite c a b, δ => Rt.thn (tstD (evE G F c δ)) λ k => if k then evE G F a δ else evE G F b δ
 | .lst es, δ => Rs.thn (evEs G F es δ) λ l => if l.length <= mostLen then some (.ok (.lst (l.map (·.1))) (if stros l then .fresh else .weak)) else none
 | .tup es, δ => Rs.thn (evEs G F es δ) λ l => if l.length <= mostLen then some (.ok (.tup (l.map (·.1))) (if stros l then .strong else .weak)) else none
 | .ix a b, δ => Re.thn (evE G F a δ) λ x cx => Re.thn (evE G F b δ) λ y _ => (ixD x y).map λ d => .ok d cx.item
 | .sl a lo hi, δ => Re.thn (evE G F a δ) λ x cx => Re.thn (evE G F lo δ) λ l _ => match l with
  | .int l => Re.thn (evE G F hi δ) λ h _ => (match h with
   | .int h => (slD x (some l) (some h)).map λ d => .ok d (slCl x cx)
   | _ => none)
  | _ => none
 | .call f es, δ => Rs.thn (evEs G F es δ) λ l => q1f F f l
 | .calld f es, δ => match G.dfl.lookup f with
  | none => none
  | some ds => Rs.thn (evEs G F es δ) λ l => q1f F f (l ++ ds.map λ d => (d, Cl.strong))
 | .callk f es kn ke, δ => if G.kws.lookup f = some kn then Rs.thn (evEs G F es δ) λ l => Re.thn (evE G F ke δ) λ d c => q1f F f (l ++ [(d, c)]) else none
 | .bi f es, δ => if biOk f then Rs.thn (evEs G F es δ) λ l => biD f l else none
 | .isi a ts, δ => Re.thn (evE G F a δ) λ x _ => (isiD G x ts).map λ k => .ok (.bl k) .strong
 | .meth m a _, δ => if m = .bitLength then Re.thn (evE G F a δ) λ x _ => mtD m x else none
 | .comp elt tg it fr, δ => Ri.thn (q0K (evE G F it δ)) λ ds c => if c = .weak \/ mostLen < ds.length then none else q1h (q0z (λ d => (tg.bind d (q0v fr δ)).bind λ δ' => Rc.of (evE G F elt δ')) ds)
 | .compi elt tg it cd fr, δ => Ri.thn (q0K (evE G F it δ)) λ ds c => if c = .weak \/ mostLen < ds.length then none else q1h (q0z (λ d => (tg.bind d (q0v fr δ)).bind λ δ' => Rc.test (tstD (evE G F cd δ')) (Rc.of (evE G F elt δ'))) ds)
 | .idx a b, δ => Re.thn (evE G F a δ) λ x _ => if seqB x then Re.thn (evE G F b δ) λ y _ => (idxD x y).map λ d => .ok d .strong else none
 | .rng es, δ => Rs.thn (evEs G F es δ) λ l => (rngD l).map λ ds => .ok (.lst ds) .fresh
 | .zp a b, δ => Re.thn (evE G F a δ) λ x c => Re.thn (evE G F b δ) λ y c' => zipD x y c c'
noncomputable def evEs (G : Gs) (F : Nat -> List DV -> Option Ou) : List ME -> List Sv -> Option Rs
 | [], _ => some (.ok [])
 | e :: es, δ => match evE G F e δ with
  | none => none
  | some (.ex c) => some (.ex c)
  | some (.ok d c) => match evEs G F es δ with
   | none => none
   | some (.ex c) => some (.ex c)
   | some (.ok l) => some (.ok ((d, c) :: l))
noncomputable def q3Z (G : Gs) (F : Nat -> List DV -> Option Ou) : List ME -> List Sv -> Option Re
 | [], _ => none
 | e :: es, δ => if es.isEmpty then evE G F e δ else Re.thn (evE G F e δ) λ x c => andD x c (q3Z G F es δ)
noncomputable def evOr (G : Gs) (F : Nat -> List DV -> Option Ou) : List ME -> List Sv -> Option Re
 | [], _ => none
 | e :: es, δ => if es.isEmpty then evE G F e δ else Re.thn (evE G F e δ) λ x c => orD x c (evOr G F es δ)
end
noncomputable def Re.thnS (δ : List Sv) (r : Option Re) (k : DV -> Cl -> Option Out) : Option Out := match r with
 | none => none
 | some (.ex c) => some (.ex c δ)
 | some (.ok d c) => k d c
noncomputable def Rt.thnS (δ : List Sv) (r : Option Rt) (k : Bool -> Option Out) : Option Out := match r with
 | none => none
 | some (.ex c) => some (.ex c δ)
 | some (.ok b) => k b
noncomputable def Ri.thnS (δ : List Sv) (r : Option Ri) (k : List DV -> Cl -> Option Out) : Option Out := match r with
 | none => none
 | some (.ex c) => some (.ex c δ)
 | some (.ok ds c) => k ds c
noncomputable def q1r (tg : Tg) (body : List Sv -> Option Out) : List DV -> List Sv -> Option Out
 | [], δ => some (.nx δ)
 | d :: r, δ => match tg.bind d δ with
  | none => none
  | some δ1 => match body δ1 with
   | some (.nx δ2) => q1r tg body r δ2
   | o => o
noncomputable def frD : DV -> Cl -> Bool
 | .lst _, .fresh => true | .lst _, .top => true | .dct _ _, .fresh => true | .dct _ _, .top => true
 | _, _ => false
noncomputable def noOt (i : Nat) (δ : List Sv) : Bool := (List.range δ.length).all λ j => j == i || (match δ[j]? with | some (.ot _) => false | some (.o2 _) => false | _ => true)
noncomputable def q3N (i : Nat) (δ : List Sv) (d : DV) (c : Cl) : Option Out := match c with
 | .fresh => some (.nx (δ.set i (.own d)))
 | .ft => if noOt i δ then some (.nx (δ.set i (.ot d))) else none
 | _ => none
noncomputable def retD (d : DV) (c : Cl) : Out := match c with
 | .ft => .rtt d
 | _ => .rt d (frD d c)
noncomputable def newI (d : DV) (c : Cl) : Bool := match d, c with
 | .lst ds, .fresh => (ints? ds).isSome
 | _, _ => false
mutual
noncomputable def evS (G : Gs) (F : Nat -> List DV -> Option Ou) (fu : Nat) : MS -> List Sv -> Option Out
 | .set i own e, δ => Re.thnS δ (evE G F e δ) λ d c => if own then q3N i δ d c else (if stro d c then some (.nx (δ.set i (.val d))) else none)
 | .app i e, δ => match δ[i]? with
  | some (.own (.lst ds)) => Re.thnS δ (evE G F e δ) λ d c => if stro d c /\ ds.length < mostLen then some (.nx (δ.set i (.own (.lst (ds ++ [d]))))) else none
  | _ => none
 | .seti i k e, δ => match δ[i]? with
  | some (.own (.lst ds)) => Re.thnS δ (evE G F e δ) λ d c => Re.thnS δ (evE G F k δ) λ k _ => (match k with
   | .int k => (match q1T ds.length k with
    | some j => if stro d c then some (.nx (δ.set i (.own (.lst (ds.set j d))))) else none
    | none => none)
   | _ => none)
  | _ => none
 | .ret e, δ => Re.thnS δ (evE G F e δ) λ d c => some (retD d c)
 | .iff c a b, δ => Rt.thnS δ (tstD (evE G F c δ)) λ k => if k then evSs G F fu a δ else evSs G F fu b δ
 | .fo tg it body, δ => Ri.thnS δ (q0K (evE G F it δ)) λ ds c => if c = .strong \/ c = .fresh then q1r tg (λ δ' => evSs G F fu body δ') ds δ else none
 | .retc elt tg it fr, δ => match q0K (evE G F it δ) with
  | some (.ok ds c) => if c = .weak \/ mostLen < ds.length then none else (q0z (λ d => (tg.bind d (q0v fr δ)).bind λ δ' => Rc.ofF (evE G F elt δ')) ds).map λ xs => .rtt (.lst xs)
  | _ => none
 | .setf i f es, δ => match evEs G F es δ with
  | some (.ok l) => if (l.all λ p => p.2 == .strong || p.2 == .fresh) = true /\ noOt i δ = true then (match F f (l.map (·.1)) with
   | some (.t (.lst xs)) => some (.nx (δ.set i (.o2 (.lst xs))))
   | _ => none) else none
  | _ => none
 | .apo i e, δ => match δ[i]? with
  | some (.o2 (.lst (.lst ds :: r))) => match evE G F e δ with
   | some (.ok (.int z) _) => if ds.length < mostLen then some (.nx (δ.set i (.o2 (.lst (.lst (ds ++ [.int z]) :: r))))) else none
   | _ => none
  | _ => none
 | .appo i e, δ => match δ[i]? with
  | some (.o2 (.lst ds)) => match evE G F e δ with
   | some (.ok d c) => if newI d c /\ ds.length < mostLen then some (.nx (δ.set i (.o2 (.lst (ds ++ [d]))))) else none
   | _ => none
  | _ => none
 | .frz i, δ => match δ[i]? with
  | some (.own d) => some (.nx (δ.set i (.val d)))
  | _ => some (.nx δ)
noncomputable def evSs (G : Gs) (F : Nat -> List DV -> Option Ou) (fu : Nat) : List MS -> List Sv -> Option Out
 | [], δ => some (.nx δ)
 | s :: r, δ => match evS G F fu s δ with
  | some (.nx δ') => evSs G F fu r δ'
  | o => o
end
noncomputable def q0B (n : Nat) (ds : List DV) : List Sv := ds.map Sv.val ++ List.replicate (n - ds.length) .no
noncomputable def Ou.of (o : Option Out) : Option Ou := match o with
 | some (.nx _) => some (.v .non false)
 | some (.rt d fr) => some (.v d fr)
 | some (.rtt d) => some (.t d)
 | some (.ex c _) => some (.x c)
 | none => none
noncomputable def run (G : Gs) (T : List FD) (fu : Nat) : Nat -> Nat -> List DV -> Option Ou
 | 0, _, _ => none
 | k + 1, f, ds => match T[f]? with
  | none => none
  | some fd => if ds.length = fd.np then Ou.of (evSs G (run G T fu k) fu fd.body (q0B fd.n ds)) else none
end L2
end
section
namespace L2
open PySem
noncomputable def Rise (xs : Array Nat) : Prop := ∀ (i k x y : Nat), i < k -> xs[i]? = some x -> xs[k]? = some y -> x < y
theorem q6z {xs : Array Nat} {j : Nat} (hr : Rise xs) : ∀ (fuel lo hi : Nat), lo <= hi -> hi <= xs.size -> hi - lo <= fuel ->
  (∀ i x, i < lo -> xs[i]? = some x -> x < j) -> (∀ i x, hi <= i -> xs[i]? = some x -> j <= x) ->
  (∀ i x, i < SetTable.below.go xs j fuel lo hi -> xs[i]? = some x -> x < j) /\ (∀ i x, SetTable.below.go xs j fuel lo hi <= i -> xs[i]? = some x -> j <= x) := by
 intro fuel
 induction fuel with
 | zero =>
  intro lo hi h1 h2 h3 h4 h5
  have : lo = hi := by omega
  subst this
  exact ⟨h4, h5⟩
 | succ n ih =>
  intro lo hi h1 h2 h3 h4 h5
  unfold SetTable.below.go
  by_cases hlt : lo < hi
  ·rw [if_pos hlt]
   have hm : (lo + hi) / 2 < hi := by omega
   have hm2 : lo <= (lo + hi) / 2 := by omega
   have hms : (lo + hi) / 2 < xs.size := by omega
   have hg : xs[(lo + hi) / 2]? = some xs[(lo + hi) / 2] := Array.getElem?_eq_getElem hms
   have hgd : xs.getD ((lo + hi) / 2) j = xs[(lo + hi) / 2] := by
    rw [Array.getD_eq_getD_getElem?, hg]; rfl
   dsimp only
   rw [hgd]
   by_cases hc : xs[(lo + hi) / 2] < j
   ·rw [if_pos hc]
    refine ih _ _ (by omega) h2 (by omega) (λ i x hi' hx => ?_) h5
    rcases Nat.lt_or_ge i ((lo + hi) / 2) with q | q
    ·exact Nat.lt_trans (hr i _ x _ q hx hg) hc
    ·have e : i = (lo + hi) / 2 := by omega
     subst e
     rw [hg] at hx
     cases hx
     exact hc
   ·rw [if_neg hc]
    refine ih _ _ hm2 (by omega) (by omega) h4 λ i x hi' hx => ?_
    rcases Nat.lt_or_ge ((lo + hi) / 2) i with q | q
    ·exact Nat.le_trans (Nat.le_of_not_lt hc) (Nat.le_of_lt (hr _ i _ x q hg hx))
    ·have e : i = (lo + hi) / 2 := by omega
     subst e
     rw [hg] at hx
     cases hx
     exact Nat.le_of_not_lt hc
  ·rw [if_neg hlt]
   have : lo = hi := by omega
   subst this
   exact ⟨h4, h5⟩
theorem q4K {xs : Array Nat} (hr : Rise xs) {j i x : Nat} (h : i < SetTable.below xs j) (hx : xs[i]? = some x) : x < j :=
 (q6z (j := j) hr xs.size 0 xs.size (Nat.zero_le _) (Nat.le_refl _) (by omega) (λ i x h => by omega) λ i x h hx => by
  rw [Array.getElem?_eq_none h] at hx; cases hx).1 i x h hx
theorem q3u {xs : Array Nat} (hr : Rise xs) {j i x : Nat} (h : SetTable.below xs j <= i) (hx : xs[i]? = some x) : j <= x :=
 (q6z (j := j) hr xs.size 0 xs.size (Nat.zero_le _) (Nat.le_refl _) (by omega) (λ i x h => by omega) λ i x h hx => by
  rw [Array.getElem?_eq_none h] at hx; cases hx).2 i x h hx
theorem q6d {xs : Array Nat} {j : Nat} : ∀ (fuel lo hi : Nat), lo <= hi -> SetTable.below.go xs j fuel lo hi <= hi := by
 intro fuel
 induction fuel with
 | zero => intro lo hi h; exact h
 | succ n ih =>
  intro lo hi h
  unfold SetTable.below.go
  dsimp only
  split
  ·split
   ·exact ih _ _ (by omega)
   ·exact Nat.le_trans (ih _ _ (by omega)) (by omega)
  ·exact h
theorem q6U {xs : Array Nat} {j : Nat} : SetTable.below xs j <= xs.size := q6d _ _ _ (Nat.zero_le _)
theorem q7o {xs : Array Nat} (hr : Rise xs) {i x : Nat} (hx : xs[i]? = some x) : SetTable.below xs (x + 1) = i + 1 := by
 have hi : i < xs.size := by
  rcases Nat.lt_or_ge i xs.size with h | h
  ·exact h
  ·rw [Array.getElem?_eq_none h] at hx; cases hx
 rcases Nat.lt_trichotomy (SetTable.below xs (x + 1)) (i + 1) with h | h | h
 ·have := q3u hr (j := x + 1) (Nat.le_of_lt_succ h) hx
  omega
 ·exact h
 ·have h2 : SetTable.below xs (x + 1) <= xs.size := q6U
  have h3 : i + 1 < xs.size := by omega
  have hy : xs[i + 1]? = some xs[i + 1] := Array.getElem?_eq_getElem h3
  have a := q4K hr (j := x + 1) h hy
  have b := hr i (i + 1) x _ (Nat.lt_succ_self _) hx hy
  omega
theorem q7n {xs : Array Nat} (hr : Rise xs) : SetTable.below xs 0 = 0 := by
 rcases Nat.eq_zero_or_pos (SetTable.below xs 0) with h | h
 ·exact h
 ·have h2 : SetTable.below xs 0 <= xs.size := q6U
  have h3 : 0 < xs.size := by omega
  have hy : xs[0]? = some xs[0] := Array.getElem?_eq_getElem h3
  have a := q4K hr (j := 0) h hy
  omega
theorem Rise.empty : Rise #[] := λ i k x y _ hx => by simp at hx
theorem Rise.range (n : Nat) : Rise (Array.range n) := λ i k x y h hx hy => by
 rw [Array.getElem?_range] at hx hy
 split at hx
 ·split at hy
  ·cases hx; cases hy; exact h
  ·cases hy
 ·cases hx
theorem q5p {l : List Nat} (h : l.Pairwise (· < ·)) : Rise l.toArray := λ i k x y hik hx hy => by
 have hx' : l[i]? = some x := by simpa using hx
 have hy' : l[k]? = some y := by simpa using hy
 obtain ⟨hi, ei⟩ := List.getElem?_eq_some_iff.mp hx'
 obtain ⟨hk, ek⟩ := List.getElem?_eq_some_iff.mp hy'
 rw [← ei, ← ek]
 exact List.pairwise_iff_getElem.mp h i k hi hk hik
theorem z3b {xs : Array Nat} (h : Rise xs) : xs.toList.Pairwise (· < ·) := by
 refine List.pairwise_iff_getElem.mpr λ i k hi hk hik => ?_
 exact h i k _ _ hik (by rw [← Array.getElem?_toList]; exact List.getElem?_eq_getElem hi) (by rw [← Array.getElem?_toList]; exact List.getElem?_eq_getElem hk)
structure Tab (t : SetTable) (b : Bool) : Prop where
 rise : Rise t.place
 dum : t.dummies = #[]
 led : t.led = b
theorem Tab.fresh (b : Bool) : Tab (SetTable.fresh 0 0 b) b := ⟨Rise.empty, rfl, rfl⟩
theorem Tab.standIn {t : SetTable} {b : Bool} (h : Tab t b) (n : Nat) : Tab (t.standIn n) b := ⟨Rise.range n, rfl, h.led⟩
theorem q5q (j : Nat) : SetTable.has #[] j = false := by
 unfold SetTable.has; simp
theorem z0y {t : SetTable} {b : Bool} (h : Tab t b) (f : Nat -> Int) (z : Int) : ∀ (fuel : Nat) (p : SetTable.Probe) (j : Nat) (d : Option Nat), p.dummy = none -> SetTable.probe.go t f z fuel p = some (.empty j d) -> d = none /\ t.slot j = .empty := by
 intro fuel
 induction fuel with
 | zero => intro p j d hp e; cases e
 | succ n ih =>
  intro p j d hp e
  unfold SetTable.probe.go at e
  cases hs : t.slot p.j with
  | empty => rw [hs] at e; cases e; exact ⟨hp, hs⟩
  | dummy =>
   unfold SetTable.slot at hs
   rw [h.dum, q5q] at hs
   dsimp only at hs
   split at hs
   ·cases hs
   ·cases hs
  | live i =>
   rw [hs] at e
   dsimp only at e
   split at e
   ·cases e
   ·refine ih _ j d ?_ e
    unfold SetTable.advance
    split
    ·exact hp
    ·exact hp
theorem q3X {t : SetTable} {b : Bool} (h : Tab t b) {z : Int} {j : Nat} {w : Bool} (e : t.freeSlot z = some (j, w)) : t.slot j = .empty := by
 unfold SetTable.freeSlot at e
 split at e
 ·rename_i j' d hp
  obtain ⟨hd, hs⟩ := z0y h _ _ _ _ _ _ rfl hp
  subst hd
  cases e
  exact hs
 ·cases e
theorem Tab.put {t : SetTable} {b : Bool} (h : Tab t b) {j : Nat} (hs : t.slot j = .empty) : Tab (t.put j).1 b := by
 have hn : t.place[SetTable.below t.place j]? ≠ some j := λ z => by
  unfold SetTable.slot at hs
  dsimp only at hs
  rw [z] at hs
  simp at hs
 refine ⟨?_, ?_, h.led⟩
 ·show Rise (SetTable.insertAt t.place (SetTable.below t.place j) j)
  have e : (SetTable.insertAt t.place (SetTable.below t.place j) j).toList = _ := SetTable.toList_insertAt _ _ _
  have pw := z3b h.rise
  have : (SetTable.insertAt t.place (SetTable.below t.place j) j).toList.Pairwise (· < ·) := by
   rw [e, List.pairwise_append]
   refine ⟨pw.sublist (List.take_sublist _ _), List.pairwise_cons.mpr ⟨λ y hy => ?_, pw.sublist (List.drop_sublist _ _)⟩, λ x hx y hy => ?_⟩
   ·obtain ⟨i, hi⟩ := List.mem_iff_getElem?.mp hy
    rw [List.getElem?_drop, Array.getElem?_toList] at hi
    rcases Nat.lt_or_eq_of_le (q3u h.rise (j := j) (Nat.le_add_right _ _) hi) with q | q
    ·exact q
    ·exfalso
     subst q
     rcases Nat.eq_zero_or_pos i with z | z
     ·subst z; exact hn hi
     ·have hb : SetTable.below t.place j < t.place.size := by
       rcases Nat.lt_or_ge (SetTable.below t.place j + i) t.place.size with q | q
       ·omega
       ·rw [Array.getElem?_eq_none q] at hi; cases hi
      have hg : t.place[SetTable.below t.place j]? = some t.place[SetTable.below t.place j] := Array.getElem?_eq_getElem hb
      have a := q3u h.rise (j := j) (Nat.le_refl _) hg
      have c := h.rise _ _ _ _ (show SetTable.below t.place j < SetTable.below t.place j + i by omega) hg hi
      omega
   ·have hx' : x < j := by
     obtain ⟨i, hi⟩ := List.mem_iff_getElem?.mp hx
     rw [List.getElem?_take] at hi
     split at hi
     ·rw [Array.getElem?_toList] at hi
      exact q4K h.rise (by assumption) hi
     ·cases hi
    rcases List.mem_cons.mp hy with q | q
    ·rw [q]; exact hx'
    ·obtain ⟨i, hi⟩ := List.mem_iff_getElem?.mp q
     rw [List.getElem?_drop, Array.getElem?_toList] at hi
     exact Nat.lt_of_lt_of_le hx' (q3u h.rise (j := j) (Nat.le_add_right _ _) hi)
  have r := q5p this
  rwa [Array.toArray_toList] at r
 ·show (if SetTable.has t.dummies j then _ else t.dummies) = #[]
  rw [h.dum, q5q]
  rfl
theorem Tab.orStandIn {t : SetTable} {b : Bool} (h : Tab t b) (n : Nat) : Tab (t.orStandIn n) b := by
 unfold SetTable.orStandIn
 split
 ·exact h
 ·exact h.standIn n
theorem Tab.layNew {t : SetTable} {b : Bool} (h : Tab t b) (es : Array (Int × Value)) (z : Int) (x : Value) : Tab (layNew t es z x).2.1 b := by
 unfold PySem.layNew
 split
 ·rename_i j w e
  exact (h.put (q3X h e)).orStandIn _
 ·exact h.standIn _
theorem q0Z {f : Nat -> Option Nat} : ∀ {l : List Nat}, l.Pairwise (· < ·) -> ((l.filterMap λ j => (f j).map (j, ·)).map (·.1)).Pairwise (· < ·)
 | [], _ => .nil
 | a :: l, h => by
  obtain ⟨h1, h2⟩ := List.pairwise_cons.mp h
  have ih := q0Z (f := f) h2
  rw [List.filterMap_cons]
  cases e : f a with
  | none => exact ih
  | some c =>
   refine List.pairwise_cons.mpr ⟨λ y hy => ?_, ih⟩
   obtain ⟨p, hp, rfl⟩ := List.mem_map.mp hy
   obtain ⟨j, hj, e2⟩ := List.mem_filterMap.mp hp
   cases e3 : f j with
   | none => rw [e3] at e2; cases e2
   | some c2 => rw [e3] at e2; cases e2; exact h1 j hj
theorem Tab.relayAll {t : SetTable} {b : Bool} (h : Tab t b) (es : Array (Int × Value)) (n : Nat) : Tab (relayAll t es n).2.1 b := by
 unfold PySem.relayAll
 split
 ·rename_i t' order e
  dsimp only
  split
  ·show Tab t' b
   unfold SetTable.relaid SetTable.laid at e
   cases hl : SetTable.layClean (SetTable.sizeAbove n - 1) (es.map (·.1)) with
   | none => rw [hl] at e; cases e
   | some owner =>
    rw [hl] at e
    cases e
    exact ⟨q5p (q0Z (List.pairwise_lt_range)), rfl, h.led⟩
  ·exact h.standIn _
 ·exact h.standIn _
theorem q3e {α : Type} {x : α} : ∀ {l : List α} {i : Nat} (h : i < l.length), l[i] = x -> (x :: l.eraseIdx i).Perm l
 | [], i, h, _ => by cases h
 | a :: l, 0, _, e => by
  have e : a = x := e
  subst e
  exact .rfl
 | a :: l, i + 1, h, e => by
  rw [List.eraseIdx_cons_succ]
  exact (List.Perm.swap a x _).trans (List.Perm.cons a (q3e (l := l) (i := i) (by simpa using h) (by simpa using e)))
theorem q5w {α : Type} (next : Nat -> Nat) : ∀ (fuel k : Nat) (left : List α) (out : Array α), left.length <= fuel -> (pickOrder.go next fuel k left out).toList.Perm (out.toList ++ left) := by
 intro fuel
 induction fuel with
 | zero =>
  intro k left out h
  have : left = [] := List.length_eq_zero_iff.mp (by omega)
  subst this
  unfold pickOrder.go
  rw [List.append_nil]
 | succ n ih =>
  intro k left out h
  unfold pickOrder.go
  cases e : left[next k % left.length]? with
  | none =>
   dsimp only
   have : left = [] := by
    cases left with
    | nil => rfl
    | cons a r =>
     have hlt : next k % (a :: r).length < (a :: r).length := Nat.mod_lt _ (by simp)
     rw [List.getElem?_eq_getElem hlt] at e
     cases e
   subst this
   rw [List.append_nil]
  | some x =>
   dsimp only
   obtain ⟨hlt, hx⟩ := List.getElem?_eq_some_iff.mp e
   have hle : (left.eraseIdx (next k % left.length)).length <= n := by
    rw [List.length_eraseIdx, if_pos hlt]; omega
   refine (ih _ _ _ hle).trans ?_
   rw [Array.toList_push, List.append_assoc]
   refine List.Perm.append_left _ ?_
   exact q3e hlt hx
theorem q2x {α : Type} (next : Nat -> Nat) (xs : Array α) : (pickOrder next xs).toList.Perm xs.toList := by
 unfold pickOrder
 exact (q5w next xs.size 0 xs.toList #[] (by simp)).trans (by simp)
end L2
end
section
namespace L2
open PySem
noncomputable def q2Z : Value -> Int
 | .int n _ => n
 | _ => 0
noncomputable def q0C (w : World) : Bool := w.params.followText "set-order"
noncomputable def SetI (prog : Program) (w : World) (h : Heap) (a : Addr) (ks : List Int) : Prop :=
 ∃ o es ep t, h.get? a = some o /\ o.ExactSet /\ o.data = .set es ep t /\ ElemsOf (intKind prog w) es.toList /\ (es.toList.map λ e => q2Z e.2).Perm ks /\ es.size < scanBound /\ t.fits es.size = true /\ Tab t (!q0C w)
section
variable {prog : Program} {w : World} {A : Around} {E : Value -> Shared -> Prop} {s : Shared} {a : Addr} {ks : List Int}
theorem q6s {es : List (Int × Value)} (h : ElemsOf (intKind prog w) es) {e : Int × Value} (he : e ∈ es) : ∃ t, e.2 = .int (q2Z e.2) t := by
 obtain ⟨⟨k, hk, _⟩, _⟩ := h e he
 obtain ⟨t, q⟩ := Value.isInt_shape hk
 exact ⟨t, by rw [q]; rfl⟩
theorem q8W {es : List (Int × Value)} (h : ElemsOf (intKind prog w) es) {e : Int × Value} (he : e ∈ es) (k : Int) : (intKind prog w).is k e.2 = true ↔ q2Z e.2 = k := by
 obtain ⟨t, q⟩ := q6s h he
 rw [q]
 show Value.isInt k (.int (q2Z e.2) t) = true ↔ _
 simp [Value.isInt, q2Z]
theorem SetI.at {h h' : Heap} (x : SetI prog w h a ks) (k : ∀ o, h.get? a = some o -> h'.get? a = some o) : SetI prog w h' a ks := by
 obtain ⟨o, es, ep, t, ho, r⟩ := x
 exact ⟨o, es, ep, t, k o ho, r⟩
theorem z1n {h : Heap} {o : Obj} {es es' : Array (Int × Value)} {ep : Nat} {t t' : SetTable} (ho : h.get? a = some o) (hd : o.data = .set es ep t) :
  (h.update a (Obj.putSet es' t')).get? a = some { o with data := .set es' (ep + 1) t' } := by
 have q := Heap.get?_update_self (Obj.putSet es' t') ho (by rw [putSet_of es' t' hd]; rfl)
 rwa [putSet_of es' t' hd] at q
theorem z2k {k : Int} {tk : Tok} {Q : Option Bool -> Shared -> Prop} {o : Obj} {es : Array (Int × Value)} {ep : Nat} {t : SetTable} (ho : s.heap.get? a = some o) (hx : o.ExactSet) (hd : o.data = .set es ep t)
  (hel : ElemsOf (intKind prog w) es.toList) (hp : (es.toList.map λ e => q2Z e.2).Perm ks) (hb : es.size + 1 < scanBound) (ht : Tab t (!q0C w))
  {es1 : Array (Int × Value)} {t1 : SetTable} (p1 : es1.toList.Perm (es.toList ++ [(hashInt k, Value.int k tk)])) (f1 : t1.fits es1.size = true) (g1 : Tab t1 (!q0C w)) (wd : Bool) {g : Bool -> Sem Unit}
  (hg : ∀ (b : Bool) (s₁ : Shared) (Q' : Unit -> Shared -> Prop), Q' () s₁ -> wpAny (model prog w) A (g b) Q' E s₁)
  (h : ∀ h', Heap.SameBut a s.heap h' -> SetI prog w h' a (ks ++ [k]) -> Q (some true) { s with heap := h' }) :
  wpAny (model prog w) A (do
   storeSet a es1 t1
   if (!wd && t1.tooFull) = true then do
    g (relayAll t1 es1 (SetTable.grown es1.size)).2.2
    storeSet a (relayAll t1 es1 (SetTable.grown es1.size)).1 (relayAll t1 es1 (SetTable.grown es1.size)).2.1
    pure (some true)
   else pure (some true)) Q E s := by
 have z1 : es1.size = es.size + 1 := by
  have := p1.length_eq
  rw [List.length_append, Array.length_toList, Array.length_toList] at this
  exact this
 have e1 : ElemsOf (intKind prog w) es1.toList := (hel.push (intKind_is prog w k tk) rfl).perm p1
 have m1 : (es1.toList.map λ e => q2Z e.2).Perm (ks ++ [k]) := by
  refine (p1.map _).trans ?_
  rw [List.map_append]
  exact hp.append_right _
 have b1 : es1.size < scanBound := by omega
 refine wpAny_bind (wpAny_storeSet_of ho hd ?_ (fits_of_scanBound b1))
 have o1 := z1n (es' := es1) (t' := t1) ho hd
 have sb := Heap.SameBut.update s.heap a (Obj.putSet es1 t1)
 split
 ·have p2 := relayAll_perm t1 es1 (SetTable.grown es1.size)
  have f2 := relayAll_fits t1 es1 (SetTable.grown es1.size)
  have g2 := g1.relayAll es1 (SetTable.grown es1.size)
  generalize relayAll t1 es1 (SetTable.grown es1.size) = R at p2 f2 g2 ⊢
  have z2 : R.1.size = es1.size := by
   have := p2.length_eq
   rwa [Array.length_toList, Array.length_toList] at this
  have b2 : R.1.size < scanBound := by omega
  refine wpAny_bind (hg _ _ _ ?_)
  refine wpAny_bind (wpAny_storeSet_of o1 rfl ?_ (fits_of_scanBound b2))
  refine wpAny_pure (h _ (sb.trans (Heap.SameBut.update _ a _)) ?_)
  exact ⟨_, R.1, _, R.2.1, z1n o1 rfl, hx, rfl, e1.perm p2, (p2.map _).trans m1, b2, f2, g2⟩
 ·refine wpAny_pure (h _ sb ?_)
  exact ⟨_, es1, _, t1, o1, hx, rfl, e1, m1, b1, f1, g1⟩
theorem z4O {k : Int} {tk : Tok} {Q : Bool -> Shared -> Prop} (hS : SetI prog w s.heap a ks) (hr : ks.length + 1 < scanBound)
  (h : ∀ h' b, Heap.SameBut a s.heap h' -> SetI prog w h' a (dk ks k) -> Q b { s with heap := h' }) :
  wpAny (model prog w) A (setAddHashed a (.int k tk) (hashInt k)) Q E s := by
 obtain ⟨o, es, ep, t, ho, hx, hd, hel, hp, hb, hf, ht⟩ := id hS
 have hz : es.size = ks.length := by
  have := hp.length_eq
  rwa [List.length_map, Array.length_toList] at this
 have hq : ∀ (b : Bool) (s₁ : Shared) (Q' : Unit -> Shared -> Prop), Q' () s₁ -> wpAny (model prog w) A (match b with | true => rule "set.scan.the-table-gave-way" | false => pure ()) Q' E s₁ := λ b s₁ Q' q => by
  cases b with
  | true => exact wpAny_rule q
  | false => exact wpAny_pure q
 unfold setAddHashed setAddHashedIn
 refine wpAny_holding (wpAny_bind (wpAny_setState_of ho hd hf ?_))
 dsimp only
 rw [byScan_of (knd := intKind prog w) (x := .int k tk) rfl hb hel, if_pos rfl]
 unfold setAddByScan
 refine wpAny_bind (wpAny_bind (wpAny_rule (wpAny_bind ?_)))
 refine wpAny_setScan_of (knd := intKind prog w) (intKind_is prog w k tk) ho hd hf hel ?_
 cases hi : es.toList.findIdx? (λ e => (intKind prog w).is k e.2) with
 | some j =>
  obtain ⟨hj, hk, _⟩ := List.findIdx?_eq_some_iff_getElem.mp hi
  have hm : k ∈ ks := hp.mem_iff.mp (List.mem_map.mpr ⟨es.toList[j], List.getElem_mem hj, (q8W hel (List.getElem_mem hj) k).mp hk⟩)
  have hd' : dk ks k = ks := by
   unfold dk
   rw [if_pos hm]
  refine wpAny_pure (wpAny_pure ?_)
  have := h s.heap false (Heap.SameBut.refl a s.heap) (by rw [hd']; exact hS)
  exact this
 | none =>
  have hm : k ∉ ks := λ z => by
   obtain ⟨e, he, q⟩ := List.mem_map.mp (hp.mem_iff.mpr z)
   have := List.findIdx?_eq_none_iff.mp hi e he
   rw [(q8W hel he k).mpr q] at this
   cases this
  have hd' : dk ks k = ks ++ [k] := by
   unfold dk
   rw [if_neg hm]
  rw [hd'] at h
  dsimp only
  have p1 := layNew_perm t es (hashInt k) (.int k tk)
  have f1 := layNew_fits t es (hashInt k) (.int k tk)
  have g1 := ht.layNew es (hashInt k) (.int k tk)
  show wpAny _ _ _ _ _ _
  change wpAny (model prog w) A (match layNew t es (hashInt k) (.int k tk) with | (es, t, wasDummy, gave) => _) _ _ _
  generalize layNew t es (hashInt k) (.int k tk) = L at p1 f1 g1 ⊢
  obtain ⟨es1, t1, wd, gv⟩ := L
  rw [Array.toList_push] at p1
  dsimp only at p1 f1 g1 ⊢
  refine wpAny_bind (hq gv _ _ ?_)
  have fin : ∀ t2 : SetTable, t2.fits es1.size = true -> Tab t2 (!q0C w) -> wpAny (model prog w) A (do
   storeSet a es1 t2
   if (!wd && t2.tooFull) = true then do
    (λ b : Bool => match b with | true => rule "set.scan.the-table-gave-way" | false => pure ()) (relayAll t2 es1 (SetTable.grown es1.size)).2.2
    storeSet a (relayAll t2 es1 (SetTable.grown es1.size)).1 (relayAll t2 es1 (SetTable.grown es1.size)).2.1
    pure (some true)
   else pure (some true)) (λ r s' => wpAny (model prog w) A (match r with | some added => pure added | none => setAddHashedIn a (.int k tk) (hashInt k) 99999) Q E s') E s := λ t2 f2 g2 =>
   z2k (k := k) (tk := tk) ho hx hd hel hp (by omega) ht p1 f2 g2 wd hq λ h' sb S' => wpAny_pure (h h' true sb S')
  split
  ·refine wpAny_bind ?_
   rw [hashByValue_scannable 8 (x := .int k tk) rfl]
   refine wpAny_pure ?_
   exact fin t1 f1 g1
  ·refine wpAny_bind (wpAny_pure ?_)
   exact fin t1 f1 g1
end
end L2
end
section
namespace L2
open PySem PySem.Spec PyProof.Rows
noncomputable def fm (val : Nat -> Int) (i : Nat) : List Int := ((List.range i).map val).foldl dk []
theorem q7U (val : Nat -> Int) (i : Nat) : fm val (i + 1) = dk (fm val i) (val i) := by
 unfold fm
 rw [List.range_succ, List.map_append, List.foldl_append]
 rfl
theorem z5n (σ : List Int) (k : Int) : (dk σ k).length <= σ.length + 1 := by
 unfold dk
 split
 ·exact Nat.le_succ _
 ·rw [List.length_append]; exact Nat.le_refl _
theorem z1l (val : Nat -> Int) : ∀ i, (fm val i).length <= i
 | 0 => Nat.le_refl _
 | i + 1 => by
  rw [q7U]
  exact Nat.le_trans (z5n _ _) (Nat.succ_le_succ (z1l val i))
section
variable {prog : Program} {w : World} {A : Around} {R : Result -> Shared -> Prop} {I : Addr} {fp wr : List Addr} {G : Array GenState -> Array GenState -> Prop} {n : Nat} {P : Nat -> Value -> Prop} {St : Nat -> Shared -> Prop}
theorem SetI.moved {s s' : Shared} {S : Addr} {ks : List Int} (x : SetI prog w s.heap S ks) (hm : Moved wr G s s') (hS : S ∉ wr) : SetI prog w s'.heap S ks := x.at λ o e => hm.heap S o hS e
theorem q9n (W : WalksS prog w A.in1 I fp wr G n P St) (S : Addr) (hSf : S ∉ fp) (val : Nat -> Int) (hval : ∀ i v, P i v -> ∃ t, v = .int (val i) t) (hb : n + 1 < scanBound) :
  ∀ (k i : Nat) (s : Shared), i + k = n -> St i s -> SetI prog w s.heap S (fm val i) ->
   (∀ s', Moved (S :: wr) G s s' -> SetI prog w s'.heap S (fm val n) -> R (.ok (.ret .none)) s') -> codeAny (model prog w) A (.builtin "set.update.loop" ⟨[.ref S, .ref I], []⟩) R s := by
 have hw : S ∉ wr := λ z => hSf (W.sub S z)
 have up : ∀ b ∈ wr, b ∈ S :: wr := λ b z => List.mem_cons_of_mem S z
 intro k
 induction k with
 | zero =>
  intro i s e st hs hR
  have e : i = n := e
  subst e
  refine codeAny_builtin F.entry_set_update_loop ?_
  rw [Around.under_plainId F.plain_set_update_loop]
  show wpAny (model prog w) A.in1 (pyNext (.ref I) >>= _) _ _ s
  refine wpAny_bind (W.done s _ _ st λ s' hm => ?_)
  show wpAny (model prog w) A.in1 (ret Value.none) _ _ s'
  exact wpAny_pure (hR s' (hm.mono up) (hs.moved hm hw))
 | succ k ih =>
  intro i s e st hs hR
  have hi : i < n := by omega
  refine codeAny_builtin F.entry_set_update_loop ?_
  rw [Around.under_plainId F.plain_set_update_loop]
  show wpAny (model prog w) A.in1 (pyNext (.ref I) >>= _) _ _ s
  refine wpAny_bind (W.item i s _ _ hi st λ v s' hP st' hm => ?_)
  obtain ⟨t, hv⟩ := hval i v hP
  subst hv
  have hs' := hs.moved hm hw
  show wpAny (model prog w) A.in1 (holding [Value.int (val i) t] (setAdd S (.int (val i) t)) >>= _) _ _ s'
  refine wpAny_bind (wpAny_holding ?_)
  unfold setAdd
  refine wpAny_holding (wpAny_bind ((intKind prog w).pyHash (k := val i) (intKind_is prog w (val i) t) ?_))
  have hl := z1l val i
  refine z4O (s := { s' with toks := s'.toks + 1 }) (k := val i) (tk := t) hs' (by omega) λ h' b sb S' => ?_
  have hkeep : ∀ b o, b ≠ S -> s'.heap.get? b = some o -> h'.get? b = some o := λ b o hb e => by rw [sb.2 b hb]; exact e
  refine wpAny_pure ⟨plainId_quiet F.plain_set_update_loop _, ih (i + 1) _ (by omega) (W.frame (i + 1) s' h' _ st' (Nat.le_succ _) λ b hb o e => hkeep b o (λ z => hSf (z ▸ hb)) e) (by rw [q7U]; exact S') λ s2 hm2 S2 => ?_⟩
  refine hR s2 (Moved.trans W.gtrans ((hm.mono up).then_heap (Nat.le_succ _) λ b o hb e => hkeep b o (λ z => hb (z ▸ List.mem_cons_self)) e) hm2) S2
end
noncomputable def set0 (w : World) : Obj := { cls := .type "set", dict := none, data := .set #[] 0 (.fresh 0 0 (!q0C w)) }
section
variable {prog : Program} {w : World} {A : Around} {E : Value -> Shared -> Prop} {s : Shared}
theorem z2v {h : Heap} {a : Addr} (e : h.get? a = some (set0 w)) : SetI prog w h a [] :=
 ⟨_, #[], 0, _, e, ⟨rfl, rfl, rfl⟩, rfl, λ _ z => by simp at z, by simp, by decide, by rfl, Tab.fresh _⟩
theorem q5k (v : Value) {Q : Value -> Shared -> Prop} (h : Q (.ref s.heap.objs.size) { s with heap := s.heap.push (set0 w) }) :
  codeAny (model prog w) A (.call (.builtin "set.__new__") ⟨[.type "set", v], []⟩) (wants Q E) s := by
 refine codeAny_of_tree ?_
 show wpAny (model prog w) A.in1 (do checkBuiltinCall "set.__new__" ⟨[.type "set", v], []⟩; again (.builtin "set.__new__" ⟨[.type "set", v], []⟩)) _ _ s
 refine wpAny_bind (wpAny_of_eq (F.newCall_set_1 v) ?_)
 refine wpAny_pure ⟨plainId_quiet F.plain_set_new _, codeAny_builtin F.entry_set_new ?_⟩
 rw [Around.under_plainId F.plain_set_new]
 unfold Builtin.«set.__new__» Builtin.Frozenset.newClass
 have q := sub_set_self
 obtain ⟨h0, g0, d0, t0, o0⟩ := s
 dsimp only
 wp_walk
 refine wpAny_askSetting (wpAny_pure ?_)
 dsimp only
 simp only [newObj]
 exact wpAny_bind (wpAny_alloc (wpAny_pure (wpAny_pure h)))
theorem z3K {l : Addr} {items : Array Value} {ns : List Int} {Q : Value -> Shared -> Prop} (hh : A.handled = none) (hl : s.heap.IsList l items) (hi : IntsAre items.toList ns) (hb : items.size + 1 < scanBound)
  (h : ∀ h' tk, SetI prog w h' s.heap.objs.size (fm (λ i => ns.getD i 0) items.size) -> (∀ b o, s.heap.get? b = some o -> h'.get? b = some o) -> Q (.ref s.heap.objs.size) { s with heap := h', toks := tk }) :
  wpAny (model prog w) A (call (.type "set") [.ref l]) Q E s := by
 have m0 := F.called_set.mro
 obtain ⟨c0, r0, m1⟩ := m0
 have m2 := F.called_set.made
 have m3 := F.called_set.sub
 have m4 := F.called_set.notType
 have m5 := F.called_set.canCreate
 have m6 := F.typeCall_set_1 (.ref l)
 refine wpAny_call (codeAny_of_tree ?_)
 show wpAny (model prog w) _ (callAny (.type "set") _) _ _ _
 refine wpAny_pure ⟨Code.quiet_builtin _ (by decide +kernel), codeAny_builtin F.entry_type_call ?_⟩
 rw [Around.under_plain (weight_type_call_type "set" [.ref l] []) rfl]
 repeat (any_goals (first | assumption | wp_step))
 refine codeAny_mono (q5k (.ref l) (E := E) (Q := λ v s1 => v = .ref s.heap.objs.size /\ s1 = { s with heap := s.heap.push (set0 w) }) ⟨rfl, rfl⟩) λ r s1 q => ?_
 cases r with
 | error e => exact q
 | ok f =>
  cases f with
  | ret v =>
   obtain ⟨e1, e2⟩ := q
   subst e1
   subst e2
   have g0 : (s.heap.push (set0 w)).get? s.heap.objs.size = some (set0 w) := Heap.get?_push_size _ rfl
   have ty : Shared.TypeIs { s with heap := s.heap.push (set0 w) } (.ref s.heap.objs.size) "set" := ⟨_, g0, rfl⟩
   have n1 := F.called_set.init.lookup
   have n2 := F.called_set.init.bind (.ref s.heap.objs.size)
   repeat (any_goals (first | assumption | wp_step))
   refine codeAny_mono (codeAny_call_builtin (R := wants (λ v s2 => v = .none /\ ∃ h' tk, s2 = { s with heap := h', toks := tk } /\ SetI prog w h' s.heap.objs.size (fm (λ i => ns.getD i 0) items.size) /\
     ∀ b o, s.heap.get? b = some o -> h'.get? b = some o) E) F.called_set.init.plain F.entry_set_init (check_set_init_1 ty ?_)) λ r2 s2 q2 => ?_
   ·obtain ⟨⟨k1, k2, k3, k4⟩, kl, kc, kn, kd⟩ := hl
    dsimp only at kc kd
    subst kc
    subst kd
    have kl' : (s.heap.push (set0 w)).get? l = some { cls := .type "list", dict := k2, data := .seq items kn, slots := k4 } := Heap.get?_push_of_some _ kl
    have il : (s.heap.push (set0 w)).IsList l items := ⟨_, kl', rfl, kn, rfl⟩
    have p1 := F.sub_list_set
    have p2 := F.sub_list_frozenset
    have p3 : (Value.type "list" == Value.type "dict") = false := by decide
    unfold Builtin.«set.__init__» noKeywords Builtin.Frozenset.updateFrom
    generalize hP : pyIter = PI
    wp_walk
    subst hP
    refine wpAny_pyIter_list il (wpAny_bind (wpAny_runValue ?_))
    have l0 : l < s.heap.objs.size := Heap.lt_size kl
    have z1 : (s.heap.push (set0 w)).objs.size = s.heap.objs.size + 1 := Heap.size_push _ _
    have a1 : l ≠ (s.heap.push (set0 w)).objs.size := by rw [z1]; exact Nat.ne_of_lt (Nat.lt_succ_of_lt l0)
    have a2 : s.heap.objs.size ∉ [(s.heap.push (set0 w)).objs.size, l] := by
     rw [z1]
     intro z
     rcases List.mem_cons.mp z with z | z
     ·exact absurd z (Nat.ne_of_lt (Nat.lt_succ_self _))
     ·exact absurd (List.mem_singleton.mp z) (Nat.ne_of_gt l0)
    refine q9n ((Walks.list (by show A.handled = none; exact hh) _ l a1 items).toS) s.heap.objs.size a2 (λ i => ns.getD i 0) (λ i v e => IntsAre.int_at hi i v (by rw [Array.getElem?_toList]; exact e)) hb
     items.size 0 _ (Nat.zero_add _) ⟨⟨_, Heap.get?_push_size _ rfl, rfl, rfl⟩, il.push _⟩ (z2v (Heap.get?_push_of_some _ g0)) λ s3 hm S3 => ?_
    obtain ⟨h3, g3, d3, t3, o3⟩ := s3
    have b1 : g3 = s.gens := hm.gens
    have b2 : d3 = s.drawn := hm.drawn
    have b3 : o3 = s.os := hm.os
    subst b1
    subst b2
    subst b3
    show wpAny (model prog w) _ _ _ _ _
    refine wpAny_pure ?_
    show wpAny (model prog w) _ (ret Value.none) _ _ _
    refine wpAny_pure ⟨rfl, h3, t3, rfl, S3, λ b o e => ?_⟩
    have b4 := Heap.lt_size e
    refine hm.heap b o (λ z => ?_) (Heap.get?_push_of_some _ (Heap.get?_push_of_some _ e))
    rcases List.mem_cons.mp z with z | z
    ·exact absurd z (Nat.ne_of_lt b4)
    ·have := List.mem_singleton.mp z
     rw [z1] at this
     exact absurd this (Nat.ne_of_lt (Nat.lt_succ_of_lt b4))
   ·cases r2 with
    | error e => exact q2
    | ok f2 =>
     cases f2 with
     | ret v2 =>
      obtain ⟨c1, h', tk, c2, c3, c4⟩ := q2
      subst c1
      subst c2
      repeat (any_goals (first | assumption | wp_step))
      exact h h' tk c3 c4
     | _ => exact q2.elim
  | _ => exact q.elim
end
end L2
end
section
namespace L2
open PySem PyProof.Rows
noncomputable def q0V (h : Heap) (I a : Addr) (f : Value) (i n ep : Nat) : Prop := ∃ o, h.get? I = some o /\ o.cls = .type "set_iterator" /\ o.data = .fields #[f, .int i 0, .ref a, .int n 0, .int ep 0]
noncomputable def q2v (h : Heap) (a : Addr) (es : Array (Int × Value)) (ep : Nat) (t : SetTable) : Prop := ∃ o, h.get? a = some o /\ o.ExactSet /\ o.data = .set es ep t
theorem q0V.typeIs {s : Shared} {I a : Addr} {f : Value} {i n ep : Nat} (x : q0V s.heap I a f i n ep) : s.TypeIs (.ref I) "set_iterator" := let ⟨o, e, c, _⟩ := x; ⟨o, e, c⟩
theorem q0V.at {h h' : Heap} {I a : Addr} {f : Value} {i n ep : Nat} (x : q0V h I a f i n ep) (k : ∀ o, h.get? I = some o -> h'.get? I = some o) : q0V h' I a f i n ep := let ⟨o, e, c⟩ := x; ⟨o, k o e, c⟩
theorem q2v.at {h h' : Heap} {a : Addr} {es : Array (Int × Value)} {ep : Nat} {t : SetTable} (x : q2v h a es ep t) (k : ∀ o, h.get? a = some o -> h'.get? a = some o) : q2v h' a es ep t := let ⟨o, e, c⟩ := x; ⟨o, k o e, c⟩
theorem q2v.typeIs {s : Shared} {a : Addr} {es : Array (Int × Value)} {ep : Nat} {t : SetTable} (x : q2v s.heap a es ep t) : s.TypeIs (.ref a) "set" := let ⟨o, e, c, _⟩ := x; ⟨o, e, c.1⟩
theorem q1m : Slot "set_iterator" "__next__" "set_iterator.__next__" :=
 .of (owner := "set_iterator") (n := "__next__") (by rw [typeLookup_type, builtinLookup_eq_fast]; kernel_rfl) (by decide +kernel) (by decide +kernel) (by decide +kernel)
  (by first | exact .inl (by decide +kernel) | exact .inr (by decide +kernel)) (by rw [isSubtype_type]; kernel_rfl)
theorem q3r : entryFor table "set_iterator.__next__" = some Builtin.«set_iterator.__next__» := entryFor_of_tree (by kernel_rfl)
theorem q4s (v : Value) : argsOk "set_iterator.__next__" ⟨[v], []⟩ := by unfold argsOk; kernel_rfl
theorem z0w : entryFor table "set.__iter__" = some Builtin.«frozenset.__iter__» := entryFor_alias (id' := "frozenset.__iter__") (by kernel_rfl) rfl (by decide +kernel) (by kernel_rfl)
section
variable {prog : Program} {w : World} {A : Around} {E : Value -> Shared -> Prop} {s : Shared} {I a : Addr} {es : Array (Int × Value)} {ep : Nat} {t : SetTable} {Q : Option Value -> Shared -> Prop}
theorem q5l {h : Heap} {o : Obj} {f : Value} {i : Nat} {n : Nat} (e : h.get? I = some o) (c : o.cls = .type "set_iterator") (d : o.data = .fields #[f, .int i 0, .ref a, .int n 0, .int ep 0]) :
  q0V (h.update I (Obj.mapFields (·.setIfInBounds 1 (rawInt ((i : Int) + 1))))) I a f (i + 1) n ep := by
 refine ⟨_, Heap.get?_update_self _ e (Obj.isFreed_of_fields (Obj.data_mapFields d _)), (Obj.cls_mapFields ..).trans c, ?_⟩
 rw [Obj.data_mapFields d]
 simp [rawInt]
theorem q6F {h : Heap} {o : Obj} {f : Value} (g : Value) {i : Nat} {n : Nat} (e : h.get? I = some o) (c : o.cls = .type "set_iterator") (d : o.data = .fields #[f, .int i 0, .ref a, .int n 0, .int ep 0]) :
  q0V (h.update I (Obj.mapFields (·.setIfInBounds 0 g))) I a g i n ep := by
 refine ⟨_, Heap.get?_update_self _ e (Obj.isFreed_of_fields (Obj.data_mapFields d _)), (Obj.cls_mapFields ..).trans c, ?_⟩
 rw [Obj.data_mapFields d]
 simp
theorem q6D {slot i j : Nat} {x : Value} (hI : q0V s.heap I a (.int slot 0) i es.size ep) (hS : q2v s.heap a es ep t) (hf : t.fits es.size = true)
  (hn : ∀ (A : Around) (E' : Value -> Shared -> Prop) (Q' : Option (Value × Nat) -> Shared -> Prop), Q' (some (x, j)) s -> wpAny (model prog w) A (setNext a slot i ep) Q' E' s)
  (hQ : ∀ h', q0V h' I a (.int j 0) (i + 1) es.size ep -> Heap.SameBut I s.heap h' -> Q (some x) { s with heap := h' }) : wpAny (model prog w) A (pyNext (.ref I)) Q E s := by
 obtain ⟨o, ho, hc, hd⟩ := id hI
 obtain ⟨p, hp, hx, hq⟩ := id hS
 unfold pyNext
 refine wpAny_bind (wpAny_attempt (wpAny_callSpecial?_slot (name := Str.ofString "__next__") hI.typeIs q1m (wpAny_call_entry q1m hI.typeIs q3r ?_ (q4s _))))
 unfold Builtin.«set_iterator.__next__»
 refine wpAny_bind (wpAny_pure ?_)
 dsimp only
 refine wpAny_bind (wpAny_fieldsOf ho hd ?_)
 dsimp only
 refine wpAny_bind (wpAny_setEntries_of hp hq hf ?_)
 rw [show (((es.size : Nat) : Int) != ((es.size : Nat) : Int)) = false by simp, if_neg Bool.false_ne_true]
 simp only [Int.toNat_natCast]
 refine wpAny_bind (hn _ _ _ ?_)
 dsimp only
 refine wpAny_bind (wpAny_setField ho hd (by simp) ?_)
 have I1 := q6F (ep := ep) (rawInt j) ho hc hd
 obtain ⟨o1, ho1, hc1, hd1⟩ := id I1
 refine wpAny_bind (wpAny_setField ho1 hd1 (by simp) (wpAny_pure ⟨x, rfl, wpAny_pure (hQ _ (q5l ho1 hc1 hd1) ?_)⟩))
 exact (Heap.SameBut.update ..).trans (Heap.SameBut.update ..)
theorem q9q {slot i : Nat} (hh : A.handled = none) (hI : q0V s.heap I a (.int slot 0) i es.size ep) (hS : q2v s.heap a es ep t) (hf : t.fits es.size = true)
  (hn : ∀ (A : Around) (E' : Value -> Shared -> Prop) (Q' : Option (Value × Nat) -> Shared -> Prop), Q' none s -> wpAny (model prog w) A (setNext a slot i ep) Q' E' s)
  (hQ : ∀ h', Heap.ExtBut I s.heap h' -> Q none { s with heap := h' }) : wpAny (model prog w) A (pyNext (.ref I)) Q E s := by
 obtain ⟨o, ho, hc, hd⟩ := id hI
 obtain ⟨p, hp, hx, hq⟩ := id hS
 unfold pyNext
 refine wpAny_bind (wpAny_attempt (wpAny_callSpecial?_slot (name := Str.ofString "__next__") hI.typeIs q1m (wpAny_call_entry q1m hI.typeIs q3r ?_ (q4s _))))
 unfold Builtin.«set_iterator.__next__»
 refine wpAny_bind (wpAny_pure ?_)
 dsimp only
 refine wpAny_bind (wpAny_fieldsOf ho hd ?_)
 dsimp only
 refine wpAny_bind (wpAny_setEntries_of hp hq hf ?_)
 rw [show (((es.size : Nat) : Int) != ((es.size : Nat) : Int)) = false by simp, if_neg Bool.false_ne_true]
 simp only [Int.toNat_natCast]
 refine wpAny_bind (hn _ _ _ ?_)
 dsimp only
 refine wpAny_bind (wpAny_setField ho hd (by simp) ?_)
 refine wpAny_bind ?_
 simp only [newExc, newTuple]
 refine wpAny_bind (wpAny_newObj_type ?_ (by size_fits))
 refine wpAny_bind (m := firstArgMember _ _) (wpAny_of_eq (a := Value.none) (by first | rfl | (simp only [firstArgMember]; rfl)) ?_)
 refine wpAny_newObj_type ?_ (by size_fits)
 simp only [raiseNew]
 refine wpAny_bind (wpAny_handled ?_)
 rw [show A.in1.handled = none from hh]
 refine wpAny_bind (wpAny_pure (wpAny_throw ?_))
 refine wpAny_bind (wpAny_isInstance (T := "StopIteration") (b := true) ⟨_, Heap.get?_push_size _ rfl, rfl⟩ isSubtype_stop ?_)
 exact wpAny_pure (hQ _ (((Heap.SameBut.update ..).extBut.push _).push _))
theorem z0e {q : Addr} {ps : Array Value} {i k : Nat} {x : Value} {z : Int} (hI : q0V s.heap I a (.ref q) i es.size ep) (hS : q2v s.heap a es ep t) (hf : t.fits es.size = true) (ht : IsTup s.heap q ps) (hk : ps[i]? = some (.int k 0)) (hx : es[k]? = some (z, x))
  (hQ : ∀ h', q0V h' I a (.ref q) (i + 1) es.size ep -> Heap.SameBut I s.heap h' -> Q (some x) { s with heap := h' }) : wpAny (model prog w) A (pyNext (.ref I)) Q E s := by
 obtain ⟨o, ho, hc, hd⟩ := id hI
 obtain ⟨p, hp, hxx, hq⟩ := id hS
 unfold pyNext
 refine wpAny_bind (wpAny_attempt (wpAny_callSpecial?_slot (name := Str.ofString "__next__") hI.typeIs q1m (wpAny_call_entry q1m hI.typeIs q3r ?_ (q4s _))))
 unfold Builtin.«set_iterator.__next__»
 refine wpAny_bind (wpAny_pure ?_)
 dsimp only
 refine wpAny_bind (wpAny_fieldsOf ho hd ?_)
 dsimp only
 refine wpAny_bind (wpAny_setEntries_of hp hq hf ?_)
 rw [show (((es.size : Nat) : Int) != ((es.size : Nat) : Int)) = false by simp, if_neg Bool.false_ne_true]
 simp only [Int.toNat_natCast]
 obtain ⟨oq, hoq, hcq, nq, hdq⟩ := ht
 refine wpAny_bind (wpAny_seqItems hoq hdq ?_)
 dsimp only
 rw [hk]
 dsimp only
 unfold setNextDrawn
 simp only [Int.toNat_natCast]
 refine wpAny_bind (wpAny_bind (wpAny_setState_of hp hq hf ?_))
 dsimp only
 rw [show (ep != ep) = false by simp, if_neg Bool.false_ne_true]
 rw [hx]
 refine wpAny_pure ?_
 refine wpAny_bind (wpAny_setField ho hd (by simp) (wpAny_pure ⟨x, rfl, wpAny_pure (hQ _ (q5l ho hc hd) (Heap.SameBut.update ..))⟩))
theorem z3h {q : Addr} {ps : Array Value} {i : Nat} (hh : A.handled = none) (hI : q0V s.heap I a (.ref q) i es.size ep) (hS : q2v s.heap a es ep t) (hf : t.fits es.size = true) (ht : IsTup s.heap q ps) (hk : ps[i]? = none)
  (hQ : ∀ h', Heap.ExtBut I s.heap h' -> Q none { s with heap := h' }) : wpAny (model prog w) A (pyNext (.ref I)) Q E s := by
 obtain ⟨o, ho, hc, hd⟩ := id hI
 obtain ⟨p, hp, hx, hq⟩ := id hS
 unfold pyNext
 refine wpAny_bind (wpAny_attempt (wpAny_callSpecial?_slot (name := Str.ofString "__next__") hI.typeIs q1m (wpAny_call_entry q1m hI.typeIs q3r ?_ (q4s _))))
 unfold Builtin.«set_iterator.__next__»
 refine wpAny_bind (wpAny_pure ?_)
 dsimp only
 refine wpAny_bind (wpAny_fieldsOf ho hd ?_)
 dsimp only
 refine wpAny_bind (wpAny_setEntries_of hp hq hf ?_)
 rw [show (((es.size : Nat) : Int) != ((es.size : Nat) : Int)) = false by simp, if_neg Bool.false_ne_true]
 simp only [Int.toNat_natCast]
 obtain ⟨oq, hoq, hcq, nq, hdq⟩ := ht
 refine wpAny_bind (wpAny_seqItems hoq hdq ?_)
 dsimp only
 rw [hk]
 dsimp only
 refine wpAny_bind (wpAny_setField ho hd (by simp) ?_)
 obtain ⟨o1, ho1, hc1, hd1⟩ := q6F (ep := ep) (rawInt 0) ho hc hd
 refine wpAny_bind (wpAny_setField ho1 hd1 (by simp) ?_)
 refine wpAny_bind ?_
 simp only [newExc, newTuple]
 refine wpAny_bind (wpAny_newObj_type ?_ (by size_fits))
 refine wpAny_bind (m := firstArgMember _ _) (wpAny_of_eq (a := Value.none) (by first | rfl | (simp only [firstArgMember]; rfl)) ?_)
 refine wpAny_newObj_type ?_ (by size_fits)
 simp only [raiseNew]
 refine wpAny_bind (wpAny_handled ?_)
 rw [show A.in1.handled = none from hh]
 refine wpAny_bind (wpAny_pure (wpAny_throw ?_))
 refine wpAny_bind (wpAny_isInstance (T := "StopIteration") (b := true) ⟨_, Heap.get?_push_size _ rfl, rfl⟩ isSubtype_stop ?_)
 exact wpAny_pure (hQ _ ((((Heap.SameBut.update ..).trans (Heap.SameBut.update ..)).extBut.push _).push _))
end
end L2
end
section
namespace L2
open PySem PyProof.Rows
section
variable {prog : Program} {w : World} {A : Around} {E : Value -> Shared -> Prop} {s : Shared} {I a : Addr} {es : Array (Int × Value)} {ep : Nat} {t : SetTable}
theorem q7R {slot i : Nat} {Q : Option (Value × Nat) -> Shared -> Prop} (ho : q0C w = true) (hS : q2v s.heap a es ep t) (hf : t.fits es.size = true)
  (h : Q (((pickOrder (w.params.setOrder a ep) es)[i]?).map λ e => (e.2, slot)) s) : wpAny (model prog w) A (setNext a slot i ep) Q E s := by
 obtain ⟨p, hp, hx, hq⟩ := id hS
 unfold setNext
 refine wpAny_bind (wpAny_setState_of hp hq hf ?_)
 dsimp only
 unfold setsByText
 refine wpAny_bind (wpAny_bind (wpAny_askSetting (wpAny_pure ?_)))
 show wpAny (model prog w) A (if q0C w = true then _ else _) Q E s
 rw [if_pos ho]
 rw [show (ep != ep) = false by simp, if_neg Bool.false_ne_true]
 refine wpAny_bind ?_
 unfold setWalk
 refine wpAny_bind (wpAny_setState_of hp hq hf ?_)
 dsimp only
 unfold setsByText
 refine wpAny_bind (wpAny_bind (wpAny_askSetting (wpAny_pure ?_)))
 show wpAny (model prog w) A (if q0C w = true then _ else _) _ E s
 rw [if_pos ho]
 exact wpAny_bind (wpAny_askSetting (wpAny_pure (wpAny_pure h)))
theorem z1f {slot i : Nat} {Q : Option (Value × Nat) -> Shared -> Prop} (ho : q0C w = false) (hd : (!t.plain && decide (es.size > 1)) = false) (hl : t.led = true) (hS : q2v s.heap a es ep t) (hf : t.fits es.size = true)
  (h : Q (match es[SetTable.below t.place slot]?, t.place[SetTable.below t.place slot]? with | some (_, x), some j => some (x, j + 1) | _, _ => none) s) : wpAny (model prog w) A (setNext a slot i ep) Q E s := by
 obtain ⟨p, hp, hx, hq⟩ := id hS
 unfold setNext
 refine wpAny_bind (wpAny_setState_of hp hq hf ?_)
 dsimp only
 unfold setsByText
 refine wpAny_bind (wpAny_bind (wpAny_askSetting (wpAny_pure ?_)))
 show wpAny (model prog w) A (if q0C w = true then _ else _) Q E s
 rw [if_neg (by rw [ho]; exact Bool.false_ne_true)]
 show wpAny (model prog w) A (if (!t.plain && decide (es.size > 1)) = true then _ else _) Q E s
 rw [hd, if_neg Bool.false_ne_true]
 refine wpAny_bind ?_
 show wpAny (model prog w) A (if (!t.led && !es.isEmpty) = true then _ else _) _ E s
 rw [hl]
 exact wpAny_pure (wpAny_pure h)
theorem z2o {α : Type} {Q : List α -> Shared -> Prop} : ∀ (n : Nat) (xs : List α) (s : Shared), xs.length = n -> (∀ l d, l.Perm xs -> Q l { s with drawn := d }) -> wpAny (model prog w) A (drawOrder n xs) Q E s := by
 intro n
 induction n generalizing Q with
 | zero =>
  intro xs s hl h
  have : xs = [] := List.length_eq_zero_iff.mp hl
  subst this
  exact wpAny_pure (h [] s.drawn .rfl)
 | succ n ih =>
  intro xs s hl h
  cases xs with
  | nil => cases hl
  | cons y r =>
   show wpAny (model prog w) A (choose .order (y :: r).length >>= _) Q E s
   have key : ∀ i, i < (y :: r).length -> wpAny (model prog w) A (match (y :: r)[i]? with
     | some x => do return x :: (← drawOrder n ((y :: r).eraseIdx i))
     | none => unsupported "internal:drawOrder") Q E { s with drawn := s.drawn.bump .order } := λ i hi => by
    have hg : (y :: r)[i]? = some (y :: r)[i] := List.getElem?_eq_getElem hi
    rw [hg]
    refine wpAny_bind (ih _ _ (by rw [List.length_eraseIdx, if_pos hi]; omega) λ l d p => wpAny_pure (h _ d ?_))
    exact (List.Perm.cons _ p).trans (q3e hi rfl)
   refine wpAny_bind λ Γ p hΓ => ⟨by simp, ?_⟩
   exact key _ (Nat.mod_lt _ (by simp))
noncomputable def q6o (f : Value) (a : Addr) (n ep : Nat) : Obj := { cls := .type "set_iterator", data := .fields #[f, .int 0 0, .ref a, .int n 0, .int ep 0] }
noncomputable def q7W (l : List Nat) : Obj := { cls := .type "tuple", data := .seq (l.map λ (i : Nat) => Value.int i 0).toArray }
theorem q5a {h : Heap} {f : Value} {n : Nat} : q0V (h.push (q6o f a n ep)) h.objs.size a f 0 n ep := ⟨_, Heap.get?_push_size _ rfl, rfl, rfl⟩
theorem z0p {Q : Value -> Shared -> Prop} (hS : q2v s.heap a es ep t) (hf : t.fits es.size = true) (hb : es.size <= sizeLine)
  (h1 : (!q0C w && (!t.plain && decide (es.size > 1))) = false -> Q (.ref s.heap.objs.size) { s with heap := s.heap.push (q6o (.int 0 0) a es.size ep) })
  (h2 : ∀ l d, q0C w = false -> l.Perm (List.range es.size) -> Q (.ref (s.heap.objs.size + 1)) { s with heap := (s.heap.push (q7W l)).push (q6o (.ref s.heap.objs.size) a es.size ep), drawn := d }) :
  wpAny (model prog w) A (pyIter (.ref a)) Q E s := by
 obtain ⟨p, hp, hx, hq⟩ := id hS
 refine wpAny_pyIter_slot hS.typeIs F.slot_set_iter (wpAny_call_entry F.slot_set_iter hS.typeIs z0w ?_ (F.args_set_iter_1 _))
 unfold Builtin.«frozenset.__iter__» Builtin.Frozenset.slot0 slotArgs
 simp only [List.isEmpty_nil, Bool.not_true, Bool.false_eq_true, ↓reduceIte, bind_assoc, List.length_nil, bne_self_eq_false]
 unfold Builtin.Frozenset.addrOf Builtin.Frozenset.sizeOf
 refine wpAny_bind (wpAny_pure ?_)
 try dsimp only
 refine wpAny_bind (wpAny_pure ?_)
 refine wpAny_bind (wpAny_bind (wpAny_setEntries_of hp hq hf (wpAny_pure ?_)))
 unfold setDrawn
 refine wpAny_bind (wpAny_bind (wpAny_setState_of hp hq hf ?_))
 dsimp only
 unfold setsByText
 refine wpAny_bind (wpAny_bind (wpAny_askSetting (wpAny_pure (wpAny_pure ?_))))
 show wpAny (model prog w) _ (if (!q0C w && (!t.plain && decide (es.size > 1))) = true then _ else _) _ _ _
 by_cases hc : (!q0C w && (!t.plain && decide (es.size > 1))) = true
 ·rw [if_pos hc]
  have ho : q0C w = false := by
   cases e : q0C w with
   | false => rfl
   | true => rw [e] at hc; cases hc
  refine wpAny_bind (z2o es.size (List.range es.size) s (List.length_range) λ l d pl => ?_)
  have hl : l.length = es.size := by rw [pl.length_eq, List.length_range]
  unfold newTuple
  refine wpAny_bind (wpAny_newObj_type ?_ (by show (l.map _).toArray.size <= _; simp; omega))
  have hp' : (s.heap.push { cls := .type "tuple", data := .seq (l.map λ (i : Nat) => rawInt i).toArray }).get? a = some p := Heap.get?_push_of_some _ hp
  refine wpAny_bind (wpAny_setEpoch_of hp' hq hf ?_)
  refine wpAny_bind (wpAny_newObj_type (wpAny_pure ⟨_, rfl, "set_iterator", _, ⟨_, Heap.get?_push_size _ rfl, rfl⟩, q1m.lookup, ?_⟩))
  have z : (s.heap.push { cls := .type "tuple", data := .seq (l.map λ (i : Nat) => rawInt i).toArray }).objs.size = s.heap.objs.size + 1 := Heap.size_push _ _
  have := h2 l d ho pl
  rw [← z] at this
  exact this
 ·rw [if_neg hc]
  refine wpAny_bind (wpAny_pure ?_)
  refine wpAny_bind (wpAny_setEpoch_of hp hq hf ?_)
  refine wpAny_bind (wpAny_newObj_type (wpAny_pure ⟨_, rfl, "set_iterator", _, ⟨_, Heap.get?_push_size _ rfl, rfl⟩, q1m.lookup, ?_⟩))
  exact h1 (by simpa using hc)
end
section
variable {prog : Program} {w : World} {A : Around} {E : Value -> Shared -> Prop} {s : Shared} {I a : Addr} {es : Array (Int × Value)} {ep : Nat} {t : SetTable}
noncomputable abbrev Nx (prog : Program) (w : World) (I : Addr) (fp : List Addr) (n : Nat) (ws : List Value) (St : Nat -> Heap -> Prop) : Prop :=
 ∀ A : Around, A.handled = none -> WalksS prog w A I fp [I] (λ a b => b = a) n (λ i v => ws[i]? = some v) (λ i s => St i s.heap)
theorem z2U {fp : List Addr} {n : Nat} {ws : List Value} {St : Nat -> Heap -> Prop} (hI : I ∈ fp) (hz : ws.length = n)
    (fr : ∀ i h h', St i h -> (∀ b ∈ fp, ∀ o, h.get? b = some o -> h'.get? b = some o) -> St i h')
    (it : ∀ (A : Around) (E : Value -> Shared -> Prop) (Q : Option Value -> Shared -> Prop) (s : Shared) i v, A.handled = none -> ws[i]? = some v -> St i s.heap -> (∀ h', St (i + 1) h' -> Heap.SameBut I s.heap h' -> Q (some v) { s with heap := h' }) -> wpAny (model prog w) A (pyNext (.ref I)) Q E s)
    (dn : ∀ (A : Around) (E : Value -> Shared -> Prop) (Q : Option Value -> Shared -> Prop) (s : Shared), A.handled = none -> St n s.heap -> (∀ h', Heap.ExtBut I s.heap h' -> Q none { s with heap := h' }) -> wpAny (model prog w) A (pyNext (.ref I)) Q E s)
    (sf : ∀ (A : Around) (E : Value -> Shared -> Prop) (Q : Value -> Shared -> Prop) (s : Shared) i, St i s.heap -> Q (.ref I) s -> wpAny (model prog w) A (pyIter (.ref I)) Q E s) : Nx prog w I fp n ws St := λ A hh =>
  { sub := λ b hb => by rw [List.mem_singleton.mp hb]; exact hI
    grefl := λ _ => rfl
    gtrans := λ _ _ _ h1 h2 => h2.trans h1
    frame := λ i s h' tk st _ k => fr i s.heap h' st k
    item := λ i s Q E hi st hQ => by
      have hg : ws[i]? = some ws[i] := List.getElem?_eq_getElem (by omega)
      exact it A E Q s i _ hh hg st λ h' st' sb => hQ _ _ hg st' ⟨λ b o hb e => sb.extBut b o (λ z => hb (List.mem_singleton.mpr z)) e, rfl, rfl, rfl, Nat.le_refl _⟩
    done := λ s Q E st hQ => dn A E Q s hh st λ h' eb => hQ _ ⟨λ b o hb e => eb b o (λ z => hb (List.mem_singleton.mpr z)) e, rfl, rfl, rfl, Nat.le_refl _⟩
    self := λ i s Q E st hQ => sf A E Q s i st hQ }
theorem q4F {h h' : Heap} {b : Addr} (sb : Heap.SameBut I h h') (hb : b ≠ I) : ∀ o, h.get? b = some o -> h'.get? b = some o := λ o e => sb.extBut b o hb e
theorem q7c : Slot "set_iterator" "__iter__" "set_iterator.__iter__" :=
 .of (owner := "set_iterator") (n := "__iter__") (by rw [typeLookup_type, builtinLookup_eq_fast]; kernel_rfl) (by decide +kernel) (by decide +kernel) (by decide +kernel)
  (by first | exact .inl (by decide +kernel) | exact .inr (by decide +kernel)) (by rw [isSubtype_type]; kernel_rfl)
theorem q8D : entryFor table "set_iterator.__iter__" = some Builtin.«dict_keyiterator.__iter__» := entryFor_alias (id' := "dict_keyiterator.__iter__") (by kernel_rfl) rfl (by decide +kernel) (by kernel_rfl)
theorem z0m (v : Value) : argsOk "set_iterator.__iter__" ⟨[v], []⟩ := by unfold argsOk; kernel_rfl
theorem q5R {f : Value} {i n : Nat} {Q : Value -> Shared -> Prop} (hI : q0V s.heap I a f i n ep) (h : Q (.ref I) s) : wpAny (model prog w) A (pyIter (.ref I)) Q E s := by
 refine wpAny_pyIter_slot hI.typeIs q7c (wpAny_call_entry q7c hI.typeIs q8D ?_ (z0m _))
 show wpAny (model prog w) _ (ret (.ref I)) _ _ s
 exact wpAny_pure ⟨_, rfl, "set_iterator", _, hI.typeIs, q1m.lookup, h⟩
theorem q9o (ho : q0C w = true) (hf : t.fits es.size = true) (hne : a ≠ I) :
  Nx prog w I [I, a] es.size ((pickOrder (w.params.setOrder a ep) es).toList.map (·.2)) (λ i h => q0V h I a (.int (0 : Nat) 0) i es.size ep /\ q2v h a es ep t) := by
 have hz : (pickOrder (w.params.setOrder a ep) es).size = es.size := by
  have := (q2x (w.params.setOrder a ep) es).length_eq
  rwa [Array.length_toList, Array.length_toList] at this
 refine z2U (by simp) (by rw [List.length_map, Array.length_toList, hz]) (λ i h h' st k => ⟨st.1.at (k I (by simp)), st.2.at (k a (by simp))⟩) (λ A E Q s i v hh hv st hQ => ?_) (λ A E Q s hh st hQ => ?_) λ A E Q s i st h => q5R st.1 h
 ·obtain ⟨e, he, hev⟩ : ∃ e, (pickOrder (w.params.setOrder a ep) es)[i]? = some e /\ e.2 = v := by
   rw [List.getElem?_map, Array.getElem?_toList] at hv
   cases q : (pickOrder (w.params.setOrder a ep) es)[i]? with
   | none => rw [q] at hv; cases hv
   | some e => rw [q] at hv; cases hv; exact ⟨e, rfl, rfl⟩
  refine q6D (slot := 0) (j := 0) (x := v) st.1 st.2 hf (λ A E' Q' q => q7R ho st.2 hf (by rw [he, Option.map_some, hev]; exact q)) λ h' st' sb => ?_
  exact hQ h' ⟨st', st.2.at (q4F sb hne)⟩ sb
 ·refine q9q (slot := 0) hh st.1 st.2 hf (λ A E' Q' q => q7R ho st.2 hf (by rw [Array.getElem?_eq_none (by omega)]; exact q)) hQ
noncomputable def slotAt (t : SetTable) : Nat -> Nat
 | 0 => 0
 | i + 1 => t.place.getD i 0 + 1
theorem q3i (ht : Rise t.place) : ∀ {i : Nat}, i <= t.place.size -> SetTable.below t.place (slotAt t i) = i
 | 0, _ => q7n ht
 | i + 1, h => by
  have hg : t.place[i]? = some t.place[i] := Array.getElem?_eq_getElem (by omega)
  show SetTable.below t.place (t.place.getD i 0 + 1) = i + 1
  rw [Array.getD_eq_getD_getElem?, hg]
  exact q7o ht hg
theorem q9I (ho : q0C w = false) (hd : (!t.plain && decide (es.size > 1)) = false) (ht : Tab t (!q0C w)) (hf : t.fits es.size = true) (hne : a ≠ I) :
  Nx prog w I [I, a] es.size (es.toList.map (·.2)) (λ i h => q0V h I a (.int (slotAt t i : Nat) 0) i es.size ep /\ q2v h a es ep t /\ i <= es.size) := by
 have hl : t.led = true := by rw [ht.led, ho]; rfl
 have hz : t.place.size = es.size := by
  unfold SetTable.fits at hf
  rw [Bool.and_eq_true] at hf
  exact beq_iff_eq.mp hf.1
 refine z2U (by simp) (by rw [List.length_map, Array.length_toList]) (λ i h h' st k => ⟨st.1.at (k I (by simp)), st.2.1.at (k a (by simp)), st.2.2⟩) (λ A E Q s i v hh hv st hQ => ?_) (λ A E Q s hh st hQ => ?_) λ A E Q s i st h => q5R st.1 h
 ·obtain ⟨z, he⟩ : ∃ z, es[i]? = some (z, v) := by
   rw [List.getElem?_map, Array.getElem?_toList] at hv
   cases q : es[i]? with
   | none => rw [q] at hv; cases hv
   | some e => rw [q] at hv; cases hv; exact ⟨e.1, rfl⟩
  have hi : i < es.size := by
   rcases Nat.lt_or_ge i es.size with h | h
   ·exact h
   ·rw [Array.getElem?_eq_none h] at he; cases he
  have hg : t.place[i]? = some t.place[i] := Array.getElem?_eq_getElem (by omega)
  have hb := q3i ht.rise (i := i) (by omega)
  have hj : slotAt t (i + 1) = t.place[i] + 1 := by
   show t.place.getD i 0 + 1 = _
   rw [Array.getD_eq_getD_getElem?, hg]
   rfl
  refine q6D (slot := slotAt t i) (j := slotAt t (i + 1)) (x := v) st.1 st.2.1 hf (λ A E' Q' q => z1f ho hd hl st.2.1 hf (by rw [hb, he, hg]; rw [hj] at q; exact q)) λ h' st' sb => ?_
  exact hQ h' ⟨st', st.2.1.at (q4F sb hne), hi⟩ sb
 ·have hb := q3i ht.rise (i := es.size) (by omega)
  refine q9q (slot := slotAt t es.size) hh st.1 st.2.1 hf (λ A E' Q' q => z1f ho hd hl st.2.1 hf (by rw [hb, Array.getElem?_eq_none (Nat.le_refl _)]; exact q)) hQ
theorem q7K {q : Addr} {l : List Nat} (hp : l.Perm (List.range es.size)) (hf : t.fits es.size = true) (hne : a ≠ I) (hq : q ≠ I) :
  Nx prog w I [I, a, q] es.size (l.map λ i => (es.getD i (0, .none)).2) (λ i h => q0V h I a (.ref q) i es.size ep /\ q2v h a es ep t /\ IsTup h q (l.map λ (i : Nat) => Value.int i 0).toArray) := by
 have hl : l.length = es.size := by rw [hp.length_eq, List.length_range]
 refine z2U (by simp) (by rw [List.length_map, hl]) (λ i h h' st k => ⟨st.1.at (k I (by simp)), st.2.1.at (k a (by simp)), let ⟨o, e, r⟩ := st.2.2; ⟨o, k q (by simp) o e, r⟩⟩) (λ A E Q s i v hh hv st hQ => ?_) (λ A E Q s hh st hQ => ?_) λ A E Q s i st h => q5R st.1 h
 ·obtain ⟨k, hk, hkv⟩ : ∃ k, l[i]? = some k /\ (es.getD k (0, .none)).2 = v := by
   rw [List.getElem?_map] at hv
   cases q : l[i]? with
   | none => rw [q] at hv; cases hv
   | some k => rw [q] at hv; cases hv; exact ⟨k, rfl, rfl⟩
  have hks : k < es.size := by
   have := hp.mem_iff.mp (List.mem_iff_getElem?.mpr ⟨i, hk⟩)
   exact List.mem_range.mp this
  have he : es[k]? = some es[k] := Array.getElem?_eq_getElem hks
  have hv2 : es[k].2 = v := by
   rw [← hkv, Array.getD_eq_getD_getElem?, he]
   rfl
  refine z0e (k := k) (z := es[k].1) (x := v) st.1 st.2.1 hf st.2.2 (by rw [← Array.getElem?_toList, List.toList_toArray, List.getElem?_map, hk]; rfl) (by rw [he, ← hv2]) λ h' st' sb => ?_
  exact hQ h' ⟨st', st.2.1.at (q4F sb hne), let ⟨o, e, r⟩ := st.2.2; ⟨o, q4F sb hq o e, r⟩⟩ sb
 ·refine z3h hh st.1 st.2.1 hf st.2.2 (Array.getElem?_eq_none (by rw [List.size_toArray, List.length_map]; omega)) hQ
end
end L2
end
section
namespace L2
open PySem PyProof.Rows
section
variable {prog : Program} {w : World} {A : Around} {E : Value -> Shared -> Prop} {s : Shared} {I a : Addr} {es : Array (Int × Value)} {ep : Nat} {t : SetTable} {ks : List Int}
theorem z0t (hT : s.TypeIs (.ref a) "set") {Q : Bool -> Shared -> Prop} (h : Q false s) : wpAny (model prog w) A (Builtin.List.listLengthHint (.ref a)) Q E s := by
 unfold Builtin.List.listLengthHint
 refine wpAny_bind (wpAny_specialOf hT F.slot_set_len.lookup ?_)
 generalize hid : ("set.__len__" : String) = id0
 wp_delta
 rw [show splitId id0 = some ("set", "__len__") from by subst hid; decide +kernel]
 subst hid
 refine wpAny_bind (wpAny_isInstance (T := "set") (b := true) hT (by rw [isSubtype_type]; kernel_rfl) ?_)
 refine wpAny_ite_split (λ z => absurd z (by decide)) λ _ => ?_
 refine wpAny_ite_split (λ _ => ?_) λ z => absurd (by decide +kernel) z
 exact wpAny_bind (wpAny_typeOf hT (wpAny_pure h))
theorem q6Z {S : Addr} {fp : List Addr} {n c0 : Nat} {ws : List Value} {St : Nat -> Heap -> Prop} {c : Bool -> Bool} {s1 : Shared} {res : Value} {R : Result -> Shared -> Prop} {EE : Value -> Shared -> Prop} (W : Nx prog w I fp n ws St) (hh : A.handled = none) (hn : n <= sizeLine) (hSf : S ∉ fp)
  (hT : s1.TypeIs (.ref a) "set") (st : St 0 s1.heap) (hS : s1.heap.get? S = some { cls := .type "list", data := .seq #[] c0 })
  (hR : ∀ h' tk acc c', (∀ b o, b ≠ S -> b ≠ I -> s1.heap.get? b = some o -> h'.get? b = some o) -> h'.get? S = some { cls := .type "list", dict := none, data := .seq acc c', slots := #[] } -> acc.toList = ws -> R (.ok (.ret res)) { s1 with heap := h', toks := tk }) (hw : ws.length = n) :
  wpAny (model prog w) A.in1 (do
   let room ← holding [Value.ref I] (Builtin.List.listLengthHint (.ref a))
   if c room = true then do
    rule "list.extend.makes-room"
    Builtin.List.listTouch (.ref S)
    again (.builtin "list.extend.loop" ⟨[.ref S, .ref I, res], []⟩)
   else again (.builtin "list.extend.loop" ⟨[.ref S, .ref I, res], []⟩))
   (λ fin s' => match fin with | .done f => R (.ok f) s' | .again c' => c'.quiet = true /\ codeAny (model prog w) A c' R s') EE s1 := by
 have loop : ∀ (h : Heap) (c1 tk : Nat), St 0 h -> (∀ b o, b ≠ S -> s1.heap.get? b = some o -> h.get? b = some o) -> h.get? S = some { cls := .type "list", data := .seq #[] c1 } ->
   codeAny (model prog w) A (.builtin "list.extend.loop" ⟨[.ref S, .ref I, res], []⟩) R { s1 with heap := h, toks := tk } := λ h c1 tk st1 k e => by
  refine codeAny_extend_loopS (W A.in1 hh) hn S hSf res n 0 _ #[] c1 rfl (Nat.zero_le _) st1 e (ItemsOf.nil _) λ s' acc c' hm e' ac => ?_
  have b1 : s' = { s1 with heap := s'.heap, toks := s'.toks } := by
   have q1 : s'.gens = s1.gens := hm.gens
   have q2 : s'.drawn = s1.drawn := hm.drawn
   have q3 : s'.os = s1.os := hm.os
   obtain ⟨h', g', d', t', o'⟩ := s'
   dsimp only at q1 q2 q3
   subst q1
   subst q2
   subst q3
   rfl
  rw [b1]
  refine hR s'.heap s'.toks acc c' (λ b o hb hi q => hm.heap b o (λ z => ?_) (k b o hb q)) e' ?_
  ·rcases List.mem_cons.mp z with z | z
   ·exact hb z
   ·exact hi (List.mem_singleton.mp z)
  ·refine List.ext_getElem? λ j => ?_
   by_cases hj : j < n
   ·have hj' : j < acc.size := by rw [ac.1]; exact hj
    have q1 : acc[j]? = some acc[j] := Array.getElem?_eq_getElem hj'
    rw [Array.getElem?_toList, q1]
    exact (ac.2 j _ q1).symm
   ·rw [List.getElem?_eq_none (by rw [Array.length_toList, ac.1]; omega), List.getElem?_eq_none (by omega)]
 refine wpAny_bind (wpAny_holding (z0t hT ?_))
 refine wpAny_ite_split (λ _ => ?_) λ _ => wpAny_pure ⟨plainId_quiet F.plain_extend_loop _, loop s1.heap c0 s1.toks st (λ b o _ e => e) hS⟩
 refine wpAny_bind (wpAny_rule (wpAny_bind ?_))
 show wpAny (model prog w) A.in1 (updateSeq S (·.push .none) >>= λ _ => updateSeq S (·.pop)) _ _ _
 refine wpAny_bind (wpAny_updateSeq hS rfl ?_)
 have e2 := Heap.get?_update_self (Obj.mapSeq (·.push Value.none)) hS rfl
 refine wpAny_updateSeq (hz := by seq_fits) e2 rfl ?_
 have e3 := Heap.get?_update_self (Obj.mapSeq (·.pop)) e2 rfl
 have oth : ∀ b o, b ≠ S -> s1.heap.get? b = some o -> ((s1.heap.update S (Obj.mapSeq (·.push Value.none))).update S (Obj.mapSeq (·.pop))).get? b = some o := λ b o hb e =>
  (Heap.get?_update_other _ _ (Ne.symm hb)).trans ((Heap.get?_update_other _ _ (Ne.symm hb)).trans e)
 refine wpAny_pure ⟨plainId_quiet F.plain_extend_loop _, loop _ _ s1.toks ?_ oth e3⟩
 exact (W A.in1 hh).frame 0 s1 _ s1.toks st (Nat.le_refl _) λ b hb o e => oth b o (λ z => hSf (z ▸ hb)) e
noncomputable def EndC (s : Shared) (a : Addr) (ws : List Value) (I : Addr) (d : Drawn) (r : Result) (s' : Shared) : Prop :=
 ∃ h' tk acc c', r = .ok (.ret (.ref s.heap.objs.size)) /\ s' = { s with heap := h', toks := tk, drawn := d } /\ h'.get? s.heap.objs.size = some { cls := .type "list", dict := none, data := .seq acc c', slots := #[] } /\ acc.toList = ws /\
  ∀ b o, b ≠ s.heap.objs.size -> b ≠ I -> s.heap.get? b = some o -> h'.get? b = some o
theorem q5Q {Q : List Value -> Shared -> Prop} (hh : A.handled = none) (hS : SetI prog w s.heap a ks)
  (h : ∀ vs h' tk d, IntsAre vs (vs.map q2Z) -> (vs.map q2Z).Perm ks -> (∀ b o, s.heap.get? b = some o -> h'.get? b = some o) -> s.heap.objs.size < h'.objs.size -> Q vs { s with heap := h', toks := tk, drawn := d }) : wpAny (model prog w) A (collect (.ref a)) Q E s := by
 obtain ⟨o, es, ep, t, ho, hx, hd, hel, hp, hb, hf, ht⟩ := id hS
 have hz : es.size <= sizeLine := fits_of_scanBound hb
 have hInts : ∀ vs : List Value, vs.Perm (es.toList.map (·.2)) -> IntsAre vs (vs.map q2Z) /\ (vs.map q2Z).Perm ks := λ vs p => by
  refine ⟨?_, (p.map _).trans (by rw [List.map_map]; exact hp)⟩
  have all : ∀ v ∈ vs, ∃ tk, v = .int (q2Z v) tk := λ v hv => by
   obtain ⟨e, he, q⟩ := List.mem_map.mp (p.mem_iff.mp hv)
   obtain ⟨tk, e2⟩ := q6s hel he
   exact ⟨tk, by rw [← q]; exact e2⟩
  clear p
  induction vs with
  | nil => exact .nil
  | cons v r ih =>
   obtain ⟨tk, e⟩ := all v (List.mem_cons_self ..)
   rw [List.map_cons]
   have q := ih λ u hu => all u (List.mem_cons_of_mem _ hu)
   generalize hn : q2Z v = n at e
   subst e
   exact .cons n tk q
 have hat : a < s.heap.objs.size := Heap.lt_size ho
 unfold collect
 refine wpAny_bind (wpAny_runValue (codeAny_builtin F.entry_proto_collect ?_))
 rw [Around.under_plainId F.plain_proto_collect]
 show wpAny (model prog w) A.in1 (newList [] >>= λ l => again (.builtin "list.__iadd__" ⟨[l, .ref a], []⟩)) _ _ s
 refine wpAny_bind (wpAny_newObj_type ?_)
 refine wpAny_pure ⟨plainId_quiet F.plain_list_iadd _, codeAny_builtin F.entry_list_iadd ?_⟩
 rw [Around.under_plainId F.plain_list_iadd]
 have hS1 : (s.heap.push { cls := .type "list", data := .seq ([] : List Value).toArray }).get? s.heap.objs.size = some { cls := .type "list", data := .seq ([] : List Value).toArray } := Heap.get?_push_size _ rfl
 have hA1 : q2v (s.heap.push { cls := .type "list", data := .seq ([] : List Value).toArray }) a es ep t := ⟨o, Heap.get?_push_of_some _ ho, hx, hd⟩
 show wpAny (model prog w) A.in1 (Builtin.List.listExtendWith (.ref s.heap.objs.size) (.ref a) (.ref s.heap.objs.size)) _ _ _
 unfold Builtin.List.listExtendWith
 refine wpAny_bind (wpAny_typeOf (T := "set") ⟨o, Heap.get?_push_of_some _ ho, hx.1⟩ ?_)
 have h1 : Builtin.List.listSameRef (.ref s.heap.objs.size) (.ref a) = false := by
  unfold Builtin.List.listSameRef
  exact beq_eq_false_iff_ne.mpr (Nat.ne_of_gt hat)
 have h2 : (Value.type "set" == Value.type "list") = false := by decide
 have h3 : (Value.type "set" == Value.type "tuple") = false := by decide
 simp only [h1, h2, h3, Bool.or_false, Bool.false_eq_true, if_false]
 refine wpAny_bind (z0p (t := t) hA1 hf hz ?_ ?_)
 ·intro hnd
  have hne : a ≠ (s.heap.push { cls := .type "list", data := .seq ([] : List Value).toArray }).objs.size := by rw [Heap.size_push]; exact Nat.ne_of_lt (Nat.lt_succ_of_lt hat)
  have hSf : s.heap.objs.size ∉ [(s.heap.push { cls := .type "list", data := .seq ([] : List Value).toArray }).objs.size, a] := λ z => by
   rw [Heap.size_push] at z
   rcases List.mem_cons.mp z with z | z
   ·exact absurd z (Nat.ne_of_lt (Nat.lt_succ_self _))
   ·exact absurd (List.mem_singleton.mp z) (Nat.ne_of_gt hat)
  obtain ⟨ws, St, p, W, st⟩ : ∃ ws St, ws.Perm (es.toList.map (·.2)) /\ Nx prog w (s.heap.push { cls := .type "list", data := .seq ([] : List Value).toArray }).objs.size [(s.heap.push { cls := .type "list", data := .seq ([] : List Value).toArray }).objs.size, a] es.size ws St /\
    St 0 ((s.heap.push { cls := .type "list", data := .seq ([] : List Value).toArray }).push (q6o (.int 0 0) a es.size ep)) := by
   by_cases hot : q0C w = true
   ·exact ⟨_, _, (q2x _ es).map _, q9o (t := t) (ep := ep) hot hf hne, q5a, hA1.at λ _ => Heap.get?_push_of_some _⟩
   ·have hot : q0C w = false := by simpa using hot
    rw [hot] at hnd
    exact ⟨_, _, .rfl, q9I (ep := ep) hot (by simpa using hnd) ht hf hne, q5a, hA1.at λ _ => Heap.get?_push_of_some _, Nat.zero_le _⟩
  refine wpAny_mono (q6Z (A := A) (a := a) (c0 := 0) (s1 := { s with heap := (s.heap.push { cls := .type "list", data := .seq ([] : List Value).toArray }).push (q6o (.int 0 0) a es.size ep) }) (R := EndC s a ws (s.heap.push { cls := .type "list", data := .seq ([] : List Value).toArray }).objs.size s.drawn)
   W hh hz hSf ⟨o, Heap.get?_push_of_some _ (Heap.get?_push_of_some _ ho), hx.1⟩ st (Heap.get?_push_of_some _ hS1) (λ h' tk acc c' k e ea => ⟨h', tk, acc, c', rfl, rfl, e, ea, λ b u h1 h2 q => k b u h1 h2 (Heap.get?_push_of_some _ (Heap.get?_push_of_some _ q))⟩) (by rw [p.length_eq, List.length_map, Array.length_toList])) ?_ λ _ _ e => e
  have tail : ∀ r s', EndC s a ws (s.heap.push { cls := .type "list", data := .seq ([] : List Value).toArray }).objs.size s.drawn r s' -> ∃ h' tk acc c', r = .ok (.ret (.ref s.heap.objs.size)) /\ s' = { s with heap := h', toks := tk } /\ h'.get? s.heap.objs.size = some { cls := .type "list", dict := none, data := .seq acc c', slots := #[] } /\ Q acc.toList s' := λ r s' ⟨h', tk, acc, c', e1, e2, e, ea, k⟩ => by
   obtain ⟨q1, q2⟩ := hInts ws p
   refine ⟨h', tk, acc, c', e1, e2, e, ?_⟩
   rw [ea, e2]
   refine h ws h' tk s.drawn q1 q2 (λ b u q => k b u (Nat.ne_of_lt (Heap.lt_size q)) ?_ q) (Heap.lt_size e)
   rw [Heap.size_push]
   exact Nat.ne_of_lt (Nat.lt_succ_of_lt (Heap.lt_size q))
  intro fin s' hf'
  cases fin with
  | done f =>
   obtain ⟨h', tk, acc, c', e1, e2, e, hq⟩ := tail _ _ hf'
   cases e1
   subst e2
   exact wpAny_bind (wpAny_load e (wpAny_pure hq))
  | again c' =>
   refine ⟨hf'.1, codeAny_mono hf'.2 λ r s' hr => ?_⟩
   obtain ⟨h', tk, acc, c', e1, e2, e, hq⟩ := tail _ _ hr
   subst e1
   subst e2
   exact wpAny_bind (wpAny_load e (wpAny_pure hq))
 ·intro l d hot pl
  have z1 : (s.heap.push { cls := .type "list", data := .seq ([] : List Value).toArray }).objs.size = s.heap.objs.size + 1 := Heap.size_push _ _
  have hl : l.length = es.size := by rw [pl.length_eq, List.length_range]
  have p : (l.map λ i => (es.getD i (0, .none)).2).Perm (es.toList.map (·.2)) := by
   refine (pl.map _).trans (List.Perm.of_eq ?_)
   refine List.ext_getElem? λ j => ?_
   have e1 : es.toList[j]? = es[j]? := Array.getElem?_toList
   rw [List.getElem?_map, List.getElem?_map, e1]
   by_cases hj : j < es.size
   ·rw [List.getElem?_range hj, Option.map_some, Array.getD_eq_getD_getElem?, Array.getElem?_eq_getElem hj]
    rfl
   ·have e2 : (List.range es.size)[j]? = none := List.getElem?_eq_none (by rw [List.length_range]; omega)
    rw [e2, Array.getElem?_eq_none (by omega)]
    rfl
  have hne : a ≠ (s.heap.push { cls := .type "list", data := .seq ([] : List Value).toArray }).objs.size + 1 := by rw [z1]; exact Nat.ne_of_lt (Nat.lt_succ_of_lt (Nat.lt_succ_of_lt hat))
  have hqe : (s.heap.push { cls := .type "list", data := .seq ([] : List Value).toArray }).objs.size ≠ (s.heap.push { cls := .type "list", data := .seq ([] : List Value).toArray }).objs.size + 1 := Nat.ne_of_lt (Nat.lt_succ_self _)
  have hSf : s.heap.objs.size ∉ [(s.heap.push { cls := .type "list", data := .seq ([] : List Value).toArray }).objs.size + 1, a, (s.heap.push { cls := .type "list", data := .seq ([] : List Value).toArray }).objs.size] := λ z => by
   rw [z1] at z
   rcases List.mem_cons.mp z with z | z
   ·exact absurd z (Nat.ne_of_lt (Nat.lt_succ_of_lt (Nat.lt_succ_self _)))
   ·rcases List.mem_cons.mp z with z | z
    ·exact absurd z (Nat.ne_of_gt hat)
    ·exact absurd (List.mem_singleton.mp z) (Nat.ne_of_lt (Nat.lt_succ_self _))
  have W := q7K (prog := prog) (w := w) (ep := ep) (t := t) pl hf hne hqe
  have hI : q0V (((s.heap.push { cls := .type "list", data := .seq ([] : List Value).toArray }).push (q7W l)).push (q6o (.ref (s.heap.push { cls := .type "list", data := .seq ([] : List Value).toArray }).objs.size) a es.size ep))
    ((s.heap.push { cls := .type "list", data := .seq ([] : List Value).toArray }).objs.size + 1) a (.ref (s.heap.push { cls := .type "list", data := .seq ([] : List Value).toArray }).objs.size) 0 es.size ep := by
   have := q5a (a := a) (ep := ep) (h := (s.heap.push { cls := .type "list", data := .seq ([] : List Value).toArray }).push (q7W l)) (f := .ref (s.heap.push { cls := .type "list", data := .seq ([] : List Value).toArray }).objs.size) (n := es.size)
   have z2 : ((s.heap.push { cls := .type "list", data := .seq ([] : List Value).toArray }).push (q7W l)).objs.size = (s.heap.push { cls := .type "list", data := .seq ([] : List Value).toArray }).objs.size + 1 := Heap.size_push _ _
   rw [z2] at this
   exact this
  refine wpAny_mono (q6Z (A := A) (a := a) (c0 := 0) (s1 := { s with heap := ((s.heap.push { cls := .type "list", data := .seq ([] : List Value).toArray }).push (q7W l)).push (q6o (.ref (s.heap.push { cls := .type "list", data := .seq ([] : List Value).toArray }).objs.size) a es.size ep), drawn := d }) (R := EndC s a (l.map λ i => (es.getD i (0, .none)).2) ((s.heap.push { cls := .type "list", data := .seq ([] : List Value).toArray }).objs.size + 1) d)
   W hh hz hSf ⟨o, Heap.get?_push_of_some _ (Heap.get?_push_of_some _ (Heap.get?_push_of_some _ ho)), hx.1⟩ ⟨hI, hA1.at λ _ e => Heap.get?_push_of_some _ (Heap.get?_push_of_some _ e), ⟨_, Heap.get?_push_of_some _ (Heap.get?_push_size _ rfl), rfl, _, rfl⟩⟩ (Heap.get?_push_of_some _ (Heap.get?_push_of_some _ hS1)) (λ h' tk acc c' k e ea => ⟨h', tk, acc, c', rfl, rfl, e, ea, λ b u h1 h2 q => k b u h1 h2 (Heap.get?_push_of_some _ (Heap.get?_push_of_some _ (Heap.get?_push_of_some _ q)))⟩) (by rw [p.length_eq, List.length_map, Array.length_toList])) ?_ λ _ _ e => e
  have tail : ∀ r s', EndC s a (l.map λ i => (es.getD i (0, .none)).2) ((s.heap.push { cls := .type "list", data := .seq ([] : List Value).toArray }).objs.size + 1) d r s' -> ∃ h' tk acc c', r = .ok (.ret (.ref s.heap.objs.size)) /\ s' = { s with heap := h', toks := tk, drawn := d } /\ h'.get? s.heap.objs.size = some { cls := .type "list", dict := none, data := .seq acc c', slots := #[] } /\ Q acc.toList s' := λ r s' ⟨h', tk, acc, c', e1, e2, e, ea, k⟩ => by
   obtain ⟨q1, q2⟩ := hInts _ p
   refine ⟨h', tk, acc, c', e1, e2, e, ?_⟩
   rw [ea, e2]
   refine h _ h' tk d q1 q2 (λ b u q => k b u (Nat.ne_of_lt (Heap.lt_size q)) ?_ q) (Heap.lt_size e)
   rw [z1]
   exact Nat.ne_of_lt (Nat.lt_succ_of_lt (Nat.lt_succ_of_lt (Heap.lt_size q)))
  intro fin s' hf'
  cases fin with
  | done f =>
   obtain ⟨h', tk, acc, c', e1, e2, e, hq⟩ := tail _ _ hf'
   cases e1
   subst e2
   exact wpAny_bind (wpAny_load e (wpAny_pure hq))
  | again c' =>
   refine ⟨hf'.1, codeAny_mono hf'.2 λ r s' hr => ?_⟩
   obtain ⟨h', tk, acc, c', e1, e2, e, hq⟩ := tail _ _ hr
   subst e1
   subst e2
   exact wpAny_bind (wpAny_load e (wpAny_pure hq))
theorem q7x {Q : Value -> Shared -> Prop} (hh : A.handled = none) (hS : SetI prog w s.heap a ks) (h64 : ks.length < 64)
  (h : ∀ h' tk d p vs ns e, (∀ b o, s.heap.get? b = some o -> h'.get? b = some o) -> s.heap.objs.size <= p -> h'.get? p = some (seqObj "list" vs e) -> IntsAre vs.toList ns -> ns.Perm ks -> ns.Pairwise (· <= ·) -> Q (.ref p) { s with heap := h', toks := tk, drawn := d }) :
  wpAny (model prog w) A (call (.builtin "sorted") [.ref a]) Q E s := by
 refine Calls.call_function_entry kind_sorted plain_sorted entry_sorted (args_sorted1 _) ?_
 unfold Builtin.«sorted»
 refine wpAny_bind (m := checkCount "sorted" 1 1 _) (wpAny_pure ?_)
 refine wpAny_bind (q5Q (by exact hh) hS λ vs h1 tk d i1 p1 k1 z1 => ?_)
 have hl : vs.length < 64 := by
  have := p1.length_eq
  rw [List.length_map] at this
  omega
 refine wpAny_bind (wpAny_newList ?_ (by rw [sizeLine_eq]; omega))
 have hL : (h1.push (seqObj "list" vs.toArray 0)).get? h1.objs.size = some (seqObj "list" vs.toArray 0) := Heap.get?_push_size _ rfl
 refine wpAny_bind (wpAny_holding (wpAny_call_entry slot_list_sort ⟨_, hL, rfl⟩ entry_list_sort (list_sort_tree hL i1 hl λ out ns q1 q2 q3 => ⟨_, rfl, ?_⟩) (args_list_sort _)))
 refine wpAny_pure ⟨_, rfl, ?_⟩
 obtain ⟨e, he⟩ := sortedHeap_at (out := out) hL
 refine h _ tk d _ out ns e (λ b o q => ?_) (Nat.le_of_lt z1) he q1 (q2.trans p1) q3
 have hb := Heap.lt_size (k1 b o q)
 rw [sortedHeap_old (Nat.ne_of_lt hb) (by rw [size_push']; exact Nat.lt_succ_of_lt hb)]
 exact Heap.get?_push_of_some _ (k1 b o q)
end
end L2
end
section
namespace L2
open PySem PySem.Spec PyProof.Rows
section
variable {prog : Program} {w : World} {A : Around} {E : Value -> Shared -> Prop} {s : Shared}
theorem z4x {l : List Int} {i : Nat} (h : i < l.length) : l.getD i 0 ∈ l := by
 rw [List.getD_eq_getElem?_getD, List.getElem?_eq_getElem h]
 exact List.getElem_mem h
theorem minL {l : Addr} {vs : List Value} {ns : List Int} {Q : Value -> Shared -> Prop} (hh : A.handled = none) (hl : s.heap.IsList l vs.toArray) (hi : IntsAre vs ns) (hz : ns ≠ [])
  (h : ∀ h' M (t : Tok) tk, (∀ b o, s.heap.get? b = some o -> h'.get? b = some o) -> M ∈ ns -> (∀ a ∈ ns, M <= a) -> Q (.int M t) { s with heap := h', toks := tk }) : wpAny (model prog w) A (call (.builtin "min") [.ref l]) Q E s := by
 obtain ⟨ys, e⟩ := hi.allInts.items
 have en : ns = ys.toList.map (·.1) := by rw [← hi.numsOf, ← nums_intItems, ← e]
 have zy : 0 < ys.size := by
  have q : 0 < ns.length := List.length_pos_iff.mpr hz
  rwa [en, List.length_map, Array.length_toList] at q
 rw [e] at hl
 refine min_intList hh hl zy λ v h1 tk q k => ?_
 obtain ⟨t, ev⟩ := intItems_at q
 subst ev
 obtain ⟨g1, g2⟩ := argBest_lt (numAt ys) (ys.size - 1)
 refine h h1 _ t tk k ?_ λ a ha => ?_
 ·rw [en, numAt_eq]
  exact z4x (by rw [List.length_map, Array.length_toList]; omega)
 ·rw [en] at ha
  obtain ⟨j, hj, ej⟩ := mem_getD ha
  subst ej
  rw [List.length_map, Array.length_toList] at hj
  rw [← numAt_eq]
  exact g2 j (by omega)
theorem maxL {l : Addr} {vs : List Value} {ns : List Int} {Q : Value -> Shared -> Prop} (hh : A.handled = none) (hl : s.heap.IsList l vs.toArray) (hi : IntsAre vs ns) (hz : ns ≠ [])
  (h : ∀ h' M (t : Tok) tk, (∀ b o, s.heap.get? b = some o -> h'.get? b = some o) -> M ∈ ns -> (∀ a ∈ ns, a <= M) -> Q (.int M t) { s with heap := h', toks := tk }) : wpAny (model prog w) A (call (.builtin "max") [.ref l]) Q E s := by
 obtain ⟨ys, e⟩ := hi.allInts.items
 have en : ns = ys.toList.map (·.1) := by rw [← hi.numsOf, ← nums_intItems, ← e]
 have zy : 0 < ys.size := by
  have q : 0 < ns.length := List.length_pos_iff.mpr hz
  rwa [en, List.length_map, Array.length_toList] at q
 rw [e] at hl
 refine max_intList hh hl zy λ v h1 tk q k => ?_
 obtain ⟨t, ev⟩ := intItems_at q
 subst ev
 obtain ⟨g1, g2⟩ := argBest_gt (numAt ys) (ys.size - 1)
 refine h h1 _ t tk k ?_ λ a ha => ?_
 ·rw [en, numAt_eq]
  exact z4x (by rw [List.length_map, Array.length_toList]; omega)
 ·rw [en] at ha
  obtain ⟨j, hj, ej⟩ := mem_getD ha
  subst ej
  rw [List.length_map, Array.length_toList] at hj
  rw [← numAt_eq]
  exact g2 j (by omega)
end
section
variable {X : Cx} {pos : Pos}
theorem z0N : ∀ {ns : List Int} {us : List Value}, Vals (ns.map V.int) us -> IntsAre us ns
 | [], us, h => by cases h; exact .nil
 | n :: ns, us, h => by
  cases h with
  | cons r t =>
   obtain ⟨tk, rfl⟩ := r
   exact .cons n tk (z0N t)
theorem z3U : ∀ {ns : List Int} {us : List Value}, IntsAre us ns -> Vals (ns.map V.int) us
 | _, _, .nil => .nil
 | _, _, .cons n t h => .cons ⟨t, rfl⟩ (z3U h)
theorem q7Z (hc : X.calm = true) : q1D X (.builtin "min") (λ xs H Q => ∃ (a : Addr) (ns : List Int), xs = [.ref a] /\ SqL X.K H a (ns.map V.int) /\ ns ≠ [] /\ ∀ M, M ∈ ns -> (∀ x ∈ ns, M <= x) -> Q (.int M) H) := by
 intro pins s σ H xs us Q I r h
 obtain ⟨a, ns, rfl, hq, hz, q⟩ := h
 obtain ⟨u, rfl, r1⟩ := q5C r
 cases r1
 obtain ⟨its, rv, pl, _⟩ := I.list hq
 exact minL (I.ok.hd hc) pl.isList (z0N rv) hz λ h' M t tk k m1 m2 => ⟨.int M, H, I.kept k, ⟨t, rfl⟩, q M m1 m2⟩
theorem q8y (hc : X.calm = true) : q1D X (.builtin "max") (λ xs H Q => ∃ (a : Addr) (ns : List Int), xs = [.ref a] /\ SqL X.K H a (ns.map V.int) /\ ns ≠ [] /\ ∀ M, M ∈ ns -> (∀ x ∈ ns, x <= M) -> Q (.int M) H) := by
 intro pins s σ H xs us Q I r h
 obtain ⟨a, ns, rfl, hq, hz, q⟩ := h
 obtain ⟨u, rfl, r1⟩ := q5C r
 cases r1
 obtain ⟨its, rv, pl, _⟩ := I.list hq
 exact maxL (I.ok.hd hc) pl.isList (z0N rv) hz λ h' M t tk k m1 m2 => ⟨.int M, H, I.kept k, ⟨t, rfl⟩, q M m1 m2⟩
noncomputable def setO (P : Program) (w : World) (a : Addr) (ks : List Int) : HO := .ext λ h => SetI P w h a ks
theorem z1V {P : Program} {w : World} {H : Hp} {h : Heap} {a : Addr} {ks : List Int} (x : SetI P w h a ks) : q1X P w H h a (setO P w a ks) :=
 ⟨x, let ⟨o, _, _, _, e, _⟩ := x; ⟨o, e⟩, λ h1 h2 q k => q.at k⟩
theorem z2b (ns : List Int) : fm (λ i => ns.getD i 0) ns.length = ns.foldl dk [] := by
 unfold fm
 congr 1
 refine List.ext_getElem? λ j => ?_
 rw [List.getElem?_map]
 by_cases hj : j < ns.length
 ·rw [List.getElem?_range hj, Option.map_some, List.getD_eq_getElem?_getD, List.getElem?_eq_getElem hj]
  rfl
 ·rw [List.getElem?_eq_none (by rw [List.length_range]; omega), List.getElem?_eq_none (by omega)]
  rfl
theorem q7V (hc : X.calm = true) : q1D X (.type "set") (λ xs H Q => ∃ (a : Addr) (ns : List Int), xs = [.ref a] /\ SqL X.K H a (ns.map V.int) /\ ns.length < 4000 /\ ∀ p, H p = none -> Q (.ref p) (upd H p (setO X.prog X.w p (ns.foldl dk [])))) := by
 intro pins s σ H xs us Q I r h
 obtain ⟨a, ns, rfl, hq, hz, q⟩ := h
 obtain ⟨u, rfl, r1⟩ := q5C r
 cases r1
 obtain ⟨its, rv, pl, _⟩ := I.list hq
 have hi := z0N rv
 have hl : its.length = ns.length := by rw [← rv.length, List.length_map]
 refine z3K (I.ok.hd hc) pl.isList hi (by rw [List.size_toArray, hl]; show _ < 4096; omega) λ h' tk S k => ?_
 have hz2 : its.toArray.size = ns.length := by rw [List.size_toArray, hl]
 rw [hz2, z2b] at S
 exact ⟨.ref s.heap.objs.size, _, I.laid k (Nat.le_refl _) (z1V S), rfl, q _ I.fresh⟩
theorem q7w (hc : X.calm = true) : q1D X (.builtin "sorted") (λ xs H Q => ∃ (p : Addr) (ks : List Int), xs = [.ref p] /\ H p = some (setO X.prog X.w p ks) /\ ks.length < 64 /\ ∀ (q : Addr) (ms : List Int), H q = none -> ms.Perm ks -> ms.Pairwise (· <= ·) -> Q (.ref q) (upd H q (.lst (ms.map V.int)))) := by
 intro pins s σ H xs us Q I r h
 obtain ⟨p, ks, rfl, hH, hz, q⟩ := h
 obtain ⟨u, rfl, r1⟩ := q5C r
 cases r1
 have S : SetI X.prog X.w s.heap p ks := (I.hok p _ hH).1
 refine q7x (I.ok.hd hc) S hz λ h' tk d p' vs ns e k hp he hi hpm hpw => ?_
 have hv := z3U hi
 have hl : ns.length <= sizeLine := by
  rw [hpm.length_eq, sizeLine_eq]
  omega
 have ok : q1X X.prog X.w (upd H p' (.lst (ns.map V.int))) h' p' (.lst (ns.map V.int)) := ⟨by rw [List.length_map]; exact hl, vs.toList, e, hv, by rw [Array.toArray_toList]; exact he⟩
 have I1 := I.laid (t' := tk) k hp ok
 refine ⟨.ref p', _, ?_, rfl, q p' ns (I.hok.fresh hp) hpm hpw⟩
 exact ⟨I1.ok, I1.os, I1.bare, I1.base, I1.loc, I1.cell, I1.free, I1.freeC, I1.pin, I1.hok, I1.len⟩
end
end L2
end
section
namespace L2
open PySem
structure Sg where
 N : List Str
 sc : List (Str × NameKind)
 fn : List Str
 bl : List Str
 cl : List Str
 top : Bool
 lp : Bool
noncomputable def q0Y : Expr -> Option Str | .Name x _ => some x | _ => none
noncomputable def q2f : Expr -> Option Const | .Constant c _ _ => some c | _ => none
noncomputable def q9J : Expr -> Option (Expr × Operator × Expr) | .BinOp a o b _ => some (a, o, b) | _ => none
noncomputable def asUn : Expr -> Option (UnaryOp × Expr) | .UnaryOp o a _ => some (o, a) | _ => none
noncomputable def z3q : Expr -> Option (Expr × List CmpOp × List Expr) | .Compare a o b _ => some (a, o, b) | _ => none
noncomputable def q6W : Expr -> Option (BoolOp × List Expr) | .BoolOp o es _ => some (o, es) | _ => none
noncomputable def asIf : Expr -> Option (Expr × Expr × Expr) | .IfExp c a b _ => some (c, a, b) | _ => none
noncomputable def q8i : Expr -> Option (List Expr) | .List es _ => some es | _ => none
noncomputable def q3k : Expr -> Option (List Expr) | .Tuple es _ _ => some es | _ => none
noncomputable def q7s : Expr -> Option (Expr × Expr) | .Subscript a b _ => some (a, b) | _ => none
noncomputable def q6f : Expr -> Option (Option Expr × Option Expr × Option Expr) | .Slice a b c _ => some (a, b, c) | _ => none
noncomputable def q1o : Expr -> Option (Expr × List Expr × List Keyword × Pos) | .Call f as ks p => some (f, as, ks, p) | _ => none
noncomputable def q3P : Expr -> Option (Expr × Str × Pos) | .Attribute a n p => some (a, n, p) | _ => none
noncomputable def q8m : Expr -> Option (Expr × List Comprehension × Scope) | .ListComp e gs sc _ => some (e, gs, sc) | _ => none
noncomputable def q0l : Expr -> Bool | .Starred _ _ => true | _ => false
noncomputable def q4u : Expr -> Bool | .Slice _ _ _ _ => true | _ => false
noncomputable def q3d : Expr -> Bool | .Set _ _ _ => true | _ => false
noncomputable def q9l : Expr -> Bool | .ListComp _ _ _ _ => true | .SetComp _ _ _ _ => true | .DictComp _ _ _ _ _ => true | _ => false
theorem q0u {e : Expr} {x : Str} (h : q0Y e = some x) : ∃ p, e = .Name x p := by
 cases e <;> simp [q0Y] at h; subst h; exact ⟨_, rfl⟩
theorem q3c {e : Expr} {x : Const} (h : q2f e = some x) : ∃ k p, e = .Constant x k p := by
 cases e <;> simp [q2f] at h; subst h; exact ⟨_, _, rfl⟩
theorem q4C {e a b : Expr} {o : Operator} (h : q9J e = some (a, o, b)) : ∃ p, e = .BinOp a o b p := by
 cases e <;> simp [q9J] at h; obtain ⟨rfl, rfl, rfl⟩ := h; exact ⟨_, rfl⟩
theorem q4v {e a : Expr} {o : UnaryOp} (h : asUn e = some (o, a)) : ∃ p, e = .UnaryOp o a p := by
 cases e <;> simp [asUn] at h; obtain ⟨rfl, rfl⟩ := h; exact ⟨_, rfl⟩
theorem q6V {e a : Expr} {os : List CmpOp} {bs : List Expr} (h : z3q e = some (a, os, bs)) : ∃ p, e = .Compare a os bs p := by
 cases e <;> simp [z3q] at h; obtain ⟨rfl, rfl, rfl⟩ := h; exact ⟨_, rfl⟩
theorem q2U {e : Expr} {o : BoolOp} {es : List Expr} (h : q6W e = some (o, es)) : ∃ p, e = .BoolOp o es p := by
 cases e <;> simp [q6W] at h; obtain ⟨rfl, rfl⟩ := h; exact ⟨_, rfl⟩
theorem q9f {e c a b : Expr} (h : asIf e = some (c, a, b)) : ∃ p, e = .IfExp c a b p := by
 cases e <;> simp [asIf] at h; obtain ⟨rfl, rfl, rfl⟩ := h; exact ⟨_, rfl⟩
theorem q5o {e : Expr} {es : List Expr} (h : q8i e = some es) : ∃ p, e = .List es p := by
 cases e <;> simp [q8i] at h; subst h; exact ⟨_, rfl⟩
theorem q3s {e : Expr} {es : List Expr} (h : q3k e = some es) : ∃ k p, e = .Tuple es k p := by
 cases e <;> simp [q3k] at h; subst h; exact ⟨_, _, rfl⟩
theorem q2n {e a b : Expr} (h : q7s e = some (a, b)) : ∃ p, e = .Subscript a b p := by
 cases e <;> simp [q7s] at h; obtain ⟨rfl, rfl⟩ := h; exact ⟨_, rfl⟩
theorem q7B {e : Expr} {a b c : Option Expr} (h : q6f e = some (a, b, c)) : ∃ p, e = .Slice a b c p := by
 cases e <;> simp [q6f] at h; obtain ⟨rfl, rfl, rfl⟩ := h; exact ⟨_, rfl⟩
theorem q0k {e f : Expr} {as : List Expr} {ks : List Keyword} {p : Pos} (h : q1o e = some (f, as, ks, p)) : e = .Call f as ks p := by
 cases e <;> simp [q1o] at h; obtain ⟨rfl, rfl, rfl, rfl⟩ := h; rfl
theorem q2j {e a : Expr} {n : Str} {p : Pos} (h : q3P e = some (a, n, p)) : e = .Attribute a n p := by
 cases e <;> simp [q3P] at h; obtain ⟨rfl, rfl, rfl⟩ := h; rfl
theorem q9u {e x : Expr} {gs : List Comprehension} {sc : Scope} (h : q8m e = some (x, gs, sc)) : ∃ p, e = .ListComp x gs sc p := by
 cases e <;> simp [q8m] at h; obtain ⟨rfl, rfl, rfl⟩ := h; exact ⟨_, rfl⟩
noncomputable def visB (sg : Sg) (x : Str) : Bool := sg.sc.lookup x == some .local || sg.sc.lookup x == some .cell || sg.sc.lookup x == some .free
noncomputable def gloB (sg : Sg) (x : Str) : Bool := sg.sc.lookup x == some .globalImplicit
noncomputable def locB (sg : Sg) (x : Str) : Bool := sg.sc.lookup x == some .local || sg.sc.lookup x == some .cell
noncomputable def q5P (sg : Sg) (i : Nat) (x : Str) : Bool := sg.N[i]? == some x && visB sg x && x != "__debug__" && x != "__classdict__"
noncomputable def bltB (sg : Sg) (x : Str) (f : Expr) : Bool := q0Y f == some x && gloB sg x && sg.bl.contains x
noncomputable def z4A : Bi -> Str
 | .len => "len" | .min => "min" | .max => "max" | .sset => "sorted"
 | .list => "list" | .tuple => "tuple"
noncomputable def z1r : Mt -> Str
 | .bitLength => "bit_length" | .index => "index" | .get => "get"
structure CParts where
 elt : Expr
 tg : Expr
 it : Expr
 ifs : List Expr
 sc : Scope
noncomputable def q4c (e : Expr) : Option CParts := match q8m e with
 | some (elt, [⟨tg, it, ifs, a⟩], sc) => if a = 0 then some ⟨elt, tg, it, ifs, sc⟩ else none
 | _ => none
theorem q2P {e : Expr} {c : CParts} (h : q4c e = some c) : ∃ p, e = .ListComp c.elt [⟨c.tg, c.it, c.ifs, 0⟩] c.sc p := by
 unfold q4c at h
 split at h
 ·rename_i elt tg it ifs a sc q
  split at h
  ·rename_i ha
   cases h
   subst ha
   exact q9u q
  ·cases h
 ·cases h
noncomputable def q1k (sg : Sg) (tn : List Str) (fr : List (Option Nat)) : List Str := tn ++ (fr.drop tn.length).map λ o => match o with | some i => sg.N.getD i "" | none => ""
noncomputable def q9g : Tg -> Expr -> Option (List Str)
 | .one _, e => (q0Y e).map λ x => [x]
 | .many is, e => match q3k e with
  | some es => if es.length = is.length then es.mapM q0Y else none
  | none => none
noncomputable def tgOk (sg : Sg) : Tg -> Expr -> Bool
 | .one i, e => match q0Y e with
  | some x => sg.N[i]? == some x && locB sg x
  | none => false
 | .many is, e => match q3k e with
  | some es => es.length == is.length && 2 <= es.length && (is.zip es).all λ p => match q0Y p.2 with
   | some x => sg.N[p.1]? == some x && locB sg x
   | none => false
  | none => false
noncomputable def q4p : List Str -> Bool
 | [] => true
 | x :: r => !r.contains x && q4p r
noncomputable def q1L : Tg -> List Nat
 | .one i => [i]
 | .many is => is
noncomputable def q2H (sg : Sg) (N' : List Str) (fr : List (Option Nat)) (sc : Scope) (tg : Tg) : Bool := (q1L tg).all (λ i => fr[i]? == some none) &&
 sc.kind == .function && q4p N' && q4p (sc.names.map (·.1)) && fr.length == N'.length &&
 (fr.zip N').all (λ p => match p.1 with | some i => sg.N[i]? == some p.2 && sc.names.contains (p.2, .free) | none => true) &&
 sc.names.all λ y => if y.2 == .free then sg.sc.lookup y.1 == some .cell || sg.sc.lookup y.1 == some .free else true
noncomputable def q8v : ME -> Bool
 | .comp _ _ _ _ => true
 | .compi _ _ _ _ _ => true
 | _ => false
noncomputable def isZp : ME -> Bool
 | .zp _ _ => true
 | _ => false
mutual
noncomputable def corE (sg : Sg) (w : Bool) : ME -> Expr -> Bool
 | .var i, e => match q0Y e with | some x => q5P sg i x | none => false
 | .int i, e => q2f e == some (.int i)
 | .bl i, e => q2f e == some (.bool i)
 | .str x, e => q2f e == some (.str x) && decide (x.length <= 1000)
 | .non, e => q2f e == some .none
 | .bin op a b, e => match q9J e with | some (ea, o, eb) => o == op && corE sg false a ea && corE sg false b eb | none => false
 | .neg a, e => match asUn e with | some (o, ea) => o == .USub && corE sg false a ea | none => false
 | .not a, e => match asUn e with | some (o, ea) => o == .Not && corE sg false a ea | none => false
 | .cmp op a b, e => match z3q e with | some (ea, [o], [eb]) => o == op && corE sg false a ea && corE sg false b eb && !q3d eb | _ => false
 | .and ms, e => match q6W e with | some (o, es) => o == .And && q0P sg ms es | none => false
 | .or ms, e => match q6W e with | some (o, es) => o == .Or && q0P sg ms es | none => false
 | .ite c a b, e => match asIf e with | some (ec, ea, eb) => corE sg false c ec && corE sg false a ea && corE sg false b eb | none => false
 | .lst ms, e => match q8i e with | some es => q0P sg ms es | none => false
 | .tup ms, e => match q3k e with | some es => q0P sg ms es | none => false
 | .ix a b, e => match q7s e with | some (ea, eb) => corE sg false a ea && corE sg false b eb && !q4u eb | none => false
 | .sl a lo hi, e => match q7s e with
  | some (ea, es) => (match q6f es with | some (some el, some eh, none) => corE sg false a ea && corE sg false lo el && corE sg false hi eh | _ => false)
  | none => false
 | .call f ms, e => match q1o e with
  | some (ef, es, [], _) => (match q0Y ef with | some x => sg.fn[f]? == some x && gloB sg x && x != "__debug__" | none => false) && !es.isEmpty && q0P sg ms es
  | _ => false
 | .calld f ms, e => match q1o e with
  | some (ef, es, [], _) => (match q0Y ef with | some x => sg.fn[f]? == some x && gloB sg x && x != "__debug__" | none => false) && !es.isEmpty && q0P sg ms es
  | _ => false
 | .callk f ms kn ke, e => match q1o e with
  | some (ef, es, [⟨a, v, _⟩], _) => (match q0Y ef with | some x => sg.fn[f]? == some x && gloB sg x && x != "__debug__" | none => false) && !es.isEmpty && q0P sg ms es && a == some kn && corE sg false ke v
  | _ => false
 | .bi f ms, e => match q1o e with
  | some (ef, es, [], _) => bltB sg (z4A f) ef && !es.isEmpty && (match f with
   | .sset => (match es with
    | [e1] => (match q1o e1 with
     | some (ef', es', [], _) => bltB sg "set" ef' && es'.length == 1 && q0P sg ms es'
     | _ => false)
    | _ => false)
   | _ => q0P sg ms es)
  | _ => false
 | .isi a ts, e => match q1o e with
  | some (ef, [ea, et], [], _) => bltB sg "isinstance" ef && corE sg false a ea && !q0l ea && !q0l et && (match ts with
   | [t] => q0Y et == some t && gloB sg t && sg.bl.contains t && q1Z.contains t
   | _ => false)
  | _ => false
 | .meth m a ms, e => match q1o e with
  | some (ef, [], [], pos) => (match q3P ef with
   | some (ea, n, apos) => n == z1r m && corE sg false a ea && ((q0Y ea).isSome || (q9J ea).isSome) && apos.endLine == pos.line && ms.isEmpty
   | none => false)
  | _ => false
 | .comp elt tg it fr, e => match q4c e with
  | some c => c.ifs.isEmpty && (corE sg true it c.it && (!isZp it || (q3k c.tg).isSome)) && !q3d c.it && (match q9g tg c.tg with
   | some tn => q2H sg (q1k sg tn fr) fr c.sc tg && tgOk ⟨q1k sg tn fr, c.sc.names, sg.fn, sg.bl, sg.cl, false, true⟩ tg c.tg && corE ⟨q1k sg tn fr, c.sc.names, sg.fn, sg.bl, sg.cl, false, true⟩ false elt c.elt
   | none => false)
  | none => false
 | .compi elt tg it cd fr, e => match q4c e with
  | some c => (corE sg true it c.it && (!isZp it || (q3k c.tg).isSome)) && !q3d c.it && (match q9g tg c.tg, c.ifs with
   | some tn, [ec] => q2H sg (q1k sg tn fr) fr c.sc tg && tgOk ⟨q1k sg tn fr, c.sc.names, sg.fn, sg.bl, sg.cl, false, true⟩ tg c.tg && corE ⟨q1k sg tn fr, c.sc.names, sg.fn, sg.bl, sg.cl, false, true⟩ false elt c.elt && corE ⟨q1k sg tn fr, c.sc.names, sg.fn, sg.bl, sg.cl, false, true⟩ false cd ec
   | _, _ => false)
  | none => false
 | .idx a b, e => match q1o e with
  | some (ef, [eb], [], pos) => (match q3P ef with
   | some (ea, n, apos) => n == "index" && corE sg false a ea && (q0Y ea).isSome && apos.endLine == pos.line && corE sg false b eb && !q0l eb
   | none => false)
  | _ => false
 | .rng ms, e => w && (match q1o e with
  | some (ef, es, [], _) => bltB sg "range" ef && q0P sg ms es && decide (es.length <= 3)
  | _ => false)
 | .zp a b, e => w && (match q1o e with
  | some (ef, [ea, eb], [], _) => bltB sg "zip" ef && corE sg false a ea && corE sg false b eb && !q0l ea && !q0l eb
  | _ => false)
noncomputable def q0P (sg : Sg) : List ME -> List Expr -> Bool
 | [], [] => true
 | m :: ms, e :: es => corE sg false m e && !q0l e && q0P sg ms es
 | _, _ => false
end
mutual
noncomputable def corS (sg : Sg) : MS -> Stmt -> Bool
 | .set i _ e, s => match s with
  | .Assign [t] v pos => (match t with
   | .Name x pt => sg.N[i]? == some x && locB sg x && corE sg false e v && (!q9l v || q8v e)
   | _ => false)
  | _ => false
 | .app i e, s => match s with
  | .Expr v _ => (match q1o v with
   | some (ef, [ea], [], pos) => (match q3P ef with
    | some (o, n, apos) => n == "append" && (match q0Y o with | some x => q5P sg i x | none => false) && corE sg false e ea && !q0l ea && apos.endLine == pos.line
    | none => false)
   | _ => false)
  | _ => false
 | .seti i k e, s => match s with
  | .Assign [t] v _ => (match q7s t with
   | some (o, ek) => (match q0Y o with | some x => q5P sg i x | none => false) && corE sg false k ek && !q4u ek && corE sg false e v
   | none => false)
  | _ => false
 | .ret e, s => match s with
  | .Return (some v) _ => corE sg false e v
  | _ => false
 | .retc elt tg it fr, s => match s with
  | .Return (some v) _ => corE sg false (.comp elt tg it fr) v
  | _ => false
 | .setf i f es, s => match s with
  | .Assign [t] v _ => (match t with
   | .Name x _ => sg.N[i]? == some x && locB sg x && corE sg false (.call f es) v
   | _ => false)
  | _ => false
 | .apo i e, s => match s with
  | .Expr v _ => (match q1o v with
   | some (ef, [ea], [], pos) => (match q3P ef with
    | some (o, n, apos) => n == "append" && (match q7s o with
     | some (ob, oi) => (match q0Y ob with | some x => q5P sg i x | none => false) && q2f oi == some (.int 0)
     | none => false) && corE sg false e ea && !q0l ea && apos.endLine == pos.line
    | none => false)
   | _ => false)
  | _ => false
 | .appo i e, s => match s with
  | .Expr v _ => (match q1o v with
   | some (ef, [ea], [], pos) => (match q3P ef with
    | some (o, n, apos) => n == "append" && (match q0Y o with | some x => q5P sg i x | none => false) && corE sg false e ea && !q0l ea && apos.endLine == pos.line
    | none => false)
   | _ => false)
  | _ => false
 | .iff c a b, s => match s with
  | .If ec ea eb _ => corE sg false c ec && q2O sg a ea && q2O sg b eb
  | _ => false
 | .fo tg it body, s => match s with
  | .For t i b [] _ => sg.lp && tgOk sg tg t && (corE sg true it i && (!isZp it || (q3k t).isSome)) && !q3d i && q2O sg body b
  | _ => false
 | .frz _, _ => false
noncomputable def q2O (sg : Sg) : List MS -> List Stmt -> Bool
 | [], [] => true
 | .frz _ :: ms, ss => q2O sg ms ss
 | m :: ms, s :: ss => corS sg m s && q2O sg ms ss
 | _, _ => false
end
end L2
end
section
namespace L2
open PySem PySem.Spec PyProof.Rows
structure Dm where
 K : PySem.W.Frag
 mg : Str -> Option Value
noncomputable abbrev Cx.D (X : Cx) : Dm := ⟨X.K, X.mg⟩
noncomputable def SqS (K : PySem.W.Frag) (H : Hp) (a : Addr) (xs : List V) : Prop := (∃ o, H a = some (.frz o (.lst xs))) \/
 ∃ (o : Obj) (its : Array Value) (n : Nat), K.lookup a = some o /\ o.cls = .type "list" /\ o.dict = none /\ o.data = .seq its n /\ its.size <= sizeLine /\ Vals xs its.toList
theorem SqS.sq {K : PySem.W.Frag} {H : Hp} {a : Addr} {xs : List V} (h : SqS K H a xs) : SqL K H a xs := by
 rcases h with h | h
 ·exact .inl (.inr h)
 ·exact .inr h
theorem SqS.of {K : PySem.W.Frag} {H : Hp} {a : Addr} {xs : List V} (hO : Only H) (h : SqL K H a xs) : SqS K H a xs := by
 rcases h with (h | h) | h
 ·rcases hO a with z | ⟨o, ys, z⟩
  ·rw [h] at z; cases z
  ·rw [h] at z; cases z
 ·exact .inl h
 ·exact .inr h
theorem Same.sqs {K : PySem.W.Frag} {H H' : Hp} {a : Addr} {xs : List V} (e : Same H H') (h : SqS K H a xs) : SqS K H' a xs := by
 rcases h with ⟨o, h⟩ | h
 ·exact .inl ⟨o, e _ _ h⟩
 ·exact .inr h
mutual
noncomputable def Rep (D : Dm) (H : Hp) : DV -> V -> Prop
 | .non, v => v = .non
 | .bl b, v => v = .bl b
 | .int i, v => v = .int i
 | .str x, v => v = .str x /\ x.length <= sizeLine
 | .tup ds, v => ∃ a xs, v = .ref a /\ SqT D.K H a xs /\ RepL D H ds xs
 | .lst ds, v => ∃ a xs, v = .ref a /\ H a = some (.lst xs) /\ RepL D H ds xs
 | .dct _ _, _ => False
 | .exc c, v => ∃ a C, v = .ref a /\ D.mg c = some C /\ H a = some (excO a C)
 | .fn x, v => ∃ f, v = .ref f /\ D.mg x = some (.ref f)
 | .scr ns, v => ∃ a, v = .ref a /\ SqS D.K H a (ns.map V.int)
noncomputable def RepL (D : Dm) (H : Hp) : List DV -> List V -> Prop
 | [], xs => xs = []
 | d :: ds, xs => ∃ v vs, xs = v :: vs /\ Rep D H d v /\ RepL D H ds vs
end
theorem Same.tseq {K : PySem.W.Frag} {H H' : Hp} {a : Addr} {xs : List V} (e : Same H H') (h : SqT K H a xs) : SqT K H' a xs := by
 rcases h with (h | ⟨o, h⟩) | h
 ·exact .inl (.inl (e _ _ h))
 ·exact .inl (.inr ⟨o, e _ _ h⟩)
 ·exact .inr h
mutual
theorem Rep.mono {D : Dm} {H H' : Hp} (e : Same H H') : ∀ {d : DV} {v : V}, Rep D H d v -> Rep D H' d v
 | .non, _, h => by unfold Rep at h ⊢; exact h
 | .bl _, _, h => by unfold Rep at h ⊢; exact h
 | .int _, _, h => by unfold Rep at h ⊢; exact h
 | .str _, _, h => by unfold Rep at h ⊢; exact h
 | .tup ds, _, h => by
  unfold Rep at h ⊢
  obtain ⟨a, xs, e1, e2, e3⟩ := h
  exact ⟨a, xs, e1, e.tseq e2, RepL.mono e e3⟩
 | .lst ds, _, h => by
  unfold Rep at h ⊢
  obtain ⟨a, xs, e1, e2, e3⟩ := h
  exact ⟨a, xs, e1, e _ _ e2, RepL.mono e e3⟩
 | .dct _ _, _, h => by unfold Rep at h; exact h.elim
 | .exc C, _, h => by
  unfold Rep at h ⊢
  obtain ⟨a, C, e1, e2, e3⟩ := h
  exact ⟨a, C, e1, e2, e _ _ e3⟩
 | .fn _, _, h => by unfold Rep at h ⊢; exact h
 | .scr _, _, h => by
  unfold Rep at h ⊢
  obtain ⟨a, e1, e2⟩ := h
  exact ⟨a, e1, e.sqs e2⟩
theorem RepL.mono {D : Dm} {H H' : Hp} (e : Same H H') : ∀ {ds : List DV} {xs : List V}, RepL D H ds xs -> RepL D H' ds xs
 | [], _, h => by unfold RepL at h ⊢; exact h
 | d :: ds, _, h => by
  unfold RepL at h ⊢
  obtain ⟨v, vs, e1, e2, e3⟩ := h
  exact ⟨v, vs, e1, Rep.mono e e2, RepL.mono e e3⟩
end
section
variable {D : Dm} {H H' : Hp} {v : V} {xs ys : List V} {ds es : List DV} {d : DV}
theorem q0N {i : Int} : Rep D H (.int i) v ↔ v = .int i := by unfold Rep; exact Iff.rfl
theorem q3U {i : Bool} : Rep D H (.bl i) v ↔ v = .bl i := by unfold Rep; exact Iff.rfl
theorem q1N {i : Str} : Rep D H (.str i) v ↔ (v = .str i /\ i.length <= sizeLine) := by unfold Rep; exact Iff.rfl
theorem q2D : Rep D H .non v ↔ v = .non := by unfold Rep; exact Iff.rfl
theorem q0F : Rep D H (.tup ds) v ↔ ∃ a xs, v = .ref a /\ SqT D.K H a xs /\ RepL D H ds xs := by unfold Rep; exact Iff.rfl
theorem q0q : Rep D H (.lst ds) v ↔ ∃ a xs, v = .ref a /\ H a = some (.lst xs) /\ RepL D H ds xs := by unfold Rep; exact Iff.rfl
theorem z2Q {c : Str} : Rep D H (.exc c) v ↔ ∃ a C, v = .ref a /\ D.mg c = some C /\ H a = some (excO a C) := by unfold Rep; exact Iff.rfl
theorem z4H {x : Str} : Rep D H (.fn x) v ↔ ∃ f, v = .ref f /\ D.mg x = some (.ref f) := by unfold Rep; exact Iff.rfl
theorem q1B {ns : List Int} : Rep D H (.scr ns) v ↔ ∃ a, v = .ref a /\ SqS D.K H a (ns.map V.int) := by unfold Rep; exact Iff.rfl
theorem q4J {ks : List DKey} {vs : List DV} : ¬ Rep D H (.dct ks vs) v := by intro h; unfold Rep at h; exact h
theorem q0s : RepL D H [] xs ↔ xs = [] := by unfold RepL; exact Iff.rfl
theorem q0f : RepL D H (d :: ds) xs ↔ ∃ v vs, xs = v :: vs /\ Rep D H d v /\ RepL D H ds vs := by
 constructor
 ·intro h; unfold RepL at h; exact h
 ·intro h; unfold RepL; exact h
end
theorem RepL.length {D : Dm} {H : Hp} : ∀ {ds : List DV} {xs : List V}, RepL D H ds xs -> xs.length = ds.length
 | [], _, h => by rw [q0s.mp h]; rfl
 | d :: ds, _, h => by
  obtain ⟨v, vs, e1, _, e3⟩ := q0f.mp h
  rw [e1, List.length_cons, List.length_cons, RepL.length e3]
theorem RepL.get {D : Dm} {H : Hp} : ∀ {ds : List DV} {xs : List V} {i : Nat} {d : DV}, RepL D H ds xs -> ds[i]? = some d -> ∃ v, xs[i]? = some v /\ Rep D H d v
 | [], _, _, _, _, e => by simp at e
 | d :: ds, _, i, d', h, e => by
  obtain ⟨v, vs, e1, e2, e3⟩ := q0f.mp h
  subst e1
  cases i with
  | zero => simp at e; subst e; exact ⟨v, rfl, e2⟩
  | succ i => simpa using RepL.get (i := i) e3 (by simpa using e)
theorem RepL.append {D : Dm} {H : Hp} : ∀ {ds es : List DV} {xs ys : List V}, RepL D H ds xs -> RepL D H es ys -> RepL D H (ds ++ es) (xs ++ ys)
 | [], _, _, _, h, h' => by rw [q0s.mp h]; exact h'
 | d :: ds, _, _, _, h, h' => by
  obtain ⟨v, vs, e1, e2, e3⟩ := q0f.mp h
  subst e1
  exact q0f.mpr ⟨v, _, rfl, e2, RepL.append e3 h'⟩
theorem RepL.one {D : Dm} {H : Hp} {d : DV} {v : V} (h : Rep D H d v) : RepL D H [d] [v] := q0f.mpr ⟨v, [], rfl, h, q0s.mpr rfl⟩
theorem RepL.take {D : Dm} {H : Hp} : ∀ {ds : List DV} {xs : List V} (n : Nat), RepL D H ds xs -> RepL D H (ds.take n) (xs.take n)
 | _, _, 0, _ => q0s.mpr rfl
 | [], _, n + 1, h => by rw [q0s.mp h]; exact q0s.mpr rfl
 | d :: ds, _, n + 1, h => by
  obtain ⟨v, vs, e1, e2, e3⟩ := q0f.mp h
  subst e1
  exact q0f.mpr ⟨v, _, rfl, e2, RepL.take n e3⟩
theorem RepL.drop {D : Dm} {H : Hp} : ∀ {ds : List DV} {xs : List V} (n : Nat), RepL D H ds xs -> RepL D H (ds.drop n) (xs.drop n)
 | _, _, 0, h => h
 | [], _, n + 1, h => by rw [q0s.mp h]; exact q0s.mpr rfl
 | d :: ds, _, n + 1, h => by
  obtain ⟨v, vs, e1, e2, e3⟩ := q0f.mp h
  subst e1
  exact RepL.drop n e3
theorem RepL.set {D : Dm} {H : Hp} {d : DV} {v : V} (q : Rep D H d v) : ∀ {ds : List DV} {xs : List V} (n : Nat), RepL D H ds xs -> RepL D H (ds.set n d) (xs.set n v)
 | [], _, n, h => by rw [q0s.mp h]; exact q0s.mpr rfl
 | _ :: ds, _, 0, h => by
  obtain ⟨v, vs, e1, e2, e3⟩ := q0f.mp h
  subst e1
  exact q0f.mpr ⟨_, _, rfl, q, e3⟩
 | _ :: ds, _, n + 1, h => by
  obtain ⟨v, vs, e1, e2, e3⟩ := q0f.mp h
  subst e1
  exact q0f.mpr ⟨_, _, rfl, e2, RepL.set q n e3⟩
theorem RepL.rep {D : Dm} {H : Hp} {ds : List DV} {xs : List V} (h : RepL D H ds xs) : ∀ k : Nat, RepL D H (List.replicate k ds).flatten (List.replicate k xs).flatten
 | 0 => q0s.mpr rfl
 | k + 1 => by
  rw [List.replicate_succ, List.replicate_succ, List.flatten_cons, List.flatten_cons]
  exact h.append (RepL.rep h k)
theorem q1E {D : Dm} {H : Hp} : ∀ (ns : List Int), RepL D H (ns.map DV.int) (ns.map V.int)
 | [] => q0s.mpr rfl
 | n :: ns => q0f.mpr ⟨_, _, rfl, q0N.mpr rfl, q1E ns⟩
noncomputable def wo (O : List Addr) (H : Hp) : Hp := λ b => if b ∈ O then none else H b
theorem z4s {O : List Addr} {H : Hp} {b : Addr} (h : b ∈ O) : wo O H b = none := if_pos h
theorem q0n {O : List Addr} {H : Hp} {b : Addr} (h : b ∉ O) : wo O H b = H b := if_neg h
theorem q0M {O : List Addr} {H : Hp} {b : Addr} {o : HO} (h : wo O H b = some o) : b ∉ O /\ H b = some o := by
 by_cases hb : b ∈ O
 ·rw [z4s hb] at h; cases h
 ·rw [q0n hb] at h; exact ⟨hb, h⟩
theorem Same.wo {O : List Addr} {H H' : Hp} (e : Same H H') : Same (wo O H) (wo O H') := λ b o h => by
 obtain ⟨hb, h⟩ := q0M h
 rw [q0n hb]; exact e b o h
theorem q0S {O : List Addr} {H : Hp} : Same (L2.wo O H) H := λ b o h => (q0M h).2
theorem q0x {O O' : List Addr} {H : Hp} (h : ∀ b ∈ O', b ∈ O) : Same (L2.wo O H) (L2.wo O' H) := λ b o e => by
 obtain ⟨hb, e⟩ := q0M e
 rw [q0n λ z => hb (h b z)]; exact e
theorem q0r {H : Hp} {p : Addr} {o : HO} (h : H p = none) : Same H (upd H p o) := λ b u q => by rw [q0j (q0p q h)]; exact q
structure Hid (O W : List Addr) (H0 H : Hp) : Prop where
 ot : ∀ a ∈ O ++ W, H0 a ≠ none
 same : Same H0 H
 wl : ∀ a ∈ W, ∃ xs, H0 a = some (.lst xs)
 dj : ∀ a ∈ W, a ∉ O
theorem Hid.mono {O W : List Addr} {H0 H H' : Hp} (h : Hid O W H0 H) (e : Same H H') : Hid O W H0 H' := ⟨h.ot, h.same.trans e, h.wl, h.dj⟩
theorem Hid.newOut {O W : List Addr} {H0 H : Hp} (h : Hid O W H0 H) {p : Addr} (hp : H p = none) : p ∉ O ++ W := λ z => h.ot p z (h.same.free hp)
mutual
theorem Rep.immut {D : Dm} {O W : List Addr} {H : Hp} (hw : ∀ a ∈ W, ∃ xs, H a = some (.lst xs)) : ∀ {d : DV} {v : V}, d.immut = true -> Rep D (L2.wo O H) d v -> Rep D (L2.wo (O ++ W) H) d v
 | .non, _, _, h => by unfold Rep at h ⊢; exact h
 | .bl _, _, _, h => by unfold Rep at h ⊢; exact h
 | .int _, _, _, h => by unfold Rep at h ⊢; exact h
 | .str _, _, _, h => by unfold Rep at h ⊢; exact h
 | .tup ds, _, m, h => by
  unfold Rep at h ⊢
  obtain ⟨a, xs, e1, e2, e3⟩ := h
  have m' : DV.immuts ds = true := by unfold DV.immut at m; exact m
  refine ⟨a, xs, e1, ?_, RepL.immut hw m' e3⟩
  rcases e2 with (h | ⟨o, h⟩) | h
  ·obtain ⟨ha, h⟩ := q0M h
   refine .inl (.inl ?_)
   rw [q0n λ z => ?_]
   ·exact h
   ·rcases List.mem_append.mp z with z | z
    ·exact ha z
    ·obtain ⟨ys, q⟩ := hw a z; rw [h] at q; cases q
  ·obtain ⟨ha, h⟩ := q0M h
   refine .inl (.inr ⟨o, ?_⟩)
   rw [q0n λ z => ?_]
   ·exact h
   ·rcases List.mem_append.mp z with z | z
    ·exact ha z
    ·obtain ⟨ys, q⟩ := hw a z; rw [h] at q; cases q
  ·exact .inr h
 | .lst ds, _, m, _ => by unfold DV.immut at m; cases m
 | .dct _ _, _, m, _ => by unfold DV.immut at m; cases m
 | .exc C, _, _, h => by
  unfold Rep at h ⊢
  obtain ⟨a, C, e1, e2, e3⟩ := h
  obtain ⟨ha, h⟩ := q0M e3
  refine ⟨a, C, e1, e2, ?_⟩
  rw [q0n λ z => ?_]
  ·exact h
  ·rcases List.mem_append.mp z with z | z
   ·exact ha z
   ·obtain ⟨ys, q⟩ := hw a z; rw [h] at q; cases q
 | .fn _, _, _, h => by unfold Rep at h ⊢; exact h
 | .scr ns, _, _, h => by
  unfold Rep at h ⊢
  obtain ⟨a, e1, e2⟩ := h
  refine ⟨a, e1, ?_⟩
  rcases e2 with ⟨o, h⟩ | h
  ·obtain ⟨ha, h⟩ := q0M h
   refine .inl ⟨o, ?_⟩
   rw [q0n λ z => ?_]
   ·exact h
   ·rcases List.mem_append.mp z with z | z
    ·exact ha z
    ·obtain ⟨ys, q⟩ := hw a z; rw [h] at q; cases q
  ·exact .inr h
theorem RepL.immut {D : Dm} {O W : List Addr} {H : Hp} (hw : ∀ a ∈ W, ∃ xs, H a = some (.lst xs)) : ∀ {ds : List DV} {xs : List V}, DV.immuts ds = true -> RepL D (L2.wo O H) ds xs -> RepL D (L2.wo (O ++ W) H) ds xs
 | [], _, _, h => by unfold RepL at h ⊢; exact h
 | d :: ds, _, m, h => by
  unfold RepL at h ⊢
  obtain ⟨v, vs, e1, e2, e3⟩ := h
  unfold DV.immuts at m
  rw [Bool.and_eq_true] at m
  exact ⟨v, vs, e1, Rep.immut hw m.1 e2, RepL.immut hw m.2 e3⟩
end
noncomputable def RepT (D : Dm) (W : List Addr) (Ht H : Hp) (d : DV) (v : V) : Prop := match d with
 | .lst ds => ∃ a xs, v = .ref a /\ a ∈ W /\ Ht a = some (.lst xs) /\ RepL D H ds xs
 | d => Rep D H d v
theorem RepT.mono {D : Dm} {W : List Addr} {Ht Ht' H H' : Hp} {d : DV} {v : V} (et : Same Ht Ht') (e : Same H H') (h : RepT D W Ht H d v) : RepT D W Ht' H' d v := by
 cases d with
 | lst ds => obtain ⟨a, xs, e1, e0, e2, e3⟩ := h; exact ⟨a, xs, e1, e0, et _ _ e2, e3.mono e⟩
 | non => exact Rep.mono (D := D) (d := .non) (v := v) e h
 | bl b => exact Rep.mono (D := D) (d := .bl b) (v := v) e h
 | int b => exact Rep.mono (D := D) (d := .int b) (v := v) e h
 | str b => exact Rep.mono (D := D) (d := .str b) (v := v) e h
 | tup b => exact Rep.mono (D := D) (d := .tup b) (v := v) e h
 | dct b c => exact Rep.mono (D := D) (d := .dct b c) (v := v) e h
 | exc b => exact Rep.mono (D := D) (d := .exc b) (v := v) e h
 | fn b => exact Rep.mono (D := D) (d := .fn b) (v := v) e h
 | scr b => exact Rep.mono (D := D) (d := .scr b) (v := v) e h
theorem RepT.rep {D : Dm} {W : List Addr} {Ht H : Hp} {d : DV} {v : V} (e : Same H Ht) (h : RepT D W Ht H d v) : Rep D Ht d v := by
 cases d with
 | lst ds => obtain ⟨a, xs, e1, e0, e2, e3⟩ := h; exact q0q.mpr ⟨a, xs, e1, e2, e3.mono e⟩
 | non => exact Rep.mono (D := D) (d := .non) (v := v) e h
 | bl b => exact Rep.mono (D := D) (d := .bl b) (v := v) e h
 | int b => exact Rep.mono (D := D) (d := .int b) (v := v) e h
 | str b => exact Rep.mono (D := D) (d := .str b) (v := v) e h
 | tup b => exact Rep.mono (D := D) (d := .tup b) (v := v) e h
 | dct b c => exact Rep.mono (D := D) (d := .dct b c) (v := v) e h
 | exc b => exact Rep.mono (D := D) (d := .exc b) (v := v) e h
 | fn b => exact Rep.mono (D := D) (d := .fn b) (v := v) e h
 | scr b => exact Rep.mono (D := D) (d := .scr b) (v := v) e h
noncomputable def Got (D : Dm) (O W : List Addr) (H0 H : Hp) (d : DV) (c : Cl) (v : V) : Prop := match c with
 | .weak => Rep D (L2.wo O H) d v
 | .top => RepT D W (L2.wo O H) (L2.wo (O ++ W) H) d v
 | .strong => Rep D (L2.wo (O ++ W) H) d v
 | .fresh => ∃ p xs ds, v = .ref p /\ d = .lst ds /\ H0 p = none /\ H p = some (.lst xs) /\ RepL D (L2.wo (p :: (O ++ W)) H) ds xs
 | .ft => ∃ t ts p xs ds es, v = .ref t /\ d = .tup (.lst ds :: es) /\ SqT D.K (L2.wo (O ++ W) H) t (.ref p :: ts) /\ H0 p = none /\ H p = some (.lst xs) /\ RepL D (L2.wo (p :: (O ++ W)) H) ds xs /\ RepL D (L2.wo (p :: (O ++ W)) H) es ts
section
variable {D : Dm} {O W : List Addr} {H0 H H' : Hp} {d : DV} {ds : List DV} {c : Cl} {v : V}
theorem q5z : ∀ b ∈ O, b ∈ O ++ W := λ _ h => List.mem_append_left _ h
theorem Got.mono (h : Got D O W H0 H d c v) (e : Same H H') : Got D O W H0 H' d c v := by
 cases c with
 | weak => exact Rep.mono e.wo h
 | top => exact RepT.mono e.wo e.wo h
 | strong => exact Rep.mono e.wo h
 | fresh =>
  obtain ⟨p, xs, ds, e1, e2, e3, e4, e5⟩ := h
  exact ⟨p, xs, ds, e1, e2, e3, e _ _ e4, e5.mono e.wo⟩
 | ft =>
  obtain ⟨t, ts, p, xs, ds, es, e1, e2, e0, e3, e4, e5, e6⟩ := h
  exact ⟨t, ts, p, xs, ds, es, e1, e2, e.wo.tseq e0, e3, e _ _ e4, e5.mono e.wo, e6.mono e.wo⟩
theorem Got.since {H1 : Hp} (h : Got D O W H1 H d c v) (e : Same H0 H1) : Got D O W H0 H d c v := by
 cases c with
 | weak => exact h
 | top => exact h
 | strong => exact h
 | fresh =>
  obtain ⟨p, xs, ds, e1, e2, e3, e4, e5⟩ := h
  exact ⟨p, xs, ds, e1, e2, e.free e3, e4, e5⟩
 | ft =>
  obtain ⟨t, ts, p, xs, ds, es, e1, e2, e0, e3, e4, e5, e6⟩ := h
  exact ⟨t, ts, p, xs, ds, es, e1, e2, e0, e.free e3, e4, e5, e6⟩
theorem Got.ft (h : Got D O W H0 H d .ft v) (hd : Hid O W H0 H) : Rep D (L2.wo (O ++ W) H) d v := by
 obtain ⟨t, ts, p, xs, ds, es, e1, e2, e0, e3, e4, e5, e6⟩ := h
 have hp : p ∉ O ++ W := λ z => hd.ot p z e3
 have up : Same (L2.wo (p :: (O ++ W)) H) (L2.wo (O ++ W) H) := q0x λ b hb => List.mem_cons_of_mem _ hb
 rw [e2]
 exact q0F.mpr ⟨t, _, e1, e0, q0f.mpr ⟨_, _, rfl, q0q.mpr ⟨p, xs, rfl, by rw [q0n hp]; exact e4, e5.mono up⟩, e6.mono up⟩⟩
theorem Got.strong (h : Got D O W H0 H d .fresh v) (hd : Hid O W H0 H) : Rep D (L2.wo (O ++ W) H) d v := by
 obtain ⟨p, xs, ds, e1, e2, e3, e4, e5⟩ := h
 have hp : p ∉ O ++ W := λ z => hd.ot p z e3
 rw [e2]
 exact q0q.mpr ⟨p, xs, e1, by rw [q0n hp]; exact e4, e5.mono (q0x λ b hb => List.mem_cons_of_mem _ hb)⟩
theorem Got.weak (h : Got D O W H0 H d c v) (hd : Hid O W H0 H) : Rep D (L2.wo O H) d v := by
 cases c with
 | weak => exact h
 | top => exact RepT.rep (q0x q5z) h
 | strong => exact Rep.mono (q0x q5z) h
 | fresh => exact Rep.mono (q0x q5z) (h.strong hd)
 | ft => exact Rep.mono (q0x q5z) (h.ft hd)
theorem Got.all (h : Got D O W H0 H d c v) (hd : Hid O W H0 H) : Rep D H d v := Rep.mono q0S (h.weak hd)
theorem Got.stro (h : Got D O W H0 H d c v) (hd : Hid O W H0 H) (hs : L2.stro d c = true) : Rep D (L2.wo (O ++ W) H) d v := by
 cases c with
 | strong => exact h
 | fresh => exact h.strong hd
 | ft => exact h.ft hd
 | weak => exact Rep.immut (λ a ha => by obtain ⟨xs, e⟩ := hd.wl a ha; exact ⟨xs, hd.same _ _ e⟩) hs (h.weak hd)
 | top => exact Rep.immut (λ a ha => by obtain ⟨xs, e⟩ := hd.wl a ha; exact ⟨xs, hd.same _ _ e⟩) hs (h.weak hd)
theorem Got.items (h : Got D O W H0 H (.lst ds) c v) (hd : Hid O W H0 H) (hc : c ≠ .weak) : ∃ a xs, v = .ref a /\ H a = some (.lst xs) /\ RepL D (L2.wo (O ++ W) H) ds xs := by
 cases c with
 | weak => exact absurd rfl hc
 | top =>
  obtain ⟨a, xs, e1, e0, e2, e3⟩ := h
  exact ⟨a, xs, e1, q0S _ _ e2, e3⟩
 | strong =>
  obtain ⟨a, xs, e1, e2, e3⟩ := q0q.mp h
  exact ⟨a, xs, e1, q0S _ _ e2, e3⟩
 | fresh =>
  obtain ⟨a, xs, e1, e2, e3⟩ := q0q.mp (h.strong hd)
  exact ⟨a, xs, e1, q0S _ _ e2, e3⟩
 | ft =>
  obtain ⟨a, xs, e1, e2, e3⟩ := q0q.mp (h.ft hd)
  exact ⟨a, xs, e1, q0S _ _ e2, e3⟩
theorem Got.itemsT (h : Got D O W H0 H (.tup ds) c v) (hd : Hid O W H0 H) (hc : c ≠ .weak) : ∃ a xs, v = .ref a /\ SqT D.K H a xs /\ RepL D (L2.wo (O ++ W) H) ds xs := by
 cases c with
 | weak => exact absurd rfl hc
 | top =>
  obtain ⟨a, xs, e1, e2, e3⟩ := q0F.mp (show Rep D (L2.wo (O ++ W) H) (.tup ds) v from h)
  exact ⟨a, xs, e1, q0S.tseq e2, e3⟩
 | strong =>
  obtain ⟨a, xs, e1, e2, e3⟩ := q0F.mp h
  exact ⟨a, xs, e1, q0S.tseq e2, e3⟩
 | fresh =>
  obtain ⟨p, xs, ds, e1, e2, e3, e4, e5⟩ := h
  cases e2
 | ft =>
  obtain ⟨a, xs, e1, e2, e3⟩ := q0F.mp (h.ft hd)
  exact ⟨a, xs, e1, q0S.tseq e2, e3⟩
theorem Got.lst (h : Got D O W H0 H (.lst ds) c v) (hd : Hid O W H0 H) : ∃ a xs, v = .ref a /\ H a = some (.lst xs) /\ RepL D (L2.wo O H) ds xs := by
 obtain ⟨a, xs, e1, e2, e3⟩ := q0q.mp (h.weak hd)
 exact ⟨a, xs, e1, q0S _ _ e2, e3⟩
theorem Got.tup (h : Got D O W H0 H (.tup ds) c v) (hd : Hid O W H0 H) : ∃ a xs, v = .ref a /\ SqT D.K H a xs /\ RepL D (L2.wo O H) ds xs := by
 obtain ⟨a, xs, e1, e2, e3⟩ := q0F.mp (h.weak hd)
 exact ⟨a, xs, e1, q0S.tseq e2, e3⟩
noncomputable def q0O (O W : List Addr) : Cl -> List Addr
 | .weak => O
 | _ => O ++ W
theorem Got.lstC (h : Got D O W H0 H (.lst ds) c v) (hd : Hid O W H0 H) : ∃ a xs, v = .ref a /\ H a = some (.lst xs) /\ RepL D (L2.wo (q0O O W c) H) ds xs := by
 cases c with
 | weak => exact h.lst hd
 | top => exact h.items hd (by intro z; cases z)
 | strong => exact h.items hd (by intro z; cases z)
 | fresh => exact h.items hd (by intro z; cases z)
 | ft => exact h.items hd (by intro z; cases z)
theorem Got.tupC (h : Got D O W H0 H (.tup ds) c v) (hd : Hid O W H0 H) : ∃ a xs, v = .ref a /\ SqT D.K H a xs /\ RepL D (L2.wo (q0O O W c) H) ds xs := by
 cases c with
 | weak => exact h.tup hd
 | top => exact h.itemsT hd (by intro z; cases z)
 | strong => exact h.itemsT hd (by intro z; cases z)
 | fresh => exact h.itemsT hd (by intro z; cases z)
 | ft => exact h.itemsT hd (by intro z; cases z)
theorem Got.item (h : Rep D (L2.wo (q0O O W c) H) d v) : Got D O W H0 H d c.item v := by
 cases c <;> exact h
theorem q0G {i : Int} (hc : c ≠ .fresh := by intro z; cases z) (hc' : c ≠ .ft := by intro z; cases z) : Got D O W H0 H (.int i) c (.int i) := by
 have q : ∀ H, Rep D H (.int i) (.int i) := λ H => q0N.mpr rfl
 cases c with
 | fresh => exact absurd rfl hc
 | ft => exact absurd rfl hc'
 | weak => exact q (L2.wo O H)
 | strong => exact q (L2.wo (O ++ W) H)
 | top => exact q (L2.wo (O ++ W) H)
theorem q5f {i : Bool} : Got D O W H0 H (.bl i) .strong (.bl i) := (q3U.mpr rfl : Rep D (L2.wo (O ++ W) H) (.bl i) (.bl i))
theorem z1N : Got D O W H0 H .non .strong .non := (q2D.mpr rfl : Rep D (L2.wo (O ++ W) H) .non .non)
theorem Got.int {i : Int} (h : Got D O W H0 H (.int i) c v) (hd : Hid O W H0 H) : v = .int i := q0N.mp (h.weak hd)
theorem Got.bl {i : Bool} (h : Got D O W H0 H (.bl i) c v) (hd : Hid O W H0 H) : v = .bl i := q3U.mp (h.weak hd)
theorem Got.str {x : Str} (h : Got D O W H0 H (.str x) c v) (hd : Hid O W H0 H) : v = .str x /\ x.length <= sizeLine := q1N.mp (h.weak hd)
theorem q1z {p : Addr} {xs : List V} (hd : Hid O W H0 H) (hp : H p = none) (r : RepL D (L2.wo (O ++ W) H) ds xs) : Got D O W H0 (upd H p (.lst xs)) (.lst ds) .fresh (.ref p) := by
 refine ⟨p, xs, ds, rfl, rfl, hd.same.free hp, q0A, r.mono λ b o e => ?_⟩
 obtain ⟨hb, e⟩ := q0M e
 have hbp : b ≠ p := q0p e hp
 rw [q0n (by intro z; rcases List.mem_cons.mp z with z | z; exact hbp z; exact hb z), q0j hbp]
 exact e
theorem q4A {p : Addr} {xs : List V} (hd : Hid O W H0 H) (hp : H p = none) (r : RepL D (L2.wo O H) ds xs) : Got D O W H0 (upd H p (.lst xs)) (.lst ds) .weak (.ref p) := by
 have hpo : p ∉ O := λ z => hd.newOut hp (List.mem_append_left _ z)
 exact q0q.mpr ⟨p, xs, rfl, by rw [q0n hpo]; exact q0A, r.mono (q0r hp).wo⟩
theorem q3p {p : Addr} {xs : List V} (hd : Hid O W H0 H) (hp : H p = none) (r : RepL D (L2.wo (q0O O W c) H) ds xs) : Got D O W H0 (upd H p (.lst xs)) (.lst ds) (Cl.anew c c) (.ref p) := by
 cases c with
 | weak => exact q4A hd hp r
 | top => exact q1z hd hp r
 | strong => exact q1z hd hp r
 | fresh => exact q1z hd hp r
 | ft => exact q1z hd hp r
theorem q3M {p : Addr} {xs : List V} (hd : Hid O W H0 H) (hp : H p = none) (r : RepL D (L2.wo (O ++ W) H) ds xs) : Got D O W H0 (upd H p (.tup xs)) (.tup ds) .strong (.ref p) :=
 q0F.mpr ⟨p, xs, rfl, SqT.of (by rw [q0n (hd.newOut hp)]; exact q0A), r.mono (q0r hp).wo⟩
theorem q7e {p : Addr} {xs : List V} (hd : Hid O W H0 H) (hp : H p = none) (r : RepL D (L2.wo O H) ds xs) : Got D O W H0 (upd H p (.tup xs)) (.tup ds) .weak (.ref p) :=
 q0F.mpr ⟨p, xs, rfl, SqT.of (by rw [q0n λ z => hd.newOut hp (List.mem_append_left _ z)]; exact q0A), r.mono (q0r hp).wo⟩
theorem q7b {p : Addr} {xs : List V} (hd : Hid O W H0 H) (hp : H p = none) (r : RepL D (L2.wo (q0O O W c) H) ds xs) : Got D O W H0 (upd H p (.tup xs)) (.tup ds) c.item (.ref p) := by
 cases c with
 | weak => exact q7e hd hp r
 | top => exact q3M hd hp r
 | strong => exact q3M hd hp r
 | fresh => exact q3M hd hp r
 | ft => exact q3M hd hp r
end
inductive GotL (D : Dm) (O W : List Addr) (H0 H : Hp) : List (DV × Cl) -> List V -> Prop where
 | nil : GotL D O W H0 H [] []
 | cons {d : DV} {c : Cl} {v : V} {l : List (DV × Cl)} {vs : List V} : Got D O W H0 H d c v -> GotL D O W H0 H l vs -> GotL D O W H0 H ((d, c) :: l) (v :: vs)
section
variable {D : Dm} {O W : List Addr} {H0 H H' : Hp}
theorem GotL.repL {l : List (DV × Cl)} {vs : List V} (h : GotL D O W H0 H l vs) (hd : Hid O W H0 H) : RepL D (L2.wo O H) (l.map (·.1)) vs := by
 induction h with
 | nil => exact q0s.mpr rfl
 | cons h _ ih => exact q0f.mpr ⟨_, _, rfl, h.weak hd, ih⟩
theorem GotL.stros {l : List (DV × Cl)} {vs : List V} (h : GotL D O W H0 H l vs) (hd : Hid O W H0 H) (hs : L2.stros l = true) : RepL D (L2.wo (O ++ W) H) (l.map (·.1)) vs := by
 induction h with
 | nil => exact q0s.mpr rfl
 | cons h _ ih =>
  unfold L2.stros at hs
  rw [List.all_cons, Bool.and_eq_true] at hs
  exact q0f.mpr ⟨_, _, rfl, h.stro hd hs.1, ih hs.2⟩
theorem GotL.length {l : List (DV × Cl)} {vs : List V} (h : GotL D O W H0 H l vs) : vs.length = l.length := by
 induction h with
 | nil => rfl
 | cons _ _ ih => rw [List.length_cons, List.length_cons, ih]
theorem GotL.strong {l : List (DV × Cl)} {vs : List V} (h : GotL D O W H0 H l vs) (hd : Hid O W H0 H) (hs : (l.all λ p => p.2 == .strong || p.2 == .fresh) = true) : RepL D (L2.wo (O ++ W) H) (l.map (·.1)) vs := by
 refine h.stros hd ?_
 unfold L2.stros
 rw [List.all_eq_true] at hs ⊢
 intro p hp
 have := hs p hp
 unfold L2.stro
 cases e : p.2 <;> rw [e] at this <;> first | rfl | cases this
theorem GotL.one {d : DV} {c : Cl} {vs : List V} (h : GotL D O W H0 H [(d, c)] vs) : ∃ v, vs = [v] /\ Got D O W H0 H d c v := by
 cases h with
 | cons h t => cases t; exact ⟨_, rfl, h⟩
theorem GotL.two {d d' : DV} {c c' : Cl} {vs : List V} (h : GotL D O W H0 H [(d, c), (d', c')] vs) : ∃ v v', vs = [v, v'] /\ Got D O W H0 H d c v /\ Got D O W H0 H d' c' v' := by
 cases h with
 | cons h t => obtain ⟨v', e, h'⟩ := t.one; subst e; exact ⟨_, _, rfl, h, h'⟩
theorem GotL.three {d d' d2 : DV} {c c' c2 : Cl} {vs : List V} (h : GotL D O W H0 H [(d, c), (d', c'), (d2, c2)] vs) : ∃ v v' v2, vs = [v, v', v2] /\ Got D O W H0 H d c v /\ Got D O W H0 H d' c' v' /\ Got D O W H0 H d2 c2 v2 := by
 cases h with
 | cons h t => obtain ⟨v', v2, e, h', h2⟩ := t.two; subst e; exact ⟨_, _, _, rfl, h, h', h2⟩
end
noncomputable def O2At (H : Hp) (W : List Addr) (p : Addr) (L : List (Addr × List Int)) : Prop := p ∈ W /\ H p = some (.lst (L.map λ q => .ref q.1)) /\ (∀ q ∈ L, q.1 ∈ W /\ H q.1 = some (.lst (q.2.map V.int))) /\ (p :: L.map (·.1)).Nodup
noncomputable def o2D (L : List (Addr × List Int)) : DV := .lst (L.map λ q => .lst (q.2.map DV.int))
theorem O2At.mono {H H' : Hp} {W : List Addr} {p : Addr} {L : List (Addr × List Int)} (h : O2At H W p L) (e : Same H H') : O2At H' W p L := ⟨h.1, e _ _ h.2.1, λ q hq => ⟨(h.2.2.1 q hq).1, e _ _ (h.2.2.1 q hq).2⟩, h.2.2.2⟩
theorem O2At.sub {H : Hp} {W W' : List Addr} {p : Addr} {L : List (Addr × List Int)} (h : O2At H W p L) (e : ∀ a ∈ p :: L.map (·.1), a ∈ W -> a ∈ W') : O2At H W' p L :=
 ⟨e _ (List.mem_cons_self ..) h.1, h.2.1, λ q hq => ⟨e _ (List.mem_cons_of_mem _ (List.mem_map.mpr ⟨q, hq, rfl⟩)) (h.2.2.1 q hq).1, (h.2.2.1 q hq).2⟩, h.2.2.2⟩
theorem O2At.dom {H : Hp} {W : List Addr} {p a : Addr} {L : List (Addr × List Int)} (h : O2At H W p L) (ha : a ∈ p :: L.map (·.1)) : a ∈ W /\ ∃ xs, H a = some (.lst xs) := by
 rcases List.mem_cons.mp ha with z | z
 ·rw [z]; exact ⟨h.1, _, h.2.1⟩
 ·obtain ⟨q, hq, rfl⟩ := List.mem_map.mp z
  exact ⟨(h.2.2.1 q hq).1, _, (h.2.2.1 q hq).2⟩
theorem O2At.write {H : Hp} {W : List Addr} {p a : Addr} {o : HO} {L : List (Addr × List Int)} (h : O2At H W p L) (ha : a ∉ p :: L.map (·.1)) : O2At (upd H a o) W p L :=
 ⟨h.1, by rw [q0j λ z => ha (by rw [← z]; exact List.mem_cons_self ..)]; exact h.2.1, λ q hq => ⟨(h.2.2.1 q hq).1, by rw [q0j λ z => ha (by rw [← z]; exact List.mem_cons_of_mem _ (List.mem_map.mpr ⟨q, hq, rfl⟩))]; exact (h.2.2.1 q hq).2⟩, h.2.2.2⟩
structure RSt (D : Dm) (H : Hp) (σ : St) (δ : List Sv) (O W : List Addr) : Prop where
 val : ∀ (i : Nat) d, δ[i]? = some (.val d) -> ∃ v, σ[i]? = some (some v) /\ Rep D (L2.wo (O ++ W) H) d v
 own : ∀ (i : Nat) d, δ[i]? = some (.own d) -> ∃ a xs ds, d = .lst ds /\ σ[i]? = some (some (.ref a)) /\ a ∈ W /\ H a = some (.lst xs) /\ RepL D (L2.wo (O ++ W) H) ds xs
 inj : ∀ (i j : Nat) a d d', δ[i]? = some (.own d) -> δ[j]? = some (.own d') -> σ[i]? = some (some (.ref a)) -> σ[j]? = some (some (.ref a)) -> i = j
 ot : ∀ (i : Nat) d, δ[i]? = some (.ot d) -> (∃ t ts p xs ds es, d = .tup (.lst ds :: es) /\ σ[i]? = some (some (.ref t)) /\ SqT D.K (L2.wo (O ++ W) H) t (.ref p :: ts) /\ p ∈ W /\ H p = some (.lst xs) /\ RepL D (L2.wo (O ++ W) H) ds xs /\ RepL D (L2.wo (O ++ W) H) es ts /\
  ∀ (j : Nat) d', δ[j]? = some (.own d') -> σ[j]? ≠ some (some (.ref p))) /\ ∀ (j : Nat) d', δ[j]? = some (.ot d') -> j = i
 o2 : ∀ (i : Nat) d, δ[i]? = some (.o2 d) -> (∃ p L, d = o2D L /\ σ[i]? = some (some (.ref p)) /\ O2At H W p L /\ ∀ (j : Nat) d' a, δ[j]? = some (.own d') -> σ[j]? = some (some (.ref a)) -> a ∉ p :: L.map (·.1)) /\ (∀ (j : Nat) d', δ[j]? = some (.o2 d') -> j = i) /\ ∀ (j : Nat) d', δ[j]? ≠ some (.ot d')
 len : σ.length = δ.length
 hid : Hid O W H H
theorem Hid.later {O W : List Addr} {H H' : Hp} (h : Hid O W H H) (e : Same H H') : Hid O W H' H' := ⟨λ a ha q => h.ot a ha (e.free q), Same.refl _, λ a ha => by obtain ⟨xs, q⟩ := h.wl a ha; exact ⟨xs, e _ _ q⟩, h.dj⟩
theorem RSt.mono {D : Dm} {H H' : Hp} {σ : St} {δ : List Sv} {O W : List Addr} (R : RSt D H σ δ O W) (e : Same H H') : RSt D H' σ δ O W where
 val := λ i d h => by obtain ⟨v, e1, e2⟩ := R.val i d h; exact ⟨v, e1, e2.mono e.wo⟩
 own := λ i ds h => by obtain ⟨a, xs, ds, e0, e1, e2, e3, e4⟩ := R.own i ds h; exact ⟨a, xs, ds, e0, e1, e2, e _ _ e3, e4.mono e.wo⟩
 inj := R.inj
 ot := λ i d h => by
  obtain ⟨⟨t, ts, p, xs, ds, es, e0, e1, e2, e3, e4, e5, e6, e7⟩, u⟩ := R.ot i d h
  exact ⟨⟨t, ts, p, xs, ds, es, e0, e1, e.wo.tseq e2, e3, e _ _ e4, e5.mono e.wo, e6.mono e.wo, e7⟩, u⟩
 o2 := λ i d h => by
  obtain ⟨⟨p, L, e0, e1, e2, e3⟩, u, n⟩ := R.o2 i d h
  exact ⟨⟨p, L, e0, e1, e2.mono e, e3⟩, u, n⟩
 len := R.len
 hid := R.hid.later e
noncomputable def Post (D : Dm) (E : St -> XK) (σ : St) (O W : List Addr) (H0 H : Hp) (Q : VK) : Re -> Prop
 | .ok d c => ∀ v H', Same H H' -> Got D O W H0 H' d c v -> Q v H'
 | .ex c => ∀ H' C, D.mg c = some C -> Same H H' -> E σ C none H'
noncomputable def dE (D : Dm) (E : St -> XK) (δ : List Sv) (r : Re) : TE := λ σ H Q => ∃ O W, RSt D H σ δ O W /\ Post D E σ O W H H Q r
noncomputable def z5V (D : Dm) (E : St -> XK) (σ : St) (O W : List Addr) (H0 H : Hp) (Q : List V -> Hp -> Prop) : Rs -> Prop
 | .ok l => ∀ vs H', Same H H' -> GotL D O W H0 H' l vs -> Q vs H'
 | .ex c => ∀ H' C, D.mg c = some C -> Same H H' -> E σ C none H'
noncomputable def dA (D : Dm) (E : St -> XK) (δ : List Sv) (r : Rs) : TA := λ σ H Q => ∃ O W, RSt D H σ δ O W /\ z5V D E σ O W H H Q r
noncomputable def q9H (D : Dm) (E : St -> XK) (σ : St) (H : Hp) (Q : Bool -> Hp -> Prop) : Rt -> Prop
 | .ok b => ∀ H', Same H H' -> Q b H'
 | .ex c => ∀ H' C, D.mg c = some C -> Same H H' -> E σ C none H'
noncomputable def dT (D : Dm) (E : St -> XK) (δ : List Sv) (r : Rt) : TT := λ σ H Q => ∃ O W, RSt D H σ δ O W /\ q9H D E σ H Q r
theorem Post.step {D : Dm} {E : St -> XK} {σ : St} {O W : List Addr} {H0 H H1 : Hp} {Q : VK} {r : Re} (h : Post D E σ O W H0 H Q r) (e : Same H H1) : Post D E σ O W H0 H1 Q r := by
 cases r with
 | ok d c => exact λ v H' s g => h v H' (e.trans s) g
 | ex c => exact λ H' C m s => h H' C m (e.trans s)
theorem Post.later {D : Dm} {E : St -> XK} {σ : St} {O W : List Addr} {H0 H H1 : Hp} {Q : VK} {r : Re} (h : Post D E σ O W H0 H Q r) (e : Same H H1) (e0 : Same H0 H1) : Post D E σ O W H1 H1 Q r := by
 cases r with
 | ok d c => exact λ v H' s g => h v H' (e.trans s) (g.since e0)
 | ex c => exact λ H' C m s => h H' C m (e.trans s)
theorem GotL.since {D : Dm} {O W : List Addr} {H0 H1 H : Hp} {l : List (DV × Cl)} {vs : List V} (h : GotL D O W H1 H l vs) (e : Same H0 H1) : GotL D O W H0 H l vs := by
 induction h with
 | nil => exact .nil
 | cons g _ ih => exact .cons (g.since e) ih
theorem q9H.later {D : Dm} {E : St -> XK} {σ : St} {H H1 : Hp} {Q : Bool -> Hp -> Prop} {r : Rt} (h : q9H D E σ H Q r) (e : Same H H1) : q9H D E σ H1 Q r := by
 cases r with
 | ok b => exact λ H' s => h H' (e.trans s)
 | ex c => exact λ H' C m s => h H' C m (e.trans s)
theorem PE.weak {X : Cx} {e : Expr} {t t' : TE} (h : PE X e t) (k : ∀ σ H Q, t' σ H Q -> t σ H Q) : PE X e t' := λ pins s σ H Q I q => h pins s σ H Q I (k σ H Q q)
theorem PT.weak {X : Cx} {e : Expr} {t t' : TT} (h : PT X e t) (k : ∀ σ H Q, t' σ H Q -> t σ H Q) : PT X e t' := λ pins s σ H Q I q => h pins s σ H Q I (k σ H Q q)
theorem PW.weak {X : Cx} {e : Expr} {t t' : TT} (h : PW X e t) (k : ∀ σ H Q, t' σ H Q -> t σ H Q) : PW X e t' := λ whole pins s σ H Q I q => h whole pins s σ H Q I (k σ H Q q)
theorem PA.weak {X : Cx} {e : List Expr} {t t' : TA} (h : PA X e t) (k : ∀ σ H Q, t' σ H Q -> t σ H Q) : PA X e t' := λ pos pins s σ H Q I q => h pos pins s σ H Q I (k σ H Q q)
theorem PS.weak {X : Cx} {e : Stmt} {t t' : TS} (h : PS X e t) (k : ∀ D σ H, t' D σ H -> t D σ H) : PS X e t' := λ pins s σ H D I q => h pins s σ H D I (k D σ H q)
theorem PSs.weak {X : Cx} {e : List Stmt} {t t' : TS} (h : PSs X e t) (k : ∀ D σ H, t' D σ H -> t D σ H) : PSs X e t' := λ pins s σ H D I q => h pins s σ H D I (k D σ H q)
theorem q4O {X : Cx} {e : Expr} : PW X e (λ _ _ _ => False) := λ _ _ _ _ _ _ _ h => h.elim
theorem q4w {X : Cx} {e : Expr} : PT X e (λ _ _ _ => False) := λ _ _ _ _ _ _ h => h.elim
theorem q1i {X : Cx} {e : Expr} : PE X e (λ _ _ _ => False) := λ _ _ _ _ _ _ h => h.elim
theorem z2G {X : Cx} {e : List Expr} : PA X e (λ _ _ _ => False) := λ _ _ _ _ _ _ _ h => h.elim
end L2
end
section
namespace L2
open PySem PySem.Spec PyProof.Rows
theorem q1u {n : Nat} (h : n <= mostLen) : n <= sizeLine := Nat.le_trans h (by decide)
section
variable {X : Cx} {E : St -> XK} {δ : List Sv} {a b c e : Expr} {es : List Expr}
theorem z1h {r : V -> Hp -> VK -> Prop} {k : DV -> Cl -> Option Re} {ra : Option Re} {re : Re} (hop : ∀ ta, PE X a ta -> PE X e (tUn r ta)) (ha : ∀ q, ra = some q -> PE X a (dE X.D E δ q)) (h : Re.thn ra k = some re)
  (hr : ∀ O W H0 H x Q dx cx σ, k dx cx = some re -> Hid O W H0 H -> Got X.D O W H0 H dx cx x -> Post X.D E σ O W H0 H Q re -> r x H Q) : PE X e (dE X.D E δ re) := by
 cases hra : ra with
 | none => rw [hra] at h; cases h
 | some q =>
  rw [hra] at h
  have A := ha q hra
  cases q with
  | ex c =>
   cases h
   exact (hop _ A).weak λ σ H Q ⟨O, W, R, p⟩ => ⟨O, W, R, p⟩
  | ok dx cx =>
   have h' : k dx cx = some re := h
   exact (hop _ A).weak λ σ H Q ⟨O, W, R, p⟩ => ⟨O, W, R, λ x H1 s1 g1 => hr O W H H1 x Q dx cx σ h' (R.hid.mono s1) g1 (p.step s1)⟩
theorem q6Y {r : R2} {k : DV -> Cl -> DV -> Cl -> Option Re} {ra rb : Option Re} {re : Re} (ha : ∀ q, ra = some q -> PE X a (dE X.D E δ q)) (hb : ∀ q, rb = some q -> PE X b (dE X.D E δ q))
  (h : (Re.thn ra λ x cx => Re.thn rb λ y cy => k x cx y cy) = some re)
  (hr : ∀ O W H0 H x y Q dx cx dy cy σ, k dx cx dy cy = some re -> Hid O W H0 H -> Got X.D O W H0 H dx cx x -> Got X.D O W H0 H dy cy y -> Post X.D E σ O W H0 H Q re -> r x y H Q) :
  ∃ ta tb, PE X a ta /\ PE X b tb /\ ∀ σ H Q, dE X.D E δ re σ H Q -> tOp r ta tb σ H Q := by
 cases hra : ra with
 | none => rw [hra] at h; cases h
 | some q =>
  rw [hra] at h
  have A := ha q hra
  cases q with
  | ex c =>
   cases h
   exact ⟨_, _, A, q1i, λ σ H Q ⟨O, W, R, p⟩ => ⟨O, W, R, p⟩⟩
  | ok dx cx =>
   have h' : (Re.thn rb λ y cy => k dx cx y cy) = some re := h
   cases hrb : rb with
   | none => rw [hrb] at h'; cases h'
   | some q =>
    rw [hrb] at h'
    have B := hb q hrb
    cases q with
    | ex c =>
     cases h'
     exact ⟨_, _, A, B, λ σ H Q ⟨O, W, R, p⟩ => ⟨O, W, R, λ x H1 s1 g1 => ⟨O, W, R.mono s1, λ H' C m s => p H' C m (s1.trans s)⟩⟩⟩
    | ok dy cy =>
     have h2 : k dx cx dy cy = some re := h'
     exact ⟨_, _, A, B, λ σ H Q ⟨O, W, R, p⟩ => ⟨O, W, R, λ x H1 s1 g1 => ⟨O, W, R.mono s1, λ y H2 s2 g2 =>
      hr O W H H2 x y Q dx cx dy cy σ h2 ((R.hid.mono s1).mono s2) (g1.mono s2) (g2.since s1) (p.step (s1.trans s2))⟩⟩⟩
theorem q8k {r : R2} {k : DV -> Cl -> DV -> Cl -> Option Re} {ra rb : Option Re} {re : Re} (hop : ∀ ta tb, PE X a ta -> PE X b tb -> PE X e (tOp r ta tb)) (ha : ∀ q, ra = some q -> PE X a (dE X.D E δ q)) (hb : ∀ q, rb = some q -> PE X b (dE X.D E δ q))
  (h : (Re.thn ra λ x cx => Re.thn rb λ y cy => k x cx y cy) = some re)
  (hr : ∀ O W H0 H x y Q dx cx dy cy σ, k dx cx dy cy = some re -> Hid O W H0 H -> Got X.D O W H0 H dx cx x -> Got X.D O W H0 H dy cy y -> Post X.D E σ O W H0 H Q re -> r x y H Q) : PE X e (dE X.D E δ re) := by
 obtain ⟨ta, tb, A, B, q⟩ := q6Y ha hb h hr
 exact (hop _ _ A B).weak q
theorem q2T {r : List V -> Hp -> VK -> Prop} {k : List (DV × Cl) -> Option Re} {ra : Option Rs} {re : Re} (hop : ∀ t, PA X es t -> PE X e (tCB r t)) (ha : ∀ q, ra = some q -> PA X es (dA X.D E δ q)) (h : Rs.thn ra k = some re)
  (hr : ∀ O W H0 H vs Q l σ, k l = some re -> Hid O W H0 H -> GotL X.D O W H0 H l vs -> Post X.D E σ O W H0 H Q re -> r vs H Q) : PE X e (dE X.D E δ re) := by
 cases hra : ra with
 | none => rw [hra] at h; cases h
 | some q =>
  rw [hra] at h
  have A := ha q hra
  cases q with
  | ex c =>
   cases h
   exact (hop _ A).weak λ σ H Q ⟨O, W, R, p⟩ => ⟨O, W, R, p⟩
  | ok l =>
   have h' : k l = some re := h
   exact (hop _ A).weak λ σ H Q ⟨O, W, R, p⟩ => ⟨O, W, R, λ vs H1 s1 g1 => hr O W H H1 vs Q l σ h' (R.hid.mono s1) g1 (p.step s1)⟩
end
theorem q6g {D : Dm} {H : Hp} : ∀ {L : List (Addr × List Int)}, (∀ q ∈ L, H q.1 = some (.lst (q.2.map V.int))) -> RepL D H (L.map λ q => .lst (q.2.map DV.int)) (L.map λ q => .ref q.1)
 | [], _ => q0s.mpr rfl
 | q :: L, h => q0f.mpr ⟨_, _, rfl, q0q.mpr ⟨q.1, _, rfl, h q (List.mem_cons_self ..), q1E _⟩, q6g λ q' hq => h q' (List.mem_cons_of_mem _ hq)⟩
section
variable {X : Cx} {E : St -> XK} {δ : List Sv} {pos : Pos}
theorem z2x {i : Nat} {x : Str} {r : Re} (hN : X.N[i]? = some x) (hv : Vis X.env.scope x) (hd : (x == ("__debug__" : Str)) = false) (hcd : (x == ("__classdict__" : Str)) = false)
  (h : (match δ[i]? with | some (.val d) => some (Re.ok d .strong) | some (.own d) => some (.ok d .top) | some (.ot d) => some (.ok d .weak) | some (.o2 d) => some (.ok d .weak) | _ => none) = some r) : PE X (.Name x pos) (dE X.D E δ r) :=
 (q5E hN hv hd hcd).weak λ σ H Q ⟨O, W, R, p⟩ => by
  split at h
  ·rename_i d q
   cases h
   obtain ⟨v, e1, e2⟩ := R.val i d q
   exact ⟨v, e1, p v H (Same.refl H) e2⟩
  ·rename_i d q
   cases h
   obtain ⟨a, xs, ds, e0, e1, e2, e3, e4⟩ := R.own i d q
   subst e0
   refine ⟨.ref a, e1, p _ H (Same.refl H) ⟨a, xs, rfl, e2, ?_, e4⟩⟩
   rw [q0n (R.hid.dj a e2)]
   exact e3
  ·rename_i d q
   cases h
   obtain ⟨⟨t, ts, p1, xs, ds, es, e0, e1, e2, e3, e4, e5, e6, e7⟩, _⟩ := R.ot i d q
   subst e0
   have up : Same (L2.wo (O ++ W) H) (L2.wo O H) := q0x q5z
   refine ⟨.ref t, e1, p _ H (Same.refl H) (q0F.mpr ⟨t, _, rfl, up.tseq e2, q0f.mpr ⟨_, _, rfl, q0q.mpr ⟨p1, xs, rfl, ?_, e5.mono up⟩, e6.mono up⟩⟩ : Rep X.D (L2.wo O H) (.tup (.lst ds :: es)) (.ref t))⟩
   rw [q0n (R.hid.dj p1 e3)]
   exact e4
  ·rename_i d q
   cases h
   obtain ⟨⟨a, L, e0, e1, e2, _⟩, _, _⟩ := R.o2 i d q
   subst e0
   refine ⟨.ref a, e1, p _ H (Same.refl H) (q0q.mpr ⟨a, _, rfl, by rw [q0n (R.hid.dj a e2.1)]; exact e2.2.1, ?_⟩ : Rep X.D (L2.wo O H) (o2D L) (.ref a))⟩
   exact q6g λ q hq => by rw [q0n (R.hid.dj q.1 (e2.2.2.1 q hq).1)]; exact (e2.2.2.1 q hq).2
  ·cases h
theorem z2I {i : Int} {j : Nat} : PE X (.Constant (.int i) j pos) (dE X.D E δ (.ok (.int i) .strong)) := z1u.weak λ σ H Q ⟨O, W, R, p⟩ => p _ H (Same.refl H) q0G
theorem z5p {i : Bool} {j : Nat} : PE X (.Constant (.bool i) j pos) (dE X.D E δ (.ok (.bl i) .strong)) := z6G.weak λ σ H Q ⟨O, W, R, p⟩ => p _ H (Same.refl H) q5f
theorem z3s {i : Str} {j : Nat} (h : i.length <= sizeLine) : PE X (.Constant (.str i) j pos) (dE X.D E δ (.ok (.str i) .strong)) := z4P.weak λ σ H Q ⟨O, W, R, p⟩ => p _ H (Same.refl H) (q1N.mpr ⟨rfl, h⟩ : Rep X.D (L2.wo (O ++ W) H) (.str i) (.str i))
theorem z3e {j : Nat} : PE X (.Constant .none j pos) (dE X.D E δ (.ok .non .strong)) := z4p.weak λ σ H Q ⟨O, W, R, p⟩ => p _ H (Same.refl H) z1N
end
section
variable {X : Cx} {E : St -> XK} {δ : List Sv} {a b c e : Expr} {pos : Pos} {ra rb : Option Re} {re : Re}
theorem z0B {O W : List Addr} {H0 H : Hp} {C : Int -> Int -> Prop} {g : Int -> Int -> V} {x y : V} {Q : VK} {i j : Int} {ca cb : Cl} {D : Dm} (hd : Hid O W H0 H) (gx : Got D O W H0 H (.int i) ca x) (gy : Got D O W H0 H (.int j) cb y) (hc : C i j) (q : Q (g i j) H) : rI C g x y H Q :=
 ⟨i, j, gx.int hd, gy.int hd, hc, q⟩
theorem q9b {O W : List Addr} {H0 H : Hp} {g : Int -> Int -> V} {x y : V} {Q : VK} {i j : Int} {ca cb : Cl} {D : Dm} (hd : Hid O W H0 H) (gx : Got D O W H0 H (.int i) ca x) (gy : Got D O W H0 H (.int j) cb y) (q : Q (g i j) H) : rI0 g x y H Q :=
 ⟨i, j, gx.int hd, gy.int hd, q⟩
theorem z2m {ca cb : Cl} (h : ca ≠ .weak) (h' : cb ≠ .weak) : Cl.anew ca cb = .fresh := by
 cases ca <;> cases cb <;> first | rfl | exact absurd rfl h | exact absurd rfl h'
noncomputable def binR (X : Cx) : Operator -> R2
 | .Add => λ x y H Q => rI0 (λ i j => .int (i + j)) x y H Q \/ rCat x y H Q
 | .Sub => rI0 λ i j => .int (i - j)
 | .Mult => λ x y H Q => rI CMul (λ i j => .int (i * j)) x y H Q \/ rRep x y H Q
 | .Mod => rI (λ _ j => 0 < j) λ i j => .int (i % j)
 | .FloorDiv => rI CDiv λ i j => .int (i / j)
 | .RShift => rI (λ _ j => 0 <= j) λ i j => .int (i / 2 ^ j.toNat)
 | .BitAnd => rI0 λ i j => .int (Builtin.bitAnd i j)
 | _ => λ _ _ _ _ => False
theorem z4n {op : Operator} : OpR X (binaryOp op) (binR X op) := by
 cases op with
 | Add => exact z4T.or z3G
 | Sub => exact z5o
 | Mult => exact z4k.or z3C
 | Mod => exact z3A
 | FloorDiv => exact z2C
 | LShift => exact λ _ _ _ _ _ _ _ _ _ _ _ _ h => h.elim
 | RShift => exact z3Z
 | BitAnd => exact z3y
 | BitOr => exact λ _ _ _ _ _ _ _ _ _ _ _ _ h => h.elim
 | BitXor => exact λ _ _ _ _ _ _ _ _ _ _ _ _ h => h.elim
 | MatMult => exact λ _ _ _ _ _ _ _ _ _ _ _ _ h => h.elim
 | Div => exact λ _ _ _ _ _ _ _ _ _ _ _ _ h => h.elim
 | Pow => exact λ _ _ _ _ _ _ _ _ _ _ _ _ h => h.elim
theorem z3J {O W : List Addr} {H0 H : Hp} {op : Operator} {x y : V} {dx dy : DV} {cx cy : Cl} {Q : VK} {σ : St} (h : binD op dx dy cx cy = some re) (hd : Hid O W H0 H) (gx : Got X.D O W H0 H dx cx x) (gy : Got X.D O W H0 H dy cy y)
  (p : Post X.D E σ O W H0 H Q re) : binR X op x y H Q := by
 unfold binD at h
 split at h
 ·cases h; exact .inl (q9b hd gx gy (p _ H (Same.refl H) q0G))
 ·cases h; exact q9b hd gx gy (p _ H (Same.refl H) q0G)
 ·split at h
  ·rename_i m
   cases h
   refine .inl (z0B hd gx gy ?_ (p _ H (Same.refl H) q0G))
   unfold q3f at m
   simp only [Bool.or_eq_true, Bool.and_eq_true, decide_eq_true_eq] at m
   exact m
  ·cases h
 ·split at h
  ·rename_i m; cases h; exact z0B hd gx gy m (p _ H (Same.refl H) q0G)
  ·cases h
 ·split at h
  ·rename_i m; cases h; exact z0B hd gx gy m (p _ H (Same.refl H) q0G)
  ·cases h
 ·split at h
  ·rename_i m; cases h; exact z0B hd gx gy m (p _ H (Same.refl H) q0G)
  ·cases h
 ·cases h; exact q9b hd gx gy (p _ H (Same.refl H) q0G)
 ·rename_i xs ys
  split at h
  ·rename_i m
   cases h
   by_cases hw : cx ≠ .weak /\ cy ≠ .weak
   ·obtain ⟨l1, v1, e1, k1, r1⟩ := gx.items hd hw.1
    obtain ⟨l2, v2, e2, k2, r2⟩ := gy.items hd hw.2
    refine .inr (⟨l1, l2, v1, v2, e1, e2, k1, k2, by rw [r1.length, r2.length]; exact q1u m, λ q hq => p _ _ (q0r hq) ?_⟩)
    rw [z2m hw.1 hw.2]
    exact q1z hd hq (r1.append r2)
   ·obtain ⟨l1, v1, e1, k1, r1⟩ := gx.lst hd
    obtain ⟨l2, v2, e2, k2, r2⟩ := gy.lst hd
    refine .inr (⟨l1, l2, v1, v2, e1, e2, k1, k2, by rw [r1.length, r2.length]; exact q1u m, λ q hq => p _ _ (q0r hq) ?_⟩)
    have : Cl.anew cx cy = .weak := by
     cases cx <;> cases cy <;> first | rfl | exact absurd ⟨(by intro z; cases z), (by intro z; cases z)⟩ hw
    rw [this]
    exact q4A hd hq (r1.append r2)
  ·cases h
 ·rename_i xs k
  split at h
  ·rename_i m
   cases h
   obtain ⟨l1, v1, e1, k1, r1⟩ := gx.lstC hd
   refine .inr ⟨l1, k, v1, e1, gy.int hd, k1, m.2.1, m.2.2, by rw [r1.length]; exact q1u m.1, λ q hq => p _ _ (q0r hq) (q3p hd hq (r1.rep _))⟩
  ·cases h
 ·cases h
theorem z1I {op : Operator} (ha : ∀ q, ra = some q -> PE X a (dE X.D E δ q)) (hb : ∀ q, rb = some q -> PE X b (dE X.D E δ q)) (h : (Re.thn ra λ x cx => Re.thn rb λ y cy => binD op x y cx cy) = some re) : PE X (.BinOp a op b pos) (dE X.D E δ re) :=
 q8k (λ _ _ => z6z z4n) ha hb h λ O W H0 H x y Q dx cx dy cy σ k hd gx gy p => z3J k hd gx gy p
theorem z3j (ha : ∀ q, ra = some q -> PE X a (dE X.D E δ q)) (h : (Re.thn ra λ x _ => match x with | .int i => some (.ok (.int (-i)) .strong) | _ => none) = some re) : PE X (.UnaryOp .USub a pos) (dE X.D E δ re) :=
 z1h (λ _ => z6A z5i) ha h λ O W H0 H x Q dx cx σ k hd gx p => by
  split at k
  ·cases k; exact ⟨_, gx.int hd, p _ H (Same.refl H) q0G⟩
  ·cases k
theorem z4v {ds : List DV} {i : Int} : atD ds i = L2.atI ds i := rfl
theorem RepL.atI {D : Dm} {H : Hp} {ds : List DV} {xs : List V} {i : Int} {d : DV} (h : RepL D H ds xs) (e : atD ds i = some d) : ∃ v, L2.atI xs i = some v /\ Rep D H d v := by
 rw [z4v] at e
 unfold L2.atI at e ⊢
 rw [h.length]
 cases q : ixN ds.length i with
 | none => rw [q] at e; cases e
 | some j =>
  rw [q] at e
  exact h.get e
theorem z6h {O W : List Addr} {H0 H : Hp} {x y : V} {dx dy : DV} {cx cy : Cl} {Q : VK} {σ : St} (h : ((ixD dx dy).map λ d => Re.ok d cx.item) = some re) (hd : Hid O W H0 H) (gx : Got X.D O W H0 H dx cx x) (gy : Got X.D O W H0 H dy cy y)
  (p : Post X.D E σ O W H0 H Q re) : rIx X.K x y H Q := by
 obtain ⟨d, h1, h2⟩ := Option.map_eq_some_iff.mp h
 cases h2
 unfold ixD at h1
 split at h1
 ·rename_i ns i
  obtain ⟨a, e1, e2⟩ := q1B.mp (gx.all hd)
  obtain ⟨n, h3, h4⟩ := Option.map_eq_some_iff.mp h1
  cases h4
  have q : L2.atI (ns.map V.int) i = some (.int n) := by
   unfold L2.atI
   rw [List.length_map]
   have h3' : ((ixN ns.length i).bind λ j => ns[j]?) = some n := h3
   cases z : ixN ns.length i with
   | none => rw [z] at h3'; cases h3'
   | some j =>
    rw [z] at h3'
    have h5 : ns[j]? = some n := h3'
    show (ns.map V.int)[j]? = _
    rw [List.getElem?_map, h5]; rfl
  refine .inl ⟨a, _, i, _, e1, gy.int hd, e2.sq, q, p _ H (Same.refl H) ?_⟩
  cases cx <;> exact q0G
 ·obtain ⟨a, xs, e1, e2, e3⟩ := gx.lstC hd
  obtain ⟨v, q1, q2⟩ := e3.atI h1
  exact .inl ⟨a, xs, _, v, e1, gy.int hd, SqL.of e2, q1, p _ H (Same.refl H) (Got.item q2)⟩
 ·obtain ⟨a, xs, e1, e2, e3⟩ := gx.tupC hd
  obtain ⟨v, q1, q2⟩ := e3.atI h1
  exact .inr (.inl ⟨a, xs, _, v, e1, gy.int hd, e2, q1, p _ H (Same.refl H) (Got.item q2)⟩)
 ·rename_i z i
  obtain ⟨e1, e2⟩ := gx.str hd
  cases q : q1T z.cps.size i with
  | none => rw [q] at h1; cases h1
  | some j =>
   rw [q] at h1
   obtain ⟨ch, h3, h4⟩ := Option.map_eq_some_iff.mp (show ((z.cps[j]?).map λ c => DV.str ⟨#[c]⟩) = some d from h1)
   cases h4
   refine .inr (.inr ⟨z, i, ch, e1, gy.int hd, e2, ?_, p _ H (Same.refl H) ?_⟩)
   ·unfold L2.atI
    have : ixN z.cps.toList.length i = some j := by rw [Array.length_toList]; exact q
    rw [this]
    show z.cps.toList[j]? = some ch
    rw [Array.getElem?_toList]; exact h3
   ·have one : Rep X.D (L2.wo (O ++ W) H) (.str ⟨#[ch]⟩) (.str ⟨#[ch]⟩) := q1N.mpr ⟨rfl, by show (1 : Nat) <= sizeLine; decide⟩
    have one' : Rep X.D (L2.wo O H) (.str ⟨#[ch]⟩) (.str ⟨#[ch]⟩) := q1N.mpr ⟨rfl, by show (1 : Nat) <= sizeLine; decide⟩
    cases cx <;> first | exact one | exact one'
 ·rename_i ks vs k
  exact absurd (gx.all hd) q4J
 ·cases h1
theorem z3O (ha : ∀ q, ra = some q -> PE X a (dE X.D E δ q)) (hb : ∀ q, rb = some q -> PE X b (dE X.D E δ q)) (hs : q4u b = false) (h : (Re.thn ra λ x cx => Re.thn rb λ y _ => (ixD x y).map λ d => .ok d cx.item) = some re) : PE X (.Subscript a b pos) (dE X.D E δ re) :=
 q8k (λ _ _ h1 h2 => z4d z5s h1 h2 (by cases b <;> first | (intro _ _; rfl) | cases hs)) ha hb h λ O W H0 H x y Q dx cx dy cy σ k hd gx gy p => z6h k hd gx gy p
theorem q4T (n d : Nat) (o : Option Int) : slIx n d o = HT.sIx n d o := by cases o <;> rfl
theorem RepL.cut {D : Dm} {H : Hp} {ds : List DV} {xs : List V} (h : RepL D H ds xs) (lo hi : Option Int) : RepL D H (cutD ds lo hi) (cutV xs lo hi) := by
 unfold cutD cutV
 rw [q4T, q4T, ← h.length]
 exact (h.drop _).take _
theorem z6c {O W : List Addr} {H0 H : Hp} {x : V} {dx : DV} {cx : Cl} {Q : VK} {σ : St} {lo hi : Option Int} (h : ((slD dx lo hi).map λ d => Re.ok d (slCl dx cx)) = some re) (hd : Hid O W H0 H) (gx : Got X.D O W H0 H dx cx x)
  (p : Post X.D E σ O W H0 H Q re) : rSlL X.K x lo hi H Q \/ rSlT X.K x lo hi H Q := by
 obtain ⟨d, h1, h2⟩ := Option.map_eq_some_iff.mp h
 cases h2
 unfold slD at h1
 split at h1
 ·rename_i ns
  cases h1
  obtain ⟨a, e1, e2⟩ := q1B.mp (gx.all hd)
  exact .inl ⟨a, _, e1, e2.sq, λ q hq => p _ _ (q0r hq) (q1z hd hq ((q1E ns).cut lo hi))⟩
 ·cases h1
  obtain ⟨a, xs, e1, e2, e3⟩ := gx.lstC hd
  exact .inl ⟨a, xs, e1, SqL.of e2, λ q hq => p _ _ (q0r hq) (q3p hd hq (e3.cut lo hi))⟩
 ·rename_i ds
  split at h1
  ·cases h1
  ·rename_i m
   cases h1
   obtain ⟨a, xs, e1, e2, e3⟩ := gx.tupC hd
   refine .inr ⟨a, xs, e1, e2, ?_, λ q hq => p _ _ (q0r hq) (q7b hd hq (e3.cut lo hi))⟩
   rw [q4T, q4T, ← e3.length] at m
   exact m
 ·cases h1
theorem q6Q : SlR X (λ x lo hi H Q => rSlL X.K x lo hi H Q \/ rSlT X.K x lo hi H Q) := z2V.or z4R
theorem q9c {i : Int} {cl : Cl} (h : PE X b (dE X.D E δ (.ok (.int i) cl))) : PO X (some b) (λ σ H Q => ∃ O W, RSt X.D H σ δ O W /\ ∀ H', Same H H' -> Q (some i) H') := λ pins s σ H Q I ⟨O, W, R, p⟩ =>
 q8q h pins s σ H Q I ⟨O, W, R, λ v H' s1 g => ⟨i, g.int (R.hid.mono s1), p H' s1⟩⟩
theorem z4c {c : Str} (h : PE X b (dE X.D E δ (.ex c))) : PO X (some b) (λ σ H Q => ∃ O W, RSt X.D H σ δ O W /\ Post X.D E σ O W H H (λ _ _ => False) (.ex c)) := λ pins s σ H Q I ⟨O, W, R, p⟩ =>
 q8q h pins s σ H Q I ⟨O, W, R, p⟩
theorem q4X {o : Option Expr} : PO X o (λ _ _ _ => False) := λ _ _ _ _ _ _ h => h.elim
theorem z3V {p2 : Pos} {rc : Option Re} (ha : ∀ q, ra = some q -> PE X a (dE X.D E δ q)) (hb : ∀ q, rb = some q -> PE X b (dE X.D E δ q)) (hc : ∀ q, rc = some q -> PE X c (dE X.D E δ q)) (h : (Re.thn ra λ x cx => Re.thn rb λ l _ => match l with
  | .int l => Re.thn rc λ u _ => (match u with
   | .int u => (slD x (some l) (some u)).map λ d => .ok d (slCl x cx) | _ => none) | _ => none) = some re) : PE X (.Subscript a (.Slice (some b) (some c) none p2) pos) (dE X.D E δ re) := by
 cases hra : ra with
 | none => rw [hra] at h; cases h
 | some q =>
  rw [hra] at h
  have A := ha q hra
  cases q with
  | ex c => cases h; exact (q3v q6Q A q4X q4X).weak λ σ H Q ⟨O, W, R, p⟩ => ⟨O, W, R, p⟩
  | ok dx cx =>
   cases hrb : rb with
   | none => rw [hrb] at h; cases h
   | some q =>
    rw [hrb] at h
    have B := hb q hrb
    cases q with
    | ex c => cases h; exact (q3v q6Q A (z4c B) q4X).weak λ σ H Q ⟨O, W, R, p⟩ => ⟨O, W, R, λ x H1 s1 g1 => ⟨O, W, R.mono s1, λ H' C m s => p H' C m (s1.trans s)⟩⟩
    | ok dy cy =>
     have h' : (match (generalizing := false) dy with | .int l => Re.thn rc λ u _ => (match u with | .int u => (slD dx (some l) (some u)).map λ d => Re.ok d (slCl dx cx) | _ => none) | _ => none) = some re := h
     split at h'
     ·rename_i l
      cases hrc : rc with
      | none => rw [hrc] at h'; cases h'
      | some q =>
       rw [hrc] at h'
       have C := hc q hrc
       cases q with
       | ex c' =>
        cases h'
        exact (q3v q6Q A (q9c B) (z4c C)).weak λ σ H Q ⟨O, W, R, p⟩ => ⟨O, W, R, λ x H1 s1 g1 => ⟨O, W, R.mono s1, λ H2 s2 => ⟨O, W, (R.mono s1).mono s2, λ H' C m s => p H' C m (s1.trans (s2.trans s))⟩⟩⟩
       | ok dz cz =>
        have h2 : (match (generalizing := false) dz with | .int u => (slD dx (some l) (some u)).map λ d => Re.ok d (slCl dx cx) | _ => none) = some re := h'
        split at h2
        ·rename_i u
         exact (q3v q6Q A (q9c B) (q9c C)).weak λ σ H Q ⟨O, W, R, p⟩ => ⟨O, W, R, λ x H1 s1 g1 => ⟨O, W, R.mono s1, λ H2 s2 => ⟨O, W, (R.mono s1).mono s2, λ H3 s3 => z6c h2 (((R.hid.mono s1).mono s2).mono s3) ((g1.mono s2).mono s3) (p.step (s1.trans (s2.trans s3)))⟩⟩⟩
        ·cases h2
     ·cases h'
end
end L2
end
section
namespace L2
open PySem PySem.Spec PyProof.Rows
mutual
noncomputable def toP : DV -> PyData
 | .non => .none | .bl b => .bool b | .int i => .int i | .str x => .str x
 | .tup ds => .tuple (toPs ds) | .lst ds => .list (toPs ds)
 | _ => .none
noncomputable def toPs : List DV -> List PyData
 | [] => []
 | d :: r => toP d :: toPs r
end
mutual
theorem q3A : ∀ (n m : Nat) (d e : DV), d.plain n = true -> e.plain m = true -> PyData.eqv (toP d) (toP e) = deq d e
 | n, m, .non, e, _, h => by cases e <;> first | (cases m <;> simp [DV.plain] at h; done) | (simp only [toP, PyData.eqv, deq])
 | n, m, .bl _, e, _, h => by cases e <;> first | (cases m <;> simp [DV.plain] at h; done) | (simp only [toP, PyData.eqv, deq])
 | n, m, .int _, e, _, h => by cases e <;> first | (cases m <;> simp [DV.plain] at h; done) | (simp only [toP, PyData.eqv, deq])
 | n, m, .str x, e, _, h => by
  cases e with
  | str y => simp only [toP, PyData.eqv, deq]; rfl
  | non => simp only [toP, PyData.eqv, deq]
  | bl _ => simp only [toP, PyData.eqv, deq]
  | int _ => simp only [toP, PyData.eqv, deq]
  | tup _ => simp only [toP, PyData.eqv, deq]
  | lst _ => simp only [toP, PyData.eqv, deq]
  | dct _ _ => cases m <;> simp [DV.plain] at h
  | exc _ => cases m <;> simp [DV.plain] at h
  | fn _ => cases m <;> simp [DV.plain] at h
  | scr _ => cases m <;> simp [DV.plain] at h
 | 0, _, .tup _, _, h, _ => by simp [DV.plain] at h
 | 0, _, .lst _, _, h, _ => by simp [DV.plain] at h
 | n + 1, m, .tup ds, e, h, h' => by
  cases e with
  | tup es =>
   cases m with
   | zero => simp [DV.plain] at h'
   | succ m =>
    simp only [toP, PyData.eqv, deq]
    exact q4L n m ds es (by simpa [DV.plain] using h) (by simpa [DV.plain] using h')
  | non => simp only [toP, PyData.eqv, deq]
  | bl _ => simp only [toP, PyData.eqv, deq]
  | int _ => simp only [toP, PyData.eqv, deq]
  | str _ => simp only [toP, PyData.eqv, deq]
  | lst _ => simp only [toP, PyData.eqv, deq]
  | dct _ _ => cases m <;> simp [DV.plain] at h'
  | exc _ => cases m <;> simp [DV.plain] at h'
  | fn _ => cases m <;> simp [DV.plain] at h'
  | scr _ => cases m <;> simp [DV.plain] at h'
 | n + 1, m, .lst ds, e, h, h' => by
  cases e with
  | lst es =>
   cases m with
   | zero => simp [DV.plain] at h'
   | succ m =>
    simp only [toP, PyData.eqv, deq]
    exact q4L n m ds es (by simpa [DV.plain] using h) (by simpa [DV.plain] using h')
  | non => simp only [toP, PyData.eqv, deq]
  | bl _ => simp only [toP, PyData.eqv, deq]
  | int _ => simp only [toP, PyData.eqv, deq]
  | str _ => simp only [toP, PyData.eqv, deq]
  | tup _ => simp only [toP, PyData.eqv, deq]
  | dct _ _ => cases m <;> simp [DV.plain] at h'
  | exc _ => cases m <;> simp [DV.plain] at h'
  | fn _ => cases m <;> simp [DV.plain] at h'
  | scr _ => cases m <;> simp [DV.plain] at h'
 | n, _, .dct _ _, _, h, _ => by cases n <;> simp [DV.plain] at h
 | n, _, .exc _, _, h, _ => by cases n <;> simp [DV.plain] at h
 | n, _, .fn _, _, h, _ => by cases n <;> simp [DV.plain] at h
 | n, _, .scr _, _, h, _ => by cases n <;> simp [DV.plain] at h
theorem q4L : ∀ (n m : Nat) (ds es : List DV), DV.plains n ds = true -> DV.plains m es = true -> PyData.eqvAll (toPs ds) (toPs es) = deqs ds es
 | _, _, [], [], _, _ => by simp only [toPs, PyData.eqvAll, deqs]
 | _, _, [], _ :: _, _, _ => by simp only [toPs, PyData.eqvAll, deqs]
 | _, _, _ :: _, [], _, _ => by simp only [toPs, PyData.eqvAll, deqs]
 | n, m, d :: ds, e :: es, h, h' => by
  simp only [DV.plains, Bool.and_eq_true] at h h'
  simp only [toPs, PyData.eqvAll, deqs, q3A n m d e h.1 h'.1, q4L n m ds es h.2 h'.2]
end
mutual
theorem q3y : ∀ (n : Nat) (d : DV), d.plain n = true -> (toP d).canLay0 = true /\ (toP d).depth <= n
 | n, .non, _ => by simp [toP, PyData.canLay0, PyData.depth]
 | n, .bl _, _ => by simp [toP, PyData.canLay0, PyData.depth]
 | n, .int _, _ => by simp [toP, PyData.canLay0, PyData.depth]
 | n, .str x, h => by
  have h' : (x.cps.all (· < 0x110000)) = true := by cases n <;> simpa [DV.plain] using h
  simp only [toP, PyData.canLay0, PyData.depth]
  exact ⟨h', Nat.zero_le _⟩
 | 0, .tup _, h => by simp [DV.plain] at h
 | 0, .lst _, h => by simp [DV.plain] at h
 | n + 1, .tup ds, h => by
  have q := q2s n ds (by simpa [DV.plain] using h)
  simp only [toP, PyData.canLay0, PyData.depth, q.1, true_and]
  have := q.2
  omega
 | n + 1, .lst ds, h => by
  have q := q2s n ds (by simpa [DV.plain] using h)
  simp only [toP, PyData.canLay0, PyData.depth, q.1, true_and]
  have := q.2
  omega
 | n, .dct _ _, h => by cases n <;> simp [DV.plain] at h
 | n, .exc _, h => by cases n <;> simp [DV.plain] at h
 | n, .fn _, h => by cases n <;> simp [DV.plain] at h
 | n, .scr _, h => by cases n <;> simp [DV.plain] at h
theorem q2s : ∀ (n : Nat) (ds : List DV), DV.plains n ds = true -> PyData.canLayAll0 (toPs ds) = true /\ PyData.depthAll (toPs ds) <= n
 | _, [], _ => by simp [toPs, PyData.canLayAll0, PyData.depthAll]
 | n, d :: ds, h => by
  simp only [DV.plains, Bool.and_eq_true] at h
  have q := q3y n d h.1
  have q' := q2s n ds h.2
  simp only [toPs, PyData.canLayAll0, PyData.depthAll, q.1, q'.1, Bool.and_self, true_and]
  have a := q.2
  have b := q'.2
  omega
end
section
variable {X : Cx} {pins : List (Addr × Obj)} {σ : St} {H : Hp} {s : Shared}
mutual
theorem q0W (I : Inv X pins σ H s) : ∀ (n : Nat) {d : DV} {v : V} {u : Value}, d.plain n = true -> Rep X.D H d v -> RelV v u -> ∃ as, Reads s.heap u (toP d) as
 | _, .non, _, _, _, h, r => by rw [q2D.mp h] at r; cases r; exact ⟨_, Reads.none⟩
 | _, .bl b, _, _, _, h, r => by rw [q3U.mp h] at r; cases r; exact ⟨_, Reads.bool b⟩
 | _, .int i, _, _, _, h, r => by rw [q0N.mp h] at r; obtain ⟨t, rfl⟩ := r; exact ⟨_, Reads.int i t⟩
 | _, .str x, _, _, _, h, r => by rw [(q1N.mp h).1] at r; obtain ⟨t, rfl⟩ := r; exact ⟨_, Reads.str x t⟩
 | 0, .tup _, _, _, p, _, _ => by simp [DV.plain] at p
 | 0, .lst _, _, _, p, _, _ => by simp [DV.plain] at p
 | n + 1, .tup ds, _, _, p, h, r => by
  obtain ⟨a, xs, e1, e2, e3⟩ := q0F.mp h
  rw [e1] at r; cases r
  obtain ⟨its, rv, ⟨o, h1, h2, k, h3⟩, _⟩ := I.tuple e2
  obtain ⟨as, q⟩ := q3L I n (by simpa [DV.plain] using p) e3 rv
  rw [toP]
  exact ⟨as, Reads.tuple h1 h2 h3 (by simpa using q)⟩
 | n + 1, .lst ds, _, _, p, h, r => by
  obtain ⟨a, xs, e1, e2, e3⟩ := q0q.mp h
  rw [e1] at r; cases r
  obtain ⟨_, its, k, rv, _, h1⟩ := I.lstM e2
  obtain ⟨as, q⟩ := q3L I n (by simpa [DV.plain] using p) e3 rv
  rw [toP]
  exact ⟨_, Reads.list h1 rfl rfl (by simpa using q)⟩
 | n, .dct _ _, _, _, h, _, _ => by cases n <;> simp [DV.plain] at h
 | n, .exc _, _, _, h, _, _ => by cases n <;> simp [DV.plain] at h
 | n, .fn _, _, _, h, _, _ => by cases n <;> simp [DV.plain] at h
 | n, .scr _, _, _, h, _, _ => by cases n <;> simp [DV.plain] at h
theorem q3L (I : Inv X pins σ H s) : ∀ (n : Nat) {ds : List DV} {vs : List V} {us : List Value}, DV.plains n ds = true -> RepL X.D H ds vs -> Vals vs us -> ∃ as, ReadsAll s.heap us (toPs ds) as
 | _, [], _, _, _, h, r => by rw [q0s.mp h] at r; cases r; exact ⟨_, ReadsAll.nil⟩
 | n, d :: ds, _, _, p, h, r => by
  simp only [DV.plains, Bool.and_eq_true] at p
  obtain ⟨v, vs, e1, e2, e3⟩ := q0f.mp h
  subst e1
  cases r with
  | cons r1 r2 =>
   obtain ⟨as, q⟩ := q0W I n p.1 e2 r1
   obtain ⟨bs, q'⟩ := q3L I n p.2 e3 r2
   rw [toPs]
   exact ⟨_, ReadsAll.cons q q'⟩
end
theorem q2J {d : DV} (h : d.plain 60 = true) : SeqAt.shaped (toP d) = true := by
 have q := q3y 60 d h
 unfold SeqAt.shaped
 rw [q.1, Bool.true_and]
 exact decide_eq_true (Nat.le_trans q.2 (by decide))
theorem q8f {d : DV} (h : d.plain 60 = true) : ∀ (ds : List DV), DV.plains 60 ds = true -> ((toPs ds).any λ y => PyData.eqv y (toP d)) = ds.any λ x => deq x d
 | [], _ => rfl
 | e :: ds, p => by
  simp only [DV.plains, Bool.and_eq_true] at p
  rw [toPs, List.any_cons, List.any_cons, q3A 60 60 e d p.1 h, q8f h ds p.2]
end
section
variable {X : Cx} {E : St -> XK} {δ : List Sv} {a b c e : Expr} {pos : Pos} {ra rb rc : Option Re} {re : Re}
noncomputable def cmpR (X : Cx) (op : CmpOp) : R2 := λ x y H Q => ∃ dx dy k, cmpD op dx dy = some k /\ Rep X.D H dx x /\ Rep X.D H dy y /\ Q (.bl k) H
theorem z0Z {D : Dm} {H : Hp} {d : DV} {v : V} (r : Rep D H d v) : decide (v = .non) = isN d := by
 cases d with
 | non => rw [q2D.mp r]; rfl
 | bl _ => rw [q3U.mp r]; rfl
 | int _ => rw [q0N.mp r]; rfl
 | str _ => rw [(q1N.mp r).1]; rfl
 | tup _ => obtain ⟨a, xs, e, _⟩ := q0F.mp r; rw [e]; rfl
 | lst _ => obtain ⟨a, xs, e, _⟩ := q0q.mp r; rw [e]; rfl
 | exc _ => obtain ⟨a, C, e, _⟩ := z2Q.mp r; rw [e]; rfl
 | fn _ => obtain ⟨a, e, _⟩ := z4H.mp r; rw [e]; rfl
 | scr _ => obtain ⟨a, e, _⟩ := q1B.mp r; rw [e]; rfl
 | dct _ _ => exact absurd r q4J
theorem z1a {op : CmpOp} (hu : X.A.units + 64 < cLine) : OpR X (compareOp op) (cmpR X op) := by
 intro pins s σ H x y v u Q I rx ry h
 obtain ⟨dx, dy, k, hk, r1, r2, q⟩ := h
 have fin : ∀ {k' : Bool}, k' = k -> EP X pins σ Q (.bool k') s := λ {k'} e => ⟨.bl k', H, I, rfl, by rw [e]; exact q⟩
 unfold cmpD at hk
 split at hk
 ·cases hk; exact z5W pins s σ H x y v u Q I rx ry ⟨_, _, q0N.mp r1, q0N.mp r2, q⟩
 ·cases hk; exact z6B pins s σ H x y v u Q I rx ry ⟨_, _, q0N.mp r1, q0N.mp r2, q⟩
 ·cases hk; exact z6k pins s σ H x y v u Q I rx ry ⟨_, _, q0N.mp r1, q0N.mp r2, q⟩
 ·split at hk
  ·rename_i p
   rw [Bool.and_eq_true] at p
   cases hk
   obtain ⟨as, q1⟩ := q0W I 60 p.1 r1 rx
   obtain ⟨bs, q2⟩ := q0W I 60 p.2 r2 ry
   exact eq_dataH q1 q2 (q2J p.1) (q2J p.2) hu (fin (q3A 60 60 _ _ p.1 p.2))
  ·cases hk
 ·split at hk
  ·rename_i p
   rw [Bool.and_eq_true] at p
   cases hk
   obtain ⟨as, q1⟩ := q0W I 60 p.1 r1 rx
   obtain ⟨bs, q2⟩ := q0W I 60 p.2 r2 ry
   exact ne_dataH q1 q2 (q2J p.1) (q2J p.2) hu (fin (by rw [q3A 60 60 _ _ p.1 p.2]))
  ·cases hk
 ·cases hk; exact z4K pins s σ H x y v u Q I rx ry ⟨q2D.mp r2, by rw [z0Z r1]; exact q⟩
 ·cases hk; exact z1E pins s σ H x y v u Q I rx ry ⟨q2D.mp r2, by rw [z0Z r1]; exact q⟩
 ·rename_i ds
  split at hk
  ·rename_i p
   rw [Bool.and_eq_true] at p
   cases hk
   obtain ⟨as, q1⟩ := q0W I 60 p.1 r1 rx
   obtain ⟨bs, q2⟩ := q0W I 61 (d := .lst ds) (by simpa [DV.plain] using p.2) r2 ry
   rw [toP] at q2
   have l1 := q3y 60 _ p.1
   have l2 := q2s 60 ds p.2
   have l3 := l1.2
   exact SeqAt.notIn_list_reads q2 q1 l2.1 l1.1 (by omega) (fin (by rw [q8f p.1 ds p.2]))
  ·cases hk
 ·cases hk
theorem q5x {op : CmpOp} {b : Expr} (h : q3d b = false) : behindInMarks op b = false := by
 cases b <;> first | rfl | cases h
theorem z1Q {op : CmpOp} (hu : X.A.units + 64 < cLine) (ha : ∀ q, ra = some q -> PE X a (dE X.D E δ q)) (hb : ∀ q, rb = some q -> PE X b (dE X.D E δ q)) (hs : q3d b = false)
  (h : (Re.thn ra λ x _ => Re.thn rb λ y _ => (cmpD op x y).map λ k => .ok (.bl k) .strong) = some re) : PE X (.Compare a [op] [b] pos) (dE X.D E δ re) :=
 q8k (λ _ _ h1 h2 => z1P (z1a hu) h1 h2 (q5x hs)) ha hb h λ O W H0 H x y Q dx cx dy cy σ k hd gx gy p => by
  obtain ⟨k', e1, e2⟩ := Option.map_eq_some_iff.mp k
  cases e2
  exact ⟨dx, dy, k', e1, gx.all hd, gy.all hd, p _ H (Same.refl H) q5f⟩
theorem q9m {op : CmpOp} (ha : ∀ q, ra = some q -> PE X a (dE X.D E δ q)) (hb : ∀ q, rb = some q -> PE X b (dE X.D E δ q))
  (h : (Re.thn ra λ x _ => Re.thn rb λ y _ => (cmpD op x y).map λ k => .ok (.bl k) .strong) = some re) : ∃ ta tb, PE X a ta /\ PE X b tb /\ ∀ σ H Q, dE X.D E δ re σ H Q -> tOp (cmpR X op) ta tb σ H Q :=
 q6Y ha hb h λ O W H0 H x y Q dx cx dy cy σ k hd gx gy p => by
  obtain ⟨k', e1, e2⟩ := Option.map_eq_some_iff.mp k
  cases e2
  exact ⟨dx, dy, k', e1, gx.all hd, gy.all hd, p _ H (Same.refl H) q5f⟩
theorem z3Y {r : Rt} {σ : St} {H : Hp} {Q : Bool -> Hp -> Prop} (hb : ∀ d c, re = .ok d c -> ∃ k, d = .bl k) (h : tstD (some re) = some r) (q : dT X.D E δ r σ H Q) : dE X.D E δ re σ H (λ x H' => ∃ k, x = .bl k /\ Q k H') := by
 obtain ⟨O, W, R, p⟩ := q
 cases re with
 | ex c => cases h; exact ⟨O, W, R, p⟩
 | ok d c =>
  obtain ⟨k, rfl⟩ := hb d c rfl
  cases h
  exact ⟨O, W, R, λ v H' s g => ⟨k, g.bl (R.hid.mono s), p H' s⟩⟩
theorem z5f {op : CmpOp} (h : (Re.thn ra λ x _ => Re.thn rb λ y _ => (cmpD op x y).map λ k => .ok (.bl k) .strong) = some re) : ∀ d c, re = .ok d c -> ∃ k, d = .bl k := by
 intro d c e
 subst e
 cases ra with
 | none => cases h
 | some q =>
  cases q with
  | ex c => cases h
  | ok d c =>
   cases rb with
   | none => cases h
   | some q =>
    cases q with
    | ex c => cases h
    | ok d' c' =>
     obtain ⟨k, _, e⟩ := Option.map_eq_some_iff.mp (show ((cmpD op d d').map λ k => Re.ok (.bl k) .strong) = _ from h)
     cases e
     exact ⟨k, rfl⟩
theorem q9L {op : CmpOp} {r : Rt} (hu : X.A.units + 64 < cLine) (ha : ∀ q, ra = some q -> PE X a (dE X.D E δ q)) (hb : ∀ q, rb = some q -> PE X b (dE X.D E δ q)) (hs : q3d b = false)
  (h : tstD (Re.thn ra λ x _ => Re.thn rb λ y _ => (cmpD op x y).map λ k => .ok (.bl k) .strong) = some r) : PT X (.Compare a [op] [b] pos) (dT X.D E δ r) := by
 cases q : (Re.thn ra λ x _ => Re.thn rb λ y _ => (cmpD op x y).map λ k => Re.ok (.bl k) .strong) with
 | none => rw [q] at h; cases h
 | some re =>
  rw [q] at h
  obtain ⟨ta, tb, A, B, w⟩ := q9m ha hb q
  exact (z2R (z1a hu) A B (q5x hs)).weak λ σ H Q z => w σ H _ (z3Y (z5f q) h z)
end
section
variable {X : Cx} {E : St -> XK} {δ : List Sv} {a b c e : Expr} {es : List Expr} {pos : Pos} {ra : Option Re} {rt ru : Option Rt} {r : Rt} {re : Re}
theorem q4j {D : Dm} {H : Hp} {d : DV} {v : V} {k : Bool} (h : q2m d = some k) (r : Rep D H d v) : TruV D.K v H k := by
 cases d with
 | non => cases h; rw [q2D.mp r]; rfl
 | bl b => cases h; rw [q3U.mp r]; rfl
 | int i => cases h; rw [q0N.mp r]; rfl
 | str x =>
  cases h
  obtain ⟨e1, e2⟩ := q1N.mp r
  rw [e1]
  refine ⟨e2, ?_⟩
  show (x.cps.size != 0) = (((x.cps.size : Nat) : Int) != 0)
  cases x.cps.size with
  | zero => rfl
  | succ n => simp only [bne, Nat.add_eq_zero_iff]; rw [Bool.eq_iff_iff]; simp; omega
 | tup ds =>
  cases h
  obtain ⟨a, xs, e1, e2, e3⟩ := q0F.mp r
  rw [e1]
  refine .inr (.inl ⟨xs, e2, ?_⟩)
  have := e3.length
  cases xs <;> cases ds <;> first | rfl | cases this
 | lst ds =>
  cases h
  obtain ⟨a, xs, e1, e2, e3⟩ := q0q.mp r
  rw [e1]
  refine .inl ⟨xs, SqL.of e2, ?_⟩
  have := e3.length
  cases xs <;> cases ds <;> first | rfl | cases this
 | dct _ _ => exact absurd r q4J
 | exc _ => cases h
 | fn _ => cases h
 | scr _ => cases h
theorem q8d (ha : ∀ q, ra = some q -> PE X e (dE X.D E δ q)) (he : ∀ whole, isTrue e X.env whole = (do let v ← whole; standAt e.pos; holding [v] (truthy v))) (h : tstD ra = some r) : PT X e (dT X.D E δ r) := by
 cases hra : ra with
 | none => rw [hra] at h; cases h
 | some q =>
  rw [hra] at h
  have A := ha q hra
  cases q with
  | ex c => cases h; exact (q6y A he).weak λ σ H Q ⟨O, W, R, p⟩ => ⟨O, W, R, p⟩
  | ok d cl =>
   obtain ⟨k, e1, e2⟩ := Option.map_eq_some_iff.mp (show (q2m d).map Rt.ok = some r from h)
   cases e2
   exact (q6y A he).weak λ σ H Q ⟨O, W, R, p⟩ => ⟨O, W, R, λ x H1 s1 g1 => ⟨k, q4j e1 (g1.all (R.hid.mono s1)), p H1 s1⟩⟩
theorem z1B {ta : TE} (ha : PE X a ta) : PE X (.UnaryOp .Not a pos) (tUn (λ x H Q => ∃ k, TruV X.K x H k /\ Q (.bl (!k)) H) ta) := by
 intro pins s σ H Q I h
 refine UnaryOp_ (thn (ha pins s σ H _ I h) λ v s1 ⟨x, H1, I1, r1, q1⟩ => ?_)
 obtain ⟨k, t, q1⟩ := q1
 exact not_of (thn (q6w pins s1 σ H1 x v (λ b H' => b = k /\ H' = H1) I1 r1 ⟨k, t, rfl, rfl⟩) λ b s2 ⟨H2, I2, e1, e2⟩ => by
  subst e1 e2
  exact ⟨.bl (!b), H2, I2, rfl, q1⟩)
theorem z1R (ha : ∀ q, ra = some q -> PE X a (dE X.D E δ q)) (h : (Re.thn ra λ x _ => (q2m x).map λ k => .ok (.bl (!k)) .strong) = some re) : PE X (.UnaryOp .Not a pos) (dE X.D E δ re) :=
 z1h (λ _ => z1B) ha h λ O W H0 H x Q dx cx σ k hd gx p => by
  obtain ⟨b, e1, e2⟩ := Option.map_eq_some_iff.mp k
  cases e2
  exact ⟨b, q4j e1 (gx.all hd), p _ H (Same.refl H) q5f⟩
theorem q6j {ta tb : TE} (ha : PE X a ta) (hb : PE X (.BoolOp .And (b :: es) pos) tb) : PE X (.BoolOp .And (a :: b :: es) pos) (λ σ H Q => ta σ H λ x H1 => ∃ k, TruV X.K x H1 k /\ if k = true then tb σ H1 Q else Q x H1) := by
 intro pins s σ H Q I h
 refine BoolOp_and (thn (ha pins s σ H _ I h) λ v s1 ⟨x, H1, I1, r1, q1⟩ => ?_)
 obtain ⟨k, t, q1⟩ := q1
 refine thn (q6w pins s1 σ H1 x v (λ b H' => b = k /\ H' = H1) I1 r1 ⟨k, t, rfl, rfl⟩) λ c s2 ⟨H2, I2, e1, e2⟩ => ?_
 subst e1 e2
 cases c with
 | true => exact hb pins s2 σ H2 Q I2 q1
 | false => exact ⟨x, H2, I2, r1, q1⟩
theorem q8X {ta tb : TE} (ha : PE X a ta) (hb : PE X (.BoolOp .Or (b :: es) pos) tb) : PE X (.BoolOp .Or (a :: b :: es) pos) (λ σ H Q => ta σ H λ x H1 => ∃ k, TruV X.K x H1 k /\ if k = true then Q x H1 else tb σ H1 Q) := by
 intro pins s σ H Q I h
 refine BoolOp_or (thn (ha pins s σ H _ I h) λ v s1 ⟨x, H1, I1, r1, q1⟩ => ?_)
 obtain ⟨k, t, q1⟩ := q1
 refine thn (q6w pins s1 σ H1 x v (λ b H' => b = k /\ H' = H1) I1 r1 ⟨k, t, rfl, rfl⟩) λ c s2 ⟨H2, I2, e1, e2⟩ => ?_
 subst e1 e2
 cases c with
 | false => exact hb pins s2 σ H2 Q I2 q1
 | true => exact ⟨x, H2, I2, r1, q1⟩
theorem z2T {rb : Option Re} (ha : ∀ q, ra = some q -> PE X a (dE X.D E δ q)) (hb : ∀ q, rb = some q -> PE X (.BoolOp .And (b :: es) pos) (dE X.D E δ q)) (h : (Re.thn ra λ x c => andD x c rb) = some re) : PE X (.BoolOp .And (a :: b :: es) pos) (dE X.D E δ re) := by
 cases hra : ra with
 | none => rw [hra] at h; cases h
 | some q =>
  rw [hra] at h
  have A := ha q hra
  cases q with
  | ex c => cases h; exact (q6j A q1i).weak λ σ H Q ⟨O, W, R, p⟩ => ⟨O, W, R, p⟩
  | ok d cl =>
   have h' : andD d cl rb = some re := h
   unfold andD at h'
   split at h'
   ·cases h'
   ·rename_i t
    exact (q6j A (hb re h')).weak λ σ H Q ⟨O, W, R, p⟩ => ⟨O, W, R, λ x H1 s1 g1 => ⟨true, q4j t (g1.all (R.hid.mono s1)), iteT ⟨O, W, R.mono s1, p.later s1 s1⟩⟩⟩
   ·rename_i t
    cases h'
    exact (q6j A q1i).weak λ σ H Q ⟨O, W, R, p⟩ => ⟨O, W, R, λ x H1 s1 g1 => ⟨false, q4j t (g1.all (R.hid.mono s1)), iteF (p _ H1 s1 g1)⟩⟩
theorem z5h {rb : Option Re} (ha : ∀ q, ra = some q -> PE X a (dE X.D E δ q)) (hb : ∀ q, rb = some q -> PE X (.BoolOp .Or (b :: es) pos) (dE X.D E δ q)) (h : (Re.thn ra λ x c => orD x c rb) = some re) : PE X (.BoolOp .Or (a :: b :: es) pos) (dE X.D E δ re) := by
 cases hra : ra with
 | none => rw [hra] at h; cases h
 | some q =>
  rw [hra] at h
  have A := ha q hra
  cases q with
  | ex c => cases h; exact (q8X A q1i).weak λ σ H Q ⟨O, W, R, p⟩ => ⟨O, W, R, p⟩
  | ok d cl =>
   have h' : orD d cl rb = some re := h
   unfold orD at h'
   split at h'
   ·cases h'
   ·rename_i t
    cases h'
    exact (q8X A q1i).weak λ σ H Q ⟨O, W, R, p⟩ => ⟨O, W, R, λ x H1 s1 g1 => ⟨true, q4j t (g1.all (R.hid.mono s1)), iteT (p _ H1 s1 g1)⟩⟩
   ·rename_i t
    exact (q8X A (hb re h')).weak λ σ H Q ⟨O, W, R, p⟩ => ⟨O, W, R, λ x H1 s1 g1 => ⟨false, q4j t (g1.all (R.hid.mono s1)), iteF ⟨O, W, R.mono s1, p.later s1 s1⟩⟩⟩
theorem q5Y {k : DV -> Cl -> Option Re} (h : tstD (Re.thn ra k) = some r) : (ra = none /\ False) \/ (∃ c, ra = some (.ex c) /\ r = .ex c) \/ ∃ d c, ra = some (.ok d c) /\ tstD (k d c) = some r := by
 cases hra : ra with
 | none => rw [hra] at h; cases h
 | some q =>
  rw [hra] at h
  cases q with
  | ex c => cases h; exact .inr (.inl ⟨c, rfl, rfl⟩)
  | ok d c => exact .inr (.inr ⟨d, c, rfl, h⟩)
theorem z0V {d : DV} {c : Cl} {r : Rt} (h : tstD (some (.ok d c)) = some r) : ∃ k, q2m d = some k /\ r = .ok k := by
 obtain ⟨k, e1, e2⟩ := Option.map_eq_some_iff.mp (show (q2m d).map Rt.ok = some r from h)
 exact ⟨k, e1, e2.symm⟩
theorem q9O (ha : ∀ q, tstD ra = some q -> PT X a (dT X.D E δ q)) (h : tstD (Re.thn ra λ x _ => (q2m x).map λ k => .ok (.bl (!k)) .strong) = some r) : PT X (.UnaryOp .Not a pos) (dT X.D E δ r) := by
 rcases q5Y h with ⟨_, z⟩ | ⟨c, e1, e2⟩ | ⟨d, c, e1, e2⟩
 ·exact z.elim
 ·subst e1 e2
  exact (z1e (ha (.ex c) rfl)).weak λ σ H Q ⟨O, W, R, p⟩ => ⟨O, W, R, p⟩
 ·cases t : q2m d with
  | none => rw [t] at e2; cases e2
  | some k =>
   rw [t] at e2
   cases e2
   have A := ha (.ok k) (by rw [e1]; show (q2m d).map Rt.ok = _; rw [t]; rfl)
   exact (z1e A).weak λ σ H Q ⟨O, W, R, p⟩ => ⟨O, W, R, λ H1 s1 => p H1 s1⟩
theorem z0S {rb : Option Re} (ha : ∀ q, tstD ra = some q -> PT X a (dT X.D E δ q)) (hb : ∀ q, tstD rb = some q -> PW X (.BoolOp .And (b :: es) pos) (dT X.D E δ q)) (h : tstD (Re.thn ra λ x c => andD x c rb) = some r) : PW X (.BoolOp .And (a :: b :: es) pos) (dT X.D E δ r) := by
 rcases q5Y h with ⟨_, z⟩ | ⟨c, e1, e2⟩ | ⟨d, c, e1, e2⟩
 ·exact z.elim
 ·subst e1 e2
  exact (q8H (ha (.ex c) rfl) q4O).weak λ σ H Q ⟨O, W, R, p⟩ => ⟨O, W, R, p⟩
 ·unfold andD at e2
  cases t : q2m d with
  | none => rw [t] at e2; cases e2
  | some k =>
   rw [t] at e2
   have A := ha (.ok k) (by rw [e1]; show (q2m d).map Rt.ok = _; rw [t]; rfl)
   cases k with
   | true => exact (q8H A (hb r e2)).weak λ σ H Q ⟨O, W, R, p⟩ => ⟨O, W, R, λ H1 s1 => iteT ⟨O, W, R.mono s1, p.later s1⟩⟩
   | false =>
    obtain ⟨k, t', rfl⟩ := z0V e2
    rw [t] at t'; cases t'
    exact (q8H A q4O).weak λ σ H Q ⟨O, W, R, p⟩ => ⟨O, W, R, λ H1 s1 => iteF (p H1 s1)⟩
theorem z2D {rb : Option Re} (ha : ∀ q, tstD ra = some q -> PT X a (dT X.D E δ q)) (hb : ∀ q, tstD rb = some q -> PW X (.BoolOp .Or (b :: es) pos) (dT X.D E δ q)) (h : tstD (Re.thn ra λ x c => orD x c rb) = some r) : PW X (.BoolOp .Or (a :: b :: es) pos) (dT X.D E δ r) := by
 rcases q5Y h with ⟨_, z⟩ | ⟨c, e1, e2⟩ | ⟨d, c, e1, e2⟩
 ·exact z.elim
 ·subst e1 e2
  exact (z2J (ha (.ex c) rfl) q4O).weak λ σ H Q ⟨O, W, R, p⟩ => ⟨O, W, R, p⟩
 ·unfold orD at e2
  cases t : q2m d with
  | none => rw [t] at e2; cases e2
  | some k =>
   rw [t] at e2
   have A := ha (.ok k) (by rw [e1]; show (q2m d).map Rt.ok = _; rw [t]; rfl)
   cases k with
   | false => exact (z2J A (hb r e2)).weak λ σ H Q ⟨O, W, R, p⟩ => ⟨O, W, R, λ H1 s1 => iteF ⟨O, W, R.mono s1, p.later s1⟩⟩
   | true =>
    obtain ⟨k, t', rfl⟩ := z0V e2
    rw [t] at t'; cases t'
    exact (z2J A q4O).weak λ σ H Q ⟨O, W, R, p⟩ => ⟨O, W, R, λ H1 s1 => iteT (p H1 s1)⟩
theorem q4M {tc t u : TT} (hc : PT X c tc) (ha : PT X a t) (hb : PT X b u) : PT X (.IfExp c a b pos) (λ σ H Q => tc σ H λ k H1 => if k = true then t σ H1 Q else u σ H1 Q) := by
 intro pins s σ H Q I h
 refine isTrue_IfExp (thn (hc pins s σ H _ I h) λ k s1 ⟨H1, I1, q1⟩ => ?_)
 cases k with
 | true => exact ha pins s1 σ H1 Q I1 q1
 | false => exact hb pins s1 σ H1 Q I1 q1
theorem z0U {rb : Option Re} (hc : ∀ q, rt = some q -> PT X c (dT X.D E δ q)) (ha : ∀ q, tstD ra = some q -> PT X a (dT X.D E δ q)) (hb : ∀ q, tstD rb = some q -> PT X b (dT X.D E δ q)) (h : tstD (Rt.thn rt λ k => if k then ra else rb) = some r) : PT X (.IfExp c a b pos) (dT X.D E δ r) := by
 cases hrt : rt with
 | none => rw [hrt] at h; cases h
 | some q =>
  rw [hrt] at h
  have C := hc q hrt
  cases q with
  | ex c => cases h; exact (q4M C q4w q4w).weak λ σ H Q ⟨O, W, R, p⟩ => ⟨O, W, R, p⟩
  | ok k =>
   cases k with
   | true => exact (q4M C (ha r h) q4w).weak λ σ H Q ⟨O, W, R, p⟩ => ⟨O, W, R, λ H1 s1 => iteT ⟨O, W, R.mono s1, p.later s1⟩⟩
   | false => exact (q4M C q4w (hb r h)).weak λ σ H Q ⟨O, W, R, p⟩ => ⟨O, W, R, λ H1 s1 => iteF ⟨O, W, R.mono s1, p.later s1⟩⟩
theorem z2d {rb rc : Option Re} (hc : ∀ q, rt = some q -> PT X c (dT X.D E δ q)) (ha : ∀ q, rb = some q -> PE X a (dE X.D E δ q)) (hb : ∀ q, rc = some q -> PE X b (dE X.D E δ q))
  (h : (Rt.thn rt λ k => if k then rb else rc) = some re) : PE X (.IfExp c a b pos) (dE X.D E δ re) := by
 cases hrt : rt with
 | none => rw [hrt] at h; cases h
 | some q =>
  rw [hrt] at h
  have C := hc q hrt
  cases q with
  | ex c => cases h; exact (q4x C q1i q1i).weak λ σ H Q ⟨O, W, R, p⟩ => ⟨O, W, R, p⟩
  | ok k =>
   cases k with
   | true =>
    have h' : rb = some re := h
    exact (q4x C (ha re h') q1i).weak λ σ H Q ⟨O, W, R, p⟩ => ⟨O, W, R, λ H1 s1 => iteT ⟨O, W, R.mono s1, p.later s1 s1⟩⟩
   | false =>
    have h' : rc = some re := h
    exact (q4x C q1i (hb re h')).weak λ σ H Q ⟨O, W, R, p⟩ => ⟨O, W, R, λ H1 s1 => iteF ⟨O, W, R.mono s1, p.later s1 s1⟩⟩
theorem q0h {e : Expr} {es : List Expr} {env : Env} (h : q0l e = false) : starEach (e :: es) env = (false, eval e env) :: starEach es env := by
 cases e <;> first | rfl | cases h
theorem z0s : PA X [] (dA X.D E δ (.ok [])) := q3E.weak λ σ H Q ⟨O, W, R, p⟩ => p [] H (Same.refl H) .nil
theorem q8Y {rs : Option Rs} {q : Rs} (hs : q0l e = false) (ha : ∀ q, ra = some q -> PE X e (dE X.D E δ q)) (hb : ∀ q, rs = some q -> PA X es (dA X.D E δ q))
  (h : (match (generalizing := false) ra with | none => none | some (.ex c) => some (Rs.ex c) | some (.ok d c) => (match (generalizing := false) rs with | none => none | some (.ex c) => some (.ex c) | some (.ok l) => some (.ok ((d, c) :: l)))) = some q) : PA X (e :: es) (dA X.D E δ q) := by
 cases hra : ra with
 | none => rw [hra] at h; cases h
 | some z =>
  rw [hra] at h
  have A := ha z hra
  cases z with
  | ex c => cases h; exact (q1n A z2G (q0h hs)).weak λ σ H Q ⟨O, W, R, p⟩ => ⟨O, W, R, p⟩
  | ok d cl =>
   cases hrs : rs with
   | none => rw [hrs] at h; cases h
   | some y =>
    rw [hrs] at h
    have B := hb y hrs
    cases y with
    | ex c => cases h; exact (q1n A B (q0h hs)).weak λ σ H Q ⟨O, W, R, p⟩ => ⟨O, W, R, λ x H1 s1 g1 => ⟨O, W, R.mono s1, λ H' C m s => p H' C m (s1.trans s)⟩⟩
    | ok l =>
     cases h
     exact (q1n A B (q0h hs)).weak λ σ H Q ⟨O, W, R, p⟩ => ⟨O, W, R, λ x H1 s1 g1 => ⟨O, W, R.mono s1, λ vs H2 s2 g2 => p _ H2 (s1.trans s2) (.cons (g1.mono s2) (g2.since s1))⟩⟩
theorem z3o {rs : Option Rs} (ha : ∀ q, rs = some q -> PA X es (dA X.D E δ q)) (h : (Rs.thn rs λ l => if l.length <= mostLen then some (.ok (.lst (l.map (·.1))) (if stros l then .fresh else .weak)) else none) = some re) : PE X (.List es pos) (dE X.D E δ re) :=
 q2T (r := λ vs H Q => vs.length <= sizeLine /\ ∀ p, H p = none -> Q (.ref p) (upd H p (.lst vs))) (λ _ => z3W) ha h λ O W H0 H vs Q l σ k hd g p => by
  split at k
  ·rename_i m
   cases k
   refine ⟨by rw [g.length]; exact q1u m, λ q hq => p _ _ (q0r hq) ?_⟩
   by_cases z : stros l = true
   ·rw [if_pos z]; exact q1z hd hq (g.stros hd z)
   ·rw [if_neg z]; exact q4A hd hq (g.repL hd)
  ·cases k
theorem z1S {rs : Option Rs} {x1 : Nat} (ha : ∀ q, rs = some q -> PA X es (dA X.D E δ q)) (h : (Rs.thn rs λ l => if l.length <= mostLen then some (.ok (.tup (l.map (·.1))) (if stros l then .strong else .weak)) else none) = some re) : PE X (.Tuple es x1 pos) (dE X.D E δ re) :=
 q2T (r := λ vs H Q => vs.length <= sizeLine /\ ∀ p, H p = none -> Q (.ref p) (upd H p (.tup vs))) (λ _ => z5d) ha h λ O W H0 H vs Q l σ k hd g p => by
  split at k
  ·rename_i m
   cases k
   refine ⟨by rw [g.length]; exact q1u m, λ q hq => p _ _ (q0r hq) ?_⟩
   by_cases z : stros l = true
   ·rw [if_pos z]; exact q3M hd hq (g.stros hd z)
   ·rw [if_neg z]; exact q7e hd hq (g.repL hd)
  ·cases k
end
end L2
end
section
namespace L2
open PySem PySem.Spec PyProof.Rows
theorem q4P : ∀ ds : List DV, toPs ds = ds.map toP
 | [] => by rw [toPs]; rfl
 | d :: r => by rw [toPs, q4P r]; rfl
theorem q6b {y : DV} : ∀ {ds : List DV} {j : Nat}, q3m y ds = some j -> ∃ h : j < ds.length, deq ds[j] y = true /\ ∀ m (hm : m < ds.length), m < j -> deq ds[m] y = false
 | [], j, h => by cases h
 | d :: r, j, h => by
  unfold q3m at h
  split at h
  ·rename_i e
   cases h
   exact ⟨Nat.succ_pos _, e, λ m _ hm => absurd hm (Nat.not_lt_zero _)⟩
  ·rename_i e
   obtain ⟨k, h1, rfl⟩ := Option.map_eq_some_iff.mp h
   obtain ⟨hk, h2, h3⟩ := q6b h1
   refine ⟨Nat.succ_lt_succ hk, h2, λ m hm hlt => ?_⟩
   cases m with
   | zero => exact Bool.eq_false_iff.mpr e
   | succ m => exact h3 m (Nat.lt_of_succ_lt_succ hm) (Nat.lt_of_succ_lt_succ hlt)
theorem q5h {n : Nat} : ∀ {ds : List DV} {m : Nat} (h : m < ds.length), DV.plains n ds = true -> (ds[m]).plain n = true
 | d :: r, 0, _, p => by simp only [DV.plains, Bool.and_eq_true] at p; exact p.1
 | d :: r, m + 1, h, p => by simp only [DV.plains, Bool.and_eq_true] at p; exact q5h (ds := r) (Nat.lt_of_succ_lt_succ h) p.2
section
variable {X : Cx} {pins : List (Addr × Obj)} {σ : St} {H : Hp} {s : Shared} {E : St -> XK} {δ : List Sv} {o e : Expr} {to te : TE} {apos cpos : Pos} {ra rb : Option Re} {re : Re}
theorem q6L {y : DV} {ds : List DV} {j : Nat} (p : y.plain 60 = true) (q : DV.plains 60 ds = true) (h : q3m y ds = some j) :
  ∃ h : j < (toPs ds).length, PyData.eqv (toPs ds)[j] (toP y) = true /\ ∀ m (hm : m < (toPs ds).length), m < j -> PyData.eqv (toPs ds)[m] (toP y) = false := by
 obtain ⟨hj, h1, h2⟩ := q6b h
 have hl : (toPs ds).length = ds.length := by rw [q4P, List.length_map]
 have ha : ∀ m (h1 : m < (toPs ds).length) (h2 : m < ds.length), PyData.eqv (toPs ds)[m] (toP y) = deq ds[m] y := λ m h1 h2 => by
  rw [← q3A 60 60 ds[m] y (q5h h2 q) p]
  congr 1
  simp only [q4P, List.getElem_map]
 exact ⟨by omega, (ha j (by omega) hj).trans h1, λ m hm hlt => (ha m hm (by omega)).trans (h2 m (by omega) hlt)⟩
theorem z3m {x y : V} {v u : Value} {ds : List DV} {dy : DV} {j : Nat} {Q : VK} (hu : X.A.units + 64 < cLine) (I : Inv X pins σ H s) (rx : RelV x v) (ry : RelV y u) (r1 : Rep X.D H (.lst ds) x) (r2 : Rep X.D H dy y) (p : dy.plain 60 = true) (q : DV.plains 60 ds = true) (hl : ds.length <= mostLen)
  (h : q3m dy ds = some j) (k : Q (.int j) H) : wpAny (model X.prog X.w) X.A (call (.builtin "list.index") [v, u]) (EP X pins σ Q) X.xe s := by
 obtain ⟨as, q1⟩ := q0W I 60 p r2 ry
 obtain ⟨bs, q2⟩ := q0W I 61 (d := .lst ds) (by simpa [DV.plain] using q) r1 rx
 rw [toP] at q2
 have l1 := q3y 60 _ p
 have l2 := q2s 60 ds q
 have l3 := l1.2
 obtain ⟨hj, f1, f2⟩ := q6L p q h
 have hj2 := (q6b h).1
 exact SeqAt.index_list_reads q2 q1 l2.1 l1.1 (by omega) hj (by have : mostLen = 1000000 := rfl; omega) f1 f2 ⟨.int j, H, I.tok _, ⟨_, rfl⟩, k⟩
theorem z1G {x y : V} {v u : Value} {ds : List DV} {dy : DV} {j : Nat} {Q : VK} (hu : X.A.units + 64 < cLine) (I : Inv X pins σ H s) (rx : RelV x v) (ry : RelV y u) (r1 : Rep X.D H (.tup ds) x) (r2 : Rep X.D H dy y) (p : dy.plain 60 = true) (q : DV.plains 60 ds = true)
  (h : q3m dy ds = some j) (k : Q (.int j) H) : wpAny (model X.prog X.w) X.A (call (.builtin "tuple.index") [v, u]) (EP X pins σ Q) X.xe s := by
 obtain ⟨as, q1⟩ := q0W I 60 p r2 ry
 obtain ⟨bs, q2⟩ := q0W I 61 (d := .tup ds) (by simpa [DV.plain] using q) r1 rx
 rw [toP] at q2
 have l1 := q3y 60 _ p
 have l2 := q2s 60 ds q
 have l3 := l1.2
 obtain ⟨hj, f1, f2⟩ := q6L p q h
 exact SeqAt.index_tuple_reads q2 q1 l2.1 l1.1 (by omega) hj f1 f2 ⟨.int j, H, I.tok _, ⟨_, rfl⟩, k⟩
noncomputable def tIdx (X : Cx) (to te : TE) : TE := λ σ H Q => to σ H λ x H1 => (∃ ds, Rep X.D H1 (.lst ds) x /\ te σ H1 λ y H2 => ∃ ds dy j, Rep X.D H2 (.lst ds) x /\ Rep X.D H2 dy y /\ dy.plain 60 = true /\ DV.plains 60 ds = true /\ ds.length <= mostLen /\ q3m dy ds = some j /\ Q (.int j) H2) \/
 (∃ ds, Rep X.D H1 (.tup ds) x /\ te σ H1 λ y H2 => ∃ ds dy j, Rep X.D H2 (.tup ds) x /\ Rep X.D H2 dy y /\ dy.plain 60 = true /\ DV.plains 60 ds = true /\ q3m dy ds = some j /\ Q (.int j) H2)
theorem z1q (hu : X.A.units + 64 < cLine) (ho : PE X o to) (ha : PE X e te) (hbase : attributeBase o "index" X.env (eval o X.env) = eval o X.env) (hline : (apos.endLine == cpos.line) = true) (hs : starEach [e] X.env = [(false, eval e X.env)]) :
  PE X (.Call (.Attribute o "index" apos) [e] [] cpos) (tIdx X to te) := by
 intro pins s σ H Q I h
 refine wpAny_Call_method_late hbase (by rw [hs]; rfl) hline rfl (thn (ho pins s σ H _ I h) λ v s1 ⟨x, H1, I1, r1, q1⟩ => ?_)
 rcases q1 with ⟨ds, d1, q1⟩ | ⟨ds, d1, q1⟩
 ·obtain ⟨a, xs, e1, e2, e3⟩ := q0q.mp d1
  subst e1
  cases (show v = Value.ref a from r1)
  obtain ⟨its, _, pl, _⟩ := I1.list (SqL.of e2)
  refine ⟨"list", "list.index", PySem.F.plainAttrs_list, PySem.F.slot_list_index, PySem.F.type_list_index, pl.isList.typeIs, λ b eb => ?_, ?_⟩
  ·cases eb
   obtain ⟨o, n, e, c, hd, _⟩ := pl
   exact ⟨o, e, hd⟩
  ·rw [hs]
   refine Calls.callWith_builtin rfl (Calls.evalArgs_plain (Calls.spliced_cons (thn (ha pins s1 σ H1 _ I1 q1) λ u s2 ⟨y, H2, I2, r2, ds', dy, j, d2, d3, p1, p2, p3, p4, k⟩ => Calls.spliced_nil ?_)))
   exact z3m hu I2 (show RelV (.ref a) (Value.ref a) from rfl) r2 d2 d3 p1 p2 p3 p4 k
 ·obtain ⟨a, xs, e1, e2, e3⟩ := q0F.mp d1
  subst e1
  cases (show v = Value.ref a from r1)
  obtain ⟨ob, n1, n2, n3⟩ := I1.tupleN e2
  refine ⟨"tuple", "tuple.index", PySem.F.plainAttrs_tuple, PySem.F.slot_tuple_index, PySem.F.type_tuple_index, ⟨ob, n1, n2⟩, λ b eb => ?_, ?_⟩
  ·cases eb
   exact ⟨ob, n1, n3⟩
  ·rw [hs]
   refine Calls.callWith_builtin rfl (Calls.evalArgs_plain (Calls.spliced_cons (thn (ha pins s1 σ H1 _ I1 q1) λ u s2 ⟨y, H2, I2, r2, ds', dy, j, d2, d3, p1, p2, p3, k⟩ => Calls.spliced_nil ?_)))
   exact z1G hu I2 (show RelV (.ref a) (Value.ref a) from rfl) r2 d2 d3 p1 p2 p3 k
theorem z1U (hu : X.A.units + 64 < cLine) (ha : ∀ q, ra = some q -> PE X o (dE X.D E δ q)) (hb : ∀ q, rb = some q -> PE X e (dE X.D E δ q)) (hbase : attributeBase o "index" X.env (eval o X.env) = eval o X.env) (hline : (apos.endLine == cpos.line) = true) (hs : starEach [e] X.env = [(false, eval e X.env)])
  (h : (Re.thn ra λ x _ => if seqB x then Re.thn rb λ y _ => (idxD x y).map λ d => .ok d .strong else none) = some re) : PE X (.Call (.Attribute o "index" apos) [e] [] cpos) (dE X.D E δ re) := by
 cases hra : ra with
 | none => rw [hra] at h; cases h
 | some q =>
  rw [hra] at h
  have A := ha q hra
  cases q with
  | ex c =>
   cases h
   exact (z1q hu A q1i hbase hline hs).weak λ σ H Q ⟨O, W, R, p⟩ => ⟨O, W, R, p⟩
  | ok dx cx =>
   have h0 : (if seqB dx then Re.thn rb λ y _ => (idxD dx y).map λ d => Re.ok d .strong else none) = some re := h
   have hsq : seqB dx = true := by
    cases z : seqB dx with
    | true => rfl
    | false => rw [z] at h0; cases h0
   rw [if_pos hsq] at h0
   have h' : (Re.thn rb λ y _ => (idxD dx y).map λ d => .ok d .strong) = some re := h0
   cases hrb : rb with
   | none => rw [hrb] at h'; cases h'
   | some q =>
    rw [hrb] at h'
    have B := hb q hrb
    have C := z1q hu A B hbase hline hs (apos := apos) (cpos := cpos)
    cases q with
    | ex c =>
     cases h'
     cases dx with
     | lst ds => exact C.weak λ σ H Q ⟨O, W, R, p⟩ => ⟨O, W, R, λ x H1 s1 g1 => .inl ⟨ds, g1.all (R.hid.mono s1), O, W, R.mono s1, λ H' C m s => p H' C m (s1.trans s)⟩⟩
     | tup ds => exact C.weak λ σ H Q ⟨O, W, R, p⟩ => ⟨O, W, R, λ x H1 s1 g1 => .inr ⟨ds, g1.all (R.hid.mono s1), O, W, R.mono s1, λ H' C m s => p H' C m (s1.trans s)⟩⟩
     | _ => cases hsq
    | ok dy cy =>
     have h2 : ((idxD dx dy).map λ d => Re.ok d .strong) = some re := h'
     obtain ⟨d, h3, h4⟩ := Option.map_eq_some_iff.mp h2
     subst h4
     unfold idxD at h3
     split at h3
     ·rename_i ds
      split at h3
      ·rename_i m
       obtain ⟨j, f1, rfl⟩ := Option.map_eq_some_iff.mp h3
       rw [Bool.and_eq_true, Bool.and_eq_true, decide_eq_true_eq] at m
       exact C.weak λ σ H Q ⟨O, W, R, p⟩ => ⟨O, W, R, λ x H1 s1 g1 => .inl ⟨ds, g1.all (R.hid.mono s1), O, W, R.mono s1, λ y H2 s2 g2 =>
        ⟨ds, dy, j, (g1.mono s2).all ((R.hid.mono s1).mono s2), (g2.since s1).all ((R.hid.mono s1).mono s2), m.1.1, m.1.2, m.2, f1, p _ H2 (s1.trans s2) q0G⟩⟩⟩
      ·cases h3
     ·rename_i ds
      split at h3
      ·rename_i m
       obtain ⟨j, f1, rfl⟩ := Option.map_eq_some_iff.mp h3
       rw [Bool.and_eq_true, Bool.and_eq_true, decide_eq_true_eq] at m
       exact C.weak λ σ H Q ⟨O, W, R, p⟩ => ⟨O, W, R, λ x H1 s1 g1 => .inr ⟨ds, g1.all (R.hid.mono s1), O, W, R.mono s1, λ y H2 s2 g2 =>
        ⟨ds, dy, j, (g1.mono s2).all ((R.hid.mono s1).mono s2), (g2.since s1).all ((R.hid.mono s1).mono s2), m.1.1, m.1.2, f1, p _ H2 (s1.trans s2) q0G⟩⟩⟩
      ·cases h3
     ·cases h3
end
end L2
end
section
namespace L2
open PySem PySem.Spec PyProof.Rows
noncomputable def GotR (D : Dm) (O : List Addr) (H0 H : Hp) (d : DV) (fr : Bool) (v : V) : Prop := match fr with
 | false => Rep D (L2.wo O H) d v
 | true => ∃ p xs ds, v = .ref p /\ d = .lst ds /\ H0 p = none /\ H p = some (.lst xs) /\ RepL D (L2.wo (p :: O) H) ds xs
noncomputable def GotF (H H' : Hp) (xs : List DV) (v : V) : Prop := ∃ (p : Addr) (L : List (Addr × List Int)), v = .ref p /\ xs = L.map (λ q => .lst (q.2.map DV.int)) /\ H p = none /\ H' p = some (.lst (L.map λ q => .ref q.1)) /\ (∀ q ∈ L, H q.1 = none /\ H' q.1 = some (.lst (q.2.map V.int))) /\ (p :: L.map (·.1)).Nodup
theorem GotF.since {H0 H1 H : Hp} {xs : List DV} {v : V} (g : GotF H1 H xs v) (f : ∀ a, H1 a = none -> H0 a = none) : GotF H0 H xs v := by
 obtain ⟨p, L, e1, e2, e3, e4, e5, e6⟩ := g
 exact ⟨p, L, e1, e2, f _ e3, e4, λ q hq => ⟨f _ (e5 q hq).1, (e5 q hq).2⟩, e6⟩
theorem GotF.items {D : Dm} {H0 H : Hp} {xs : List DV} {v : V} {Z : List Addr} (g : GotF H0 H xs v) (hz : ∀ a ∈ Z, H0 a ≠ none) : ∃ p vs, v = .ref p /\ H0 p = none /\ H p = some (.lst vs) /\ RepL D (L2.wo (p :: Z) H) xs vs := by
 obtain ⟨p, L, e1, e2, e3, e4, e5, e6⟩ := g
 refine ⟨p, _, e1, e3, e4, ?_⟩
 rw [e2]
 refine q6g λ q hq => ?_
 rw [q0n λ z => ?_]
 ·exact (e5 q hq).2
 ·rcases List.mem_cons.mp z with z | z
  ·exact (List.nodup_cons.mp e6).1 (List.mem_map.mpr ⟨q, hq, z⟩)
  ·exact hz _ z (e5 q hq).1
theorem GotF.fresh {D : Dm} {O W : List Addr} {H0 H1 H : Hp} {xs : List DV} {v : V} (g : GotF H0 H xs v) (hd : Hid O W H0 H1) : Got D O W H0 H (.lst xs) .fresh v := by
 obtain ⟨p, vs, e1, e2, e3, e4⟩ := g.items (D := D) (Z := O ++ W) hd.ot
 exact ⟨p, vs, xs, e1, rfl, e2, e3, e4⟩
noncomputable def GotT (D : Dm) (O : List Addr) (H0 H : Hp) (d : DV) (v : V) : Prop := (∃ t ts p xs ds es, v = .ref t /\ d = .tup (.lst ds :: es) /\ SqT D.K (L2.wo O H) t (.ref p :: ts) /\ H0 p = none /\ H p = some (.lst xs) /\ RepL D (L2.wo (p :: O) H) ds xs /\ RepL D (L2.wo (p :: O) H) es ts) \/ ∃ xs, d = .lst xs /\ GotF H0 H xs v
noncomputable def spF (D : Dm) (n : Nat) (f : List DV -> Option Ou) : Sp := λ vs H Q E => ∃ O ds o, (∀ a ∈ O, H a ≠ none) /\ ds.length = n /\ RepL D (L2.wo O H) ds vs /\ f ds = some o /\
 (match o with | .v d fr => ∀ v H', Same H H' -> GotR D O H H' d fr v -> Q v H' | .t d => ∀ v H', Same H H' -> GotT D O H H' d v -> Q v H' | .x c => ∀ H' C, D.mg c = some C -> Same H H' -> E C none H')
section
variable {X : Cx} {E : St -> XK} {δ : List Sv} {e : Expr} {es : List Expr} {pos p : Pos} {re : Re} {rs : Option Rs} {k : Nat} {fa : Addr} {fd : FuncData} {ps : List Str} {x : Str}
theorem q9Q {F : Nat -> List DV -> Option Ou} {f : Nat} (fo : FnOk X.prog X.w X.K X.mg X.base (CXx X.prog X.w X.base) k fa fd ps (spF X.D ps.length (F f))) (hn : ∀ ds o, F f ds = some o -> ds.length = ps.length) (hr : Room k X.A) (hg : Gl X x) (hm : X.mg x = some (.ref fa)) (hk : PySem.W.keepIn X.K (.ref fa) = true)
  (hb : q3l X.K fd ps []) (hx : q1M (CXx X.prog X.w X.base) X E) (ha : ∀ q, rs = some q -> PA X (e :: es) (dA X.D E δ q)) (hdb : (x == ("__debug__" : Str)) = false) (hs : q0l e = false) (hss : es.any q0l = false)
  (h : (Rs.thn rs λ l => q1f F f l) = some re) : PE X (.Call (.Name x p) (e :: es) [] pos) (dE X.D E δ re) := by
 have plain : ∀ (es : List Expr), es.any q0l = false -> (backTo pos (starEach es X.env)).any (·.1) = false := by
  intro es
  induction es with
  | nil => intro _; rfl
  | cons y ys ih =>
   intro q
   rw [List.any_cons, Bool.or_eq_false_iff] at q
   rw [q0h q.1]
   show (false || (backTo pos (starEach ys X.env)).any (·.1)) = false
   rw [ih q.2]; rfl
 have C := λ t (hA : PA X (e :: es) t) => q4H (p := p) (pos := pos) fo hr hg hm hk hb .nil hx hA hdb (q0h hs) (plain es hss)
 cases hrs : rs with
 | none => rw [hrs] at h; cases h
 | some q =>
  rw [hrs] at h
  have A := ha q hrs
  cases q with
  | ex c => cases h; exact (C _ A).weak λ σ H Q ⟨O, W, R, p⟩ => ⟨O, W, R, p⟩
  | ok l =>
   have h' : q1f F f l = some re := h
   unfold q1f at h'
   split at h'
   ·cases h'
   ·rename_i c e1
    cases h'
    refine (C _ A).weak λ σ H Q ⟨O, W, R, p⟩ => ⟨O, W, R, λ vs H1 s1 g1 => ?_⟩
    have hd := R.hid.mono s1
    show spF X.D ps.length (F f) (vs ++ []) H1 Q (E σ)
    rw [List.append_nil]
    exact ⟨O, _, _, λ a ha q => hd.ot a (List.mem_append_left _ ha) (s1.free q), hn _ _ e1, g1.repL hd, e1, λ H' C m s => p H' C m (s1.trans s)⟩
   ·rename_i d e1
    cases h'
    refine (C _ A).weak λ σ H Q ⟨O, W, R, p⟩ => ⟨O, W, R, λ vs H1 s1 g1 => ?_⟩
    have hd := R.hid.mono s1
    show spF X.D ps.length (F f) (vs ++ []) H1 Q (E σ)
    rw [List.append_nil]
    by_cases z : (l.all λ p => p.2 == .strong || p.2 == .fresh) = true
    ·rw [if_pos z] at p
     refine ⟨O ++ W, _, _, λ a ha q => hd.ot a ha (s1.free q), hn _ _ e1, g1.strong hd z, e1, λ v H' s g => p v H' (s1.trans s) ?_⟩
     rcases g with ⟨t, ts, q, xs, ds, es, f1, f2, f0, f3, f4, f5, f6⟩ | ⟨xs, f1, f2⟩
     ·subst f2
      exact ⟨t, ts, q, xs, ds, es, f1, rfl, f0, s1.free f3, f4, f5, f6⟩
     ·subst f1
      exact (f2.since λ a ha => s1.free ha).fresh hd
    ·rw [if_neg z] at p
     refine ⟨O, _, _, λ a ha q => hd.ot a (List.mem_append_left _ ha) (s1.free q), hn _ _ e1, g1.repL hd, e1, λ v H' s g => p v H' (s1.trans s) ?_⟩
     rcases g with ⟨t, ts, q, xs, ds, es, f1, f2, f0, f3, f4, f5, f6⟩ | ⟨xs, f1, f2⟩
     ·have hq : q ∉ O := λ z => hd.ot q (List.mem_append_left _ z) (s1.free f3)
      have up : Same (L2.wo (q :: O) H') (L2.wo O H') := q0x λ b hb => List.mem_cons_of_mem _ hb
      rw [f2]
      exact q0F.mpr ⟨t, _, f1, f0, q0f.mpr ⟨_, _, rfl, q0q.mpr ⟨q, xs, rfl, by rw [q0n hq]; exact f4, f5.mono up⟩, f6.mono up⟩⟩
     ·subst f1
      have hO : ∀ a ∈ O, H1 a ≠ none := λ a ha q => hd.ot a (List.mem_append_left _ ha) (s1.free q)
      obtain ⟨q, vs, g1', g2', g3', g4'⟩ := f2.items (D := X.D) hO
      have hq : q ∉ O := λ z => hO q z g2'
      exact q0q.mpr ⟨q, vs, g1', by rw [q0n hq]; exact g3', g4'.mono (q0x λ b hb => List.mem_cons_of_mem _ hb)⟩
   ·rename_i d fr e1
    cases h'
    refine (C _ A).weak λ σ H Q ⟨O, W, R, p⟩ => ⟨O, W, R, λ vs H1 s1 g1 => ?_⟩
    have hd := R.hid.mono s1
    show spF X.D ps.length (F f) (vs ++ []) H1 Q (E σ)
    rw [List.append_nil]
    by_cases z : (l.all λ p => p.2 == .strong || p.2 == .fresh) = true
    ·rw [if_pos z] at p
     refine ⟨O ++ W, _, _, λ a ha q => hd.ot a ha (s1.free q), hn _ _ e1, g1.strong hd z, e1, λ v H' s g => p v H' (s1.trans s) ?_⟩
     cases fr with
     | false => exact g
     | true =>
      obtain ⟨q, xs, ds, e1, e2, e3, e4, e5⟩ := g
      exact ⟨q, xs, ds, e1, e2, s1.free e3, e4, e5⟩
    ·rw [if_neg z] at p
     refine ⟨O, _, _, λ a ha q => hd.ot a (List.mem_append_left _ ha) (s1.free q), hn _ _ e1, g1.repL hd, e1, λ v H' s g => p v H' (s1.trans s) ?_⟩
     cases fr with
     | false => exact g
     | true =>
      obtain ⟨q, xs, ds, e1, e2, e3, e4, e5⟩ := g
      have hq : q ∉ O := λ z => hd.ot q (List.mem_append_left _ z) (s1.free e3)
      rw [e2]
      exact q0q.mpr ⟨q, xs, e1, by rw [q0n hq]; exact e4, e5.mono (q0x λ b hb => List.mem_cons_of_mem _ hb)⟩
end
section
variable {X : Cx} {E : St -> XK} {δ : List Sv} {e : Expr} {es : List Expr} {pos p : Pos} {re : Re} {rs : Option Rs}
theorem q1c {env : Env} {pos : Pos} : ∀ (es : List Expr), es.any q0l = false -> (backTo pos (starEach es env)).any (·.1) = false
 | [], _ => rfl
 | y :: ys, q => by
  rw [List.any_cons, Bool.or_eq_false_iff] at q
  rw [q0h q.1]
  show (false || (backTo pos (starEach ys env)).any (·.1)) = false
  rw [q1c ys q.2]; rfl
noncomputable def biR (X : Cx) (k : List (DV × Cl) -> Option Re) : List V -> Hp -> VK -> Prop := λ vs H Q => ∃ l re O W H0, k l = some re /\ Hid O W H0 H /\ GotL X.D O W H0 H l vs /\ ∃ d c, re = .ok d c /\ ∀ v H', Same H H' -> Got X.D O W H0 H' d c v -> Q v H'
theorem q7Y {k : List (DV × Cl) -> Option Re} {x : Str} {id : String} (hc : q1D X (.builtin id) (biR X k)) (hk : ∀ l re, k l = some re -> ∃ d c, re = .ok d c) (hg : Gl X x) (hm : X.mg x = none) (hv : bootBuiltins x = some (.builtin id)) (hn : x ≠ "__name__") (hdb : (x == ("__debug__" : Str)) = false)
  (ha : ∀ q, rs = some q -> PA X (e :: es) (dA X.D E δ q)) (hs : q0l e = false) (hss : es.any q0l = false) (h : Rs.thn rs k = some re) : PE X (.Call (.Name x p) (e :: es) [] pos) (dE X.D E δ re) :=
 q2T (λ _ hA => q4z hc hg hm hv hA hn hdb (q0h hs) (q1c es hss)) ha h λ O W H0 H vs Q l σ hl hd g p => by
  obtain ⟨d, c, rfl⟩ := hk l re hl
  exact ⟨l, _, O, W, H0, hl, hd, g, d, c, rfl, p⟩
theorem q8a {k : List (DV × Cl) -> Option Re} {x : Str} {T : String} (hc : q1D X (.type T) (biR X k)) (hk : ∀ l re, k l = some re -> ∃ d c, re = .ok d c) (hg : Gl X x) (hm : X.mg x = none) (hv : bootBuiltins x = some (.type T)) (hn : x ≠ "__name__") (hdb : (x == ("__debug__" : Str)) = false)
  (ha : ∀ q, rs = some q -> PA X (e :: es) (dA X.D E δ q)) (hs : q0l e = false) (hss : es.any q0l = false) (h : Rs.thn rs k = some re) : PE X (.Call (.Name x p) (e :: es) [] pos) (dE X.D E δ re) :=
 q2T (λ _ hA => q5A hc hg hm hv hA hn hdb (q0h hs) (q1c es hss)) ha h λ O W H0 H vs Q l σ hl hd g p => by
  obtain ⟨d, c, rfl⟩ := hk l re hl
  exact ⟨l, _, O, W, H0, hl, hd, g, d, c, rfl, p⟩
theorem z1L : ∀ l re, lenD l = some re -> ∃ d c, re = .ok d c := λ l re h => by unfold lenD at h; split at h <;> cases h <;> exact ⟨_, _, rfl⟩
theorem z2e : ∀ l re, minD l = some re -> ∃ d c, re = .ok d c := λ l re h => by
 unfold minD at h
 split at h
 ·cases h; exact ⟨_, _, rfl⟩
 ·split at h
  ·cases h; exact ⟨_, _, rfl⟩
  ·cases h
 ·cases h
theorem z1A : ∀ l re, maxD l = some re -> ∃ d c, re = .ok d c := λ l re h => by
 unfold maxD at h
 split at h
 ·cases h; exact ⟨_, _, rfl⟩
 ·split at h
  ·cases h; exact ⟨_, _, rfl⟩
  ·cases h
 ·cases h
theorem q3q {D : Dm} {H : Hp} : ∀ {ds : List DV} {ns : List Int} {xs : List V}, ints? ds = some ns -> RepL D H ds xs -> xs = ns.map V.int
 | [], ns, xs, h, r => by
  cases h
  exact q0s.mp r
 | .int i :: ds, ns, xs, h, r => by
  have h' : (ints? ds).map (i :: ·) = some ns := h
  obtain ⟨ms, e1, e2⟩ := Option.map_eq_some_iff.mp h'
  obtain ⟨v, vs, e3, e4, e5⟩ := q0f.mp r
  have q := q3q e1 e5
  rw [← e2, e3, List.map_cons, q0N.mp e4, q]
 | .non :: ds, ns, xs, h, _ => by cases h
 | .bl _ :: ds, ns, xs, h, _ => by cases h
 | .str _ :: ds, ns, xs, h, _ => by cases h
 | .tup _ :: ds, ns, xs, h, _ => by cases h
 | .lst _ :: ds, ns, xs, h, _ => by cases h
 | .dct _ _ :: ds, ns, xs, h, _ => by cases h
 | .exc _ :: ds, ns, xs, h, _ => by cases h
 | .fn _ :: ds, ns, xs, h, _ => by cases h
 | .scr _ :: ds, ns, xs, h, _ => by cases h
theorem q6v : ∀ (r : List Int) (m : Int), (minI m r = m \/ minI m r ∈ r) /\ minI m r <= m /\ ∀ x ∈ r, minI m r <= x
 | [], m => ⟨.inl rfl, Int.le_refl _, λ x h => by cases h⟩
 | y :: r, m => by
  obtain ⟨h0, h1, h2⟩ := q6v r (if y < m then y else m)
  unfold minI
  by_cases q : y < m
  ·rw [if_pos q] at h0 h1 h2 ⊢
   refine ⟨.inr ?_, by omega, λ x hx => ?_⟩
   ·rcases h0 with z | z
    ·rw [z]; exact List.mem_cons_self ..
    ·exact List.mem_cons_of_mem _ z
   ·rcases List.mem_cons.mp hx with z | z
    ·rw [z]; exact h1
    ·exact h2 x z
  ·rw [if_neg q] at h0 h1 h2 ⊢
   refine ⟨h0.imp id (List.mem_cons_of_mem _), h1, λ x hx => ?_⟩
   rcases List.mem_cons.mp hx with z | z
   ·rw [z]; omega
   ·exact h2 x z
theorem q5d : ∀ (r : List Int) (m : Int), (maxI m r = m \/ maxI m r ∈ r) /\ m <= maxI m r /\ ∀ x ∈ r, x <= maxI m r
 | [], m => ⟨.inl rfl, Int.le_refl _, λ x h => by cases h⟩
 | y :: r, m => by
  obtain ⟨h0, h1, h2⟩ := q5d r (if m < y then y else m)
  unfold maxI
  by_cases q : m < y
  ·rw [if_pos q] at h0 h1 h2 ⊢
   refine ⟨.inr ?_, by omega, λ x hx => ?_⟩
   ·rcases h0 with z | z
    ·rw [z]; exact List.mem_cons_self ..
    ·exact List.mem_cons_of_mem _ z
   ·rcases List.mem_cons.mp hx with z | z
    ·rw [z]; exact h1
    ·exact h2 x z
  ·rw [if_neg q] at h0 h1 h2 ⊢
   refine ⟨h0.imp id (List.mem_cons_of_mem _), h1, λ x hx => ?_⟩
   rcases List.mem_cons.mp hx with z | z
   ·rw [z]; omega
   ·exact h2 x z
theorem z0A {n M : Int} {r : List Int} (h1 : M ∈ n :: r) (h2 : ∀ x ∈ n :: r, M <= x) : M = minI n r := by
 obtain ⟨a, b, c⟩ := q6v r n
 have d : minI n r ∈ n :: r := a.elim (λ z => by rw [z]; exact List.mem_cons_self ..) (List.mem_cons_of_mem _)
 have e := h2 _ d
 have f : minI n r <= M := by
  rcases List.mem_cons.mp h1 with z | z
  ·rw [z]; exact b
  ·exact c M z
 omega
theorem z0G {n M : Int} {r : List Int} (h1 : M ∈ n :: r) (h2 : ∀ x ∈ n :: r, x <= M) : M = maxI n r := by
 obtain ⟨a, b, c⟩ := q5d r n
 have d : maxI n r ∈ n :: r := a.elim (λ z => by rw [z]; exact List.mem_cons_self ..) (List.mem_cons_of_mem _)
 have e := h2 _ d
 have f : M <= maxI n r := by
  rcases List.mem_cons.mp h1 with z | z
  ·rw [z]; exact b
  ·exact c M z
 omega
theorem q3R (x : Int) : ∀ l : List Int, (insI x l).Perm (x :: l)
 | [] => .rfl
 | y :: r => by
  unfold insI
  split
  ·exact .rfl
  ·exact (List.Perm.cons y (q3R x r)).trans (List.Perm.swap x y r)
theorem q4b : ∀ l : List Int, (q2k l).Perm l
 | [] => .rfl
 | x :: r => (q3R x (q2k r)).trans (List.Perm.cons x (q4b r))
theorem q8j (x : Int) : ∀ {l : List Int}, l.Pairwise (· <= ·) -> (insI x l).Pairwise (· <= ·)
 | [], _ => List.pairwise_singleton _ _
 | y :: r, h => by
  obtain ⟨h1, h2⟩ := List.pairwise_cons.mp h
  unfold insI
  split
  ·rename_i q
   refine List.pairwise_cons.mpr ⟨λ z hz => ?_, h⟩
   rcases List.mem_cons.mp hz with e | e
   ·omega
   ·have := h1 z e
    omega
  ·rename_i q
   refine List.pairwise_cons.mpr ⟨λ z hz => ?_, q8j x h2⟩
   rcases List.mem_cons.mp ((q3R x r).mem_iff.mp hz) with e | e
   ·omega
   ·exact h1 z e
theorem q6I : ∀ l : List Int, (q2k l).Pairwise (· <= ·)
 | [] => .nil
 | x :: r => q8j x (q6I r)
theorem z1w : ∀ {a b : List Int}, a.Perm b -> a.Pairwise (· <= ·) -> b.Pairwise (· <= ·) -> a = b
 | [], b, p, _, _ => (List.Perm.nil_eq p)
 | x :: a, b, p, ha, hb => by
  cases b with
  | nil => exact absurd p.length_eq (by simp)
  | cons y b =>
   obtain ⟨a1, a2⟩ := List.pairwise_cons.mp ha
   obtain ⟨b1, b2⟩ := List.pairwise_cons.mp hb
   have e : x = y := by
    have q1 := p.mem_iff.mp (List.mem_cons_self (a := x) (l := a))
    have q2 := p.mem_iff.mpr (List.mem_cons_self (a := y) (l := b))
    rcases List.mem_cons.mp q1 with z | z
    ·exact z
    ·rcases List.mem_cons.mp q2 with z2 | z2
     ·exact z2.symm
     ·have := a1 y z2
      have := b1 x z
      omega
   subst e
   rw [z1w (List.Perm.cons_inv p) a2 b2]
theorem z0f : ∀ l re, q7i l = some re -> ∃ d c, re = .ok d c := λ l re h => by unfold q7i at h; split at h <;> cases h <;> exact ⟨_, _, rfl⟩
theorem q9B : ∀ l re, q4l l = some re -> ∃ d c, re = .ok d c := λ l re h => by unfold q4l at h; split at h <;> cases h <;> exact ⟨_, _, rfl⟩
theorem z5r : q1D X (.builtin "len") (biR X lenD) := by
 intro pins s σ H xs us Q I r h
 obtain ⟨l, re, O, W, H0, hb, hd, g, d, c, rfl, p⟩ := h
 unfold lenD at hb
 split at hb
 ·cases hb
  obtain ⟨v, rfl, gv⟩ := g.one
  obtain ⟨a, ys, e1, e2, e3⟩ := gv.lst hd
  exact q2g pins s σ H _ us Q I r ⟨a, ys, by rw [e1], .inl (SqL.of e2), by rw [e3.length]; exact p _ H (Same.refl H) q0G⟩
 ·cases hb
  obtain ⟨v, rfl, gv⟩ := g.one
  obtain ⟨a, ys, e1, e2, e3⟩ := gv.tup hd
  exact q2g pins s σ H _ us Q I r ⟨a, ys, by rw [e1], .inr e2, by rw [e3.length]; exact p _ H (Same.refl H) q0G⟩
 ·cases hb
  obtain ⟨v, rfl, gv⟩ := g.one
  obtain ⟨a, e1, e2⟩ := q1B.mp (gv.all hd)
  exact q2g pins s σ H _ us Q I r ⟨a, _, by rw [e1], .inl e2.sq, by rw [List.length_map]; exact p _ H (Same.refl H) q0G⟩
 ·cases hb
  obtain ⟨v, rfl, gv⟩ := g.one
  obtain ⟨e1, e2⟩ := gv.str hd
  exact q5M pins s σ H _ us Q I r ⟨_, by rw [e1], e2, p _ H (Same.refl H) q0G⟩
 ·cases hb
theorem z4E (hc : X.calm = true) : q1D X (.builtin "min") (biR X minD) := by
 intro pins s σ H xs us Q I r h
 obtain ⟨l, re, O, W, H0, hb, hd, g, d, c, rfl, p⟩ := h
 unfold minD at hb
 split at hb
 ·cases hb
  obtain ⟨v, v', rfl, gv, gv'⟩ := g.two
  exact q8T hc pins s σ H _ us Q I r ⟨_, _, by rw [gv.int hd, gv'.int hd], p _ H (Same.refl H) q0G⟩
 ·split at hb
  ·rename_i n r' hq
   cases hb
   obtain ⟨v, rfl, gv⟩ := g.one
   obtain ⟨a, ys, e1, e2, e3⟩ := gv.lst hd
   have e4 := q3q hq e3
   subst e4
   exact q7Z hc pins s σ H _ us Q I r ⟨a, n :: r', by rw [e1], SqL.of e2, by simp, λ M m1 m2 => by rw [z0A m1 m2]; exact p _ H (Same.refl H) q0G⟩
  ·cases hb
 ·cases hb
theorem z4X (hc : X.calm = true) : q1D X (.builtin "max") (biR X maxD) := by
 intro pins s σ H xs us Q I r h
 obtain ⟨l, re, O, W, H0, hb, hd, g, d, c, rfl, p⟩ := h
 unfold maxD at hb
 split at hb
 ·cases hb
  obtain ⟨v, v', rfl, gv, gv'⟩ := g.two
  exact q8o hc pins s σ H _ us Q I r ⟨_, _, by rw [gv.int hd, gv'.int hd], p _ H (Same.refl H) q0G⟩
 ·split at hb
  ·rename_i n r' hq
   cases hb
   obtain ⟨v, rfl, gv⟩ := g.one
   obtain ⟨a, ys, e1, e2, e3⟩ := gv.lst hd
   have e4 := q3q hq e3
   subst e4
   exact q8y hc pins s σ H _ us Q I r ⟨a, n :: r', by rw [e1], SqL.of e2, by simp, λ M m1 m2 => by rw [z0G m1 m2]; exact p _ H (Same.refl H) q0G⟩
  ·cases hb
 ·cases hb
theorem q5s : bootBuiltins "sorted" = some (.builtin "sorted") := by decide +kernel
theorem q8h : bootBuiltins "set" = some (.type "set") := by decide +kernel
theorem q9T {p' : Pos} {pos' : Pos} (hc : X.calm = true) (hg : Gl X "sorted") (hm : X.mg "sorted" = none) (hg' : Gl X "set") (hm' : X.mg "set" = none)
  (ha : ∀ q, rs = some q -> PA X [e] (dA X.D E δ q)) (hs : q0l e = false) (h : Rs.thn rs q8Q = some re) : PE X (.Call (.Name "sorted" p) [.Call (.Name "set" p') [e] [] pos'] [] pos) (dE X.D E δ re) :=
 q2T (r := λ vs H Q => (∃ (a : Addr) (ns : List Int), vs = [.ref a] /\ SqL X.K H a (ns.map V.int) /\ ns.length < 4000 /\ ∀ p, H p = none -> ∃ (p1 : Addr) (ks : List Int), [V.ref p] = [.ref p1] /\ upd H p (setO X.prog X.w p (ns.foldl dk [])) p1 = some (setO X.prog X.w p1 ks) /\ ks.length < 64 /\
   ∀ (q : Addr) (ms : List Int), upd H p (setO X.prog X.w p (ns.foldl dk [])) q = none -> ms.Perm ks -> ms.Pairwise (· <= ·) -> Q (.ref q) (upd (upd H p (setO X.prog X.w p (ns.foldl dk []))) q (.lst (ms.map V.int)))))
  (λ t hA => by
   have q1 := q5A (p := p') (pos := pos') (q7V hc) hg' hm' q8h hA (by decide) (by decide) (q0h hs) rfl
   have q2 := q4z (p := p) (pos := pos) (q7w hc) hg hm q5s (q1n q1 q3E) (by decide) (by decide) rfl rfl
   exact q2.weak λ σ H Q h => h) ha h λ O W H0 H vs Q l σ hl hd g pp => by
  unfold q8Q at hl
  split at hl
  ·split at hl
   ·rename_i ds c ns hq
    split at hl
    ·rename_i hb
     cases hl
     obtain ⟨v, rfl, gv⟩ := g.one
     obtain ⟨a, ys, e1, e2, e3⟩ := gv.lst hd
     have e4 := q3q hq e3
     subst e4
     refine ⟨a, ns, by rw [e1], SqL.of e2, hb.1, λ p1 hp1 => ⟨p1, _, rfl, q0A, hb.2, λ q ms hq1 pm pw => ?_⟩⟩
     have e5 : ms = q2k (ns.foldl dk []) := z1w (pm.trans (q4b _).symm) pw (q6I _)
     subst e5
     have s1 : Same H (upd H p1 (setO X.prog X.w p1 (ns.foldl dk []))) := q0r hp1
     exact pp _ _ (s1.trans (q0r hq1)) (q1z (hd.mono s1) hq1 (q1E _))
    ·cases hl
   ·cases hl
  ·cases hl
theorem z2B : q1D X (.type "list") (biR X q7i) := by
 intro pins s σ H xs us Q I r h
 obtain ⟨l, re, O, W, H0, hb, hd, g, d, c, rfl, p⟩ := h
 unfold q7i at hb
 split at hb
 ·cases hb
  obtain ⟨v, rfl, gv⟩ := g.one
  obtain ⟨a, e1, e2⟩ := q1B.mp (gv.all hd)
  exact q2c pins s σ H _ us Q I r ⟨a, _, by rw [e1], .inl e2.sq, λ q hq => p _ _ (q0r hq) (q1z hd hq (q1E _))⟩
 ·cases hb
  obtain ⟨v, rfl, gv⟩ := g.one
  obtain ⟨a, ys, e1, e2, e3⟩ := gv.lstC hd
  exact q2c pins s σ H _ us Q I r ⟨a, ys, by rw [e1], .inl (SqL.of e2), λ q hq => p _ _ (q0r hq) (q3p hd hq e3)⟩
 ·cases hb
  obtain ⟨v, rfl, gv⟩ := g.one
  obtain ⟨a, ys, e1, e2, e3⟩ := gv.tupC hd
  exact q2c pins s σ H _ us Q I r ⟨a, ys, by rw [e1], .inr e2, λ q hq => p _ _ (q0r hq) (q3p hd hq e3)⟩
 ·cases hb
theorem q4V : ∀ {ds : List DV} {ns : List Int}, ints? ds = some ns -> ds = ns.map DV.int
 | [], ns, h => by cases h; rfl
 | .int i :: ds, ns, h => by
  have h' : (ints? ds).map (i :: ·) = some ns := h
  obtain ⟨ms, e1, e2⟩ := Option.map_eq_some_iff.mp h'
  rw [← e2, List.map_cons, q4V e1]
 | .non :: _, _, h => by cases h
 | .bl _ :: _, _, h => by cases h
 | .str _ :: _, _, h => by cases h
 | .tup _ :: _, _, h => by cases h
 | .lst _ :: _, _, h => by cases h
 | .dct _ _ :: _, _, h => by cases h
 | .exc _ :: _, _, h => by cases h
 | .fn _ :: _, _, h => by cases h
 | .scr _ :: _, _, h => by cases h
theorem z0q : q1D X (.type "tuple") (biR X q4l) := by
 intro pins s σ H xs us Q I r h
 obtain ⟨l, re, O, W, H0, hb, hd, g, d, c, rfl, p⟩ := h
 unfold q4l at hb
 split at hb
 ·cases hb
  obtain ⟨v, rfl, gv⟩ := g.one
  obtain ⟨a, ys, e1, e2, e3⟩ := gv.lstC hd
  exact q2N pins s σ H _ us Q I r ⟨a, ys, by rw [e1], .inl ⟨SqL.of e2, λ q hq => p _ _ (q0r hq) (q7b hd hq e3)⟩⟩
 ·cases hb
  obtain ⟨v, rfl, gv⟩ := g.one
  obtain ⟨a, ys, e1, e2, e3⟩ := gv.tupC hd
  exact q2N pins s σ H _ us Q I r ⟨a, ys, by rw [e1], .inr ⟨e2, p _ _ (Same.refl H) (by rw [← e1]; exact gv)⟩⟩
 ·cases hb
end
noncomputable def tyS : DV -> Option String
 | .non => some "NoneType" | .bl _ => some "bool" | .int _ => some "int" | .str _ => some "str" | .tup _ => some "tuple" | .lst _ => some "list"
 | _ => none
noncomputable def z4a (T t : String) : Option Bool := if (Value.type T == Value.type t) = true then some true else if PySem.W.kitMeta t = true then (fastBuiltinMro T).map (·.contains (.type t)) else none
theorem q8M : (["NoneType", "bool", "int", "str", "tuple", "list"] : List String).all (λ T => (["int", "bool", "str", "list", "tuple", "dict"] : List String).all λ t => z4a T t == some (T == t || (T == "bool" && t == "int"))) = true := by decide +kernel
theorem q4a {K : PySem.W.Frag} (T t : String) (h1 : T ∈ ["NoneType", "bool", "int", "str", "tuple", "list"]) (h2 : t ∈ ["int", "bool", "str", "list", "tuple", "dict"]) :
  PySem.W.kitOne K (.type T) (.type t) = some (T == t || (T == "bool" && t == "int")) := by
 have q := List.all_eq_true.mp (List.all_eq_true.mp q8M T h1) t h2
 exact (show z4a T t = _ from by simpa using q)
section
variable {X : Cx} {E : St -> XK} {δ : List Sv} {e e' : Expr} {pos p p' : Pos} {re : Re} {ra : Option Re}
theorem z3P {pins : List (Addr × Obj)} {σ : St} {H : Hp} {s : Shared} {Q : Value -> Shared -> Prop} {EE : Value -> Shared -> Prop} {d : DV} {v : V} {u : Value} {T t : String} (I : Inv X pins σ H s) (r : Rep X.D H d v) (rv : RelV v u) (hT : tyS d = some T) (ht : t ∈ ["int", "bool", "str", "list", "tuple", "dict"])
  (h : ∀ tk, Q (.bool (T == t || (T == "bool" && t == "int"))) { s with toks := tk }) : wpAny (model X.prog X.w) X.A (call (.builtin "isinstance") [u, .type t]) Q EE s := by
 cases d with
 | non => cases hT; rw [q2D.mp r] at rv; cases rv; exact PySem.W.kia_one PySem.W.kitx_none I.kIn True.intro (q4a _ _ (by simp) ht) (λ z => nomatch z) h
 | bl b => cases hT; rw [q3U.mp r] at rv; cases rv; exact PySem.W.kia_one PySem.W.kitx_bool I.kIn True.intro (q4a _ _ (by simp) ht) (λ z => nomatch z) h
 | int b => cases hT; rw [q0N.mp r] at rv; obtain ⟨tk, rfl⟩ := rv; exact PySem.W.kia_one PySem.W.kitx_int I.kIn True.intro (q4a _ _ (by simp) ht) (λ z => nomatch z) h
 | str b => cases hT; rw [(q1N.mp r).1] at rv; obtain ⟨tk, rfl⟩ := rv; exact PySem.W.kia_one PySem.W.kitx_str I.kIn True.intro (q4a _ _ (by simp) ht) (λ z => nomatch z) h
 | tup ds =>
  cases hT
  obtain ⟨a, xs, e1, e2, e3⟩ := q0F.mp r
  rw [e1] at rv; cases rv
  obtain ⟨its, _, ⟨o, h1, h2, _⟩, _⟩ := I.tuple e2
  exact PySem.W.kia_one PySem.W.kitx_tuple I.kIn ⟨o, h1, h2⟩ (q4a _ _ (by simp) ht) (λ z => nomatch z) h
 | lst ds =>
  cases hT
  obtain ⟨a, xs, e1, e2, e3⟩ := q0q.mp r
  rw [e1] at rv; cases rv
  obtain ⟨_, its, n, _, _, h1⟩ := I.lstM e2
  exact PySem.W.kia_one PySem.W.kitx_list I.kIn ⟨_, h1, rfl⟩ (q4a _ _ (by simp) ht) (λ z => nomatch z) h
 | dct _ _ => cases hT
 | exc _ => cases hT
 | fn _ => cases hT
 | scr _ => cases hT
noncomputable def rIsi (X : Cx) : List V -> Hp -> VK -> Prop := λ xs H Q => ∃ d T t x, xs = [x, .ty t] /\ Rep X.D H d x /\ tyS d = some T /\ t ∈ ["int", "bool", "str", "list", "tuple", "dict"] /\ Q (.bl (T == t || (T == "bool" && t == "int"))) H
theorem z0L : q1D X (.builtin "isinstance") (rIsi X) := by
 intro pins s σ H xs us Q I r h
 obtain ⟨d, T, t, x, rfl, r1, hT, ht, q⟩ := h
 obtain ⟨u, w', rfl, ru, rw'⟩ := z2h r
 cases rw'
 exact z3P I r1 ru hT ht λ tk => ⟨.bl _, H, I.tok tk, rfl, q⟩
noncomputable def q4n : Str -> Option String := λ x => (["int", "bool", "str", "list", "tuple", "dict"] : List String).find? λ t => Str.ofString t == x
theorem q8z {x : Str} {t : String} (h : q4n x = some t) : bootBuiltins x = some (.type t) /\ t ∈ ["int", "bool", "str", "list", "tuple", "dict"] /\ Str.ofString t = x := by
 unfold q4n at h
 have h1 := List.find?_some h
 have h2 := List.mem_of_find?_eq_some h
 have h3 : Str.ofString t = x := by simpa using h1
 refine ⟨?_, h2, h3⟩
 subst h3
 simp only [List.mem_cons, List.not_mem_nil, or_false] at h2
 rcases h2 with rfl | rfl | rfl | rfl | rfl | rfl
 ·exact boot_int
 ·exact boot_bool
 ·exact boot_str
 ·exact boot_list
 ·exact boot_tuple
 ·exact boot_dict
noncomputable def q8S : String -> List Str
 | "NoneType" => ["NoneType"] | "bool" => ["bool", "int"] | "int" => ["int"] | "str" => ["str"] | "tuple" => ["tuple"] | "list" => ["list"]
 | _ => []
theorem q5W : (["NoneType", "bool", "int", "str", "tuple", "list"] : List String).all (λ T => (["int", "bool", "str", "list", "tuple", "dict"] : List String).all λ t => (q8S T).contains (Str.ofString t) == (T == t || (T == "bool" && t == "int"))) = true := by decide +kernel
theorem z3D {d : DV} {x : Str} {t T : String} (h : q4n x = some t) (hT : tyS d = some T) : (tyOf d).contains x = (T == t || (T == "bool" && t == "int")) := by
 obtain ⟨_, h2, h3⟩ := q8z h
 subst h3
 have key : ∀ T ∈ (["NoneType", "bool", "int", "str", "tuple", "list"] : List String), (q8S T).contains (Str.ofString t) = (T == t || (T == "bool" && t == "int")) := λ T hT => by
  have q := List.all_eq_true.mp (List.all_eq_true.mp q5W T hT) t h2
  simpa using q
 cases d <;> cases hT
 ·exact key "NoneType" (by simp)
 ·exact key "bool" (by simp)
 ·exact key "int" (by simp)
 ·exact key "str" (by simp)
 ·exact key "tuple" (by simp)
 ·exact key "list" (by simp)
theorem z1C {G : Gs} {x : Str} {t : String} (ht : q4n x = some t) (hg : Gl X "isinstance") (hm : X.mg "isinstance" = none) (hgx : Gl X x) (hmx : X.mg x = none) (hnx : x ≠ "__name__") (hdx : (x == ("__debug__" : Str)) = false)
  (ha : ∀ q, ra = some q -> PE X e (dE X.D E δ q)) (hs : q0l e = false) (h : (Re.thn ra λ y _ => (isiD G y [x]).map λ k => .ok (.bl k) .strong) = some re) : PE X (.Call (.Name "isinstance" p) [e, .Name x p'] [] pos) (dE X.D E δ re) := by
 obtain ⟨b1, b2, b3⟩ := q8z ht
 have T : PE X (.Name x p') (tC (.ty t)) := z3g hgx hmx b1 rfl hnx hdx
 have C := λ ta (hA : PE X e ta) => q4z (p := p) (pos := pos) z0L hg hm boot_isinstance (q1n hA (q1n T q3E) (q0h hs)) (by decide) (by decide) (q0h hs)
 cases hra : ra with
 | none => rw [hra] at h; cases h
 | some q =>
  rw [hra] at h
  have A := ha q hra
  cases q with
  | ex c => cases h; exact (C _ A).weak λ σ H Q ⟨O, W, R, p⟩ => ⟨O, W, R, p⟩
  | ok d cl =>
   obtain ⟨k, e1, e2⟩ := Option.map_eq_some_iff.mp (show ((isiD G d [x]).map λ k => Re.ok (.bl k) .strong) = some re from h)
   cases e2
   have key : ∃ T, tyS d = some T /\ k = (tyOf d).contains x := by
    unfold isiD at e1
    have px : q1Z.contains x = true := by
     rw [← b3]
     simp only [List.mem_cons, List.not_mem_nil, or_false] at b2
     rcases b2 with rfl | rfl | rfl | rfl | rfl | rfl <;> decide +kernel
    cases d <;> first
     | (simp only [px, if_true] at e1; cases e1; exact ⟨_, rfl, rfl⟩)
     | cases e1
   obtain ⟨T, hT, hk⟩ := key
   exact (C _ A).weak λ σ H Q ⟨O, W, R, p⟩ => ⟨O, W, R, λ v H1 s1 g1 => ⟨d, T, t, v, rfl, g1.all (R.hid.mono s1), hT, b2, by rw [← z3D ht hT, ← hk]; exact p _ H1 s1 q5f⟩⟩
end
end L2
end
section
namespace L2
open PySem PySem.Spec PyProof.Rows
structure Wk (D : Dm) (J : It) (ds : List DV) (Oc Oi : List Addr) (H1 : Hp) : Prop where
 go : ∀ i H, Same (L2.wo Oc H1) (L2.wo Oc H) -> i < ds.length -> J.go i H
 same : ∀ i H x H', J.yld i H x H' -> Same H H'
 yld : ∀ i H x H' d O2, Same (L2.wo Oc H1) (L2.wo Oc H) -> Same (L2.wo Oi H1) (L2.wo Oi H) -> J.yld i H x H' -> ds[i]? = some d -> (∀ a ∈ O2, H a ≠ none /\ (a ∈ Oi \/ H1 a = none)) -> Rep D (L2.wo O2 H') d x
 stop : ∀ H, Same (L2.wo Oc H1) (L2.wo Oc H) -> J.stop ds.length H
noncomputable def hidW (O W : List Addr) : Cl -> List Addr
 | .top => O
 | .weak => O
 | _ => O ++ W
noncomputable def z5M (D : Dm) (E : St -> XK) (σ : St) (O W : List Addr) (H : Hp) (R : It -> Hp -> Prop) : Ri -> Prop
 | .ok ds c => ∀ J H', Same H H' -> Wk D J ds (hidW O W c) (q0O O W c) H' -> R J H'
 | .ex c => ∀ H' C, D.mg c = some C -> Same H H' -> E σ C none H'
noncomputable def dI (D : Dm) (E : St -> XK) (δ : List Sv) (r : Ri) : TI := λ σ H R => ∃ O W, RSt D H σ δ O W /\ z5M D E σ O W H R r
theorem PI.weak {X : Cx} {tg iter : Expr} {t t' : TI} (h : PI X tg iter t) (k : ∀ σ H R, t' σ H R -> t σ H R) : PI X tg iter t' := λ pins s σ H R I q => h pins s σ H R I (k σ H R q)
theorem q9r {O O2 : List Addr} {H1 H : Hp} (s : Same (L2.wo O H1) (L2.wo O H)) (h : ∀ a ∈ O2, H a ≠ none /\ (a ∈ O \/ H1 a = none)) : Same (L2.wo O H1) (L2.wo O2 H) := λ b o e => by
 have q := s b o e
 obtain ⟨hb, e⟩ := q0M e
 obtain ⟨_, q⟩ := q0M q
 rw [q0n λ z => ?_]
 ·exact q
 ·rcases (h b z).2 with w | w
  ·exact hb w
  ·rw [w] at e; cases e
theorem Wk.list {D : Dm} {ds : List DV} {Oc Oi : List Addr} {H1 : Hp} {a : Addr} {xs : List V} (h : SqL D.K (L2.wo Oc H1) a xs) (r : RepL D (L2.wo Oi H1) ds xs) : Wk D (Itl D.K a) ds Oc Oi H1 where
 go := λ i H s hi => ⟨xs, xs[i]'(by rw [r.length]; exact hi), q0S.seq (s.seq h), List.getElem?_eq_getElem _⟩
 same := λ i H x H' y => by rw [y.1]; exact Same.refl _
 yld := λ i H x H' d O2 s s' y e ho => by
  obtain ⟨e1, y⟩ := y
  subst e1
  obtain ⟨v, q1, q2⟩ := r.get e
  have := y xs (q0S.seq (s.seq h))
  rw [q1] at this; cases this
  exact q2.mono (q9r s' ho)
 stop := λ H s => ⟨xs, q0S.seq (s.seq h), by rw [r.length]; exact Nat.le_refl _⟩
theorem Wk.tup {D : Dm} {ds : List DV} {Oc Oi : List Addr} {H1 : Hp} {a : Addr} {xs : List V} (h : SqT D.K (L2.wo Oc H1) a xs) (r : RepL D (L2.wo Oi H1) ds xs) : Wk D (Itt D.K a) ds Oc Oi H1 where
 go := λ i H s hi => ⟨xs, xs[i]'(by rw [r.length]; exact hi), q0S.tseq (s.tseq h), List.getElem?_eq_getElem _⟩
 same := λ i H x H' y => by rw [y.1]; exact Same.refl _
 yld := λ i H x H' d O2 s s' y e ho => by
  obtain ⟨e1, y⟩ := y
  subst e1
  obtain ⟨v, q1, q2⟩ := r.get e
  have := y xs (q0S.tseq (s.tseq h))
  rw [q1] at this; cases this
  exact q2.mono (q9r s' ho)
 stop := λ H s => ⟨xs, q0S.tseq (s.tseq h), by rw [r.length]; exact Nat.le_refl _⟩
theorem q2E (lo : Int) (n : Nat) : (upTo lo n).length = n := by unfold upTo; rw [List.length_map, List.length_range]
theorem z0O {lo : Int} {n i : Nat} {d : DV} (h : (upTo lo n)[i]? = some d) : i < n /\ d = .int (lo + i) := by
 have hl : i < n := by have := (List.getElem?_eq_some_iff.mp h).1; rw [q2E] at this; exact this
 unfold upTo at h
 rw [List.getElem?_map, List.getElem?_range hl] at h
 cases h
 exact ⟨hl, rfl⟩
theorem Wk.range {D : Dm} {Oc Oi : List Addr} {H1 : Hp} (lo : Int) (n : Nat) : Wk D (Itr lo n) (upTo lo n) Oc Oi H1 where
 go := λ i H s hi => by rw [q2E] at hi; exact hi
 same := λ i H x H' y => by rw [y.1]; exact Same.refl _
 yld := λ i H x H' d O2 s s' y e ho => by
  obtain ⟨e1, y⟩ := y
  subst e1
  obtain ⟨_, e2⟩ := z0O e
  subst e2
  exact q0N.mpr y
 stop := λ H s => by rw [q2E]; exact Nat.le_refl _
theorem q1Q (hi : Int) (n : Nat) : (q1q hi n).length = n := by unfold q1q; rw [List.length_map, List.length_range]
theorem q7y {hi : Int} {n i : Nat} {d : DV} (h : (q1q hi n)[i]? = some d) : i < n /\ d = .int (hi - i) := by
 have hl : i < n := by have := (List.getElem?_eq_some_iff.mp h).1; rw [q1Q] at this; exact this
 unfold q1q at h
 rw [List.getElem?_map, List.getElem?_range hl] at h
 cases h
 exact ⟨hl, rfl⟩
theorem Wk.down {D : Dm} {Oc Oi : List Addr} {H1 : Hp} (hi : Int) (n : Nat) : Wk D (Itd hi n) (q1q hi n) Oc Oi H1 where
 go := λ i H s h => by rw [q1Q] at h; exact h
 same := λ i H x H' y => by rw [y.1]; exact Same.refl _
 yld := λ i H x H' d O2 s s' y e ho => by
  obtain ⟨e1, y⟩ := y
  subst e1
  obtain ⟨_, e2⟩ := q7y e
  subst e2
  exact q0N.mpr y
 stop := λ H s => by rw [q1Q]; exact Nat.le_refl _
section
variable {X : Cx} {E : St -> XK} {δ : List Sv} {tg e e' : Expr} {es : List Expr} {pos p : Pos} {ra rb : Option Re} {rs : Option Rs} {ri : Ri}
theorem Got.walkL {D : Dm} {O W : List Addr} {H0 H : Hp} {ds : List DV} {c : Cl} {v : V} (g : Got D O W H0 H (.lst ds) c v) (hd : Hid O W H0 H) : ∃ a xs, v = .ref a /\ SqL D.K (L2.wo (hidW O W c) H) a xs /\ RepL D (L2.wo (q0O O W c) H) ds xs := by
 cases c with
 | weak => obtain ⟨a, xs, e1, e2, e3⟩ := q0q.mp g; exact ⟨a, xs, e1, SqL.of e2, e3⟩
 | top => obtain ⟨a, xs, e1, e0, e2, e3⟩ := g; exact ⟨a, xs, e1, SqL.of e2, e3⟩
 | strong => obtain ⟨a, xs, e1, e2, e3⟩ := q0q.mp g; exact ⟨a, xs, e1, SqL.of e2, e3⟩
 | fresh => obtain ⟨a, xs, e1, e2, e3⟩ := q0q.mp (g.strong hd); exact ⟨a, xs, e1, SqL.of e2, e3⟩
 | ft => obtain ⟨a, xs, e1, e2, e3⟩ := q0q.mp (g.ft hd); exact ⟨a, xs, e1, SqL.of e2, e3⟩
theorem Got.walkT {D : Dm} {O W : List Addr} {H0 H : Hp} {ds : List DV} {c : Cl} {v : V} (g : Got D O W H0 H (.tup ds) c v) (hd : Hid O W H0 H) : ∃ a xs, v = .ref a /\ SqT D.K (L2.wo (hidW O W c) H) a xs /\ RepL D (L2.wo (q0O O W c) H) ds xs := by
 cases c with
 | weak => exact q0F.mp g
 | top =>
  obtain ⟨a, xs, e1, e2, e3⟩ := q0F.mp (show Rep D (L2.wo (O ++ W) H) (.tup ds) v from g)
  exact ⟨a, xs, e1, (q0x q5z).tseq e2, e3⟩
 | strong => exact q0F.mp g
 | fresh => obtain ⟨_, _, _, _, q, _⟩ := g; cases q
 | ft => exact q0F.mp (g.ft hd)
theorem Got.walkS {D : Dm} {O W : List Addr} {H0 H : Hp} {ns : List Int} {c : Cl} {v : V} (g : Got D O W H0 H (.scr ns) c v) (hd : Hid O W H0 H) : ∃ a, v = .ref a /\ SqL D.K (L2.wo (hidW O W c) H) a (ns.map V.int) := by
 cases c with
 | weak => obtain ⟨a, e1, e2⟩ := q1B.mp g; exact ⟨a, e1, e2.sq⟩
 | top => obtain ⟨a, e1, e2⟩ := q1B.mp (show Rep D (L2.wo (O ++ W) H) (.scr ns) v from g); exact ⟨a, e1, (q0x q5z).seq e2.sq⟩
 | strong => obtain ⟨a, e1, e2⟩ := q1B.mp g; exact ⟨a, e1, e2.sq⟩
 | fresh => obtain ⟨_, _, _, _, q, _⟩ := g; cases q
 | ft => obtain ⟨a, e1, e2⟩ := q1B.mp (g.ft hd); exact ⟨a, e1, e2.sq⟩
theorem q6N (ha : ∀ q, ra = some q -> PE X e (dE X.D E δ q)) (h : q0K ra = some ri) : PI X tg e (dI X.D E δ ri) := by
 cases hra : ra with
 | none => rw [hra] at h; cases h
 | some q =>
  rw [hra] at h
  have A := ha q hra
  cases q with
  | ex c => cases h; exact (q6n A).weak λ σ H R' ⟨O, W, R, p⟩ => ⟨O, W, R, p⟩
  | ok d c =>
   obtain ⟨ds, e1, e2⟩ := Option.map_eq_some_iff.mp (show ((seqD d).map λ ds => Ri.ok ds c) = some ri from h)
   cases e2
   unfold seqD at e1
   split at e1
   ·cases e1
    exact (q6n A).weak λ σ H R' ⟨O, W, R, p⟩ => ⟨O, W, R, λ v H1 s1 g1 => by
     obtain ⟨a, e1, e2⟩ := g1.walkS (R.hid.mono s1)
     exact ⟨a, e1, ⟨_, q0S.seq e2⟩, p _ H1 s1 (.list e2 (q1E _))⟩⟩
   ·cases e1
    exact (q6n A).weak λ σ H R' ⟨O, W, R, p⟩ => ⟨O, W, R, λ v H1 s1 g1 => by
     obtain ⟨a, xs, e1, e2, e3⟩ := g1.walkL (R.hid.mono s1)
     exact ⟨a, e1, ⟨xs, q0S.seq e2⟩, p _ H1 s1 (.list e2 e3)⟩⟩
   ·cases e1
    exact (z4U A).weak λ σ H R' ⟨O, W, R, p⟩ => ⟨O, W, R, λ v H1 s1 g1 => by
     obtain ⟨a, xs, e1, e2, e3⟩ := g1.walkT (R.hid.mono s1)
     exact ⟨a, e1, ⟨xs, q0S.tseq e2⟩, p _ H1 s1 (.tup e2 e3)⟩⟩
   ·cases e1
theorem q1F {i : Int} (h : q0I i = true) : -(2 ^ 62) <= i /\ i < 2 ^ 62 := by
 unfold q0I at h
 simpa [Bool.and_eq_true] using h
theorem q4N {o : Option (List DV)} {ri : Ri} (h : q0K (o.map λ ds => Re.ok (.lst ds) .fresh) = some ri) : ∃ ds, o = some ds /\ ri = .ok ds .fresh := by
 cases o with
 | none => cases h
 | some ds => cases h; exact ⟨ds, rfl, rfl⟩
theorem q7q (hg : Gl X "range") (hm : X.mg "range" = none) (ha : ∀ q, rs = some q -> PA X [e] (dA X.D E δ q)) (hs : q0l e = false) (h : q0K (Rs.thn rs λ l => (rngD l).map λ ds => Re.ok (.lst ds) .fresh) = some ri) (hl : ∀ l, rs = some (.ok l) -> l.length = 1) :
  PI X tg (.Call (.Name "range" p) [e] [] pos) (dI X.D E δ ri) := by
 have C := λ t (hA : PA X [e] t) => q9x (tg := tg) (p := p) (pos := pos) hg hm hA (q0h hs)
 cases hrs : rs with
 | none => rw [hrs] at h; cases h
 | some q =>
  rw [hrs] at h
  have A := ha q hrs
  cases q with
  | ex c => cases h; exact (C _ A).weak λ σ H R' ⟨O, W, R, p⟩ => ⟨O, W, R, p⟩
  | ok l =>
   have l1 := hl l hrs
   obtain ⟨ds, e1, e2⟩ := q4N (show q0K ((rngD l).map λ ds => Re.ok (.lst ds) .fresh) = some ri from h)
   cases e2
   unfold rngD at e1
   split at e1
   ·rename_i j c
    split at e1
    ·rename_i m
     cases e1
     rw [Bool.and_eq_true] at m
     have q := q1F m.1
     exact (C _ A).weak λ σ H R' ⟨O, W, R, p⟩ => ⟨O, W, R, λ vs H1 s1 g1 => by
      obtain ⟨v, rfl, gv⟩ := g1.one
      exact ⟨j, by rw [gv.int (R.hid.mono s1)], q.1, q.2, p _ H1 s1 (.range _ _)⟩⟩
    ·cases e1
   ·cases l1
   ·cases l1
   ·cases e1
theorem q7D (hg : Gl X "range") (hm : X.mg "range" = none) (ha : ∀ q, rs = some q -> PA X [e, e'] (dA X.D E δ q)) (hs : q0l e = false) (hs' : q0l e' = false) (h : q0K (Rs.thn rs λ l => (rngD l).map λ ds => Re.ok (.lst ds) .fresh) = some ri) (hl : ∀ l, rs = some (.ok l) -> l.length = 2) :
  PI X tg (.Call (.Name "range" p) [e, e'] [] pos) (dI X.D E δ ri) := by
 have C := λ t (hA : PA X [e, e'] t) => q9k (tg := tg) (p := p) (pos := pos) hg hm hA (by rw [q0h hs, q0h hs']; rfl) (q0h hs')
 cases hrs : rs with
 | none => rw [hrs] at h; cases h
 | some q =>
  rw [hrs] at h
  have A := ha q hrs
  cases q with
  | ex c => cases h; exact (C _ A).weak λ σ H R' ⟨O, W, R, p⟩ => ⟨O, W, R, p⟩
  | ok l =>
   have l1 := hl l hrs
   obtain ⟨ds, e1, e2⟩ := q4N (show q0K ((rngD l).map λ ds => Re.ok (.lst ds) .fresh) = some ri from h)
   cases e2
   unfold rngD at e1
   split at e1
   ·cases l1
   ·rename_i i c j c'
    split at e1
    ·rename_i m
     cases e1
     rw [Bool.and_eq_true, Bool.and_eq_true] at m
     have q := q1F m.1.1
     have q' := q1F m.1.2
     exact (C _ A).weak λ σ H R' ⟨O, W, R, p⟩ => ⟨O, W, R, λ vs H1 s1 g1 => by
      obtain ⟨v, v', rfl, gv, gv'⟩ := g1.two
      exact ⟨i, j, by rw [gv.int (R.hid.mono s1), gv'.int (R.hid.mono s1)], ⟨q.1, q.2, q'.1, q'.2⟩, p _ H1 s1 (.range _ _)⟩⟩
    ·cases e1
   ·cases l1
   ·cases e1
theorem q7A {e'' : Expr} (hg : Gl X "range") (hm : X.mg "range" = none) (ha : ∀ q, rs = some q -> PA X [e, e', e''] (dA X.D E δ q)) (hs : q0l e = false) (hs' : q0l e' = false) (hs'' : q0l e'' = false) (h : q0K (Rs.thn rs λ l => (rngD l).map λ ds => Re.ok (.lst ds) .fresh) = some ri) (hl : ∀ l, rs = some (.ok l) -> l.length = 3) :
  PI X tg (.Call (.Name "range" p) [e, e', e''] [] pos) (dI X.D E δ ri) := by
 have C := λ t (hA : PA X [e, e', e''] t) => q8n (tg := tg) (p := p) (pos := pos) hg hm hA (by rw [q0h hs, q0h hs', q0h hs'']; rfl) (by rw [q0h hs', q0h hs'']; rfl)
 cases hrs : rs with
 | none => rw [hrs] at h; cases h
 | some q =>
  rw [hrs] at h
  have A := ha q hrs
  cases q with
  | ex c => cases h; exact (C _ A).weak λ σ H R' ⟨O, W, R, p⟩ => ⟨O, W, R, p⟩
  | ok l =>
   have l1 := hl l hrs
   obtain ⟨ds, e1, e2⟩ := q4N (show q0K ((rngD l).map λ ds => Re.ok (.lst ds) .fresh) = some ri from h)
   cases e2
   unfold rngD at e1
   split at e1
   ·cases l1
   ·cases l1
   ·rename_i i c j c' k c''
    split at e1
    ·rename_i m
     cases e1
     rw [Bool.and_eq_true, Bool.and_eq_true, Bool.and_eq_true, decide_eq_true_eq, decide_eq_true_eq] at m
     have q := q1F m.1.1.1
     have q' := q1F m.1.1.2
     have k1 := m.2
     subst k1
     exact (C _ A).weak λ σ H R' ⟨O, W, R, p⟩ => ⟨O, W, R, λ vs H1 s1 g1 => by
      obtain ⟨v, v', v'', rfl, gv, gv', gv''⟩ := g1.three
      exact ⟨i, j, by rw [gv.int (R.hid.mono s1), gv'.int (R.hid.mono s1), gv''.int (R.hid.mono s1)], ⟨q.1, q.2, q'.1, q'.2⟩, p _ H1 s1 (.down _ _)⟩⟩
    ·cases e1
   ·cases e1
end
noncomputable def q6A : List Nat -> TGs
 | [] => gNil
 | i :: is => z3v (q9h i) (q6A is)
noncomputable def gT (K : PySem.W.Frag) : Tg -> TG
 | .one i => q9h i
 | .many is => gTup K is.length (q6A is)
theorem RSt.setVal {D : Dm} {H : Hp} {σ : St} {δ : List Sv} {O W : List Addr} {v : V} {d : DV} (R : RSt D H σ δ O W) (r : Rep D (L2.wo (O ++ W) H) d v) (i : Nat) : RSt D H (σ.set i (some v)) (δ.set i (.val d)) O W where
 val := λ j d' h => by
  by_cases hj : j = i
  ·subst hj
   have hl : j < δ.length := by
    have := (List.getElem?_eq_some_iff.mp h).1
    rw [List.length_set] at this; exact this
   rw [List.getElem?_set_self hl] at h
   cases h
   exact ⟨v, List.getElem?_set_self (by rw [R.len]; exact hl), r⟩
  ·rw [List.getElem?_set_ne (Ne.symm hj)] at h ⊢
   exact R.val j d' h
 own := λ j ds' h => by
  by_cases hj : j = i
  ·subst hj
   have hl : j < δ.length := by
    have := (List.getElem?_eq_some_iff.mp h).1
    rw [List.length_set] at this; exact this
   rw [List.getElem?_set_self hl] at h
   cases h
  ·rw [List.getElem?_set_ne (Ne.symm hj)] at h ⊢
   exact R.own j ds' h
 inj := λ j k a d1 d2 h1 h2 e1 e2 => by
  have ne : ∀ {j : Nat} {d1 : DV}, (δ.set i (.val d))[j]? = some (.own d1) -> j ≠ i := λ {j d1} h1 z => by
   subst z
   have hl : j < δ.length := by
    have := (List.getElem?_eq_some_iff.mp h1).1
    rw [List.length_set] at this; exact this
   rw [List.getElem?_set_self hl] at h1
   cases h1
  have n1 := ne h1
  have n2 := ne h2
  rw [List.getElem?_set_ne (Ne.symm n1)] at h1 e1
  rw [List.getElem?_set_ne (Ne.symm n2)] at h2 e2
  exact R.inj j k a d1 d2 h1 h2 e1 e2
 ot := λ j d' h => by
  have ne : ∀ {j : Nat} {s : Sv}, (∀ d, s ≠ .val d) -> (δ.set i (.val d))[j]? = some s -> j ≠ i := λ {j s} hs h1 z => by
   subst z
   have hl : j < δ.length := by
    have := (List.getElem?_eq_some_iff.mp h1).1
    rw [List.length_set] at this; exact this
   rw [List.getElem?_set_self hl] at h1
   cases h1
   exact hs _ rfl
  have nj := ne (by intro d z; cases z) h
  rw [List.getElem?_set_ne (Ne.symm nj)] at h ⊢
  obtain ⟨⟨t, ts, p, xs, ds, es, e0, e1, e2, e3, e4, e5, e6, e7⟩, u⟩ := R.ot j d' h
  refine ⟨⟨t, ts, p, xs, ds, es, e0, e1, e2, e3, e4, e5, e6, λ k d2 q => ?_⟩, λ k d2 q => ?_⟩
  ·have nk := ne (by intro d z; cases z) q
   rw [List.getElem?_set_ne (Ne.symm nk)] at q ⊢
   exact e7 k d2 q
  ·have nk := ne (by intro d z; cases z) q
   rw [List.getElem?_set_ne (Ne.symm nk)] at q
   exact u k d2 q
 o2 := λ j d' h => by
  have ne : ∀ {j : Nat} {s : Sv}, (∀ d, s ≠ .val d) -> (δ.set i (.val d))[j]? = some s -> j ≠ i := λ {j s} hs h1 z => by
   subst z
   have hl : j < δ.length := by
    have := (List.getElem?_eq_some_iff.mp h1).1
    rw [List.length_set] at this; exact this
   rw [List.getElem?_set_self hl] at h1
   cases h1
   exact hs _ rfl
  have nj := ne (by intro d z; cases z) h
  rw [List.getElem?_set_ne (Ne.symm nj)] at h ⊢
  obtain ⟨⟨p, L, e0, e1, e2, e3⟩, u, n⟩ := R.o2 j d' h
  refine ⟨⟨p, L, e0, e1, e2, λ k d2 a q q2 => ?_⟩, λ k d2 q => ?_, λ k d2 q => ?_⟩
  ·have nk := ne (by intro d z; cases z) q
   rw [List.getElem?_set_ne (Ne.symm nk)] at q q2
   exact e3 k d2 a q q2
  ·have nk := ne (by intro d z; cases z) q
   rw [List.getElem?_set_ne (Ne.symm nk)] at q
   exact u k d2 q
  ·have nk := ne (by intro d z; cases z) q
   rw [List.getElem?_set_ne (Ne.symm nk)] at q
   exact n k d2 q
 len := by rw [List.length_set, List.length_set]; exact R.len
 hid := R.hid
theorem q5L {D : Dm} {H : Hp} {O W : List Addr} {Q : St -> Hp -> Prop} : ∀ {is : List Nat} {ds : List DV} {xs : List V} {σ : St} {δ δ' : List Sv}, RSt D H σ δ O W -> RepL D (L2.wo (O ++ W) H) ds xs -> q4g δ is ds = some δ' -> (∀ σ', RSt D H σ' δ' O W -> Q σ' H) -> q6A is xs σ H Q
 | [], [], xs, σ, δ, δ', R, r, h, q => by cases h; exact ⟨q0s.mp r, q σ R⟩
 | i :: is, d :: ds, xs, σ, δ, δ', R, r, h, q => by
  obtain ⟨v, vs, e1, e2, e3⟩ := q0f.mp r
  exact ⟨v, vs, e1, q5L (R.setVal e2 i) e3 h q⟩
 | [], _ :: _, _, _, _, _, _, _, h, _ => by cases h
 | _ :: _, [], _, _, _, _, _, _, h, _ => by cases h
theorem q1P : ∀ {is : List Nat} {ds : List DV} {δ δ' : List Sv}, q4g δ is ds = some δ' -> is.length = ds.length /\ δ'.length = δ.length
 | [], [], _, _, h => by cases h; exact ⟨rfl, rfl⟩
 | i :: is, d :: ds, δ, δ', h => by
  obtain ⟨a, b⟩ := q1P (is := is) h
  exact ⟨by rw [List.length_cons, List.length_cons, a], by rw [b, List.length_set]⟩
 | [], _ :: _, _, _, h => by cases h
 | _ :: _, [], _, _, h => by cases h
theorem q4G {D : Dm} {H : Hp} {O W : List Addr} {Q : St -> Hp -> Prop} {tg : Tg} {d : DV} {x : V} {σ : St} {δ δ' : List Sv} (R : RSt D H σ δ O W) (r : Rep D (L2.wo (O ++ W) H) d x) (h : tg.bind d δ = some δ') (q : ∀ σ', RSt D H σ' δ' O W -> Q σ' H) : gT D.K tg x σ H Q := by
 cases tg with
 | one i => cases h; exact q _ (R.setVal r i)
 | many is =>
  unfold Tg.bind at h
  dsimp only at h
  split at h
  ·rename_i ds
   obtain ⟨a, xs, e1, e2, e3⟩ := q0F.mp r
   exact ⟨a, xs, e1, q0S.tseq e2, by rw [e3.length, (q1P h).1], q5L R e3 h q⟩
  ·cases h
theorem RSt.less {D : Dm} {H : Hp} {σ : St} {δ δ' : List Sv} {O W : List Addr} (R : RSt D H σ δ' O W) (hl : δ.length = δ'.length) (h : ∀ (i : Nat) sv, δ[i]? = some sv -> sv = .no \/ δ'[i]? = some sv) : RSt D H σ δ O W where
 val := λ i d e => by
  rcases h i _ e with z | z
  ·cases z
  ·exact R.val i d z
 own := λ i d e => by
  rcases h i _ e with z | z
  ·cases z
  ·exact R.own i d z
 inj := λ i j a d d' e e' => by
  rcases h i _ e with z | z
  ·cases z
  ·rcases h j _ e' with y | y
   ·cases y
   ·exact R.inj i j a d d' z y
 ot := λ i d e => by
  rcases h i _ e with z | z
  ·cases z
  ·obtain ⟨⟨t, ts, p, xs, ds, es, e0, e1, e2, e3, e4, e5, e6, e7⟩, u⟩ := R.ot i d z
   refine ⟨⟨t, ts, p, xs, ds, es, e0, e1, e2, e3, e4, e5, e6, λ k d2 q => ?_⟩, λ k d2 q => ?_⟩
   ·rcases h k _ q with y | y
    ·cases y
    ·exact e7 k d2 y
   ·rcases h k _ q with y | y
    ·cases y
    ·exact u k d2 y
 o2 := λ i d e => by
  rcases h i _ e with z | z
  ·cases z
  ·obtain ⟨⟨p, L, e0, e1, e2, e3⟩, u, n⟩ := R.o2 i d z
   refine ⟨⟨p, L, e0, e1, e2, λ k d2 a q q2 => ?_⟩, λ k d2 q => ?_, λ k d2 q => ?_⟩
   ·rcases h k _ q with y | y
    ·cases y
    ·exact e3 k d2 a y q2
   ·rcases h k _ q with y | y
    ·cases y
    ·exact u k d2 y
   ·rcases h k _ q with y | y
    ·cases y
    ·exact n k d2 y
 len := by rw [hl]; exact R.len
 hid := R.hid
theorem q5X : ∀ {is : List Nat} {ds : List DV} {δ δ' : List Sv}, q4g δ is ds = some δ' -> (∀ i ∈ is, δ[i]? = some .no \/ δ[i]? = none) -> ∀ (i : Nat) sv, δ[i]? = some sv -> sv = .no \/ δ'[i]? = some sv
 | [], [], _, _, h, _, i, sv, e => by cases h; exact .inr e
 | j :: is, d :: ds, δ, δ', h, hn, i, sv, e => by
  by_cases hij : i ∈ j :: is
  ·rcases hn i hij with z | z
   ·rw [z] at e; cases e; exact .inl rfl
   ·rw [z] at e; cases e
  ·have hne : j ≠ i := λ z => hij (by rw [z]; exact List.mem_cons_self)
   have hni : i ∉ is := λ z => hij (List.mem_cons_of_mem _ z)
   have key : ∀ {is : List Nat} {ds : List DV} {δ δ' : List Sv}, q4g δ is ds = some δ' -> i ∉ is -> δ[i]? = some sv -> δ'[i]? = some sv := by
    intro is
    induction is with
    | nil => intro ds δ δ' h _ e; cases ds with
     | nil => cases h; exact e
     | cons _ _ => cases h
    | cons k is ih => intro ds δ δ' h hi e; cases ds with
     | nil => cases h
     | cons d ds =>
      refine ih h (λ z => hi (List.mem_cons_of_mem _ z)) ?_
      rw [List.getElem?_set_ne (λ z => hi (by rw [z]; exact List.mem_cons_self))]
      exact e
   exact .inr (key h hij e)
 | [], _ :: _, _, _, h, _, _, _, _ => by cases h
 | _ :: _, [], _, _, h, _, _, _, _ => by cases h
theorem q3S {tg : Tg} {d : DV} {δ δ' : List Sv} (h : tg.bind d δ = some δ') (hn : ∀ i ∈ q1L tg, δ[i]? = some .no \/ δ[i]? = none) : δ.length = δ'.length /\ ∀ (i : Nat) sv, δ[i]? = some sv -> sv = .no \/ δ'[i]? = some sv := by
 cases tg with
 | one j =>
  cases h
  refine ⟨(List.length_set ..).symm, λ i sv e => ?_⟩
  by_cases hij : i = j
  ·subst hij
   rcases hn i (by simp [q1L]) with z | z
   ·rw [z] at e; cases e; exact .inl rfl
   ·rw [z] at e; cases e
  ·exact .inr (by rw [List.getElem?_set_ne (Ne.symm hij)]; exact e)
 | many is =>
  unfold Tg.bind at h
  dsimp only at h
  split at h
  ·exact ⟨(q1P h).2.symm, q5X h hn⟩
  ·cases h
theorem RSt.inner {D : Dm} {H : Hp} {σ : St} {δ : List Sv} {O W : List Addr} (R : RSt D H σ δ O W) (fr : List (Option Nat)) (hnd : ∀ (j k i : Nat), fr[j]? = some (some i) -> fr[k]? = some (some i) -> j = k) : RSt D H (L2.inner fr σ) (q0v fr δ) O W := by
 have look : ∀ (j : Nat) sv, (q0v fr δ)[j]? = some sv -> sv ≠ .no -> ∃ i, fr[j]? = some (some i) /\ δ[i]? = some sv := λ j sv h hn => by
  unfold q0v at h
  rw [List.getElem?_map] at h
  cases q : fr[j]? with
  | none => rw [q] at h; cases h
  | some o =>
   rw [q] at h
   cases o with
   | none => cases h; exact absurd rfl hn
   | some i =>
    refine ⟨i, rfl, ?_⟩
    have h' : (δ.getD i .no).plain = sv := by simpa using h
    rw [List.getD_eq_getElem?_getD] at h'
    cases z : δ[i]? with
    | none => rw [z] at h'; exact absurd h'.symm hn
    | some sv' =>
     rw [z] at h'
     cases sv' with
     | ot d => exact absurd h'.symm hn
     | o2 d => exact absurd h'.symm hn
     | no => exact congrArg some h'
     | val d => exact congrArg some h'
     | own d => exact congrArg some h'
 have sig : ∀ (j i : Nat) (v : V), fr[j]? = some (some i) -> σ[i]? = some (some v) -> (L2.inner fr σ)[j]? = some (some v) := λ j i v q e => by
  unfold L2.inner
  rw [List.getElem?_map, q]
  simp [e]
 have noot : ∀ (j : Nat) d, (q0v fr δ)[j]? ≠ some (.ot d) := λ j d h => by
  unfold q0v at h
  rw [List.getElem?_map] at h
  cases q : fr[j]? with
  | none => rw [q] at h; cases h
  | some o =>
   rw [q] at h
   cases o with
   | none => cases h
   | some i =>
    have h' : (δ.getD i .no).plain = .ot d := by simpa using h
    cases z : δ.getD i .no with
    | ot d2 => rw [z] at h'; cases h'
    | o2 d2 => rw [z] at h'; cases h'
    | no => rw [z] at h'; cases h'
    | val d2 => rw [z] at h'; cases h'
    | own d2 => rw [z] at h'; cases h'
 have noo2 : ∀ (j : Nat) d, (q0v fr δ)[j]? ≠ some (.o2 d) := λ j d h => by
  unfold q0v at h
  rw [List.getElem?_map] at h
  cases q : fr[j]? with
  | none => rw [q] at h; cases h
  | some o =>
   rw [q] at h
   cases o with
   | none => cases h
   | some i =>
    have h' : (δ.getD i .no).plain = .o2 d := by simpa using h
    cases z : δ.getD i .no with
    | ot d2 => rw [z] at h'; cases h'
    | o2 d2 => rw [z] at h'; cases h'
    | no => rw [z] at h'; cases h'
    | val d2 => rw [z] at h'; cases h'
    | own d2 => rw [z] at h'; cases h'
 refine ⟨λ j d h => ?_, λ j d h => ?_, λ j k a d d' h1 h2 e1 e2 => ?_, λ j d h => absurd h (noot j d), λ j d h => absurd h (noo2 j d), ?_, R.hid⟩
 ·obtain ⟨i, q1, q2⟩ := look j _ h (by intro z; cases z)
  obtain ⟨v, e1, e2⟩ := R.val i d q2
  exact ⟨v, sig j i v q1 e1, e2⟩
 ·obtain ⟨i, q1, q2⟩ := look j _ h (by intro z; cases z)
  obtain ⟨a, xs, ds, e0, e1, e2⟩ := R.own i d q2
  exact ⟨a, xs, ds, e0, sig j i _ q1 e1, e2⟩
 ·obtain ⟨i, q1, q2⟩ := look j _ h1 (by intro z; cases z)
  obtain ⟨i', q1', q2'⟩ := look k _ h2 (by intro z; cases z)
  obtain ⟨b, xs, ds, _, z1, _⟩ := R.own i d q2
  obtain ⟨b', xs', ds', _, z1', _⟩ := R.own i' d' q2'
  have y := sig j i _ q1 z1
  have y' := sig k i' _ q1' z1'
  rw [e1] at y
  rw [e2] at y'
  cases y
  cases y'
  have := R.inj i i' a d d' q2 q2' z1 z1'
  subst this
  exact hnd j k i q1 q1'
 ·unfold L2.inner q0v; rw [List.length_map, List.length_map]
section
variable {X : Cx} {E : St -> XK} {δ : List Sv} {iter elt tgE : Expr} {ifs : List Expr} {pos : Pos} {N' : List Str} {scope : Scope} {fr : List (Option Nat)} {tg : Tg} {ri : Option Ri} {re : Re}
theorem q6q {D : Dm} {J : It} {ds : List DV} {O W : List Addr} {H H1 : Hp} {σ : St} {c : Cl} {g : DV -> Option Rc} {xs : List DV} {tc : TT} {te : TE} {δ0 : List Sv} {Q : VK} (w : Wk D J ds (hidW O W c) (q0O O W c) H1) (hd0 : Hid O W H H) (hc : c ≠ .weak) (R : RSt D H1 σ δ0 O W)
  (hn : ∀ i ∈ q1L tg, δ0[i]? = some .no \/ δ0[i]? = none) (hz : ds.length <= sizeLine) (hx : q0z g ds = some xs) (s1 : Same H H1)
  (step : ∀ d rc, d ∈ ds -> g d = some rc -> ∃ δ', tg.bind d δ0 = some δ' /\ ∀ σ' H2, Same H1 H2 -> RSt D H2 σ' δ' O W -> ∀ K : Bool -> Hp -> Prop, (rc = .skip -> ∀ H3, Same H2 H3 -> K false H3) -> (∀ x, rc = .item x -> ∀ H3, Same H2 H3 -> K true H3) -> tc σ' H2 K)
  (stepE : ∀ d x, d ∈ ds -> g d = some (.item x) -> ∀ δ', tg.bind d δ0 = some δ' -> ∀ σ' H2, Same H1 H2 -> RSt D H2 σ' δ' O W -> ∀ K : VK, (∀ v H3, Same H2 H3 -> Rep D (L2.wo (O ++ W) H3) x v -> K v H3) -> te σ' H2 K)
  (fin : ∀ v H', Same H H' -> Got D O W H H' (.lst xs) .fresh v -> Q v H') :
  z0b J (gT D.K tg) tc te (λ ys H' => ∀ p, H' p = none -> Q (.ref p) (upd H' p (.lst ys))) σ H1 := by
 have ci : q0O O W c = O ++ W := by cases c <;> first | rfl | exact absurd rfl hc
 rw [ci] at w
 refine ⟨λ i n ys σ' H' => n = ds.length - i /\ i <= ds.length /\ ys.length <= i /\ RSt D H' σ' δ0 O W /\ Same H1 H' /\ ∃ done rest, q0z g (ds.drop i) = some rest /\ done ++ rest = xs /\ RepL D (L2.wo (O ++ W) H') done ys,
  ⟨ds.length, rfl, Nat.zero_le _, Nat.zero_le _, R, Same.refl _, [], xs, hx, rfl, q0s.mpr rfl⟩, ?_⟩
 rintro i n ys σ2 H2 ⟨rfl, hi', hy, R2, s2, done, rest, h1, h2, r2⟩
 by_cases hlt : i < ds.length
 ·refine .inr ⟨w.go i H2 s2.wo hlt, Nat.lt_of_le_of_lt hy (Nat.lt_of_lt_of_le hlt hz), λ x' H3 y => ?_⟩
  have y1 := w.same i H2 x' H3 y
  have y3 : Rep D (L2.wo (O ++ W) H3) ds[i] x' := w.yld i H2 x' H3 _ (O ++ W) s2.wo s2.wo y (List.getElem?_eq_getElem hlt) λ a ha => ⟨R2.hid.ot a ha, .inl ha⟩
  rw [List.drop_eq_getElem_cons hlt] at h1
  have hm : ds[i] ∈ ds := List.getElem_mem hlt
  unfold q0z at h1
  split at h1
  ·cases h1
  ·rename_i q
   obtain ⟨δ', b1, b2⟩ := step _ _ hm q
   refine q4G (R2.mono y1) y3 b1 λ σ3 R3 => ?_
   have back := q3S b1 hn
   refine b2 σ3 H3 (s2.trans y1) R3 _ (λ _ H4 s4 => ?_) (λ x z => nomatch z)
   show if false = true then _ else _
   rw [if_neg Bool.false_ne_true]
   exact ⟨ds.length - (i + 1), by omega, rfl, hlt, Nat.le_succ_of_le hy, (R3.less back.1 back.2).mono s4, (s2.trans y1).trans s4, done, rest, h1, h2, r2.mono (y1.trans s4).wo⟩
  ·rename_i x q
   split at h1
   ·cases h1
   ·rename_i rest' q'
    cases h1
    obtain ⟨δ', b1, b2⟩ := step _ _ hm q
    refine q4G (R2.mono y1) y3 b1 λ σ3 R3 => ?_
    have back := q3S b1 hn
    refine b2 σ3 H3 (s2.trans y1) R3 _ (λ z => nomatch z) (λ x' z H4 s4 => ?_)
    cases z
    show if true = true then _ else _
    rw [if_pos rfl]
    refine stepE _ x hm q δ' b1 σ3 H4 ((s2.trans y1).trans s4) (R3.mono s4) _ λ v H5 s5 rv => ?_
    exact ⟨ds.length - (i + 1), by omega, rfl, hlt, by rw [List.length_append, List.length_singleton]; omega, (R3.less back.1 back.2).mono (s4.trans s5), ((s2.trans y1).trans s4).trans s5, done ++ [x], rest', q', by rw [List.append_assoc]; exact h2,
     (r2.mono ((y1.trans s4).trans s5).wo).append (RepL.one rv)⟩
 ·have e : i = ds.length := by omega
  subst e
  rw [List.drop_length] at h1
  cases h1
  rw [List.append_nil] at h2
  subst h2
  have s0 := s1.trans s2
  refine .inl ⟨w.stop H2 s2.wo, λ p hp => fin _ _ (s0.trans (q0r hp)) ?_⟩
  have hd : Hid O W H H2 := hd0.mono s0
  exact q1z hd hp r2
noncomputable abbrev E0s : St -> XK := λ _ _ _ _ => False
theorem PE.any {Y : Cx} {e : Expr} {ι : Sort _} {t : ι -> TE} (h : ∀ k, PE Y e (t k)) : PE Y e (λ σ H Q => ∃ k, t k σ H Q) := λ pins s σ H Q I ⟨k, q⟩ => h k pins s σ H Q I q
theorem PTs.any {Y : Cx} {ι : Sort _} {es : List Expr} {t : ι -> TT} (h : ∀ k, PTs Y es (t k)) : PTs Y es (λ σ H Q => ∃ k, t k σ H Q) := λ pins s σ H Q I ⟨k, q⟩ => h k pins s σ H Q I q
theorem Rc.of_item {r : Option Re} {x : DV} (h : Rc.of r = some (.item x)) : ∃ c, r = some (.ok x c) /\ stro x c = true := by
 unfold Rc.of at h
 split at h
 ·rename_i d c
  split at h
  ·rename_i m; cases h; exact ⟨c, rfl, m⟩
  ·cases h
 ·cases h
theorem Rc.of_skip {r : Option Re} (h : Rc.of r = some .skip) : False := by
 unfold Rc.of at h
 split at h
 ·split at h <;> cases h
 ·cases h
theorem q3I {fr : List (Option Nat)} {δ : List Sv} {i : Nat} (h : fr[i]? = some none) : (q0v fr δ)[i]? = some .no := by
 unfold q0v
 rw [List.getElem?_map, h]; rfl
noncomputable def q1e (X : Cx) (E : St -> XK) (δ : List Sv) (tgE iter : Expr) (ifs : List Expr) (elt : Expr) (scope : Scope) (N' : List Str) (fr : List (Option Nat)) (tg : Tg) (re : Re) : Prop :=
 ∃ wi tc te, PI X tgE iter wi /\ (∀ C cells s₂ H₂ fp, PTs (q0m X scope N' C cells s₂ H₂ fp) ifs tc) /\ (∀ C cells s₂ H₂ fp, PE (q0m X scope N' C cells s₂ H₂ fp) elt te) /\
  ∀ σ H Q, dE X.D E δ re σ H Q -> q9X fr wi (gT X.K tg) tc te σ H Q
theorem q3G {iter : Expr} {env : Env} (hset : q3d iter = false) : ∀ x, foldedSetIterable iter env x = pure x := by cases iter <;> first | (intro _; rfl) | cases hset
theorem q1e.pe (P : q1e X E δ tgE iter ifs elt scope N' fr tg re) (S : CompScope X.N N' scope X.env.scope fr) (hc : X.calm = true) (hG : ∀ C cells s₂ H₂ fp, PG (q0m X scope N' C cells s₂ H₂ fp) tgE (gT X.K tg)) (hset : q3d iter = false) :
  PE X (.ListComp elt [⟨tgE, iter, ifs, 0⟩] scope pos) (dE X.D E δ re) := by
 obtain ⟨wi, tc, te, h1, h2, h3, h4⟩ := P
 exact (q8Z (pos := pos) S hc h1 hG h2 h3 (q3G hset)).weak h4
theorem q3W {evElt : List Sv -> Option Re} (S : CompScope X.N N' scope X.env.scope fr) (hc : X.calm = true) (hnd : ∀ (j k i : Nat), fr[j]? = some (some i) -> fr[k]? = some (some i) -> j = k) (hsl : ∀ i ∈ q1L tg, fr[i]? = some none) (hi : ∀ q, ri = some q -> PI X tgE iter (dI X.D E δ q))
  (hG : ∀ C cells s₂ H₂ fp, PG (q0m X scope N' C cells s₂ H₂ fp) tgE (gT X.K tg)) (he : ∀ δ' r, evElt δ' = some r -> ∀ C cells s₂ H₂ fp, PE (q0m X scope N' C cells s₂ H₂ fp) elt (dE X.D E0s δ' r))
  (h : (Ri.thn ri λ ds c => if c = .weak \/ mostLen < ds.length then none else q1h (q0z (λ d => (tg.bind d (q0v fr δ)).bind λ δ' => Rc.of (evElt δ')) ds)) = some re) : q1e X E δ tgE iter [] elt scope N' fr tg re := by
 cases hri : ri with
 | none => rw [hri] at h; cases h
 | some q =>
  rw [hri] at h
  have A := hi q hri
  refine ⟨_, _, _, A, (λ C cells s₂ H₂ fp => q9z), (λ C cells s₂ H₂ fp => PE.any (ι := { p : List Sv × Re // evElt p.1 = some p.2 }) (t := λ k => dE X.D E0s k.1.1 k.1.2) λ k => he k.1.1 k.1.2 k.2 C cells s₂ H₂ fp), ?_⟩
  cases q with
  | ex c => cases h; exact λ σ H Q ⟨O, W, R, p⟩ => ⟨O, W, R, p⟩
  | ok ds c =>
   have h' : (if c = .weak \/ mostLen < ds.length then none else q1h (q0z (λ d => (tg.bind d (q0v fr δ)).bind λ δ' => Rc.of (evElt δ')) ds)) = some re := h
   split at h'
   ·cases h'
   ·rename_i m
    rw [not_or] at m
    unfold q1h at h'
    split at h'
    ·cases h'
    ·rename_i xs hx
     cases h'
     refine λ σ H Q ⟨O, W, R, p⟩ => ⟨O, W, R, λ J H1 s1 w => ?_⟩
     refine q6q (tg := tg) (D := X.D) w R.hid m.1 ((R.mono s1).inner fr hnd) (λ i hi => .inl (q3I (hsl i hi))) (q1u (by omega)) hx s1 (λ d rc hm hg => ?_) (λ d x hm hg δ' hb σ' H2 s2 R2 K hK => ?_) p
     ·cases hb : tg.bind d (q0v fr δ) with
      | none => rw [hb] at hg; cases hg
      | some δ' =>
       rw [hb] at hg
       refine ⟨δ', rfl, λ σ' H2 s2 R2 K k1 k2 => ?_⟩
       cases rc with
       | skip => exact (Rc.of_skip hg).elim
       | item x => exact k2 x rfl H2 (Same.refl _)
     ·rw [hb] at hg
      obtain ⟨cl, e1, e2⟩ := Rc.of_item hg
      exact ⟨⟨⟨δ', .ok x cl⟩, e1⟩, O, W, R2, λ v H3 s3 g3 => hK v H3 s3 (g3.stro (R2.hid.mono s3) e2)⟩
theorem q3O {evElt : List Sv -> Option Re} {evC : List Sv -> Option Rt} {cond : Expr} (S : CompScope X.N N' scope X.env.scope fr) (hc : X.calm = true) (hnd : ∀ (j k i : Nat), fr[j]? = some (some i) -> fr[k]? = some (some i) -> j = k) (hsl : ∀ i ∈ q1L tg, fr[i]? = some none) (hi : ∀ q, ri = some q -> PI X tgE iter (dI X.D E δ q))
  (hG : ∀ C cells s₂ H₂ fp, PG (q0m X scope N' C cells s₂ H₂ fp) tgE (gT X.K tg)) (he : ∀ δ' r, evElt δ' = some r -> ∀ C cells s₂ H₂ fp, PE (q0m X scope N' C cells s₂ H₂ fp) elt (dE X.D E0s δ' r))
  (ht : ∀ δ' r, evC δ' = some r -> ∀ C cells s₂ H₂ fp, PT (q0m X scope N' C cells s₂ H₂ fp) cond (dT X.D E0s δ' r))
  (h : (Ri.thn ri λ ds c => if c = .weak \/ mostLen < ds.length then none else q1h (q0z (λ d => (tg.bind d (q0v fr δ)).bind λ δ' => Rc.test (evC δ') (Rc.of (evElt δ'))) ds)) = some re) : q1e X E δ tgE iter [cond] elt scope N' fr tg re := by
 cases hri : ri with
 | none => rw [hri] at h; cases h
 | some q =>
  rw [hri] at h
  have A := hi q hri
  refine ⟨_, _, _, A, (λ C cells s₂ H₂ fp => PTs.any (ι := { p : List Sv × Rt // evC p.1 = some p.2 }) (t := λ k => dT X.D E0s k.1.1 k.1.2) λ k => z3t (ht k.1.1 k.1.2 k.2 C cells s₂ H₂ fp)),
   (λ C cells s₂ H₂ fp => PE.any (ι := { p : List Sv × Re // evElt p.1 = some p.2 }) (t := λ k => dE X.D E0s k.1.1 k.1.2) λ k => he k.1.1 k.1.2 k.2 C cells s₂ H₂ fp), ?_⟩
  cases q with
  | ex c => cases h; exact λ σ H Q ⟨O, W, R, p⟩ => ⟨O, W, R, p⟩
  | ok ds c =>
   have h' : (if c = .weak \/ mostLen < ds.length then none else q1h (q0z (λ d => (tg.bind d (q0v fr δ)).bind λ δ' => Rc.test (evC δ') (Rc.of (evElt δ'))) ds)) = some re := h
   split at h'
   ·cases h'
   ·rename_i m
    rw [not_or] at m
    unfold q1h at h'
    split at h'
    ·cases h'
    ·rename_i xs hx
     cases h'
     refine λ σ H Q ⟨O, W, R, p⟩ => ⟨O, W, R, λ J H1 s1 w => ?_⟩
     refine q6q (tg := tg) (D := X.D) w R.hid m.1 ((R.mono s1).inner fr hnd) (λ i hi => .inl (q3I (hsl i hi))) (q1u (by omega)) hx s1 (λ d rc hm hg => ?_) (λ d x hm hg δ' hb σ' H2 s2 R2 K hK => ?_) p
     ·cases hb : tg.bind d (q0v fr δ) with
      | none => rw [hb] at hg; cases hg
      | some δ' =>
       rw [hb] at hg
       have hg' : Rc.test (evC δ') (Rc.of (evElt δ')) = some rc := hg
       refine ⟨δ', rfl, λ σ' H2 s2 R2 K k1 k2 => ?_⟩
       unfold Rc.test at hg'
       split at hg'
       ·rename_i q
        refine ⟨⟨⟨δ', .ok true⟩, q⟩, O, W, R2, λ H3 s3 => ?_⟩
        cases rc with
        | skip => exact (Rc.of_skip hg').elim
        | item x => exact k2 x rfl H3 s3
       ·rename_i q
        cases hg'
        exact ⟨⟨⟨δ', .ok false⟩, q⟩, O, W, R2, λ H3 s3 => k1 rfl H3 s3⟩
       ·cases hg'
     ·rw [hb] at hg
      have hg' : Rc.test (evC δ') (Rc.of (evElt δ')) = some (.item x) := hg
      unfold Rc.test at hg'
      split at hg'
      ·obtain ⟨cl, e1, e2⟩ := Rc.of_item hg'
       exact ⟨⟨⟨δ', .ok x cl⟩, e1⟩, O, W, R2, λ v H3 s3 g3 => hK v H3 s3 (g3.stro (R2.hid.mono s3) e2)⟩
      ·cases hg'
      ·cases hg'
end
end L2
end
section
namespace L2
open PySem PySem.Spec PyProof.Rows
theorem Inv.turnedL {X : Cx} {pins : List (Addr × Obj)} {σ : St} {H : Hp} {s : Shared} {h' : Heap} {t' : Nat} {ch : List Addr} (I : Inv X pins σ H s) (k : ∀ b o, b ∉ ch -> s.heap.get? b = some o -> h'.get? b = some o) (hf : ∀ b ∈ ch, FpOk X pins H b) : Inv X pins σ H { s with heap := h', toks := t' } := by
 have nit : ∀ b u, H b = some u -> b ∉ ch := λ b u e z => by rw [(hf b z).1] at e; cases e
 refine I.step (g' := s.gens) (d' := s.drawn) (ch := ch) (λ b hb => ?_) (λ b o _ _ hc e _ => k b o hc e) (λ b o _ _ hc e _ => ⟨o.slots, k b o hc e⟩) (λ _ _ _ _ n => n)
  (λ b o hc e => ⟨o, k b o hc e⟩) (λ _ _ e => e) (λ _ _ _ e => e) (λ b ps e => ⟨#[], by rw [e]; simp⟩) (λ m hm => ?_) (λ b u e => ?_) I.bare
 ·obtain ⟨_, f1, _, f3, f4, f5⟩ := hf b hb
  exact ⟨f3, f1, f4, f5⟩
 ·obtain ⟨o, es, ep, ho, r⟩ := hm
  exact ⟨o, es, ep, k _ o (λ z => (hf _ z).2.1 rfl) ho, r⟩
 ·refine (I.hok b u e).stay (λ c v hc q => k c v ?_ q) (λ _ q => q) λ _ _ q => q
  rcases hc with z | z
  ·rw [z]; exact nit b u e
  ·exact nit c _ z
noncomputable def SqD (t : Bool) (K : PySem.W.Frag) (H : Hp) (a : Addr) (xs : List V) : Prop := match t with | false => SqL K H a xs | true => SqT K H a xs
theorem Same.sqd {t : Bool} {K : PySem.W.Frag} {H H' : Hp} {a : Addr} {xs : List V} (e : Same H H') (h : SqD t K H a xs) : SqD t K H' a xs := by
 cases t
 ·exact e.seq h
 ·exact e.tseq h
theorem Inv.sqd {X : Cx} {pins : List (Addr × Obj)} {σ : St} {H : Hp} {s : Shared} {t : Bool} {a : Addr} {xs : List V} (I : Inv X pins σ H s) (h : SqD t X.K H a xs) : ∃ its : List Value, Vals xs its /\ SqK t s.heap a its.toArray := by
 cases t
 ·obtain ⟨its, rv, p, _⟩ := I.list h
  exact ⟨its, rv, p.isList⟩
 ·obtain ⟨its, rv, p, _⟩ := I.tuple h
  exact ⟨its, rv, p⟩
theorem Inv.sqd_inj {X : Cx} {pins : List (Addr × Obj)} {σ : St} {H : Hp} {s : Shared} {t : Bool} {a : Addr} {xs ys : List V} (I : Inv X pins σ H s) (h : SqD t X.K H a xs) (h' : SqD t X.K H a ys) : xs = ys := by
 cases t
 ·exact I.list_inj h h'
 ·exact I.tuple_inj h h'
noncomputable def itK (t : Bool) (h : Heap) (ia la : Addr) (k : Nat) : Prop := match t with | false => h.IsListIter ia la k | true => h.IsTupleIter ia la k
theorem z0K {t : Bool} {ia la : Addr} {vs : Array Value} {k : Nat} {h : Heap} (p : itK t h ia la k) (q : SqK t h la vs) : sK t ia la vs k h := by
 cases t <;> exact ⟨p, q⟩
theorem z0v {t : Bool} {ia la : Addr} {vs : Array Value} {k : Nat} {h : Heap} (p : sK t ia la vs k h) : itK t h ia la k := by
 cases t <;> exact p.1
theorem q6u {t : Bool} {ia la : Addr} {k : Nat} {h h' : Heap} (p : itK t h ia la k) (e : ∀ o, h.get? ia = some o -> h'.get? ia = some o) : itK t h' ia la k := by
 cases t
 ·exact Heap.IsListIter.at p e
 ·obtain ⟨o, z, r⟩ := p; exact ⟨o, e o z, r⟩
theorem q2L {t : Bool} {ia la : Addr} {k : Nat} {h : Heap} (p : itK t h ia la k) : ∃ o xs, h.get? ia = some o /\ o.data = .fields xs := by
 cases t
 ·obtain ⟨o, e, _, d⟩ := p; exact ⟨o, _, e, d⟩
 ·obtain ⟨o, e, _, d⟩ := p; exact ⟨o, _, e, d⟩
theorem SqK.lt {t : Bool} {h : Heap} {a : Addr} {vs : Array Value} (p : SqK t h a vs) : a < h.objs.size := by
 cases t
 ·obtain ⟨o, e, _⟩ := p; exact Heap.lt_size e
 ·obtain ⟨o, e, _⟩ := p; exact Heap.lt_size e
noncomputable def Itz (K : PySem.W.Frag) (t1 t2 : Bool) (a b : Addr) : It :=
  ⟨λ i H => ∃ xs ys x y, SqD t1 K H a xs /\ SqD t2 K H b ys /\ xs[i]? = some x /\ ys[i]? = some y,
   λ i H x H' => ∃ p v u, x = .ref p /\ H p = none /\ (∀ xs, SqD t1 K H a xs -> xs[i]? = some v) /\ (∀ ys, SqD t2 K H b ys -> ys[i]? = some u) /\ H' = upd H p (.tup [v, u]),
   λ i H => ∃ xs ys, SqD t1 K H a xs /\ SqD t2 K H b ys /\ (xs.length <= i \/ ys.length <= i)⟩
theorem z0g {P : Program} {w : World} {K : PySem.W.Frag} {elts : List Expr} {k : Nat} {pos : Pos} {z TI TO i1 i2 l1 l2 : Addr} (t1 t2 : Bool) (D : ZipApart z TI TO i1 i2 l1 l2) :
  Turn P w K (.Tuple elts k pos) (Itz K t1 t2 l1 l2) [z, TI, TO, i1, i2] z (λ i h => IsZip h z TI TO .none /\ IsPair h TI (.ref i1) (.ref i2) /\ (∃ a b, IsPair h TO a b) /\ itK t1 h i1 l1 i /\ itK t2 h i2 l2 i) where
 mem := by simp
 obj := λ i h st b hb => by
  obtain ⟨hz, hTI, ⟨a, a', hTO⟩, h1, h2⟩ := st
  simp only [List.mem_cons, List.not_mem_nil, or_false] at hb
  rcases hb with rfl | rfl | rfl | rfl | rfl
  ·exact ⟨_, hz, λ v q => by cases q⟩
  ·exact ⟨_, hTI, λ v q => by cases q⟩
  ·exact ⟨_, hTO, λ v q => by cases q⟩
  ·obtain ⟨o, xs, e, d⟩ := q2L h1; exact ⟨o, e, λ v q => by rw [d] at q; cases q⟩
  ·obtain ⟨o, xs, e, d⟩ := q2L h2; exact ⟨o, e, λ v q => by rw [d] at q; cases q⟩
 keep := λ i h h' st q => by
  obtain ⟨hz, hTI, ⟨a, a', hTO⟩, h1, h2⟩ := st
  exact ⟨q z (by simp) _ hz, q TI (by simp) _ hTI, ⟨a, a', q TO (by simp) _ hTO⟩, q6u h1 λ o e => q i1 (by simp) o e, q6u h2 λ o e => q i2 (by simp) o e⟩
 item := by
  intro X hP hw hK hc i pins s σ H E I hf st hg
  subst hP hw hK
  obtain ⟨hz, hTI, ⟨a, a', hTO⟩, h1, h2⟩ := st
  obtain ⟨xs, ys, x, y, q1, q2, hx, hy⟩ := hg
  obtain ⟨its, rv, p⟩ := I.sqd q1
  obtain ⟨its2, rv2, p2⟩ := I.sqd q2
  obtain ⟨u, hu, ru⟩ := rv.get hx
  obtain ⟨u2, hu2, ru2⟩ := rv2.get hy
  refine q7Q D (q9R t1 D.l1i1) (q9R t2 D.l2i2) hz hTI hTO (z0K h1 p) (z0K h2 p2) (x := u) (y := u2) (by simpa using hu) (by simpa using hu2) λ h' a1 a2 a3 a4 a5 a6 a7 => ⟨_, rfl, ?_⟩
  refine wpAny_letOwnedTupleGo_zip a1 λ h2' hz' hs' => ?_
  have hsz : s.heap.objs.size ≠ z := Nat.ne_of_gt (Heap.lt_size hz)
  have keep : ∀ b o, b ∉ [z, TI, TO, i1, i2] -> s.heap.get? b = some o -> h2'.get? b = some o := λ b o hb e =>
   hs'.extBut _ _ (λ q => hb (by simp [q])) (a7 b o (λ q => hb (by simp [q])) (λ q => hb (by simp [q])) (λ q => hb (by simp [q])) (λ q => hb (by simp [q])) e)
  have I1 : Inv X pins σ H { s with heap := h2' } := I.turnedL (t' := s.toks) keep hf
  have hn : H s.heap.objs.size = none := I.hok.fresh (Nat.le_refl _)
  have f5 := I.fpOk (Nat.le_refl _) hn
  have new : h2'.get? s.heap.objs.size = some { cls := .type "tuple", data := .seq #[u, u2] } := hs'.extBut _ _ hsz a5
  have h0 : X.s₀.heap.get? s.heap.objs.size = none := Heap.get?_none_of_le I.sz
  have I2 : Inv X pins σ (upd H s.heap.objs.size (.tup [x, y])) { s with heap := h2' } := I1.track hn h0 f5.2.1 (λ n c e => f5.2.2.2.2.1 n c e) (λ q hq => f5.2.2.2.2.2 q hq)
   ⟨by show (2 : Nat) <= sizeLine; decide, [u, u2], .cons ru (.cons ru2 .nil), _, new, ⟨rfl, rfl⟩, _, rfl⟩
  refine ⟨.ref s.heap.objs.size, _, I2, rfl, ⟨_, x, y, rfl, hn, λ xs' e => by rw [I.sqd_inj e q1]; exact hx, λ ys' e => by rw [I.sqd_inj e q2]; exact hy, rfl⟩,
   ⟨hz', hs'.extBut _ _ D.TIz (a7 _ _ D.TIz D.TITO D.TIi1 D.TIi2 hTI), ⟨_, _, hs'.extBut _ _ D.TOz a2⟩, q6u (z0v a3) (λ o e => hs'.extBut _ _ D.i1z e), q6u (z0v a4) (λ o e => hs'.extBut _ _ D.i2z e)⟩, λ b hb => ?_⟩
  have lt : ∀ b ∈ [z, TI, TO, i1, i2], b ≠ s.heap.objs.size := λ b hb => by
   simp only [List.mem_cons, List.not_mem_nil, or_false] at hb
   rcases hb with rfl | rfl | rfl | rfl | rfl
   ·exact Ne.symm hsz
   ·exact Nat.ne_of_lt (Heap.lt_size hTI)
   ·exact Nat.ne_of_lt (Heap.lt_size hTO)
   ·obtain ⟨o, _, e, _⟩ := q2L h1; exact Nat.ne_of_lt (Heap.lt_size e)
   ·obtain ⟨o, _, e, _⟩ := q2L h2; exact Nat.ne_of_lt (Heap.lt_size e)
  rw [q0j (lt b hb)]
  exact (hf b hb).1
 done := by
  intro X hP hw hK hc i pins s σ H E I hf st hg
  subst hP hw hK
  obtain ⟨hz, hTI, ⟨a, a', hTO⟩, h1, h2⟩ := st
  obtain ⟨xs, ys, q1, q2, hx⟩ := hg
  obtain ⟨its, rv, p⟩ := I.sqd q1
  obtain ⟨its2, rv2, p2⟩ := I.sqd q2
  have e1 := rv.length
  have e2 := rv2.length
  refine q8b (I.ok.hd hc) D (q9R t1 D.l1i1) (q9R t2 D.l2i2) hz hTI hTO (z0K h1 p) (z0K h2 p2) (by
   rcases hx with q | q
   ·left; simp; omega
   ·right; simp; omega) λ h' a7 => ⟨rfl, I.turnedL (t' := s.toks) (ch := [z, TI, TO, i1, i2]) (λ b o hb e => a7 b o (λ q => hb (by simp [q])) (λ q => hb (by simp [q])) (λ q => hb (by simp [q])) (λ q => hb (by simp [q])) e) hf⟩
 self := λ _ _ _ _ _ st h => wpAny_pyIter_zip st.1 h
theorem q3a : ∀ (xs ys : List DV), (zpD xs ys).length = min xs.length ys.length
 | [], ys => by simp [zpD]
 | _ :: _, [] => by simp [zpD]
 | x :: xs, y :: ys => by rw [zpD, List.length_cons, q3a xs ys, List.length_cons, List.length_cons]; omega
theorem q7S : ∀ {xs ys : List DV} {i : Nat} {d : DV}, (zpD xs ys)[i]? = some d -> ∃ x y, xs[i]? = some x /\ ys[i]? = some y /\ d = .tup [x, y]
 | [], _, _, _, h => by simp [zpD] at h
 | _ :: _, [], _, _, h => by simp [zpD] at h
 | x :: xs, y :: ys, 0, d, h => by simp [zpD] at h; exact ⟨x, y, rfl, rfl, h.symm⟩
 | x :: xs, y :: ys, i + 1, d, h => by
  rw [zpD, List.getElem?_cons_succ] at h
  simpa using q7S h
theorem q7r {O W : List Addr} {c c' : Cl} : ∀ b ∈ hidW O W (Cl.meet c c'), b ∈ hidW O W c := by
 cases c <;> cases c' <;> intro b hb <;> first | exact hb | exact List.mem_append_left _ hb
theorem q7C {O W : List Addr} {c c' : Cl} : ∀ b ∈ hidW O W (Cl.meet c c'), b ∈ hidW O W c' := by
 cases c <;> cases c' <;> intro b hb <;> first | exact hb | exact List.mem_append_left _ hb
theorem q4y {O W : List Addr} {c c' : Cl} : ∀ b ∈ q0O O W (Cl.meet c c'), b ∈ q0O O W c := by
 cases c <;> cases c' <;> intro b hb <;> first | exact hb | exact List.mem_append_left _ hb
theorem q4W {O W : List Addr} {c c' : Cl} : ∀ b ∈ q0O O W (Cl.meet c c'), b ∈ q0O O W c' := by
 cases c <;> cases c' <;> intro b hb <;> first | exact hb | exact List.mem_append_left _ hb
theorem Wk.zip {D : Dm} {ds es : List DV} {Oc Oi : List Addr} {H1 : Hp} {a b : Addr} {xs ys : List V} {t1 t2 : Bool} (h : SqD t1 D.K (L2.wo Oc H1) a xs) (r : RepL D (L2.wo Oi H1) ds xs) (h' : SqD t2 D.K (L2.wo Oc H1) b ys) (r' : RepL D (L2.wo Oi H1) es ys) : Wk D (Itz D.K t1 t2 a b) (zpD ds es) Oc Oi H1 where
 go := λ i H s hi => by
  rw [q3a] at hi
  exact ⟨xs, ys, xs[i]'(by rw [r.length]; omega), ys[i]'(by rw [r'.length]; omega), q0S.sqd (s.sqd h), q0S.sqd (s.sqd h'), List.getElem?_eq_getElem _, List.getElem?_eq_getElem _⟩
 same := λ i H x H' y => by
  obtain ⟨p, v, u, _, hp, _, _, e⟩ := y
  rw [e]; exact q0r hp
 yld := λ i H x H' d O2 s s' y e ho => by
  obtain ⟨p, v, u, ex, hp, y1, y2, eH⟩ := y
  obtain ⟨d1, d2, q1, q2, rfl⟩ := q7S e
  obtain ⟨v1, z1, z2⟩ := r.get q1
  obtain ⟨v2, z3, z4⟩ := r'.get q2
  have w1 := y1 xs (q0S.sqd (s.sqd h))
  have w2 := y2 ys (q0S.sqd (s.sqd h'))
  rw [z1] at w1; cases w1
  rw [z3] at w2; cases w2
  have hpo : p ∉ O2 := λ z => (ho p z).1 hp
  subst eH
  refine q0F.mpr ⟨p, _, ex, SqT.of (by rw [q0n hpo]; exact q0A), ?_⟩
  have up : Same (L2.wo Oi H1) (L2.wo O2 (upd H p (.tup [v, u]))) := (q9r s' ho).trans (q0r hp).wo
  exact q0f.mpr ⟨_, _, rfl, z2.mono up, RepL.one (z4.mono up)⟩
 stop := λ H s => by
  refine ⟨xs, ys, q0S.sqd (s.sqd h), q0S.sqd (s.sqd h'), ?_⟩
  rw [q3a, r.length, r'.length]
  omega
section
variable {X : Cx} {E : St -> XK} {δ : List Sv} {e e' : Expr} {elts : List Expr} {k : Nat} {tpos pos p : Pos} {ra rb : Option Re} {ri : Ri}
theorem q5S {n a b : Nat} (ha : a < n) (hb : b < n) : ZipApart (n + 4) (n + 2) (n + 3) n (n + 1) a b := by
 constructor <;> (show @Ne Nat _ _) <;> omega
theorem z5c {ta : TA} (hg : Gl X "zip") (hm : X.mg "zip" = none) (ha : PA X [e, e'] ta) (hs : q0l e = false) (hs' : q0l e' = false) :
  PI X (.Tuple elts k tpos) (.Call (.Name "zip" p) [e, e'] [] pos) (λ σ H R => ta σ H λ vs H1 => ∃ t1 t2 a b, vs = [.ref a, .ref b] /\ (∃ xs, SqD t1 X.K H1 a xs) /\ (∃ ys, SqD t2 X.K H1 b ys) /\ R (Itz X.K t1 t2 a b) H1) := by
 intro pins s σ H R I h
 refine Call_ (q3D I hg hm boot_zip (PyProof.Rows.callWith_type1 (thn (ha pos pins s σ H _ I h) λ us s1 ⟨vs, H1, I1, r1, q1⟩ => ?_) (by rw [q0h hs]) (q1c [e'] (by simp [hs']))))
 obtain ⟨t1, t2, a, b, e1, ⟨xs, hx⟩, ⟨ys, hy⟩, q⟩ := q1
 subst e1
 obtain ⟨u, u', rfl, ru, ru'⟩ := r1.two
 cases ru
 cases ru'
 obtain ⟨its, rv, p1⟩ := I1.sqd hx
 obtain ⟨its2, rv2, p2⟩ := I1.sqd hy
 have la := p1.lt
 have lb := p2.lt
 refine q9A t1 t2 p1 p2 λ h' z1 z2 z3 z4 z5 z6 z7 => ?_
 have I2 : Inv X pins σ H1 { s1 with heap := h' } := I1.kept (t' := s1.toks) z7
 refine wpAny_pyIter_zip z1 ⟨s1.heap.objs.size + 4, [s1.heap.objs.size + 4, s1.heap.objs.size + 2, s1.heap.objs.size + 3, s1.heap.objs.size, s1.heap.objs.size + 1], _, _, H1, rfl, I2,
  z0g (l1 := a) (l2 := b) t1 t2 (q5S la lb), ⟨z1, z2, ⟨_, _, z3⟩, z0v z4, z0v z5⟩, λ c hc => ?_, q⟩
 have hc' : s1.heap.objs.size <= c := by
  simp only [List.mem_cons, List.not_mem_nil, or_false] at hc
  rcases hc with rfl | rfl | rfl | rfl | rfl
  ·exact Nat.le_add_right ..
  ·exact Nat.le_add_right ..
  ·exact Nat.le_add_right ..
  ·exact Nat.le_refl _
  ·exact Nat.le_add_right ..
 exact I1.fpOk hc' (I1.hok.fresh hc')
theorem q5H {D : Dm} {O W : List Addr} {H0 H : Hp} {d : DV} {t : Bool} {ds : List DV} {c : Cl} {v : V} (k : z2M d = some (t, ds)) (g : Got D O W H0 H d c v) (hd : Hid O W H0 H) : ∃ a xs, v = .ref a /\ SqD t D.K (L2.wo (hidW O W c) H) a xs /\ RepL D (L2.wo (q0O O W c) H) ds xs := by
 cases d <;> cases k
 ·exact g.walkT hd
 ·exact g.walkL hd
theorem z1M (hg : Gl X "zip") (hm : X.mg "zip" = none) (hs : q0l e = false) (hs' : q0l e' = false) (ha : ∀ q, ra = some q -> PE X e (dE X.D E δ q)) (hb : ∀ q, rb = some q -> PE X e' (dE X.D E δ q))
  (h : q0K (Re.thn ra λ x c => Re.thn rb λ y c' => zipD x y c c') = some ri) : PI X (.Tuple elts k tpos) (.Call (.Name "zip" p) [e, e'] [] pos) (dI X.D E δ ri) := by
 have C := λ ta tb (hA : PE X e ta) (hB : PE X e' tb) => z5c (elts := elts) (k := k) (tpos := tpos) (p := p) (pos := pos) hg hm (q1n hA (q1n hB q3E (q0h hs')) (q0h hs)) hs hs'
 cases hra : ra with
 | none => rw [hra] at h; cases h
 | some q =>
  rw [hra] at h
  have A := ha q hra
  cases q with
  | ex c => cases h; exact (C _ _ A q1i).weak λ σ H R' ⟨O, W, R, p⟩ => ⟨O, W, R, p⟩
  | ok dx cx =>
   cases hrb : rb with
   | none => rw [hrb] at h; cases h
   | some q =>
    rw [hrb] at h
    have B := hb q hrb
    cases q with
    | ex c => cases h; exact (C _ _ A B).weak λ σ H R' ⟨O, W, R, p⟩ => ⟨O, W, R, λ x H1 s1 g1 => ⟨O, W, R.mono s1, λ H' C m s => p H' C m (s1.trans s)⟩⟩
    | ok dy cy =>
     have h' : q0K (zipD dx dy cx cy) = some ri := h
     unfold zipD at h'
     split at h'
     ·rename_i t1 ds1 t2 ds2 k1 k2
      cases h'
      exact (C _ _ A B).weak λ σ H R' ⟨O, W, R, p⟩ => ⟨O, W, R, λ x H1 s1 g1 => ⟨O, W, R.mono s1, λ y H2 s2 g2 => by
       have hd := (R.hid.mono s1).mono s2
       obtain ⟨a, xs, e1, e2, e3⟩ := q5H k1 (g1.mono s2) hd
       obtain ⟨b, ys, e1', e2', e3'⟩ := q5H k2 (g2.since s1) hd
       refine ⟨t1, t2, a, b, by rw [e1, e1'], ⟨xs, q0S.sqd e2⟩, ⟨ys, q0S.sqd e2'⟩, p _ H2 (s1.trans s2) (.zip ((q0x q7r).sqd e2) (e3.mono (q0x q4y)) ((q0x q7C).sqd e2') (e3'.mono (q0x q4W)))⟩⟩⟩
     ·cases h'
end
end L2
end
section
namespace L2
open PySem PySem.Spec PyProof.Rows
noncomputable def dEnd (D : Dm) (E : St -> XK) (H0 : Hp) (O : List Addr) (Dn : Ends) : Out -> Prop
 | .nx δ => ∀ σ H W, RSt D H σ δ O W -> (∀ a ∈ W, H0 a = none) -> Same H0 H -> Dn.nx σ H
 | .rt d fr => ∀ v H, Same H0 H -> GotR D O H0 H d fr v -> Dn.rt v H
 | .rtt d => ∀ v H, Same H0 H -> GotT D O H0 H d v -> Dn.rt v H
 | .ex c δ => ∀ σ H W C, D.mg c = some C -> RSt D H σ δ O W -> (∀ a ∈ W, H0 a = none) -> Same H0 H -> E σ C none H
noncomputable def dS (D : Dm) (E : St -> XK) (δ : List Sv) (o : Out) : TS := λ Dn σ H => ∃ H0 O W, RSt D H σ δ O W /\ (∀ a ∈ W, H0 a = none) /\ (∀ a ∈ O, H0 a ≠ none) /\ Same H0 H /\ dEnd D E H0 O Dn o
section
variable {X : Cx} {E : St -> XK} {δ δ1 : List Sv} {st : Stmt} {rest body els : List Stmt} {o : Out} {e c : Expr} {pos pos' : Pos} {ra : Option Re} {rt : Option Rt} {i : Nat} {x : Str}
theorem z2g : PSs X [] (dS X.D E δ (.nx δ)) := z2s.weak λ Dn σ H ⟨H0, O, W, R, fr, fo, sm, k⟩ => k σ H W R fr sm
theorem z0P (h1 : PS X st (dS X.D E δ (.nx δ1))) (h2 : PSs X rest (dS X.D E δ1 o)) : PSs X (st :: rest) (dS X.D E δ o) :=
 (q3t h1 h2).weak λ Dn σ H ⟨H0, O, W, R, fr, fo, sm, k⟩ => ⟨H0, O, W, R, fr, fo, sm, λ σ' H' W' R' fr' sm' => ⟨H0, O, W', R', fr', fo, sm', k⟩⟩
theorem z3w {d : DV} {fr : Bool} (h1 : PS X st (dS X.D E δ (.rt d fr))) : PSs X (st :: rest) (dS X.D E δ (.rt d fr)) :=
 (q3t h1 q1p).weak λ Dn σ H ⟨H0, O, W, R, fr, fo, sm, k⟩ => ⟨H0, O, W, R, fr, fo, sm, k⟩
theorem z2A {d : DV} (h1 : PS X st (dS X.D E δ (.rtt d))) : PSs X (st :: rest) (dS X.D E δ (.rtt d)) :=
 (q3t h1 q1p).weak λ Dn σ H ⟨H0, O, W, R, fr, fo, sm, k⟩ => ⟨H0, O, W, R, fr, fo, sm, k⟩
theorem z4q {c : Str} {δ' : List Sv} (h1 : PS X st (dS X.D E δ (.ex c δ'))) : PSs X (st :: rest) (dS X.D E δ (.ex c δ')) :=
 (q3t h1 q1p).weak λ Dn σ H ⟨H0, O, W, R, fr, fo, sm, k⟩ => ⟨H0, O, W, R, fr, fo, sm, k⟩
theorem q7F {D : Dm} {H0 H : Hp} {O W : List Addr} {σ : St} {Dn : Ends} {c : Str} {Q : VK} (R : RSt D H σ δ O W) (fr : ∀ a ∈ W, H0 a = none) (sm : Same H0 H) (k : dEnd D E H0 O Dn (.ex c δ)) : Post D E σ O W H H Q (.ex c) :=
 λ H' C m s => k σ H' W C m (R.mono s) fr (sm.trans s)
theorem z3F (hc : ∀ q, rt = some q -> PT X c (dT X.D E δ q)) {ro rp : Option Out} (h1 : ∀ q, ro = some q -> PSs X body (dS X.D E δ q)) (h2 : ∀ q, rp = some q -> PSs X els (dS X.D E δ q)) (h : (Rt.thnS δ rt λ k => if k then ro else rp) = some o) : PS X (.If c body els pos) (dS X.D E δ o) := by
 cases hrt : rt with
 | none => rw [hrt] at h; cases h
 | some q =>
  rw [hrt] at h
  have C := hc q hrt
  cases q with
  | ex c => cases h; exact (z1K C q1p q1p).weak λ Dn σ H ⟨H0, O, W, R, fr, fo, sm, k⟩ => ⟨O, W, R, λ H' C m s => k σ H' W C m (R.mono s) fr (sm.trans s)⟩
  | ok b =>
   cases b with
   | true =>
    have h' : ro = some o := h
    exact (z1K C (h1 o h') q1p).weak λ Dn σ H ⟨H0, O, W, R, fr, fo, sm, k⟩ => ⟨O, W, R, λ H1 s1 => iteT ⟨H0, O, W, R.mono s1, fr, fo, sm.trans s1, k⟩⟩
   | false =>
    have h' : rp = some o := h
    exact (z1K C q1p (h2 o h')).weak λ Dn σ H ⟨H0, O, W, R, fr, fo, sm, k⟩ => ⟨O, W, R, λ H1 s1 => iteF ⟨H0, O, W, R.mono s1, fr, fo, sm.trans s1, k⟩⟩
theorem z3d (ha : ∀ q, ra = some q -> PE X e (dE X.D E δ q)) (h : (Re.thnS δ ra λ d c => some (retD d c)) = some o) : PS X (.Return (some e) pos) (dS X.D E δ o) := by
 cases hra : ra with
 | none => rw [hra] at h; cases h
 | some q =>
  rw [hra] at h
  have A := ha q hra
  cases q with
  | ex c => cases h; exact (q6P A).weak λ Dn σ H ⟨H0, O, W, R, fr, fo, sm, k⟩ => ⟨O, W, R, q7F R fr sm k⟩
  | ok d cl =>
   have h2 : some (retD d cl) = some o := h
   cases h2
   by_cases hft : cl = .ft
   ·subst hft
    refine (q6P A).weak λ Dn σ H ⟨H0, O, W, R, fr, fo, sm, k⟩ => ⟨O, W, R, λ v H1 s1 g => (k : dEnd X.D E H0 O Dn (.rtt d)) v H1 (sm.trans s1) ?_⟩
    obtain ⟨t, ts, p, xs, ds, es, e1, e2, e0, e3, e4, e5, e6⟩ := g
    have up : Same (L2.wo (p :: (O ++ W)) H1) (L2.wo (p :: O) H1) := q0x λ b hb => by rcases List.mem_cons.mp hb with z | z; exact List.mem_cons.mpr (.inl z); exact List.mem_cons_of_mem _ (List.mem_append_left _ z)
    exact .inl ⟨t, ts, p, xs, ds, es, e1, e2, (q0x q5z).tseq e0, sm.free e3, e4, e5.mono up, e6.mono up⟩
   have hrt : retD d cl = .rt d (frD d cl) := by cases cl <;> first | rfl | exact absurd rfl hft
   rw [hrt]
   refine (q6P A).weak λ Dn σ H ⟨H0, O, W, R, fr, fo, sm, k⟩ => ⟨O, W, R, λ v H1 s1 g => (k : dEnd X.D E H0 O Dn (.rt d (frD d cl))) v H1 (sm.trans s1) ?_⟩
   have hd := R.hid.mono s1
   cases hf : frD d cl with
   | false => exact g.weak hd
   | true =>
    unfold frD at hf
    split at hf
    ·obtain ⟨p, xs, ds, e1, e2, e3, e4, e5⟩ := g
     exact ⟨p, xs, ds, e1, e2, sm.free e3, e4, e5.mono (q0x λ b hb => by rcases List.mem_cons.mp hb with z | z; exact List.mem_cons.mpr (.inl z); exact List.mem_cons_of_mem _ (List.mem_append_left _ z))⟩
    ·obtain ⟨a, xs, e1, e0, e2, e3⟩ := g
     exact ⟨a, xs, _, e1, rfl, fr a e0, q0S _ _ e2, e3.mono (q0x λ b hb => by rcases List.mem_cons.mp hb with z | z; rw [z]; exact List.mem_append_right _ e0; exact List.mem_append_left _ z)⟩
    ·obtain ⟨p, xs, ds, e1, e2, _⟩ := g; cases e2
    ·exact absurd (g.all hd) q4J
    ·cases hf
theorem q4o {v : Expr} {t : Option Expr} {l : Nat} {env : Env} (h : q9l v = false) : swapsWith v t l env = pure false := by
 cases v <;> first | rfl | cases h
theorem q1K {O W : List Addr} {p b : Addr} : b ∈ O ++ p :: W ↔ b ∈ p :: (O ++ W) := by
 simp only [List.mem_append, List.mem_cons]
 constructor
 ·rintro (h | h | h)
  ·exact .inr (.inl h)
  ·exact .inl h
  ·exact .inr (.inr h)
 ·rintro (h | h | h)
  ·exact .inr (.inl h)
  ·exact .inl h
  ·exact .inr (.inr h)
theorem q0b {α : Type} {l : List α} {i j : Nat} {a b : α} (h : (l.set i a)[j]? = some b) (hn : a ≠ b) : j ≠ i := λ z => by
 subst z
 have hl : j < l.length := by
  have := (List.getElem?_eq_some_iff.mp h).1
  rw [List.length_set] at this; exact this
 rw [List.getElem?_set_self hl] at h
 exact hn (Option.some.inj h)
theorem q2W {α : Type} {l : List α} {i : Nat} {a b : α} (h : (l.set i a)[i]? = some b) : i < l.length /\ a = b := by
 have hl : i < l.length := by
  have := (List.getElem?_eq_some_iff.mp h).1
  rw [List.length_set] at this; exact this
 rw [List.getElem?_set_self hl] at h
 exact ⟨hl, Option.some.inj h⟩
theorem RSt.alloc {D : Dm} {H H' : Hp} {σ : St} {O W : List Addr} {p : Addr} {xs : List V} {ds : List DV} (R : RSt D H σ δ O W) (s : Same H H') (hp : H p = none) (hp' : H' p = some (.lst xs)) (r : RepL D (L2.wo (p :: (O ++ W)) H') ds xs) (i : Nat) :
  RSt D H' (σ.set i (some (.ref p))) (δ.set i (.own (.lst ds))) O (p :: W) := by
 have old : Same (L2.wo (O ++ W) H) (L2.wo (O ++ p :: W) H') := λ b o e => by
  obtain ⟨hb, e⟩ := q0M e
  have hbp : b ≠ p := q0p e hp
  rw [q0n (λ z => by rcases List.mem_cons.mp (q1K.mp z) with z | z; exact hbp z; exact hb z)]
  exact s b o e
 have eqv : Same (L2.wo (p :: (O ++ W)) H') (L2.wo (O ++ p :: W) H') := q0x λ b hb => q1K.mp hb
 refine ⟨λ j d h => ?_, λ j ds' h => ?_, λ j k a d1 d2 h1 h2 e1 e2 => ?_, λ j d h => ?_, λ j d h => by
   have hj := q0b h (by intro z; cases z)
   rw [List.getElem?_set_ne (Ne.symm hj)] at h ⊢
   obtain ⟨⟨p1, L, e0, e1, e2, e3⟩, u, n⟩ := R.o2 j d h
   refine ⟨⟨p1, L, e0, e1, (e2.mono s).sub λ a _ ha => List.mem_cons_of_mem _ ha, λ k d2 a q q2 => ?_⟩, λ k d2 q => ?_, λ k d2 q => ?_⟩
   ·by_cases hk : k = i
    ·subst hk
     obtain ⟨_, z⟩ := q2W q2
     cases z
     intro z
     obtain ⟨_, ys, w⟩ := e2.dom z
     rw [hp] at w
     cases w
    ·rw [List.getElem?_set_ne (Ne.symm hk)] at q q2
     exact e3 k d2 a q q2
   ·have hk := q0b q (by intro z; cases z)
    rw [List.getElem?_set_ne (Ne.symm hk)] at q
    exact u k d2 q
   ·have hk := q0b q (by intro z; cases z)
    rw [List.getElem?_set_ne (Ne.symm hk)] at q
    exact n k d2 q, by rw [List.length_set, List.length_set]; exact R.len, ⟨λ a ha => ?_, Same.refl _, λ a ha => ?_, λ a ha => ?_⟩⟩
 ·have hj := q0b h (by intro z; cases z)
  rw [List.getElem?_set_ne (Ne.symm hj)] at h ⊢
  obtain ⟨v, e1, e2⟩ := R.val j d h
  exact ⟨v, e1, e2.mono old⟩
 ·by_cases hj : j = i
  ·subst hj
   obtain ⟨hl, e⟩ := q2W h
   cases e
   exact ⟨p, xs, ds, rfl, List.getElem?_set_self (by rw [R.len]; exact hl), List.mem_cons_self, hp', r.mono eqv⟩
  ·rw [List.getElem?_set_ne (Ne.symm hj)] at h ⊢
   obtain ⟨a, ys, ds1, e0, e1, e2, e3, e4⟩ := R.own j ds' h
   exact ⟨a, ys, ds1, e0, e1, List.mem_cons_of_mem _ e2, s _ _ e3, e4.mono old⟩
 ·have key : ∀ {j : Nat} {d1 : DV}, (δ.set i (.own (.lst ds)))[j]? = some (.own d1) -> (σ.set i (some (.ref p)))[j]? = some (some (V.ref a)) -> (j = i /\ a = p) \/ (j ≠ i /\ δ[j]? = some (.own d1) /\ σ[j]? = some (some (V.ref a)) /\ a ≠ p) := λ {j d1} h e => by
   by_cases hj : j = i
   ·subst hj
    obtain ⟨_, z⟩ := q2W e
    cases z
    exact .inl ⟨rfl, rfl⟩
   ·rw [List.getElem?_set_ne (Ne.symm hj)] at h e
    refine .inr ⟨hj, h, e, λ z => ?_⟩
    obtain ⟨a', ys, ds1, _, q1, _, q3, _⟩ := R.own j d1 h
    rw [e] at q1; cases q1
    rw [z, hp] at q3; cases q3
  rcases key h1 e1 with ⟨z1, z2⟩ | ⟨z1, z2, z3, z4⟩ <;> rcases key h2 e2 with ⟨y1, y2⟩ | ⟨y1, y2, y3, y4⟩
  ·rw [z1, y1]
  ·exact absurd z2 y4
  ·exact absurd y2 z4
  ·exact R.inj j k a d1 d2 z2 y2 z3 y3
 ·have hj := q0b h (by intro z; cases z)
  rw [List.getElem?_set_ne (Ne.symm hj)] at h ⊢
  obtain ⟨⟨t, ts, p1, ys, ds1, es, e0, e1, e2, e3, e4, e5, e6, e7⟩, u⟩ := R.ot j d h
  refine ⟨⟨t, ts, p1, ys, ds1, es, e0, e1, old.tseq e2, List.mem_cons_of_mem _ e3, s _ _ e4, e5.mono old, e6.mono old, λ k d2 q => ?_⟩, λ k d2 q => ?_⟩
  ·by_cases hk : k = i
   ·subst hk
    intro z
    obtain ⟨_, z⟩ := q2W z
    cases z
    rw [hp] at e4
    cases e4
   ·rw [List.getElem?_set_ne (Ne.symm hk)] at q ⊢
    exact e7 k d2 q
  ·have hk := q0b q (by intro z; cases z)
   rw [List.getElem?_set_ne (Ne.symm hk)] at q
   exact u k d2 q
 ·rcases List.mem_cons.mp (q1K.mp ha) with z | z
  ·rw [z, hp']; intro q; cases q
  ·intro q; exact R.hid.ot a z (s.free q)
 ·rcases List.mem_cons.mp ha with z | z
  ·exact ⟨xs, by rw [z]; exact hp'⟩
  ·obtain ⟨ys, q⟩ := R.hid.wl a z; exact ⟨ys, s _ _ q⟩
 ·rcases List.mem_cons.mp ha with z | z
  ·intro q; exact R.hid.ot p (List.mem_append_left _ (by rw [← z]; exact q)) hp
  ·exact R.hid.dj a z
theorem q6h {i : Nat} {δ : List Sv} (h : noOt i δ = true) {j : Nat} {d : DV} (q : δ[j]? = some (.ot d)) : j = i := by
 unfold noOt at h
 rw [List.all_eq_true] at h
 have hj : j < δ.length := (List.getElem?_eq_some_iff.mp q).1
 have := h j (List.mem_range.mpr hj)
 rw [q] at this
 simpa using this
theorem q8P {i : Nat} {δ : List Sv} (h : noOt i δ = true) {j : Nat} {d : DV} (q : δ[j]? = some (.o2 d)) : j = i := by
 unfold noOt at h
 rw [List.all_eq_true] at h
 have hj : j < δ.length := (List.getElem?_eq_some_iff.mp q).1
 have := h j (List.mem_range.mpr hj)
 rw [q] at this
 simpa using this
theorem RSt.allocT {D : Dm} {H H' : Hp} {σ : St} {O W : List Addr} {t p : Addr} {ts xs : List V} {ds es : List DV} (R : RSt D H σ δ O W) (s : Same H H') (ht : SqT D.K (L2.wo (O ++ W) H') t (.ref p :: ts)) (hp : H p = none) (hp' : H' p = some (.lst xs)) (r : RepL D (L2.wo (p :: (O ++ W)) H') ds xs) (r2 : RepL D (L2.wo (p :: (O ++ W)) H') es ts) (i : Nat) (hno : noOt i δ = true) :
  RSt D H' (σ.set i (some (.ref t))) (δ.set i (.ot (.tup (.lst ds :: es)))) O (p :: W) := by
 have old : Same (L2.wo (O ++ W) H) (L2.wo (O ++ p :: W) H') := λ b o e => by
  obtain ⟨hb, e⟩ := q0M e
  have hbp : b ≠ p := q0p e hp
  rw [q0n (λ z => by rcases List.mem_cons.mp (q1K.mp z) with z | z; exact hbp z; exact hb z)]
  exact s b o e
 have eqv : Same (L2.wo (p :: (O ++ W)) H') (L2.wo (O ++ p :: W) H') := q0x λ b hb => q1K.mp hb
 have ht' : SqT D.K (L2.wo (O ++ p :: W) H') t (.ref p :: ts) := by
  have ne : ∀ {o : HO}, L2.wo (O ++ W) H' t = some o -> (∀ ys, o ≠ .lst ys) -> L2.wo (O ++ p :: W) H' t = some o := λ {o} e ho => by
   obtain ⟨hb, e⟩ := q0M e
   rw [q0n (λ z => by
    rcases List.mem_cons.mp (q1K.mp z) with z | z
    ·rw [z, hp'] at e; cases e; exact ho _ rfl
    ·exact hb z)]
   exact e
  rcases ht with (h | ⟨o, h⟩) | h
  ·exact .inl (.inl (ne h (by intro ys z; cases z)))
  ·exact .inl (.inr ⟨o, ne h (by intro ys z; cases z)⟩)
  ·exact .inr h
 refine ⟨λ j d h => ?_, λ j ds' h => ?_, λ j k a d1 d2 h1 h2 e1 e2 => ?_, λ j d h => ?_, λ j d h => absurd (q8P hno (by have hj := q0b h (by intro z; cases z); rw [List.getElem?_set_ne (Ne.symm hj)] at h; exact h)) (q0b h (by intro z; cases z)), by rw [List.length_set, List.length_set]; exact R.len, ⟨λ a ha => ?_, Same.refl _, λ a ha => ?_, λ a ha => ?_⟩⟩
 ·have hj := q0b h (by intro z; cases z)
  rw [List.getElem?_set_ne (Ne.symm hj)] at h ⊢
  obtain ⟨v, e1, e2⟩ := R.val j d h
  exact ⟨v, e1, e2.mono old⟩
 ·have hj := q0b h (by intro z; cases z)
  rw [List.getElem?_set_ne (Ne.symm hj)] at h ⊢
  obtain ⟨a, ys, ds1, e0, e1, e2, e3, e4⟩ := R.own j ds' h
  exact ⟨a, ys, ds1, e0, e1, List.mem_cons_of_mem _ e2, s _ _ e3, e4.mono old⟩
 ·have n1 := q0b h1 (by intro z; cases z)
  have n2 := q0b h2 (by intro z; cases z)
  rw [List.getElem?_set_ne (Ne.symm n1)] at h1 e1
  rw [List.getElem?_set_ne (Ne.symm n2)] at h2 e2
  exact R.inj j k a d1 d2 h1 h2 e1 e2
 ·have hj : j = i := by
   by_cases hj : j = i
   ·exact hj
   ·rw [List.getElem?_set_ne (Ne.symm hj)] at h
    exact q6h hno h
  subst hj
  obtain ⟨hl, e⟩ := q2W h
  cases e
  refine ⟨⟨t, ts, p, xs, ds, es, rfl, List.getElem?_set_self (by rw [R.len]; exact hl), ht', List.mem_cons_self, hp', r.mono eqv, r2.mono eqv, λ k d2 q => ?_⟩, λ k d2 q => ?_⟩
  ·have hk := q0b q (by intro z; cases z)
   rw [List.getElem?_set_ne (Ne.symm hk)] at q ⊢
   intro z
   obtain ⟨a, ys, ds1, f0, f1, f2, f3, f4⟩ := R.own k d2 q
   rw [z] at f1
   cases f1
   rw [hp] at f3
   cases f3
  ·by_cases hk : k = j
   ·exact hk
   ·rw [List.getElem?_set_ne (Ne.symm hk)] at q
    exact q6h hno q
 ·rcases List.mem_cons.mp (q1K.mp ha) with z | z
  ·rw [z, hp']; intro q; cases q
  ·intro q; exact R.hid.ot a z (s.free q)
 ·rcases List.mem_cons.mp ha with z | z
  ·exact ⟨xs, by rw [z]; exact hp'⟩
  ·obtain ⟨ys, q⟩ := R.hid.wl a z; exact ⟨ys, s _ _ q⟩
 ·rcases List.mem_cons.mp ha with z | z
  ·intro q; exact R.hid.ot p (List.mem_append_left _ (by rw [← z]; exact q)) hp
  ·exact R.hid.dj a z
theorem RSt.write {D : Dm} {H : Hp} {σ : St} {O W : List Addr} {a : Addr} {xs' : List V} {ds ds' : List DV} (R : RSt D H σ δ O W) (hi : δ[i]? = some (.own (.lst ds))) (ha : σ[i]? = some (some (.ref a))) (r : RepL D (L2.wo (O ++ W) H) ds' xs') :
  RSt D (upd H a (.lst xs')) σ (δ.set i (.own (.lst ds'))) O W := by
 obtain ⟨a', xs, ds0, e0, e1, e2, e3, e4⟩ := R.own i _ hi
 rw [ha] at e1; cases e1
 have old : Same (L2.wo (O ++ W) H) (L2.wo (O ++ W) (upd H a (.lst xs'))) := λ b o e => by
  obtain ⟨hb, e⟩ := q0M e
  rw [q0n hb, q0j λ z => hb (by rw [z]; exact List.mem_append_right _ e2)]
  exact e
 have hl : i < δ.length := (List.getElem?_eq_some_iff.mp hi).1
 refine ⟨λ j d h => ?_, λ j ds'' h => ?_, λ j k b d1 d2 h1 h2 q1 q2 => ?_, λ j d h => ?_, λ j d h => by
   have hj := q0b h (by intro z; cases z)
   rw [List.getElem?_set_ne (Ne.symm hj)] at h
   obtain ⟨⟨p1, L, f0, f1, f2, f3⟩, u, n⟩ := R.o2 j d h
   refine ⟨⟨p1, L, f0, f1, f2.write (f3 i _ a hi ha), λ k d2 b q q2 => ?_⟩, λ k d2 q => ?_, λ k d2 q => ?_⟩
   ·by_cases hk : k = i
    ·subst hk
     exact f3 k _ b hi q2
    ·rw [List.getElem?_set_ne (Ne.symm hk)] at q
     exact f3 k d2 b q q2
   ·have hk := q0b q (by intro z; cases z)
    rw [List.getElem?_set_ne (Ne.symm hk)] at q
    exact u k d2 q
   ·have hk := q0b q (by intro z; cases z)
    rw [List.getElem?_set_ne (Ne.symm hk)] at q
    exact n k d2 q, by rw [List.length_set]; exact R.len, ⟨λ b hb q => ?_, Same.refl _, λ b hb => ?_, R.hid.dj⟩⟩
 ·have hj := q0b h (by intro z; cases z)
  rw [List.getElem?_set_ne (Ne.symm hj)] at h
  obtain ⟨v, q1, q2⟩ := R.val j d h
  exact ⟨v, q1, q2.mono old⟩
 ·by_cases hj : j = i
  ·subst hj
   obtain ⟨_, e⟩ := q2W h
   cases e
   exact ⟨a, xs', ds', rfl, ha, e2, q0A, r.mono old⟩
  ·rw [List.getElem?_set_ne (Ne.symm hj)] at h
   obtain ⟨b, ys, ds1, q0, q1, q2, q3, q4⟩ := R.own j ds'' h
   refine ⟨b, ys, ds1, q0, q1, q2, ?_, q4.mono old⟩
   rw [q0j λ z => hj (R.inj j i a ds'' _ h hi (by rw [← z]; exact q1) ha)]
   exact q3
 ·have key : ∀ {j : Nat} {d1 : DV}, (δ.set i (.own (.lst ds')))[j]? = some (.own d1) -> ∃ d0, δ[j]? = some (.own d0) := λ {j d1} h => by
   by_cases hj : j = i
   ·subst hj; exact ⟨_, hi⟩
   ·rw [List.getElem?_set_ne (Ne.symm hj)] at h; exact ⟨d1, h⟩
  obtain ⟨d1', z1⟩ := key h1
  obtain ⟨d2', z2⟩ := key h2
  exact R.inj j k b d1' d2' z1 z2 q1 q2
 ·have hj := q0b h (by intro z; cases z)
  rw [List.getElem?_set_ne (Ne.symm hj)] at h
  obtain ⟨⟨t, ts, p1, ys, ds1, es, f0, f1, f2, f3, f4, f5, f6, f7⟩, u⟩ := R.ot j d h
  refine ⟨⟨t, ts, p1, ys, ds1, es, f0, f1, old.tseq f2, f3, ?_, f5.mono old, f6.mono old, λ k d2 q => ?_⟩, λ k d2 q => ?_⟩
  ·rw [q0j λ z => f7 i _ hi (by rw [z]; exact ha)]
   exact f4
  ·by_cases hk : k = i
   ·subst hk
    exact f7 k _ hi
   ·rw [List.getElem?_set_ne (Ne.symm hk)] at q
    exact f7 k d2 q
  ·have hk := q0b q (by intro z; cases z)
   rw [List.getElem?_set_ne (Ne.symm hk)] at q
   exact u k d2 q
 ·by_cases hba : b = a
  ·rw [hba, q0A] at q; cases q
  ·rw [q0j hba] at q; exact R.hid.ot b hb q
 ·by_cases hba : b = a
  ·exact ⟨xs', by rw [hba]; exact q0A⟩
  ·obtain ⟨ys, q⟩ := R.hid.wl b hb; exact ⟨ys, by rw [q0j hba]; exact q⟩
theorem q2p {H0 H : Hp} {a : Addr} {o : HO} (h : Same H0 H) (ha : H0 a = none) : Same H0 (upd H a o) := λ b u e => by
 rw [q0j (q0p e ha)]
 exact h b u e
theorem z1p {Dn : Ends} {σ : St} {H H0 : Hp} {O W : List Addr} {own : Bool} {d : DV} {cl : Cl} {D : Dm} (h : (if own then q3N i δ d cl else (if stro d cl then some (.nx (δ.set i (.val d))) else none)) = some o)
  (R : RSt D H σ δ O W) (fr : ∀ a ∈ W, H0 a = none) (sm : Same H0 H) (k : dEnd D E H0 O Dn o) : ∀ v H', Same H H' -> Got D O W H H' d cl v -> Dn.nx (σ.set i (some v)) H' := λ v H1 s1 g => by
 cases own with
 | true =>
  simp only [if_true] at h
  unfold q3N at h
  split at h
  ·cases h
   obtain ⟨p, xs, ds, e1, e2, e3, e4, e5⟩ := g
   subst e1 e2
   exact k _ H1 (p :: W) (R.alloc s1 e3 e4 e5 i) (λ a ha => by
    rcases List.mem_cons.mp ha with z | z
    ·rw [z]; exact sm.free e3
    ·exact fr a z) (sm.trans s1)
  ·split at h
   ·rename_i hno
    cases h
    obtain ⟨t, ts, p, xs, ds, es, e1, e2, e0, e3, e4, e5, e6⟩ := g
    subst e1 e2
    exact k _ H1 (p :: W) (R.allocT s1 e0 e3 e4 e5 e6 i hno) (λ a ha => by
     rcases List.mem_cons.mp ha with z | z
     ·rw [z]; exact sm.free e3
     ·exact fr a z) (sm.trans s1)
   ·cases h
  ·cases h
 | false =>
  simp only [Bool.false_eq_true, if_false] at h
  split at h
  ·rename_i m
   cases h
   exact k _ H1 W ((R.mono s1).setVal (g.stro (R.hid.mono s1) m) i) fr (sm.trans s1)
  ·cases h
theorem q8e {own : Bool} (hN : X.N.Nodup) (hi : X.N[i]? = some x) (hx : Loc X.env.scope x) (hf : X.fn x = true \/ X.env.scope.names.lookup x = some .local) (ha : ∀ q, ra = some q -> PE X e (dE X.D E δ q)) (hc : swapsWith e (some (.Name x pos')) pos.line X.env = pure false)
  (h : (Re.thnS δ ra λ d c => if own then q3N i δ d c else (if stro d c then some (.nx (δ.set i (.val d))) else none)) = some o) : PS X (.Assign [.Name x pos'] e pos) (dS X.D E δ o) := by
 cases hra : ra with
 | none => rw [hra] at h; cases h
 | some q =>
  rw [hra] at h
  have A := ha q hra
  cases q with
  | ex c => cases h; exact (q8J hN hi hx A hc hf).weak λ Dn σ H ⟨H0, O, W, R, fr, fo, sm, k⟩ => ⟨O, W, R, q7F R fr sm k⟩
  | ok d cl => exact (q8J hN hi hx A hc hf).weak λ Dn σ H ⟨H0, O, W, R, fr, fo, sm, k⟩ => ⟨O, W, R, z1p h R fr sm k⟩
theorem q6k {own : Bool} {tgE iter elt : Expr} {ifs : List Expr} {scope : Scope} {N' : List Str} {fr : List (Option Nat)} {tg : Tg} {re : Re} (S : CompScope X.N N' scope X.env.scope fr) (hc : X.calm = true) (hN : X.N.Nodup) (hi : X.N[i]? = some x) (hx : X.env.scope.names.lookup x = some .local)
  (P : q1e X E δ tgE iter ifs elt scope N' fr tg re) (hG : ∀ C cells s₂ H₂ fp, PG (q0m X scope N' C cells s₂ H₂ fp) tgE (gT X.K tg)) (hset : q3d iter = false) {cpos : Pos} (hsw : swapsWith (.ListComp elt [⟨tgE, iter, ifs, 0⟩] scope cpos) (some (.Name x pos')) pos.line X.env = pure true)
  (h : (Re.thnS δ (some re) λ d c => if own then q3N i δ d c else (if stro d c then some (.nx (δ.set i (.val d))) else none)) = some o) : PS X (.Assign [.Name x pos'] (.ListComp elt [⟨tgE, iter, ifs, 0⟩] scope cpos) pos) (dS X.D E δ o) := by
 obtain ⟨wi, tc, te, h1, h2, h3, h4⟩ := P
 refine (q7v S hc hN hi hx h1 hG h2 h3 hsw (q3G hset)).weak λ Dn σ H ⟨H0, O, W, R, fr, fo, sm, k⟩ => h4 σ H _ ⟨O, W, R, ?_⟩
 cases re with
 | ex c => cases h; exact q7F R fr sm k
 | ok d cl => exact z1p h R fr sm k
theorem q7f {apos cpos npos : Pos} (hv : PE X (.Name x npos) (tVar i)) (he : ∀ q, ra = some q -> PE X e (dE X.D E δ q)) (hs : q0l e = false) (hline : (apos.endLine == cpos.line) = true)
  (h : (match δ[i]? with
   | some (.own (.lst ds)) => Re.thnS δ ra λ d c => if stro d c /\ ds.length < mostLen then some (.nx (δ.set i (.own (.lst (ds ++ [d]))))) else none
   | _ => none) = some o) : PS X (.Expr (.Call (.Attribute (.Name x npos) "append" apos) [e] [] cpos) pos) (dS X.D E δ o) := by
 split at h
 ·rename_i ds hi
  have C := λ t (hA : PE X e t) => q5O (pos := pos) (z2K PySem.F.plainAttrs_list PySem.F.slot_list_append PySem.F.type_list_append q3C hv (q1n hA q3E (q0h hs)) rfl (by rw [q0h hs]; rfl) hline (q0h hs) rfl) rfl
  cases hra : ra with
  | none => rw [hra] at h; cases h
  | some q =>
   rw [hra] at h
   have A := he q hra
   cases q with
   | ex c =>
    cases h
    exact (C _ A).weak λ Dn σ H ⟨H0, O, W, R, fr, fo, sm, k⟩ => by
     obtain ⟨a, xs, ds0, e0, e1, e2, e3, e4⟩ := R.own i _ hi
     exact ⟨.ref a, e1, .inl ⟨rfl, xs, SqL.of e3⟩, O, W, R, q7F (Q := λ _ _ => False) R fr sm k⟩
   | ok d cl =>
    have h' : (if stro d cl /\ ds.length < mostLen then some (Out.nx (δ.set i (.own (.lst (ds ++ [d]))))) else none) = some o := h
    split at h'
    ·rename_i m
     cases h'
     exact (C _ A).weak λ Dn σ H ⟨H0, O, W, R, fr, fo, sm, k⟩ => by
      obtain ⟨a, xs, ds0, e0, e1, e2, e3, e4⟩ := R.own i _ hi
      cases e0
      refine ⟨.ref a, e1, .inl ⟨rfl, xs, SqL.of e3⟩, O, W, R, λ v H1 s1 g => ?_⟩
      have R1 := R.mono s1
      refine ⟨a, xs, v, rfl, rfl, s1 _ _ e3, by rw [e4.length]; exact Nat.lt_of_lt_of_le m.2 (by decide), ?_⟩
      exact k σ _ W (R1.write hi e1 ((e4.mono s1.wo).append (RepL.one (g.stro (R.hid.mono s1) m.1)))) fr (q2p (sm.trans s1) (fr a e2))
    ·cases h'
 ·cases h
theorem q9t {npos spos : Pos} {ix : Expr} {rb : Option Re} (hv : PE X (.Name x npos) (tVar i)) (he : ∀ q, ra = some q -> PE X e (dE X.D E δ q)) (hx : ∀ q, rb = some q -> PE X ix (dE X.D E δ q)) (hsl : q4u ix = false)
  (h : (match δ[i]? with
   | some (.own (.lst ds)) => Re.thnS δ ra λ d c => Re.thnS δ rb λ k _ => (match k with
    | .int k => (match q1T ds.length k with
     | some j => if stro d c then some (.nx (δ.set i (.own (.lst (ds.set j d))))) else none
     | none => none)
    | _ => none)
   | _ => none) = some o) : PS X (.Assign [.Subscript (.Name x npos) ix spos] e pos) (dS X.D E δ o) := by
 have sub : ∀ v, assign (.Subscript (.Name x npos) ix spos) X.env v = (do
   let ov ← holding [v] (eval (.Name x npos) X.env)
   let iv ← holding [v, ov] (eval ix X.env)
   standAt spos
   holding [v, ov, iv] (setItem ov iv v)
   release [v, ov, iv] []) := by cases ix <;> first | (intro _; rfl) | cases hsl
 have C := λ t tk (hA : PE X e t) (hK : PE X ix tk) => z5b (pos := pos) hA (z5t hv hK z0H sub) (by cases e <;> rfl) (by cases e <;> rfl) rfl
 split at h
 ·rename_i ds hi
  cases hra : ra with
  | none => rw [hra] at h; cases h
  | some q =>
   rw [hra] at h
   have A := he q hra
   cases q with
   | ex c =>
    cases h
    exact (C _ _ A q1i).weak λ Dn σ H ⟨H0, O, W, R, fr, fo, sm, k⟩ => ⟨O, W, R, q7F (Q := λ _ _ => False) R fr sm k⟩
   | ok d cl =>
    cases hrb : rb with
    | none => rw [hrb] at h; cases h
    | some q =>
     rw [hrb] at h
     have B := hx q hrb
     cases q with
     | ex c =>
      cases h
      exact (C _ _ A B).weak λ Dn σ H ⟨H0, O, W, R, fr, fo, sm, k⟩ => ⟨O, W, R, λ v H1 s1 g => by
       have R1 := R.mono s1
       obtain ⟨a, xs, ds0, e0, e1, e2, e3, e4⟩ := R1.own i _ hi
       exact ⟨.ref a, e1, O, W, R1, q7F (Q := λ _ _ => False) R1 fr (sm.trans s1) k⟩⟩
     | ok dk ck =>
      have h' : (match (generalizing := false) dk with
       | .int k => (match q1T ds.length k with
        | some j => if stro d cl then some (Out.nx (δ.set i (.own (.lst (ds.set j d))))) else none
        | none => none)
       | _ => none) = some o := h
      split at h'
      ·rename_i k0
       split at h'
       ·rename_i j hj
        split at h'
        ·rename_i m
         cases h'
         exact (C _ _ A B).weak λ Dn σ H ⟨H0, O, W, R, fr, fo, sm, k⟩ => ⟨O, W, R, λ v H1 s1 g => by
          have R1 := R.mono s1
          obtain ⟨a, xs, ds0, e0, e1, e2, e3, e4⟩ := R1.own i _ hi
          cases e0
          refine ⟨.ref a, e1, O, W, R1, λ y H2 s2 g2 => ?_⟩
          have R2 := R1.mono s2
          refine ⟨a, xs, k0, j, rfl, g2.int (R1.hid.mono s2), s2 _ _ e3, by rw [e4.length]; exact hj, ?_⟩
          exact k σ _ W (R2.write hi e1 (RepL.set ((g.mono s2).stro ((R.hid.mono s1).mono s2) m) j (e4.mono s2.wo))) fr (q2p ((sm.trans s1).trans s2) (fr a e2))⟩
        ·cases h'
       ·cases h'
      ·cases h'
 ·cases h
theorem RSt.freeze {D : Dm} {H : Hp} {σ : St} {O W : List Addr} {d : DV} (R : RSt D H σ δ O W) (hi : δ[i]? = some (.own d)) : ∃ W', (∀ a ∈ W', a ∈ W) /\ RSt D H σ (δ.set i (.val d)) O W' := by
 obtain ⟨a, xs, ds, e0, e1, e2, e3, e4⟩ := R.own i d hi
 subst e0
 have hl : i < δ.length := (List.getElem?_eq_some_iff.mp hi).1
 have sub : ∀ b ∈ O ++ W.filter (λ b => decide (b ≠ a)), b ∈ O ++ W := λ b hb => by
  rcases List.mem_append.mp hb with z | z
  ·exact List.mem_append_left _ z
  ·exact List.mem_append_right _ (List.mem_filter.mp z).1
 have hao : a ∉ O ++ W.filter (λ b => decide (b ≠ a)) := λ z => by
  rcases List.mem_append.mp z with z | z
  ·exact R.hid.dj a e2 z
  ·exact absurd rfl (of_decide_eq_true (List.mem_filter.mp z).2)
 refine ⟨W.filter λ b => decide (b ≠ a), λ b hb => (List.mem_filter.mp hb).1, ⟨λ j d h => ?_, λ j ds' h => ?_, λ j k b d1 d2 h1 h2 q1 q2 => ?_, λ j d h => ?_, λ j d h => by
   have hj := q0b h (by intro z; cases z)
   rw [List.getElem?_set_ne (Ne.symm hj)] at h
   obtain ⟨⟨p1, L, f0, f1, f2, f3⟩, u, n⟩ := R.o2 j d h
   refine ⟨⟨p1, L, f0, f1, f2.sub λ b hb hbw => List.mem_filter.mpr ⟨hbw, decide_eq_true λ z => f3 i _ a hi e1 (by rw [← z]; exact hb)⟩, λ k d2 b q q2 => ?_⟩, λ k d2 q => ?_, λ k d2 q => ?_⟩
   ·have hk := q0b q (by intro z; cases z)
    rw [List.getElem?_set_ne (Ne.symm hk)] at q
    exact f3 k d2 b q q2
   ·have hk := q0b q (by intro z; cases z)
    rw [List.getElem?_set_ne (Ne.symm hk)] at q
    exact u k d2 q
   ·have hk := q0b q (by intro z; cases z)
    rw [List.getElem?_set_ne (Ne.symm hk)] at q
    exact n k d2 q, by rw [List.length_set]; exact R.len,
  ⟨λ b hb => R.hid.ot b (sub b hb), Same.refl _, λ b hb => R.hid.wl b (List.mem_filter.mp hb).1, λ b hb => R.hid.dj b (List.mem_filter.mp hb).1⟩⟩⟩
 ·by_cases hj : j = i
  ·subst hj
   obtain ⟨_, e⟩ := q2W h
   cases e
   exact ⟨.ref a, e1, q0q.mpr ⟨a, xs, rfl, by rw [q0n hao]; exact e3, e4.mono (q0x sub)⟩⟩
  ·rw [List.getElem?_set_ne (Ne.symm hj)] at h
   obtain ⟨v, q1, q2⟩ := R.val j d h
   exact ⟨v, q1, q2.mono (q0x sub)⟩
 ·have hj := q0b h (by intro z; cases z)
  rw [List.getElem?_set_ne (Ne.symm hj)] at h
  obtain ⟨b, ys, ds1, q0, q1, q2, q3, q4⟩ := R.own j ds' h
  refine ⟨b, ys, ds1, q0, q1, List.mem_filter.mpr ⟨q2, decide_eq_true λ z => hj (R.inj j i a ds' _ h hi (by rw [← z]; exact q1) e1)⟩, q3, q4.mono (q0x sub)⟩
 ·have n1 := q0b h1 (by intro z; cases z)
  have n2 := q0b h2 (by intro z; cases z)
  rw [List.getElem?_set_ne (Ne.symm n1)] at h1
  rw [List.getElem?_set_ne (Ne.symm n2)] at h2
  exact R.inj j k b d1 d2 h1 h2 q1 q2
 ·have hj := q0b h (by intro z; cases z)
  rw [List.getElem?_set_ne (Ne.symm hj)] at h
  obtain ⟨⟨t, ts, p1, ys, ds1, es, f0, f1, f2, f3, f4, f5, f6, f7⟩, u⟩ := R.ot j d h
  refine ⟨⟨t, ts, p1, ys, ds1, es, f0, f1, (q0x sub).tseq f2, List.mem_filter.mpr ⟨f3, decide_eq_true λ z => f7 i _ hi (by rw [z]; exact e1)⟩, f4, f5.mono (q0x sub), f6.mono (q0x sub), λ k d2 q => ?_⟩, λ k d2 q => ?_⟩
  ·have hk := q0b q (by intro z; cases z)
   rw [List.getElem?_set_ne (Ne.symm hk)] at q
   exact f7 k d2 q
  ·have hk := q0b q (by intro z; cases z)
   rw [List.getElem?_set_ne (Ne.symm hk)] at q
   exact u k d2 q
theorem q7z {d : DV} (hi : δ[i]? = some (.own d)) (h : PSs X rest (dS X.D E (δ.set i (.val d)) o)) : PSs X rest (dS X.D E δ o) := h.weak λ Dn σ H ⟨H0, O, W, R, fr, fo, sm, k⟩ => by
 obtain ⟨W', hs, R'⟩ := R.freeze hi
 exact ⟨H0, O, W', R', λ a ha => fr a (hs a ha), fo, sm, k⟩
end
end L2
end
section
namespace L2
open PySem PySem.Spec PyProof.Rows
section
variable {X : Cx} {E : St -> XK} {δ δ1 : List Sv} {o : Out} {e c : Expr} {pos pos' : Pos} {ra : Option Re} {i : Nat} {x : Str}
theorem z0D {x : V} {xs : List V} : atI (x :: xs) 0 = some x := by
 unfold atI ixN
 rw [List.length_cons]
 simp
end
end L2
end
section
namespace L2
open PySem PySem.Spec PyProof.Rows
theorem PSs.any {X : Cx} {body : List Stmt} {ι : Sort _} {t : ι -> TS} (h : ∀ k, PSs X body (t k)) : PSs X body (λ D σ H => ∃ k, t k D σ H) := λ pins s σ H D I ⟨k, q⟩ => h k pins s σ H D I q
structure Lp (H0 H1 : Hp) (O W : List Addr) : Prop where
 out : ∀ {H : Hp}, Same (L2.wo W H1) H -> Same H0 H
 outW : ∀ {a : Addr}, L2.wo W H1 a = none -> H0 a = none
 in1 : ∀ a ∈ W, L2.wo W H1 a = none
 in2 : ∀ a ∈ O, L2.wo W H1 a ≠ none
 wsame : ∀ {H : Hp}, Same (L2.wo W H1) H -> Same (L2.wo (O ++ W) H1) (L2.wo (O ++ W) H)
theorem Lp.mk' {H0 H1 : Hp} {O W : List Addr} (fr : ∀ a ∈ W, H0 a = none) (fo : ∀ a ∈ O, H0 a ≠ none) (sm : Same H0 H1) : Lp H0 H1 O W where
 out := λ {H} s b u e => s b u (by
  rw [q0n λ z => by rw [fr b z] at e; cases e]
  exact sm b u e)
 outW := λ {a} q => by
  by_cases z : a ∈ W
  ·exact fr a z
  ·rw [q0n z] at q; exact sm.free q
 in1 := λ a ha => z4s ha
 in2 := λ a ha => by
  rw [q0n λ z => fo a ha (fr a z)]
  intro q
  exact fo a ha (sm.free q)
 wsame := λ {H} s b u e => by
  obtain ⟨hb, e⟩ := q0M e
  rw [q0n hb]
  exact s b u (by rw [q0n λ z => hb (List.mem_append_right _ z)]; exact e)
theorem Lp.gotR {H0 H1 : Hp} {O W : List Addr} {D : Dm} {H : Hp} {d : DV} {fr : Bool} {v : V} (L : Lp H0 H1 O W) (g : GotR D O (L2.wo W H1) H d fr v) : GotR D O H0 H d fr v := by
 cases fr with
 | false => exact g
 | true =>
  obtain ⟨p, xs, ds, e1, e2, e3, e4, e5⟩ := g
  exact ⟨p, xs, ds, e1, e2, L.outW e3, e4, e5⟩
theorem Lp.gotT {H0 H1 : Hp} {O W : List Addr} {D : Dm} {H : Hp} {d : DV} {v : V} (L : Lp H0 H1 O W) (g : GotT D O (L2.wo W H1) H d v) : GotT D O H0 H d v := by
 rcases g with ⟨t, ts, p, xs, ds, es, e1, e2, e0, e3, e4, e5, e6⟩ | ⟨xs, e1, e2⟩
 ·exact .inl ⟨t, ts, p, xs, ds, es, e1, e2, e0, L.outW e3, e4, e5, e6⟩
 ·exact .inr ⟨xs, e1, e2.since λ a ha => L.outW ha⟩
section
variable {X : Cx} {E : St -> XK} {δ : List Sv} {tgE iter c : Expr} {body : List Stmt} {o : Out} {pos : Pos} {tg : Tg} {ri : Option Ri} {evB : List Sv -> Option Out} {evC : List Sv -> Option Rt}
theorem z2Y (hp : PassesOwn (model X.prog X.w) X.A X.env X.xe) (hc : X.calm = true) (hi : ∀ q, ri = some q -> PI X tgE iter (dI X.D E δ q)) (hG : PG X tgE (gT X.K tg)) (hb : ∀ δ' o, evB δ' = some o -> PSs X body (dS X.D E δ' o)) (hset : q3d iter = false)
  (h : (Ri.thnS δ ri λ ds c => if c = .strong \/ c = .fresh then q1r tg evB ds δ else none) = some o) : PS X (.For tgE iter body [] pos) (dS X.D E δ o) := by
 have B : PSs X body (λ D σ H => ∃ k : { p : List Sv × Out // evB p.1 = some p.2 }, dS X.D E k.1.1 k.1.2 D σ H) := PSs.any λ k => hb k.1.1 k.1.2 k.2
 cases hri : ri with
 | none => rw [hri] at h; cases h
 | some q =>
  rw [hri] at h
  have A := hi q hri
  cases q with
  | ex c => cases h; exact (z1b hp hc A hG B (q3G hset)).weak λ Dn σ H ⟨H0, O, W, R, fr, fo, sm, k⟩ => ⟨O, W, R, λ H' C m s => k σ H' W C m (R.mono s) fr (sm.trans s)⟩
  | ok ds c =>
   have h' : (if c = .strong \/ c = .fresh then q1r tg evB ds δ else none) = some o := h
   split at h'
   ·rename_i m
    refine (z1b hp hc A hG B (q3G hset)).weak λ Dn σ H ⟨H0, O, W, R, fr, fo, sm, k⟩ => ⟨O, W, R, λ J H1 s1 w => ?_⟩
    have R1 := R.mono s1
    have L := Lp.mk' fr fo (sm.trans s1)
    have w : Wk X.D J ds (O ++ W) (O ++ W) H1 := by
     rcases m with m | m <;> subst m <;> exact w
    refine ⟨λ i n σ H => n = ds.length - i /\ i <= ds.length /\ ∃ δi W', q1r tg evB (ds.drop i) δi = some o /\ RSt X.D H σ δi O W' /\ (∀ a ∈ W', L2.wo W H1 a = none) /\ Same (L2.wo W H1) H,
     ⟨ds.length, rfl, Nat.zero_le _, δ, W, h', R1, L.in1, q0S⟩, ?_⟩
    rintro i n σ2 H2 ⟨rfl, hi, δi, W2, hgo, R2, b1, b2⟩
    by_cases hlt : i < ds.length
    ·refine .inr ⟨w.go i H2 (L.wsame b2) hlt, λ σ H => ∃ δi W', q1r tg evB (ds.drop (i + 1)) δi = some o /\ RSt X.D H σ δi O W' /\ (∀ a ∈ W', L2.wo W H1 a = none) /\ Same (L2.wo W H1) H,
      λ σ' H' q => ⟨ds.length - (i + 1), by omega, rfl, hlt, q⟩, λ x H3 y => ?_⟩
     have y1 := w.same i H2 x H3 y
     have y3 : Rep X.D (L2.wo (O ++ W2) H3) ds[i] x := w.yld i H2 x H3 _ (O ++ W2) (L.wsame b2) (L.wsame b2) y (List.getElem?_eq_getElem hlt) λ a ha => ⟨R2.hid.ot a ha, by
      rcases List.mem_append.mp ha with z | z
      ·exact .inl (List.mem_append_left _ z)
      ·have q := b1 a z
       by_cases hw : a ∈ W
       ·exact .inl (List.mem_append_right _ hw)
       ·rw [q0n hw] at q; exact .inr q⟩
     rw [List.drop_eq_getElem_cons hlt] at hgo
     unfold q1r at hgo
     split at hgo
     ·cases hgo
     ·rename_i δ1 hb1
      refine q4G (R2.mono y1) y3 hb1 λ σ3 R3 => ?_
      split at hgo
      ·rename_i δ2 hev
       exact ⟨⟨⟨δ1, .nx δ2⟩, hev⟩, L2.wo W H1, O, W2, R3, b1, L.in2, b2.trans y1, λ σ' H' W' R' fr' sm' => ⟨δ2, W', hgo, R', fr', sm'⟩⟩
      ·rename_i hne
       refine ⟨⟨⟨δ1, o⟩, hgo⟩, L2.wo W H1, O, W2, R3, b1, L.in2, b2.trans y1, ?_⟩
       cases o with
       | nx δ2 => exact absurd hgo (hne δ2)
       | rt d fr' => exact λ v H' s' g => k v H' (L.out s') (L.gotR g)
       | rtt d => exact λ v H' s' g => k v H' (L.out s') (L.gotT g)
       | ex c' δ' => exact λ σ' H' W' C m R' fr' sm' => k σ' H' W' C m R' (λ a ha => L.outW (fr' a ha)) (L.out sm')
    ·have e : i = ds.length := by omega
     subst e
     rw [List.drop_length] at hgo
     cases hgo
     exact .inl ⟨w.stop H2 (L.wsame b2), k σ2 H2 W2 R2 (λ a ha => L.outW (b1 a ha)) (L.out b2)⟩
   ·cases h'
end
end L2
end
section
namespace L2
open PySem PySem.Spec PyProof.Rows
section
variable {D : Dm} {H H' : Hp} {σ : St} {δ : List Sv} {O W : List Addr} {i : Nat}
theorem RSt.grow (R : RSt D H σ δ O W) (s : Same H H') (N : List Addr) (hN : ∀ a ∈ N, H a = none /\ ∃ xs, H' a = some (.lst xs)) : RSt D H' σ δ O (N ++ W) := by
 have old : Same (L2.wo (O ++ W) H) (L2.wo (O ++ (N ++ W)) H') := λ b o e => by
  obtain ⟨hb, e⟩ := q0M e
  rw [q0n λ z => ?_]
  ·exact s b o e
  ·rcases List.mem_append.mp z with z | z
   ·exact hb (List.mem_append_left _ z)
   ·rcases List.mem_append.mp z with z | z
    ·rw [(hN b z).1] at e; cases e
    ·exact hb (List.mem_append_right _ z)
 refine ⟨λ j d h => ?_, λ j d h => ?_, R.inj, λ j d h => ?_, λ j d h => ?_, R.len, ⟨λ a ha => ?_, Same.refl _, λ a ha => ?_, λ a ha => ?_⟩⟩
 ·obtain ⟨v, e1, e2⟩ := R.val j d h
  exact ⟨v, e1, e2.mono old⟩
 ·obtain ⟨a, ys, ds1, e0, e1, e2, e3, e4⟩ := R.own j d h
  exact ⟨a, ys, ds1, e0, e1, List.mem_append_right _ e2, s _ _ e3, e4.mono old⟩
 ·obtain ⟨⟨t, ts, p1, ys, ds1, es, e0, e1, e2, e3, e4, e5, e6, e7⟩, u⟩ := R.ot j d h
  exact ⟨⟨t, ts, p1, ys, ds1, es, e0, e1, old.tseq e2, List.mem_append_right _ e3, s _ _ e4, e5.mono old, e6.mono old, e7⟩, u⟩
 ·obtain ⟨⟨p1, L, e0, e1, e2, e3⟩, u, n⟩ := R.o2 j d h
  exact ⟨⟨p1, L, e0, e1, (e2.mono s).sub λ a _ ha => List.mem_append_right _ ha, e3⟩, u, n⟩
 ·rcases List.mem_append.mp ha with z | z
  ·intro q; exact R.hid.ot a (List.mem_append_left _ z) (s.free q)
  ·rcases List.mem_append.mp z with z | z
   ·obtain ⟨xs, e⟩ := (hN a z).2; rw [e]; intro q; cases q
   ·intro q; exact R.hid.ot a (List.mem_append_right _ z) (s.free q)
 ·rcases List.mem_append.mp ha with z | z
  ·exact (hN a z).2
  ·obtain ⟨ys, q⟩ := R.hid.wl a z; exact ⟨ys, s _ _ q⟩
 ·rcases List.mem_append.mp ha with z | z
  ·intro q; exact R.hid.ot a (List.mem_append_left _ q) (hN a z).1
  ·exact R.hid.dj a z
theorem RSt.forget (R : RSt D H σ δ O W) (i : Nat) : RSt D H σ (δ.set i .no) O W := R.less (by rw [List.length_set]) λ j sv h => by
 by_cases hj : j = i
 ·subst hj
  obtain ⟨_, e⟩ := q2W h
  exact .inl e.symm
 ·rw [List.getElem?_set_ne (Ne.symm hj)] at h; exact .inr h
theorem RSt.poke {a : Addr} {xs : List V} (R : RSt D H σ δ O W) (ha : a ∈ W) (ho : ∀ (j : Nat) d', δ[j]? = some (.own d') -> σ[j]? ≠ some (some (.ref a))) (h1 : ∀ (j : Nat) d', δ[j]? ≠ some (.ot d')) (h2 : ∀ (j : Nat) d', δ[j]? ≠ some (.o2 d')) : RSt D (upd H a (.lst xs)) σ δ O W := by
 have old : Same (L2.wo (O ++ W) H) (L2.wo (O ++ W) (upd H a (.lst xs))) := λ b o e => by
  obtain ⟨hb, e⟩ := q0M e
  rw [q0n hb, q0j λ z => hb (by rw [z]; exact List.mem_append_right _ ha)]
  exact e
 refine ⟨λ j d h => ?_, λ j d h => ?_, R.inj, λ j d h => absurd h (h1 j d), λ j d h => absurd h (h2 j d), R.len, ⟨λ b hb q => ?_, Same.refl _, λ b hb => ?_, R.hid.dj⟩⟩
 ·obtain ⟨v, q1, q2⟩ := R.val j d h
  exact ⟨v, q1, q2.mono old⟩
 ·obtain ⟨b, ys, ds1, q0, q1, q2, q3, q4⟩ := R.own j d h
  refine ⟨b, ys, ds1, q0, q1, q2, ?_, q4.mono old⟩
  rw [q0j λ z => ho j _ h (by rw [← z]; exact q1)]
  exact q3
 ·by_cases hba : b = a
  ·rw [hba, q0A] at q; cases q
  ·rw [q0j hba] at q; exact R.hid.ot b hb q
 ·by_cases hba : b = a
  ·exact ⟨xs, by rw [hba]; exact q0A⟩
  ·obtain ⟨ys, q⟩ := R.hid.wl b hb; exact ⟨ys, by rw [q0j hba]; exact q⟩
theorem RSt.setO2 {p : Addr} {L : List (Addr × List Int)} (R : RSt D H σ δ O W) (hL : O2At H W p L) (i : Nat) (ho : ∀ (j : Nat) d' a, j ≠ i -> δ[j]? = some (.own d') -> σ[j]? = some (some (.ref a)) -> a ∉ p :: L.map (·.1)) (h1 : ∀ (j : Nat) d', j ≠ i -> δ[j]? ≠ some (.ot d')) (h2 : ∀ (j : Nat) d', j ≠ i -> δ[j]? ≠ some (.o2 d')) : RSt D H (σ.set i (some (.ref p))) (δ.set i (.o2 (o2D L))) O W := by
 refine ⟨λ j d h => ?_, λ j d h => ?_, λ j k a d1 d2 q1 q2 e1 e2 => ?_, λ j d h => ?_, λ j d h => ?_, by rw [List.length_set, List.length_set]; exact R.len, R.hid⟩
 ·have hj := q0b h (by intro z; cases z)
  rw [List.getElem?_set_ne (Ne.symm hj)] at h ⊢
  exact R.val j d h
 ·have hj := q0b h (by intro z; cases z)
  rw [List.getElem?_set_ne (Ne.symm hj)] at h ⊢
  exact R.own j d h
 ·have n1 := q0b q1 (by intro z; cases z)
  have n2 := q0b q2 (by intro z; cases z)
  rw [List.getElem?_set_ne (Ne.symm n1)] at q1 e1
  rw [List.getElem?_set_ne (Ne.symm n2)] at q2 e2
  exact R.inj j k a d1 d2 q1 q2 e1 e2
 ·have hj := q0b h (by intro z; cases z)
  rw [List.getElem?_set_ne (Ne.symm hj)] at h
  exact absurd h (h1 j d hj)
 ·have hj : j = i := by
   by_cases hj : j = i
   ·exact hj
   ·rw [List.getElem?_set_ne (Ne.symm hj)] at h
    exact absurd h (h2 j d hj)
  subst hj
  obtain ⟨hl, e⟩ := q2W h
  cases e
  refine ⟨⟨p, L, rfl, List.getElem?_set_self (by rw [R.len]; exact hl), hL, λ k d' a q q2 => ?_⟩, λ k d' q => ?_, λ k d' q => ?_⟩
  ·have hk := q0b q (by intro z; cases z)
   rw [List.getElem?_set_ne (Ne.symm hk)] at q q2
   exact ho k d' a hk q q2
  ·by_cases hk : k = j
   ·exact hk
   ·rw [List.getElem?_set_ne (Ne.symm hk)] at q
    exact absurd q (h2 k d' hk)
  ·have hk := q0b q (by intro z; cases z)
   rw [List.getElem?_set_ne (Ne.symm hk)] at q
   exact h1 k d' hk q
theorem q9M {α : Type} {l : List α} {i : Nat} {a : α} (h : l[i]? = some a) : l.set i a = l := by
 obtain ⟨hl, e⟩ := List.getElem?_eq_some_iff.mp h
 rw [← e, List.set_getElem_self]
end
end L2
end
section
namespace L2
open PySem PySem.Spec PyProof.Rows
section
variable {X : Cx} {E : St -> XK} {δ : List Sv} {o : Out} {e fe : Expr} {pos pos' : Pos} {ra rb : Option Re} {i : Nat} {x : Str}
theorem z1O {d : DV} {c : Cl} (h : newI d c = true) : ∃ ns : List Int, d = .lst (ns.map DV.int) /\ c = .fresh := by
 unfold newI at h
 split at h
 ·rename_i ds
  cases q : ints? ds with
  | none => rw [q] at h; cases h
  | some ns => exact ⟨ns, by rw [q4V q], rfl⟩
 ·cases h
theorem gotI {D : Dm} {O W : List Addr} {H0 H : Hp} {ns : List Int} {v : V} (g : Got D O W H0 H (.lst (ns.map DV.int)) .fresh v) : ∃ q, v = .ref q /\ H0 q = none /\ H q = some (.lst (ns.map V.int)) := by
 obtain ⟨q, xs, ds, e1, e2, e3, e4, e5⟩ := g
 cases e2
 have : xs = ns.map V.int := by
  clear e4
  induction ns generalizing xs with
  | nil => exact q0s.mp e5
  | cons n ns ih =>
   obtain ⟨v', vs, f1, f2, f3⟩ := q0f.mp e5
   rw [f1, ih vs f3, q0N.mp f2]
   rfl
 rw [this] at e4
 exact ⟨q, e1, e3, e4⟩
theorem z1d {D : Dm} {H : Hp} {σ : St} {O W : List Addr} {q : Addr} (R : RSt D H σ δ O W) (hq : H q = none) {j : Nat} {d' : DV} {a : Addr} (h : δ[j]? = some (.own d')) (h2 : σ[j]? = some (some (.ref a))) : a ≠ q := λ z => by
 obtain ⟨b, xs, ds, _, e1, _, e3, _⟩ := R.own j d' h
 rw [h2] at e1
 cases e1
 rw [z, hq] at e3
 cases e3
end
noncomputable def dF (D : Dm) (δ : List Sv) (xs : List DV) : TE := λ σ H Q => ∃ O W, RSt D H σ δ O W /\ ∀ v H', Same H H' -> GotF H H' xs v -> Q v H'
section
variable {X : Cx} {E : St -> XK} {δ : List Sv} {o : Out} {iter elt tgE : Expr} {pos pos' : Pos} {N' : List Str} {scope : Scope} {fr : List (Option Nat)} {tg : Tg} {ri : Option Ri} {i : Nat} {x : Str}
theorem Rc.ofF_item {r : Option Re} {rc : Rc} (h : Rc.ofF r = some rc) : ∃ ns : List Int, rc = .item (.lst (ns.map DV.int)) /\ r = some (.ok (.lst (ns.map DV.int)) .fresh) := by
 unfold Rc.ofF at h
 split at h
 ·rename_i ds
  split at h
  ·rename_i ns q
   cases h
   have := q4V q
   subst this
   exact ⟨ns, rfl, rfl⟩
  ·cases h
 ·cases h
theorem q8K {D : Dm} {J : It} {ds : List DV} {O W : List Addr} {H H1 : Hp} {σ : St} {c : Cl} {g : DV -> Option Rc} {xs : List DV} {tc : TT} {te : TE} {δ0 : List Sv} {Q : VK} (w : Wk D J ds (hidW O W c) (q0O O W c) H1) (hc : c ≠ .weak) (R : RSt D H1 σ δ0 O W)
  (hn : ∀ i ∈ q1L tg, δ0[i]? = some .no \/ δ0[i]? = none) (hz : ds.length <= sizeLine) (hx : q0z g ds = some xs) (s1 : Same H H1)
  (step : ∀ d rc, d ∈ ds -> g d = some rc -> ∃ δ' ns, tg.bind d δ0 = some δ' /\ rc = .item (.lst (List.map DV.int ns)) /\ (∀ σ' H2 (K : Bool -> Hp -> Prop), K true H2 -> tc σ' H2 K) /\ ∀ σ' H2, Same H1 H2 -> RSt D H2 σ' δ' O W -> ∀ K : VK, (∀ q H3, Same H2 H3 -> H2 q = none -> H3 q = some (.lst (List.map V.int ns)) -> K (.ref q) H3) -> te σ' H2 K)
  (fin : ∀ v H', Same H H' -> GotF H H' xs v -> Q v H') :
  z0b J (gT D.K tg) tc te (λ ys H' => ∀ p, H' p = none -> Q (.ref p) (upd H' p (.lst ys))) σ H1 := by
 have ci : q0O O W c = O ++ W := by cases c <;> first | rfl | exact absurd rfl hc
 rw [ci] at w
 refine ⟨λ i n ys σ' H' => n = ds.length - i /\ i <= ds.length /\ ys.length <= i /\ RSt D H' σ' δ0 O W /\ Same H1 H' /\ ∃ (L : List (Addr × List Int)) (rest : List DV), q0z g (ds.drop i) = some rest /\ L.map (λ q => .lst (q.2.map DV.int)) ++ rest = xs /\ ys = L.map (λ q => .ref q.1) /\ (∀ q ∈ L, H1 q.1 = none /\ H' q.1 = some (.lst (q.2.map V.int))) /\ (L.map (·.1)).Nodup,
  ⟨ds.length, rfl, Nat.zero_le _, Nat.zero_le _, R, Same.refl _, [], xs, hx, rfl, rfl, λ q hq => (nomatch hq), List.nodup_nil⟩, ?_⟩
 rintro i n ys σ2 H2 ⟨rfl, hi', hy, R2, s2, L, rest, h1, h2, h3, h4, h5⟩
 by_cases hlt : i < ds.length
 ·refine .inr ⟨w.go i H2 s2.wo hlt, Nat.lt_of_le_of_lt hy (Nat.lt_of_lt_of_le hlt hz), λ x' H3 y => ?_⟩
  have y1 := w.same i H2 x' H3 y
  have y3 : Rep D (L2.wo (O ++ W) H3) ds[i] x' := w.yld i H2 x' H3 _ (O ++ W) s2.wo s2.wo y (List.getElem?_eq_getElem hlt) λ a ha => ⟨R2.hid.ot a ha, .inl ha⟩
  rw [List.drop_eq_getElem_cons hlt] at h1
  have hm : ds[i] ∈ ds := List.getElem_mem hlt
  unfold q0z at h1
  split at h1
  ·cases h1
  ·rename_i q
   obtain ⟨δ', ns, b1, b2, _⟩ := step _ _ hm q
   cases b2
  ·rename_i x q
   split at h1
   ·cases h1
   ·rename_i rest' q'
    cases h1
    obtain ⟨δ', ns, b1, b2, b3, b4⟩ := step _ _ hm q
    cases b2
    refine q4G (R2.mono y1) y3 b1 λ σ3 R3 => ?_
    have back := q3S b1 hn
    refine b3 σ3 H3 _ ?_
    show if true = true then _ else _
    rw [if_pos rfl]
    refine b4 σ3 H3 (s2.trans y1) R3 _ λ a H5 s5 ha ha' => ?_
    have ha1 : H1 a = none := (s2.trans y1).free ha
    refine ⟨ds.length - (i + 1), by omega, rfl, hlt, by rw [List.length_append, List.length_singleton]; omega, (R3.less back.1 back.2).mono s5, (s2.trans y1).trans s5, L ++ [(a, ns)], rest', q', by rw [List.map_append, List.append_assoc]; exact h2, by rw [List.map_append, h3]; rfl, λ p hp => ?_, ?_⟩
    ·rcases List.mem_append.mp hp with z | z
     ·exact ⟨(h4 p z).1, (y1.trans s5) _ _ (h4 p z).2⟩
     ·rw [List.mem_singleton] at z; subst z; exact ⟨ha1, ha'⟩
    ·rw [List.map_append, List.nodup_append]
     refine ⟨h5, by simp, λ b hb b' hb' z => ?_⟩
     obtain ⟨p, hp, rfl⟩ := List.mem_map.mp hb
     have : b' = a := by simpa using hb'
     subst this
     have := y1 _ _ (h4 p hp).2
     rw [z, ha] at this
     cases this
 ·have e : i = ds.length := by omega
  subst e
  rw [List.drop_length] at h1
  cases h1
  rw [List.append_nil] at h2
  have s0 := s1.trans s2
  refine .inl ⟨w.stop H2 s2.wo, λ p hp => fin _ _ (s0.trans (q0r hp)) ⟨p, L, rfl, h2.symm, s0.free hp, by rw [q0A, h3], λ q hq => ⟨s1.free (h4 q hq).1, ?_⟩, ?_⟩⟩
  ·rw [q0j λ z => by have := (h4 q hq).2; rw [z, hp] at this; cases this]
   exact (h4 q hq).2
  ·refine List.nodup_cons.mpr ⟨λ z => ?_, h5⟩
   obtain ⟨q, hq, z⟩ := List.mem_map.mp z
   have := (h4 q hq).2
   rw [z, hp] at this
   cases this
noncomputable def q4f (X : Cx) (δ : List Sv) (tgE iter elt : Expr) (scope : Scope) (N' : List Str) (fr : List (Option Nat)) (tg : Tg) (xs : List DV) : Prop :=
 ∃ wi tc te, PI X tgE iter wi /\ (∀ C cells s₂ H₂ fp, PTs (q0m X scope N' C cells s₂ H₂ fp) [] tc) /\ (∀ C cells s₂ H₂ fp, PE (q0m X scope N' C cells s₂ H₂ fp) elt te) /\
  ∀ σ H Q, dF X.D δ xs σ H Q -> q9X fr wi (gT X.K tg) tc te σ H Q
theorem q6m {evElt : List Sv -> Option Re} {ds xs : List DV} {c : Cl} (hnd : ∀ (j k i : Nat), fr[j]? = some (some i) -> fr[k]? = some (some i) -> j = k) (hsl : ∀ i ∈ q1L tg, fr[i]? = some none) (hi : PI X tgE iter (dI X.D E δ (.ok ds c)))
  (he : ∀ δ' r, evElt δ' = some r -> ∀ C cells s₂ H₂ fp, PE (q0m X scope N' C cells s₂ H₂ fp) elt (dE X.D E0s δ' r)) (hw : c ≠ .weak) (hl : ds.length <= mostLen)
  (hx : q0z (λ d => (tg.bind d (q0v fr δ)).bind λ δ' => Rc.ofF (evElt δ')) ds = some xs) : q4f X δ tgE iter elt scope N' fr tg xs := by
 refine ⟨_, _, _, hi, (λ C cells s₂ H₂ fp => q9z), (λ C cells s₂ H₂ fp => PE.any (ι := { p : List Sv × Re // evElt p.1 = some p.2 }) (t := λ k => dE X.D E0s k.1.1 k.1.2) λ k => he k.1.1 k.1.2 k.2 C cells s₂ H₂ fp), ?_⟩
 refine λ σ H Q ⟨O, W, R, p⟩ => ⟨O, W, R, λ J H1 s1 w => ?_⟩
 refine q8K (tg := tg) (D := X.D) w hw ((R.mono s1).inner fr hnd) (λ i hi => .inl (q3I (hsl i hi))) (q1u hl) hx s1 (λ d rc hm hg => ?_) p
 cases hb : tg.bind d (q0v fr δ) with
 | none => rw [hb] at hg; cases hg
 | some δ' =>
  rw [hb] at hg
  obtain ⟨ns, e1, e2⟩ := Rc.ofF_item hg
  refine ⟨δ', ns, rfl, e1, λ σ' H2 K k => k, λ σ' H2 s2 R2 K hK => ⟨⟨⟨δ', _⟩, e2⟩, O, W, R2, λ v H3 s3 g3 => ?_⟩⟩
  obtain ⟨q, rfl, g4, g5⟩ := gotI g3
  exact hK q H3 s3 g4 g5
theorem z1x {Dn : Ends} {σ : St} {H H0 : Hp} {O W : List Addr} {D : Dm} {xs : List DV} (hno : noOt i δ = true) (R : RSt D H σ δ O W) (fr : ∀ a ∈ W, H0 a = none) (sm : Same H0 H) (k : dEnd D E H0 O Dn (.nx (δ.set i (.o2 (.lst xs))))) : ∀ v H', Same H H' -> GotF H H' xs v -> Dn.nx (σ.set i (some v)) H' := λ v H1 s1 g => by
 obtain ⟨p, L, rfl, e1, e2, e3, e4, e5⟩ := g
 have inN : ∀ a ∈ p :: L.map (·.1), H a = none /\ ∃ xs, H1 a = some (.lst xs) := λ a ha => by
  rcases List.mem_cons.mp ha with z | z
  ·subst z; exact ⟨e2, _, e3⟩
  ·obtain ⟨q, hq, rfl⟩ := List.mem_map.mp z
   exact ⟨(e4 q hq).1, _, (e4 q hq).2⟩
 have R1 := R.grow s1 (p :: L.map (·.1)) inN
 have A : O2At H1 (p :: L.map (·.1) ++ W) p L := ⟨List.mem_append_left _ (List.mem_cons_self ..), e3, λ q hq => ⟨List.mem_append_left _ (List.mem_cons_of_mem _ (List.mem_map.mpr ⟨q, hq, rfl⟩)), (e4 q hq).2⟩, e5⟩
 have R2 := R1.setO2 A i (λ j d' a hj z w hm => z1d R (inN a hm).1 z w rfl) (λ j d' hj z => hj (q6h hno z)) (λ j d' hj z => hj (q8P hno z))
 have e6 : o2D L = .lst xs := by rw [e1]; rfl
 rw [e6] at R2
 exact k _ H1 _ R2 (λ a ha => by
  rcases List.mem_append.mp ha with z | z
  ·exact sm.free (inN a z).1
  ·exact fr a z) (sm.trans s1)
end
end L2
end
section
namespace L2
open PySem PySem.Spec PyProof.Rows
section
variable {D : Dm} {H : Hp} {σ : St} {δ : List Sv} {O W : List Addr} {i : Nat}
theorem RSt.turnO2 {a p : Addr} {xs' : List V} {L L' : List (Addr × List Int)} (R : RSt D H σ δ O W) (e1 : σ[i]? = some (some (.ref p))) (e3 : ∀ (j : Nat) d' b, δ[j]? = some (.own d') -> σ[j]? = some (some (.ref b)) -> b ∉ p :: L.map (·.1))
  (u : ∀ (j : Nat) d', δ[j]? = some (.o2 d') -> j = i) (n : ∀ (j : Nat) d', δ[j]? ≠ some (.ot d')) (ha : a ∈ W) (hm : a ∈ p :: L.map (·.1)) (A : O2At (upd H a (.lst xs')) W p L')
  (hs : ∀ (j : Nat) d' b, δ[j]? = some (.own d') -> σ[j]? = some (some (.ref b)) -> b ∉ L'.map (·.1)) : RSt D (upd H a (.lst xs')) σ (δ.set i (.o2 (o2D L'))) O W := by
 have own' : ∀ (j : Nat) d', (δ.set i .no)[j]? = some (.own d') -> δ[j]? = some (.own d') := λ j d' z => by
  have hj := q0b z (by intro w; cases w)
  rw [List.getElem?_set_ne (Ne.symm hj)] at z
  exact z
 have R3 := (R.forget i).poke (a := a) (xs := xs') ha (λ j d' z w => e3 j d' a (own' j d' z) w hm) (λ j d' z => by
  have hj := q0b z (by intro w; cases w)
  rw [List.getElem?_set_ne (Ne.symm hj)] at z
  exact n j d' z) (λ j d' z => by
  have hj := q0b z (by intro w; cases w)
  rw [List.getElem?_set_ne (Ne.symm hj)] at z
  exact hj (u j d' z))
 have R4 := R3.setO2 A i (λ k d' b hk z w hb => by
  have z' := own' k d' z
  rcases List.mem_cons.mp hb with y | y
  ·exact e3 k d' b z' w (by rw [y]; exact List.mem_cons_self ..)
  ·exact hs k d' b z' w y) (λ k d' hk z => by rw [List.getElem?_set_ne (Ne.symm hk)] at z; exact n k d' z) (λ k d' hk z => by rw [List.getElem?_set_ne (Ne.symm hk)] at z; exact hk (u k d' z))
 rw [List.set_set, q9M e1] at R4
 exact R4
end
section
variable {X : Cx} {E : St -> XK} {δ : List Sv} {o : Out} {e : Expr} {pos : Pos} {ra : Option Re} {i : Nat} {x : Str}
theorem z2i {apos cpos npos spos ipos : Pos} {j : Nat} (hv : PE X (.Name x npos) (tVar i)) (he : ∀ q, ra = some q -> PE X e (dE X.D E δ q)) (hs : q0l e = false) (hline : (apos.endLine == cpos.line) = true)
  (h : (match δ[i]? with
   | some (.o2 (.lst (.lst ds :: r))) => (match (generalizing := false) ra with
    | some (.ok (.int z) _) => if ds.length < mostLen then some (Out.nx (δ.set i (.o2 (.lst (.lst (ds ++ [.int z]) :: r))))) else none
    | _ => none)
   | _ => none) = some o) : PS X (.Expr (.Call (.Attribute (.Subscript (.Name x npos) (.Constant (.int 0) j ipos) spos) "append" apos) [e] [] cpos) pos) (dS X.D E δ o) := by
 split at h
 ·rename_i ds r hi
  split at h
  ·rename_i z cz
   split at h
   ·rename_i m
    cases h
    have S : PE X (.Subscript (.Name x npos) (.Constant (.int 0) j ipos) spos) (tOp (rIxL X.K) (tVar i) (tC (.int 0))) := z4d q8t hv z1u (by intro _ _; rfl)
    have C := λ t (hA : PE X e t) => q5O (pos := pos) (z2K PySem.F.plainAttrs_list PySem.F.slot_list_append PySem.F.type_list_append q3C S (q1n hA q3E (q0h hs)) rfl (by rw [q0h hs]; rfl) hline (q0h hs) rfl) rfl
    exact (C _ (he _ rfl)).weak λ Dn σ H ⟨H0, O, W, R, fr, fo, sm, k⟩ => by
     obtain ⟨⟨p, L, e0, e1, e2, e3⟩, u, n⟩ := R.o2 i _ hi
     cases L with
     | nil => cases e0
     | cons q L =>
      obtain ⟨a, ns⟩ := q
      have e0' : DV.lst (.lst ds :: r) = .lst (.lst (ns.map DV.int) :: L.map λ q => .lst (q.2.map DV.int)) := e0
      cases e0'
      obtain ⟨p1, p2, p3, p4⟩ := e2
      have pa := p3 (a, ns) (List.mem_cons_self ..)
      have nd := List.nodup_cons.mp p4
      have nd2 := List.nodup_cons.mp nd.2
      refine ⟨.ref p, e1, p, _, 0, .ref a, rfl, rfl, SqL.of p2, z0D, .inl ⟨rfl, _, SqL.of pa.2⟩, O, W, R, λ v H1 s1 g => ?_⟩
      have R1 := R.mono s1
      have hv' := g.int (R.hid.mono s1)
      subst hv'
      rw [List.length_map] at m
      refine ⟨a, _, .int z, rfl, rfl, s1 _ _ pa.2, by rw [List.length_map]; exact Nat.lt_of_lt_of_le m (by decide), ?_⟩
      have pne : p ≠ a := λ z => nd.1 (by rw [z]; exact List.mem_cons_self ..)
      have A : O2At (upd H1 a (.lst (ns.map V.int ++ [.int z]))) W p ((a, ns ++ [z]) :: L) := by
       refine ⟨p1, ?_, λ q hq => ?_, p4⟩
       ·rw [q0j pne]; exact s1 _ _ p2
       ·rcases List.mem_cons.mp hq with w | w
        ·subst w
         exact ⟨pa.1, by rw [q0A, List.map_append]; rfl⟩
        ·refine ⟨(p3 q (List.mem_cons_of_mem _ w)).1, ?_⟩
         rw [q0j λ y => nd2.1 (by rw [← y]; exact List.mem_map.mpr ⟨q, w, rfl⟩)]
         exact s1 _ _ (p3 q (List.mem_cons_of_mem _ w)).2
      have R4 := R1.turnO2 (L := (a, ns) :: L) e1 e3 u n pa.1 (List.mem_cons_of_mem _ (List.mem_cons_self ..)) A (λ j d' b z w hb => e3 j d' b z w (List.mem_cons_of_mem _ hb))
      have e5 : o2D ((a, ns ++ [z]) :: L) = .lst (.lst (ns.map DV.int ++ [.int z]) :: L.map λ q => .lst (q.2.map DV.int)) := by
       show DV.lst (.lst ((ns ++ [z]).map DV.int) :: _) = _
       rw [List.map_append]; rfl
      rw [e5] at R4
      exact k σ _ W R4 fr (q2p (sm.trans s1) (fr a pa.1))
   ·cases h
  ·cases h
 ·cases h
theorem z0h {apos cpos npos : Pos} (hv : PE X (.Name x npos) (tVar i)) (he : ∀ q, ra = some q -> PE X e (dE X.D E δ q)) (hs : q0l e = false) (hline : (apos.endLine == cpos.line) = true)
  (h : (match δ[i]? with
   | some (.o2 (.lst ds)) => (match (generalizing := false) ra with
    | some (.ok d c) => if newI d c /\ ds.length < mostLen then some (Out.nx (δ.set i (.o2 (.lst (ds ++ [d]))))) else none
    | _ => none)
   | _ => none) = some o) : PS X (.Expr (.Call (.Attribute (.Name x npos) "append" apos) [e] [] cpos) pos) (dS X.D E δ o) := by
 split at h
 ·rename_i ds hi
  split at h
  ·rename_i d cl
   split at h
   ·rename_i m
    cases h
    obtain ⟨ns, rfl, rfl⟩ := z1O m.1
    have C := λ t (hA : PE X e t) => q5O (pos := pos) (z2K PySem.F.plainAttrs_list PySem.F.slot_list_append PySem.F.type_list_append q3C hv (q1n hA q3E (q0h hs)) rfl (by rw [q0h hs]; rfl) hline (q0h hs) rfl) rfl
    exact (C _ (he _ rfl)).weak λ Dn σ H ⟨H0, O, W, R, fr, fo, sm, k⟩ => by
     obtain ⟨⟨p, L, e0, e1, e2, e3⟩, u, n⟩ := R.o2 i _ hi
     have hds : ds = L.map λ q => .lst (q.2.map DV.int) := by unfold o2D at e0; cases e0; rfl
     subst hds
     refine ⟨.ref p, e1, .inl ⟨rfl, _, SqL.of e2.2.1⟩, O, W, R, λ v H1 s1 g => ?_⟩
     obtain ⟨q, rfl, g3, g4⟩ := gotI g
     have hqp : q ∉ p :: L.map (·.1) := λ z => by
      obtain ⟨_, xs, w⟩ := e2.dom z
      rw [g3] at w; cases w
     have R2 := R.grow s1 [q] λ a ha => by rw [List.mem_singleton] at ha; subst ha; exact ⟨g3, _, g4⟩
     have E2 := e2.mono s1
     refine ⟨p, _, .ref q, rfl, rfl, E2.2.1, by have := m.2; rw [List.length_map] at this ⊢; exact Nat.lt_of_lt_of_le this (by decide), ?_⟩
     have nd := List.nodup_cons.mp E2.2.2.2
     have qp : q ≠ p := λ z => hqp (by rw [z]; exact List.mem_cons_self ..)
     have A : O2At (upd H1 p (.lst ((L.map λ q => V.ref q.1) ++ [.ref q]))) ([q] ++ W) p (L ++ [(q, ns)]) := by
      refine ⟨List.mem_append_right _ E2.1, ?_, λ q' hq' => ?_, ?_⟩
      ·rw [q0A, List.map_append]; rfl
      ·rcases List.mem_append.mp hq' with w | w
       ·refine ⟨List.mem_append_right _ (E2.2.2.1 q' w).1, ?_⟩
        rw [q0j λ z => nd.1 (by rw [← z]; exact List.mem_map.mpr ⟨q', w, rfl⟩)]
        exact (E2.2.2.1 q' w).2
       ·rw [List.mem_singleton] at w
        subst w
        refine ⟨List.mem_append_left _ (List.mem_singleton.mpr rfl), ?_⟩
        rw [q0j qp]
        exact g4
      ·rw [List.map_append]
       refine List.nodup_cons.mpr ⟨λ z => ?_, ?_⟩
       ·rcases List.mem_append.mp z with w | w
        ·exact nd.1 w
        ·have w2 : p = q := by simpa using w
         exact qp w2.symm
       ·rw [List.nodup_append]
        refine ⟨nd.2, by simp, λ b hb b' hb' z => ?_⟩
        have : b' = q := by simpa using hb'
        subst this
        exact hqp (List.mem_cons_of_mem _ (by rw [← z]; exact hb))
     have R4 := R2.turnO2 (L := L) e1 e3 u n (List.mem_append_right _ E2.1) (List.mem_cons_self ..) A (λ j d' b z w hb => by
      rw [List.map_append] at hb
      rcases List.mem_append.mp hb with y | y
      ·exact e3 j d' b z w (List.mem_cons_of_mem _ y)
      ·exact z1d R g3 z w (by simpa using y))
     have e5 : o2D (L ++ [(q, ns)]) = .lst ((L.map λ q => .lst (q.2.map DV.int)) ++ [.lst (ns.map DV.int)]) := by unfold o2D; rw [List.map_append]; rfl
     rw [e5] at R4
     exact k σ _ _ R4 (λ a ha => by
      rcases List.mem_append.mp ha with z | z
      ·rw [List.mem_singleton] at z; subst z; exact sm.free g3
      ·exact fr a z) (q2p (sm.trans s1) (fr p e2.1))
   ·cases h
  ·cases h
 ·cases h
theorem z0d {iter elt tgE : Expr} {N' : List Str} {scope : Scope} {fr : List (Option Nat)} {tg : Tg} {xs : List DV} (S : CompScope X.N N' scope X.env.scope fr) (hc : X.calm = true)
  (P : q4f X δ tgE iter elt scope N' fr tg xs) (hG : ∀ C cells s₂ H₂ fp, PG (q0m X scope N' C cells s₂ H₂ fp) tgE (gT X.K tg)) (hset : q3d iter = false) {cpos : Pos} :
  PS X (.Return (some (.ListComp elt [⟨tgE, iter, [], 0⟩] scope cpos)) pos) (dS X.D E δ (.rtt (.lst xs))) := by
 obtain ⟨wi, tc, te, h1, h2, h3, h4⟩ := P
 have A : PE X (.ListComp elt [⟨tgE, iter, [], 0⟩] scope cpos) (dF X.D δ xs) := (q8Z (pos := cpos) S hc h1 hG h2 h3 (q3G hset)).weak h4
 exact (q6P A).weak λ Dn σ H ⟨H0, O, W, R, fr, fo, sm, k⟩ => ⟨O, W, R, λ v H1 s1 g => (k : dEnd X.D E H0 O Dn (.rtt (.lst xs))) v H1 (sm.trans s1) (.inr ⟨xs, rfl, g.since λ a ha => sm.free ha⟩)⟩
theorem q8g {F : Nat -> List DV -> Option Ou} {f n : Nat} {ex : Expr} {l : List (DV × Cl)} {xs : List DV} (hn : ∀ ds o, F f ds = some o -> ds.length = n)
  (C : PE X ex (λ σ H Q => dA X.D E δ (.ok l) σ H λ vs H1 => spF X.D n (F f) vs H1 Q (E σ))) (z : (l.all λ p => p.2 == .strong || p.2 == .fresh) = true) (e1 : F f (l.map (·.1)) = some (.t (.lst xs))) : PE X ex (dF X.D δ xs) :=
 C.weak λ σ H Q ⟨O, W, R, p⟩ => ⟨O, W, R, λ vs H1 s1 g1 => by
  have hd := R.hid.mono s1
  refine ⟨O ++ W, _, _, λ a ha q => hd.ot a ha (s1.free q), hn _ _ e1, g1.strong hd z, e1, λ v H' s g => p v H' (s1.trans s) ?_⟩
  rcases g with ⟨t, ts, q, xs, ds, es, f1, f2, _⟩ | ⟨xs, f1, f2⟩
  ·cases f2
  ·cases f1
   exact f2.since λ a ha => s1.free ha⟩
theorem z0T {xs : List DV} {pos' : Pos} (hN : X.N.Nodup) (hi : X.N[i]? = some x) (hx : Loc X.env.scope x) (hf : X.fn x = true \/ X.env.scope.names.lookup x = some .local) (A : PE X e (dF X.D δ xs)) (hc : swapsWith e (some (.Name x pos')) pos.line X.env = pure false) (hno : noOt i δ = true) :
  PS X (.Assign [.Name x pos'] e pos) (dS X.D E δ (.nx (δ.set i (.o2 (.lst xs))))) :=
 (q8J hN hi hx A hc hf).weak λ Dn σ H ⟨H0, O, W, R, fr, fo, sm, k⟩ => ⟨O, W, R, z1x hno R fr sm k⟩
end
end L2
end
section
namespace L2
open PySem PySem.Spec PyProof.Rows
section
variable {X : Cx} {CX : CXT} {k : Nat} {f : Addr} {fd : FuncData} {ps ks : List Str} {sp : Sp} {E : St -> XK} {x : Str} {p pos : Pos} {e : Expr} {es : List Expr} {kws : List Keyword} {t tk : TA} {g : List Value -> List Value -> List Value} {gV : List V -> List V -> List V}
theorem z0a {pins : List (Addr × Obj)} {σ : St} {H : Hp} {s : Shared} {Q : VK} {us ws : List Value} {vs zs : List V} (F : FnOk X.prog X.w X.K X.mg X.base CX k f fd ps sp) (hr : Room k X.A) (hb : KBinds X.K fd ps ks g gV) (hx : q1M CX X E)
  (I : Inv X pins σ H s) (r : Vals vs us) (rz : Vals zs ws) (h : sp (gV vs zs) H Q (E σ)) : wpAny (model X.prog X.w) X.A (call (.ref f) us (ks.zip ws)) (EP X pins σ Q) X.xe s := by
 have r2 := hb.rel r rz
 have hl : (g us ws).length = ps.length := by rw [← r2.length]; exact F.len _ _ _ _ h
 refine wpAny_call (codeAny_mono (F.run X.A X.stack s H ⟨us, ks.zip ws⟩ (g us ws) (gV vs zs) Q (E σ) hr I.env0 (hb.to s us ws I.kIn hl) r2 h) λ r s' hq => ?_)
 cases r with
 | error e => exact hx pins σ H s e s' I hq
 | ok fl =>
  cases fl with
  | ret u => exact I.after hq
  | next => exact False.elim hq
  | brk => exact False.elim hq
  | cont => exact False.elim hq
theorem q8R (F : FnOk X.prog X.w X.K X.mg X.base CX k f fd ps sp) (hr : Room k X.A) (hg : Gl X x) (hm : X.mg x = some (.ref f)) (hk : PySem.W.keepIn X.K (.ref f) = true) (hb : KBinds X.K fd ps ks g gV) (hx : q1M CX X E)
  (ha : PA X (e :: es) t) (hkw : PK X kws tk) (hall : (backToKw pos (keywordEach kws X.env)).all (·.1.isSome) = true) (hks : (backToKw pos (keywordEach kws X.env)).filterMap (·.1) = ks)
  (hdb : (x == ("__debug__" : Str)) = false) (he : starEach (e :: es) X.env = (false, eval e X.env) :: starEach es X.env)
  (hpl : ((backTo pos (starEach (e :: es) X.env)).any (·.1) || (backToKw pos (keywordEach kws X.env)).any (·.1.isNone)) = false) :
  PE X (.Call (.Name x p) (e :: es) kws pos) (λ σ H Q => t σ H λ vs H1 => tk σ H1 λ zs H2 => sp (gV vs zs) H2 Q (E σ)) := by
 intro pins s σ H Q I h
 refine wpAny_Call_Name_kw (q7P I hg hm ?_ hdb)
 refine PySem.W.callWith_KW (h₀ := X.base) I.ok.mod.kin hk hall (thn (ha pos pins s σ H _ I h) λ us s1 ⟨vs, H1, I1, r, q⟩ => ?_) hpl he
 refine thn (hkw pos pins s1 σ H1 _ I1 q) λ ws s2 ⟨zs, H2, I2, rz, q2⟩ => ⟨I2.kIn, ?_⟩
 rw [hks]
 exact z0a F hr hb hx I2 r rz q2
end
section
variable {X : Cx} {E : St -> XK} {δ : List Sv} {re : Re} {rs : Option Rs}
theorem q5j {F : Nat -> List DV -> Option Ou} {f n : Nat} {ex : Expr} (hn : ∀ ds o, F f ds = some o -> ds.length = n)
  (C : ∀ q, rs = some q -> PE X ex (λ σ H Q => dA X.D E δ q σ H λ vs H1 => spF X.D n (F f) vs H1 Q (E σ))) (h : (Rs.thn rs λ l => q1f F f l) = some re) : PE X ex (dE X.D E δ re) := by
 cases hrs : rs with
 | none => rw [hrs] at h; cases h
 | some q =>
  rw [hrs] at h
  have A := C q hrs
  cases q with
  | ex c => cases h; exact A.weak λ σ H Q ⟨O, W, R, p⟩ => ⟨O, W, R, p⟩
  | ok l =>
   have h' : q1f F f l = some re := h
   unfold q1f at h'
   split at h'
   ·cases h'
   ·rename_i c e1
    cases h'
    refine A.weak λ σ H Q ⟨O, W, R, p⟩ => ⟨O, W, R, λ vs H1 s1 g1 => ?_⟩
    have hd := R.hid.mono s1
    exact ⟨O, _, _, λ a ha q => hd.ot a (List.mem_append_left _ ha) (s1.free q), hn _ _ e1, g1.repL hd, e1, λ H' C m s => p H' C m (s1.trans s)⟩
   ·rename_i d e1
    cases h'
    refine A.weak λ σ H Q ⟨O, W, R, p⟩ => ⟨O, W, R, λ vs H1 s1 g1 => ?_⟩
    have hd := R.hid.mono s1
    by_cases z : (l.all λ p => p.2 == .strong || p.2 == .fresh) = true
    ·rw [if_pos z] at p
     refine ⟨O ++ W, _, _, λ a ha q => hd.ot a ha (s1.free q), hn _ _ e1, g1.strong hd z, e1, λ v H' s g => p v H' (s1.trans s) ?_⟩
     rcases g with ⟨t, ts, q, xs, ds, es, f1, f2, f0, f3, f4, f5, f6⟩ | ⟨xs, f1, f2⟩
     ·subst f2
      exact ⟨t, ts, q, xs, ds, es, f1, rfl, f0, s1.free f3, f4, f5, f6⟩
     ·subst f1
      exact (f2.since λ a ha => s1.free ha).fresh hd
    ·rw [if_neg z] at p
     refine ⟨O, _, _, λ a ha q => hd.ot a (List.mem_append_left _ ha) (s1.free q), hn _ _ e1, g1.repL hd, e1, λ v H' s g => p v H' (s1.trans s) ?_⟩
     rcases g with ⟨t, ts, q, xs, ds, es, f1, f2, f0, f3, f4, f5, f6⟩ | ⟨xs, f1, f2⟩
     ·have hq : q ∉ O := λ z => hd.ot q (List.mem_append_left _ z) (s1.free f3)
      have up : Same (L2.wo (q :: O) H') (L2.wo O H') := q0x λ b hb => List.mem_cons_of_mem _ hb
      rw [f2]
      exact q0F.mpr ⟨t, _, f1, f0, q0f.mpr ⟨_, _, rfl, q0q.mpr ⟨q, xs, rfl, by rw [q0n hq]; exact f4, f5.mono up⟩, f6.mono up⟩⟩
     ·subst f1
      have hO : ∀ a ∈ O, H1 a ≠ none := λ a ha q => hd.ot a (List.mem_append_left _ ha) (s1.free q)
      obtain ⟨q, vs, g1', g2', g3', g4'⟩ := f2.items (D := X.D) hO
      have hq : q ∉ O := λ z => hO q z g2'
      exact q0q.mpr ⟨q, vs, g1', by rw [q0n hq]; exact g3', g4'.mono (q0x λ b hb => List.mem_cons_of_mem _ hb)⟩
   ·rename_i d fr e1
    cases h'
    refine A.weak λ σ H Q ⟨O, W, R, p⟩ => ⟨O, W, R, λ vs H1 s1 g1 => ?_⟩
    have hd := R.hid.mono s1
    by_cases z : (l.all λ p => p.2 == .strong || p.2 == .fresh) = true
    ·rw [if_pos z] at p
     refine ⟨O ++ W, _, _, λ a ha q => hd.ot a ha (s1.free q), hn _ _ e1, g1.strong hd z, e1, λ v H' s g => p v H' (s1.trans s) ?_⟩
     cases fr with
     | false => exact g
     | true =>
      obtain ⟨q, xs, ds, e1, e2, e3, e4, e5⟩ := g
      exact ⟨q, xs, ds, e1, e2, s1.free e3, e4, e5⟩
    ·rw [if_neg z] at p
     refine ⟨O, _, _, λ a ha q => hd.ot a (List.mem_append_left _ ha) (s1.free q), hn _ _ e1, g1.repL hd, e1, λ v H' s g => p v H' (s1.trans s) ?_⟩
     cases fr with
     | false => exact g
     | true =>
      obtain ⟨q, xs, ds, e1, e2, e3, e4, e5⟩ := g
      have hq : q ∉ O := λ z => hd.ot q (List.mem_append_left _ z) (s1.free e3)
      rw [e2]
      exact q0q.mpr ⟨q, xs, e1, by rw [q0n hq]; exact e4, e5.mono (q0x λ b hb => List.mem_cons_of_mem _ hb)⟩
end
theorem GotL.app {D : Dm} {O W : List Addr} {H0 H : Hp} {l l' : List (DV × Cl)} {vs zs : List V} (h : GotL D O W H0 H l vs) (h' : GotL D O W H0 H l' zs) : GotL D O W H0 H (l ++ l') (vs ++ zs) := by
 induction h with
 | nil => exact h'
 | cons a _ ih => exact .cons a ih
theorem GotL.goOn {D : Dm} {O W : List Addr} {H0 H H' : Hp} {l : List (DV × Cl)} {vs : List V} (h : GotL D O W H0 H l vs) (e : Same H H') : GotL D O W H0 H' l vs := by
 induction h with
 | nil => exact .nil
 | cons a _ ih => exact .cons (a.mono e) ih
theorem GotL.strongs {D : Dm} {O W : List Addr} {H0 H : Hp} : ∀ {ds : List DV} {vs : List V}, RepL D (L2.wo (O ++ W) H) ds vs -> GotL D O W H0 H (ds.map λ d => (d, Cl.strong)) vs
 | [], vs, r => by rw [q0s.mp r]; exact .nil
 | d :: ds, vs, r => by
  obtain ⟨v, ws, e1, e2, e3⟩ := q0f.mp r
  rw [e1]
  exact .cons e2 (GotL.strongs e3)
section
variable {X : Cx} {E : St -> XK} {δ : List Sv} {e : Expr} {es : List Expr} {pos p : Pos} {re : Re} {rs rs' : Option Rs} {k : Nat} {fa : Addr} {fd : FuncData} {ps : List Str} {x : Str}
theorem q8E {F : Nat -> List DV -> Option Ou} {f : Nat} {ds : List DV} {us : List Value} {dvs : List V} (fo : FnOk X.prog X.w X.K X.mg X.base (CXx X.prog X.w X.base) k fa fd ps (spF X.D ps.length (F f))) (hn : ∀ ds o, F f ds = some o -> ds.length = ps.length)
  (hr : Room k X.A) (hg : Gl X x) (hm : X.mg x = some (.ref fa)) (hk : PySem.W.keepIn X.K (.ref fa) = true) (hb : q3l X.K fd ps us) (hv : Vals dvs us) (hrep : ∀ H, RepL X.D H ds dvs) (hx : q1M (CXx X.prog X.w X.base) X E)
  (ha : ∀ q, rs = some q -> PA X (e :: es) (dA X.D E δ q)) (hdb : (x == ("__debug__" : Str)) = false) (hs : q0l e = false) (hss : es.any q0l = false)
  (h : (Rs.thn rs λ l => q1f F f (l ++ ds.map λ d => (d, Cl.strong))) = some re) : PE X (.Call (.Name x p) (e :: es) [] pos) (dE X.D E δ re) := by
 have C := λ t (hA : PA X (e :: es) t) => q4H (p := p) (pos := pos) fo hr hg hm hk hb hv hx hA hdb (q0h hs) (q1c es hss)
 cases hrs : rs with
 | none => rw [hrs] at h; cases h
 | some q =>
  rw [hrs] at h
  cases q with
  | ex c => cases h; exact (C _ (ha _ hrs)).weak λ σ H Q ⟨O, W, R, p⟩ => ⟨O, W, R, p⟩
  | ok l =>
   refine q5j (rs := some (.ok (l ++ ds.map λ d => (d, Cl.strong)))) (n := ps.length) hn (λ q hq => ?_) h
   cases hq
   exact (C _ (ha _ hrs)).weak λ σ H Q ⟨O, W, R, p⟩ => ⟨O, W, R, λ vs H1 s1 g1 => p _ H1 s1 (g1.app (GotL.strongs (hrep _)))⟩
noncomputable def q2u {α : Type} (n : Nat) (us ws : List α) : List α := if us.length + 1 = n /\ ws.length = 1 then us ++ ws else []
theorem q8s {n : Nat} {vs zs : List V} {us ws : List Value} (r : Vals vs us) (q : Vals zs ws) : Vals (q2u n vs zs) (q2u n us ws) := by
 unfold q2u
 rw [r.length, q.length]
 split
 ·exact r.append q
 ·exact .nil
theorem q7E {F : Nat -> List DV -> Option Ou} {f : Nat} {l : List (DV × Cl)} (h : q1f F f l = some re) : ∃ o, F f (l.map (·.1)) = some o := by
 unfold q1f at h
 split at h
 ·cases h
 ·exact ⟨_, by assumption⟩
 ·exact ⟨_, by assumption⟩
 ·exact ⟨_, by assumption⟩
theorem q8A {F : Nat -> List DV -> Option Ou} {f : Nat} {n : Str} {v : Expr} {kp : Pos} {ra : Option Re} (fo : FnOk X.prog X.w X.K X.mg X.base (CXx X.prog X.w X.base) k fa fd ps (spF X.D ps.length (F f))) (hn : ∀ ds o, F f ds = some o -> ds.length = ps.length)
  (hr : Room k X.A) (hg : Gl X x) (hm : X.mg x = some (.ref fa)) (hk : PySem.W.keepIn X.K (.ref fa) = true) (hb : KBinds X.K fd ps [n] (q2u ps.length) (q2u ps.length)) (hx : q1M (CXx X.prog X.w X.base) X E)
  (ha : ∀ q, rs = some q -> PA X (e :: es) (dA X.D E δ q)) (hv : ∀ q, ra = some q -> PE X v (dE X.D E δ q)) (hdb : (x == ("__debug__" : Str)) = false) (hs : q0l e = false) (hss : es.any q0l = false)
  (h : (Rs.thn rs λ l => Re.thn ra λ d c => q1f F f (l ++ [(d, c)])) = some re) : PE X (.Call (.Name x p) (e :: es) [⟨some n, v, kp⟩] pos) (dE X.D E δ re) := by
 have hpl : ((backTo pos (starEach (e :: es) X.env)).any (·.1) || (backToKw pos (keywordEach [⟨some n, v, kp⟩] X.env)).any (·.1.isNone)) = false := by
  rw [q1c (e :: es) (by rw [List.any_cons, hs, hss]; rfl)]; rfl
 have C := λ t tk (hA : PA X (e :: es) t) (hK : PE X v tk) => q8R (p := p) (pos := pos) (kws := [⟨some n, v, kp⟩]) fo hr hg hm hk hb hx hA (z3k (nm := some n) (kpos := kp) hK z4o) rfl rfl hdb (q0h hs) hpl
 cases hrs : rs with
 | none => rw [hrs] at h; cases h
 | some q =>
  rw [hrs] at h
  cases q with
  | ex c =>
   cases h
   exact (C _ (λ _ _ _ => False) (ha _ hrs) (λ _ _ _ _ _ _ z => z.elim)).weak λ σ H Q ⟨O, W, R, p⟩ => ⟨O, W, R, p⟩
  | ok l =>
   have h1 : (Re.thn ra λ d c => q1f F f (l ++ [(d, c)])) = some re := h
   cases hra : ra with
   | none => rw [hra] at h1; cases h1
   | some q =>
    rw [hra] at h1
    cases q with
    | ex c =>
     cases h1
     exact (C _ _ (ha _ hrs) (hv _ hra)).weak λ σ H Q ⟨O, W, R, p⟩ => ⟨O, W, R, λ vs H1 s1 g1 => ⟨O, W, R.mono s1, λ H' C m s => p H' C m (s1.trans s)⟩⟩
    | ok d c =>
     refine q5j (rs := some (.ok (l ++ [(d, c)]))) (n := ps.length) hn (λ q hq => ?_) h1
     cases hq
     obtain ⟨o, ho⟩ := q7E (show q1f F f (l ++ [(d, c)]) = some re from h1)
     have hlen := hn _ _ ho
     rw [List.length_map, List.length_append, List.length_singleton] at hlen
     exact (C _ _ (ha _ hrs) (hv _ hra)).weak λ σ H Q ⟨O, W, R, p⟩ => ⟨O, W, R, λ vs H1 s1 g1 => ⟨O, W, R.mono s1, λ z H2 s2 g2 => by
      have e : q2u ps.length vs [z] = vs ++ [z] := if_pos ⟨by rw [g1.length]; exact hlen, rfl⟩
      show spF X.D ps.length (F f) (q2u ps.length vs [z]) H2 Q (E σ)
      rw [e]
      exact p _ H2 (s1.trans s2) ((g1.goOn s2).app (.cons (g2.since s1) .nil))⟩⟩
end
end L2
end
section
namespace L2
open PySem PySem.Spec PyProof.Rows
noncomputable def z3T (K : PySem.W.Frag) (C : Addr) : Prop := ∃ B newId initId bmB, ExcBaseFacts B newId initId bmB /\ PySem.W.excIn K C bmB newId = true
structure XOne (K : PySem.W.Frag) (mg : Str -> Option Value) (G : Gs) (cl : List Str) (c : Str) (C : Addr) : Prop where
 mc : mg c = some (.ref C)
 ck : ClsK K C
 rk : z3T K C
 own : ∀ t ∈ cl, ∀ Ct, mg t = some (.ref Ct) -> PySem.W.kitOne K (.ref C) (.ref Ct) = some (q2I G c t) /\ (q2I G c t = true -> PySem.W.exmOne K (.ref C) (.ref Ct) = some true)
 blt : PySem.W.kitOne K (.ref C) (.type "ValueError") = some (q2I G c "ValueError")
structure XFacts (K : PySem.W.Frag) (mg : Str -> Option Value) (G : Gs) (cl : List Str) : Prop where
 one : ∀ c, (G.cls.lookup c).isSome = true -> ∃ C, XOne K mg G cl c C
 all : ∀ t ∈ cl, ∃ Ct, mg t = some (.ref Ct)
section
variable {X : Cx} {E : St -> XK} {δ : List Sv} {e : Expr} {pos p p' : Pos} {re : Re} {ra : Option Re} {G : Gs} {cl : List Str} {t : Str} {o : Out}
end
end L2
end
section
namespace L2
open PySem PySem.Spec PyProof.Rows
noncomputable def q8C (K : PySem.W.Frag) (w : World) (mg : Str -> Option Value) (x : Str) (kvs : List (Str × Str)) : Prop :=
 ∃ a es n, mg x = some (.ref a) /\ K.lookup a = some ⟨.type "dict", none, .dict es n, #[]⟩ /\ PySem.W.KeysLit w.params es.toList /\ ∀ k v, kvs.lookup k = some v -> v.length <= sizeLine /\ ∃ t, PySem.W.nsIn K a k = some (some (.str v t))
noncomputable def DK (K : PySem.W.Frag) (D : Dm) (G : Gs) (f : Nat) (fd : FuncData) (ps : List Str) : Prop :=
 (∀ ds, G.dfl.lookup f = some ds -> ∃ us dvs, q3l K fd ps us /\ Vals dvs us /\ ∀ H, RepL D H ds dvs) /\ ∀ n, G.kws.lookup f = some n -> KBinds K fd ps [n] (q2u ps.length) (q2u ps.length)
structure Good (sg : Sg) (G : Gs) (F : Nat -> List DV -> Option Ou) (X : Cx) (E : St -> XK) : Prop where
 N : X.N = sg.N
 nd : X.N.Nodup
 vis : ∀ x, visB sg x = true -> Vis X.env.scope x
 glo : ∀ x, gloB sg x = true -> Gl X x
 loc : ∀ x, locB sg x = true -> Loc X.env.scope x /\ (X.fn x = true \/ X.env.scope.names.lookup x = some .local)
 lcl : ∀ x, sg.sc.lookup x = some .local -> X.env.scope.names.lookup x = some .local
 cel : ∀ x, (sg.sc.lookup x = some .cell \/ sg.sc.lookup x = some .free) -> X.env.scope.names.lookup x = some .cell \/ X.env.scope.names.lookup x = some .free
 calm : X.calm = true
 hu : X.A.units + 64 < cLine
 fns : ∀ f x, sg.fn[f]? = some x -> ∃ k fa fd ps, Room k X.A /\ X.mg x = some (.ref fa) /\ PySem.W.keepIn X.K (.ref fa) = true /\ q3l X.K fd ps [] /\ (∀ ds o, F f ds = some o -> ds.length = ps.length) /\
  FnOk X.prog X.w X.K X.mg X.base (CXx X.prog X.w X.base) k fa fd ps (spF X.D ps.length (F f)) /\ DK X.K X.D G f fd ps
 blt : ∀ x ∈ sg.bl, X.mg x = none
 pas : q1M (CXx X.prog X.w X.base) X E
 con : ∀ x d, G.con.lookup x = some d -> ∃ u v, X.mg x = some u /\ RelV v u /\ ∀ H, Rep X.D H d v
 own : sg.lp = true -> PassesOwn (model X.prog X.w) X.A X.env X.xe
 xf : XFacts X.K X.mg G sg.cl
 st : sg.top = true -> X.stack = X.env :: X.outer /\ X.env.frame = some X.env.locals /\ X.ex = [] /\ q6R X E
 dcs : ∀ x kvs, G.dcs.lookup x = some kvs -> q8C X.K X.w X.mg x kvs
theorem q2h : ∀ {l : List Str}, q4p l = true -> l.Nodup
 | [], _ => List.nodup_nil
 | x :: r, h => by
  unfold q4p at h
  rw [Bool.and_eq_true] at h
  refine List.nodup_cons.mpr ⟨λ z => ?_, q2h h.2⟩
  have := h.1
  rw [List.contains_iff_mem.mpr z] at this
  cases this
section
variable {sg : Sg} {G : Gs} {F : Nat -> List DV -> Option Ou} {X : Cx} {E : St -> XK} {tg : Tg} {sc : Scope} {N' : List Str} {fr : List (Option Nat)}
theorem q1b (g : Good sg G F X E) (h : q2H sg N' fr sc tg = true) : CompScope X.N N' sc X.env.scope fr /\ (∀ (j k i : Nat), fr[j]? = some (some i) -> fr[k]? = some (some i) -> j = k) /\ ∀ i ∈ q1L tg, fr[i]? = some none := by
 unfold q2H at h
 simp only [Bool.and_eq_true, List.all_eq_true, beq_iff_eq] at h
 obtain ⟨⟨⟨⟨⟨⟨h0, h1⟩, h2⟩, h3⟩, h4⟩, h5⟩, h6⟩ := h
 have h5' : ∀ (j i : Nat), fr[j]? = some (some i) -> ∃ x, N'[j]? = some x /\ sg.N[i]? = some x /\ (x, NameKind.free) ∈ sc.names := λ j i e => by
  have hj : j < fr.length := (List.getElem?_eq_some_iff.mp e).1
  have hj' : j < N'.length := by rw [← h4]; exact hj
  have hz : (some i, N'[j]) ∈ fr.zip N' := by
   refine List.mem_of_getElem? (i := j) ?_
   rw [List.getElem?_zip_eq_some]
   exact ⟨e, List.getElem?_eq_getElem hj'⟩
  have q := h5 _ hz
  simp only [Bool.and_eq_true, beq_iff_eq, List.contains_iff_mem] at q
  exact ⟨_, List.getElem?_eq_getElem hj', q.1, q.2⟩
 refine ⟨⟨h1, q2h h2, q2h h3, h4, λ j i e => ?_, λ y hy hk => ?_⟩, λ j k i e1 e2 => ?_, h0⟩
 ·obtain ⟨x, a, b, c⟩ := h5' j i e
  exact ⟨x, a, by rw [g.N]; exact b, c⟩
 ·have q := h6 y hy
  rw [if_pos hk] at q
  simp only [Bool.or_eq_true, beq_iff_eq] at q
  exact g.cel _ q
 ·obtain ⟨x, a, b, _⟩ := h5' j i e1
  obtain ⟨x', a', b', _⟩ := h5' k i e2
  rw [b] at b'; cases b'
  exact q4Y (q2h h2) a a'
theorem q0X (g : Good sg G F X E) (h : q2H sg N' fr sc tg = true) (C : Addr) (cells : List (Str × Addr)) (s₂ : Shared) (H₂ : Hp) (fp : List Addr) : Good ⟨N', sc.names, sg.fn, sg.bl, sg.cl, false, true⟩ G F (q0m X sc N' C cells s₂ H₂ fp) E0s := by
 obtain ⟨S, _, _⟩ := q1b g h
 have look : ∀ x, (q0m X sc N' C cells s₂ H₂ fp).env.scope.names.lookup x = (sc.names.lookup x).map λ k => if (k == NameKind.free && X.env.scope.kind == .function && X.env.kindOf x == some .cell) = true then NameKind.cell else k := λ x => q1x
 have one : ∀ x k, sc.names.lookup x = some k -> k ≠ .free -> (q0m X sc N' C cells s₂ H₂ fp).env.scope.names.lookup x = some k := λ x k e hk => by
  rw [look, e, Option.map_some, if_neg]
  intro z
  simp only [Bool.and_eq_true, beq_iff_eq] at z
  exact hk z.1.1
 have two : ∀ x, sc.names.lookup x = some .free -> (q0m X sc N' C cells s₂ H₂ fp).env.scope.names.lookup x = some .cell \/ (q0m X sc N' C cells s₂ H₂ fp).env.scope.names.lookup x = some .free := λ x e => by
  rw [look, e, Option.map_some]
  split
  ·exact .inl rfl
  ·exact .inr rfl
 refine ⟨rfl, S.nd, λ x hx => ?_, λ x hx => ?_, λ x hx => ?_, λ x hx => one x _ hx (by intro z; cases z), λ x hx => ?_, g.calm, g.hu, g.fns, g.blt, ?_, g.con, λ _ => .never, g.xf, (λ z => nomatch z), g.dcs⟩
 ·unfold visB at hx
  simp only [Bool.or_eq_true, beq_iff_eq] at hx
  rcases hx with (hx | hx) | hx
  ·exact .inl (one x _ hx (by intro z; cases z))
  ·exact .inr (.inl (one x _ hx (by intro z; cases z)))
  ·exact .inr (two x hx)
 ·unfold gloB at hx
  rw [beq_iff_eq] at hx
  exact one x _ hx (by intro z; cases z)
 ·unfold locB at hx
  simp only [Bool.or_eq_true, beq_iff_eq] at hx
  rcases hx with hx | hx
  ·exact ⟨.inl (one x _ hx (by intro z; cases z)), .inr (one x _ hx (by intro z; cases z))⟩
  ·exact ⟨.inr (one x _ hx (by intro z; cases z)), .inl (by show (sc.names.lookup x == some .cell) = true; rw [hx]; rfl)⟩
 ·rcases hx with hx | hx
  ·exact .inl (one x _ hx (by intro z; cases z))
  ·exact two x hx
 ·intro pins σ H s e s' I z
  obtain ⟨_, _, _, _, _, _, _, _, _, _, q⟩ := z
  exact q.elim
theorem q3H (g : Good sg G F X E) {i : Nat} {x : Str} (h : q5P sg i x = true) : X.N[i]? = some x /\ Vis X.env.scope x /\ (x == ("__debug__" : Str)) = false /\ (x == ("__classdict__" : Str)) = false := by
 unfold q5P at h
 simp only [Bool.and_eq_true, beq_iff_eq, bne_iff_ne, ne_eq] at h
 obtain ⟨⟨⟨h1, h2⟩, h3⟩, h4⟩ := h
 exact ⟨by rw [g.N]; exact h1, g.vis x h2, beq_eq_false_iff_ne.mpr h3, beq_eq_false_iff_ne.mpr h4⟩
theorem q5N (g : Good sg G F X E) {x : Str} {f : Expr} (h : bltB sg x f = true) : (∃ p, f = .Name x p) /\ Gl X x /\ X.mg x = none := by
 unfold bltB at h
 simp only [Bool.and_eq_true, beq_iff_eq, List.contains_iff_mem] at h
 obtain ⟨⟨h1, h2⟩, h3⟩ := h
 exact ⟨q0u h1, g.glo x h2, g.blt x h3⟩
theorem q5e (g : Good sg G F X E) : ∀ (is : List Nat) (es : List Expr), es.length = is.length -> ((is.zip es).all λ p => match q0Y p.2 with | some x => sg.N[p.1]? == some x && locB sg x | none => false) = true ->
  PGs X es (q6A is) /\ (assignEach es X.env).length = is.length /\ (assignEach es X.env).findIdx? (·.1) = none
 | [], [], _, _ => ⟨z1F, rfl, rfl⟩
 | [], _ :: _, h, _ => by cases h
 | _ :: _, [], h, _ => by cases h
 | i :: is, e :: es, hl, h => by
  rw [List.zip_cons_cons, List.all_cons, Bool.and_eq_true] at h
  obtain ⟨h1, h2⟩ := h
  obtain ⟨A, B, C⟩ := q5e g is es (by simpa using hl) h2
  split at h1
  ·rename_i x q
   obtain ⟨p, rfl⟩ := q0u q
   simp only [Bool.and_eq_true, beq_iff_eq] at h1
   have l := g.loc x h1.2
   refine ⟨q9U (q8O g.nd (by rw [g.N]; exact h1.1) l.1 l.2) A rfl, ?_, ?_⟩
   ·show (assignEach es X.env).length + 1 = is.length + 1
    rw [B]
   ·show ((false, assign (.Name x p) X.env) :: assignEach es X.env).findIdx? (·.1) = none
    rw [List.findIdx?_cons, C]; rfl
  ·cases h1
theorem q7j (g : Good sg G F X E) {tgE : Expr} (h : tgOk sg tg tgE = true) : PG X tgE (gT X.K tg) := by
 cases tg with
 | one i =>
  unfold tgOk at h
  dsimp only at h
  split at h
  ·rename_i x q
   obtain ⟨p, rfl⟩ := q0u q
   simp only [Bool.and_eq_true, beq_iff_eq] at h
   have l := g.loc x h.2
   exact q8O g.nd (by rw [g.N]; exact h.1) l.1 l.2
  ·cases h
 | many is =>
  unfold tgOk at h
  dsimp only at h
  split at h
  ·rename_i es q
   obtain ⟨k, p, rfl⟩ := q3s q
   rw [Bool.and_eq_true, Bool.and_eq_true, beq_iff_eq] at h
   obtain ⟨A, B, C⟩ := q5e g is es h.1.1 h.2
   exact z4i g.calm A B C
  ·cases h
end
section
variable (G : Gs) (F : Nat -> List DV -> Option Ou)
noncomputable def SE (m : ME) : Prop := ∀ {sg : Sg} {X : Cx} {E : St -> XK} {e : Expr} {δ : List Sv} {r : Re}, Good sg G F X E -> corE sg false m e = true -> evE G F m δ = some r -> PE X e (dE X.D E δ r)
noncomputable def ST (m : ME) : Prop := ∀ {sg : Sg} {X : Cx} {E : St -> XK} {e : Expr} {δ : List Sv} {r : Rt}, Good sg G F X E -> corE sg false m e = true -> tstD (evE G F m δ) = some r -> PT X e (dT X.D E δ r)
noncomputable def SI (m : ME) : Prop := ∀ {sg : Sg} {X : Cx} {E : St -> XK} {e tg : Expr} {δ : List Sv} {r : Ri}, Good sg G F X E -> corE sg true m e = true -> (isZp m = true -> (q3k tg).isSome = true) -> q0K (evE G F m δ) = some r -> PI X tg e (dI X.D E δ r)
noncomputable def SEs (ms : List ME) : Prop := ∀ {sg : Sg} {X : Cx} {E : St -> XK} {es : List Expr} {δ : List Sv} {r : Rs}, Good sg G F X E -> q0P sg ms es = true -> evEs G F ms δ = some r -> PA X es (dA X.D E δ r)
noncomputable def SAnd (ms : List ME) : Prop := ∀ {sg : Sg} {X : Cx} {E : St -> XK} {es : List Expr} {δ : List Sv} {pos : Pos}, Good sg G F X E -> q0P sg ms es = true ->
 (∀ r, q3Z G F ms δ = some r -> PE X (.BoolOp .And es pos) (dE X.D E δ r)) /\ (∀ r, tstD (q3Z G F ms δ) = some r -> PW X (.BoolOp .And es pos) (dT X.D E δ r))
noncomputable def SOr (ms : List ME) : Prop := ∀ {sg : Sg} {X : Cx} {E : St -> XK} {es : List Expr} {δ : List Sv} {pos : Pos}, Good sg G F X E -> q0P sg ms es = true ->
 (∀ r, evOr G F ms δ = some r -> PE X (.BoolOp .Or es pos) (dE X.D E δ r)) /\ (∀ r, tstD (evOr G F ms δ) = some r -> PW X (.BoolOp .Or es pos) (dT X.D E δ r))
noncomputable def S1 (m : ME) : Prop := SE G F m /\ ST G F m /\ SI G F m
end
section
variable {G : Gs} {F : Nat -> List DV -> Option Ou}
theorem S1.of {m : ME} (h : SE G F m) (hw : ∀ sg e, corE sg true m e = corE sg false m e) (ht : ∀ sg e env, corE sg false m e = true -> ∀ whole, isTrue e env whole = (do let v ← whole; standAt e.pos; holding [v] (truthy v))) : S1 G F m :=
 ⟨h, λ {sg X E e δ r} g hc q => q8d (λ z hz => h g hc hz) (ht sg e X.env hc) q, λ {sg X E e tg δ r} g hc _ q => q6N (λ z hz => h g (by rw [← hw]; exact hc) hz) q⟩
theorem S1.of2 {m : ME} (h : SE G F m) (ht : ST G F m) (hw : ∀ sg e, corE sg true m e = corE sg false m e) : S1 G F m :=
 ⟨h, ht, λ {sg X E e tg δ r} g hc _ q => q6N (λ z hz => h g (by rw [← hw]; exact hc) hz) q⟩
end
end L2
end
section
namespace L2
open PySem PySem.Spec PyProof.Rows
noncomputable def z4j : Expr -> Bool
 | .UnaryOp .Not _ _ => false | .BoolOp _ _ _ => false | .IfExp _ _ _ _ => false | .Compare _ _ _ _ => false
 | _ => true
theorem q0e {e : Expr} (h : z4j e = true) (env : Env) : ∀ whole, isTrue e env whole = (do let v ← whole; standAt e.pos; holding [v] (truthy v)) := by
 cases e with
 | UnaryOp o a p => cases o <;> first | (intro _; rfl) | cases h
 | BoolOp _ _ _ => cases h
 | IfExp _ _ _ _ => cases h
 | Compare _ _ _ _ => cases h
 | _ => intro _; rfl
section
variable {G : Gs} {F : Nat -> List DV -> Option Ou} {a b c : ME}
theorem z5Z {i : Nat} : S1 G F (.var i) := by
 refine .of (λ {sg X E e δ r} g hc h => ?_) (λ _ _ => rfl) (λ sg e env hc => ?_)
 ·unfold corE at hc
  split at hc
  ·rename_i x q
   obtain ⟨p, rfl⟩ := q0u q
   obtain ⟨h1, h2, h3, h4⟩ := q3H g hc
   exact z2x h1 h2 h3 h4 (by unfold evE at h; exact h)
  ·cases hc
 ·unfold corE at hc
  split at hc
  ·rename_i x q
   obtain ⟨p, rfl⟩ := q0u q
   exact q0e rfl env
  ·cases hc
theorem q5b {m : ME} {k : Const} {d : DV} (hm : ∀ sg w e, corE sg w m e = true -> q2f e = some k) (he : ∀ δ, evE G F m δ = some (.ok d .strong)) (hw : ∀ sg e, corE sg true m e = corE sg false m e)
  (hp : ∀ {X : Cx} {E : St -> XK} {δ : List Sv} {j : Nat} {pos : Pos} sg e, corE sg false m e = true -> PE X (.Constant k j pos) (dE X.D E δ (.ok d .strong))) : S1 G F m := by
 refine .of (λ {sg X E e δ r} g hc h => ?_) hw (λ sg e env hc => ?_)
 ·obtain ⟨j, p, rfl⟩ := q3c (hm sg false e hc)
  rw [he] at h; cases h
  exact hp sg _ hc
 ·obtain ⟨j, p, rfl⟩ := q3c (hm sg false e hc)
  exact q0e rfl env
theorem z5Q {i : Int} : S1 G F (.int i) := q5b (λ sg w e h => by unfold corE at h; exact beq_iff_eq.mp h) (λ δ => by unfold evE; rfl) (λ _ _ => rfl) λ _ _ _ => z2I
theorem s_bl {i : Bool} : S1 G F (.bl i) := q5b (λ sg w e h => by unfold corE at h; exact beq_iff_eq.mp h) (λ δ => by unfold evE; rfl) (λ _ _ => rfl) λ _ _ _ => z5p
theorem z5R : S1 G F .non := q5b (λ sg w e h => by unfold corE at h; exact beq_iff_eq.mp h) (λ δ => by unfold evE; rfl) (λ _ _ => rfl) λ _ _ _ => z3e
theorem z5K {i : Str} : S1 G F (.str i) := q5b (λ sg w e h => by unfold corE at h; rw [Bool.and_eq_true] at h; exact beq_iff_eq.mp h.1) (λ δ => by unfold evE; rfl) (λ _ _ => rfl) λ _ _ h => by
 unfold corE at h
 rw [Bool.and_eq_true, decide_eq_true_eq] at h
 exact z3s (Nat.le_trans h.2 (by decide))
theorem z6i {op : Operator} (ha : S1 G F a) (hb : S1 G F b) : S1 G F (.bin op a b) := by
 refine .of (λ {sg X E e δ r} g hc h => ?_) (λ _ _ => rfl) (λ sg e env hc => ?_)
 ·unfold corE at hc
  split at hc
  ·rename_i ea o eb q
   obtain ⟨p, rfl⟩ := q4C q
   simp only [Bool.and_eq_true, beq_iff_eq] at hc
   obtain ⟨⟨h1, h2⟩, h3⟩ := hc
   subst h1
   unfold evE at h
   exact z1I (λ z hz => ha.1 g h2 hz) (λ z hz => hb.1 g h3 hz) h
  ·cases hc
 ·unfold corE at hc
  split at hc
  ·rename_i q; obtain ⟨p, rfl⟩ := q4C q; exact q0e rfl env
  ·cases hc
theorem z5z (ha : S1 G F a) : S1 G F (.neg a) := by
 refine .of (λ {sg X E e δ r} g hc h => ?_) (λ _ _ => rfl) (λ sg e env hc => ?_)
 ·unfold corE at hc
  split at hc
  ·rename_i o ea q
   obtain ⟨p, rfl⟩ := q4v q
   simp only [Bool.and_eq_true, beq_iff_eq] at hc
   obtain ⟨h1, h2⟩ := hc
   subst h1
   unfold evE at h
   exact z3j (λ z hz => ha.1 g h2 hz) h
  ·cases hc
 ·unfold corE at hc
  split at hc
  ·rename_i q; obtain ⟨p, rfl⟩ := q4v q
   simp only [Bool.and_eq_true, beq_iff_eq] at hc
   obtain ⟨h1, h2⟩ := hc
   subst h1
   exact q0e rfl env
  ·cases hc
theorem z5A (ha : S1 G F a) : S1 G F (.not a) := by
 refine .of2 (λ {sg X E e δ r} g hc h => ?_) (λ {sg X E e δ r} g hc h => ?_) (λ _ _ => rfl)
 ·unfold corE at hc
  split at hc
  ·rename_i o ea q
   obtain ⟨p, rfl⟩ := q4v q
   simp only [Bool.and_eq_true, beq_iff_eq] at hc
   obtain ⟨h1, h2⟩ := hc
   subst h1
   unfold evE at h
   exact z1R (λ z hz => ha.1 g h2 hz) h
  ·cases hc
 ·unfold corE at hc
  split at hc
  ·rename_i o ea q
   obtain ⟨p, rfl⟩ := q4v q
   simp only [Bool.and_eq_true, beq_iff_eq] at hc
   obtain ⟨h1, h2⟩ := hc
   subst h1
   unfold evE at h
   exact q9O (λ z hz => ha.2.1 g h2 hz) h
  ·cases hc
theorem z6g {op : CmpOp} (ha : S1 G F a) (hb : S1 G F b) : S1 G F (.cmp op a b) := by
 refine .of2 (λ {sg X E e δ r} g hc h => ?_) (λ {sg X E e δ r} g hc h => ?_) (λ _ _ => rfl)
 ·unfold corE at hc
  split at hc
  ·rename_i ea o eb q
   obtain ⟨p, rfl⟩ := q6V q
   simp only [Bool.and_eq_true, beq_iff_eq, Bool.not_eq_true'] at hc
   obtain ⟨⟨⟨h1, h2⟩, h3⟩, h4⟩ := hc
   subst h1
   unfold evE at h
   exact z1Q g.hu (λ z hz => ha.1 g h2 hz) (λ z hz => hb.1 g h3 hz) h4 h
  ·cases hc
 ·unfold corE at hc
  split at hc
  ·rename_i ea o eb q
   obtain ⟨p, rfl⟩ := q6V q
   simp only [Bool.and_eq_true, beq_iff_eq, Bool.not_eq_true'] at hc
   obtain ⟨⟨⟨h1, h2⟩, h3⟩, h4⟩ := hc
   subst h1
   unfold evE at h
   exact q9L g.hu (λ z hz => ha.1 g h2 hz) (λ z hz => hb.1 g h3 hz) h4 h
  ·cases hc
theorem z5Y (hcc : S1 G F c) (ha : S1 G F a) (hb : S1 G F b) : S1 G F (.ite c a b) := by
 refine .of2 (λ {sg X E e δ r} g hc h => ?_) (λ {sg X E e δ r} g hc h => ?_) (λ _ _ => rfl)
 ·unfold corE at hc
  split at hc
  ·rename_i ec ea eb q
   obtain ⟨p, rfl⟩ := q9f q
   simp only [Bool.and_eq_true] at hc
   obtain ⟨⟨h1, h2⟩, h3⟩ := hc
   unfold evE at h
   exact z2d (λ z hz => hcc.2.1 g h1 hz) (λ z hz => ha.1 g h2 hz) (λ z hz => hb.1 g h3 hz) h
  ·cases hc
 ·unfold corE at hc
  split at hc
  ·rename_i ec ea eb q
   obtain ⟨p, rfl⟩ := q9f q
   simp only [Bool.and_eq_true] at hc
   obtain ⟨⟨h1, h2⟩, h3⟩ := hc
   unfold evE at h
   exact z0U (λ z hz => hcc.2.1 g h1 hz) (λ z hz => ha.2.1 g h2 hz) (λ z hz => hb.2.1 g h3 hz) h
  ·cases hc
theorem s_ix (ha : S1 G F a) (hb : S1 G F b) : S1 G F (.ix a b) := by
 refine .of (λ {sg X E e δ r} g hc h => ?_) (λ _ _ => rfl) (λ sg e env hc => ?_)
 ·unfold corE at hc
  split at hc
  ·rename_i ea eb q
   obtain ⟨p, rfl⟩ := q2n q
   simp only [Bool.and_eq_true, Bool.not_eq_true'] at hc
   obtain ⟨⟨h1, h2⟩, h3⟩ := hc
   unfold evE at h
   exact z3O (λ z hz => ha.1 g h1 hz) (λ z hz => hb.1 g h2 hz) h3 h
  ·cases hc
 ·unfold corE at hc
  split at hc
  ·rename_i q; obtain ⟨p, rfl⟩ := q2n q; exact q0e rfl env
  ·cases hc
theorem s_sl (ha : S1 G F a) (hb : S1 G F b) (hcc : S1 G F c) : S1 G F (.sl a b c) := by
 refine .of (λ {sg X E e δ r} g hc h => ?_) (λ _ _ => rfl) (λ sg e env hc => ?_)
 ·unfold corE at hc
  split at hc
  ·rename_i ea es q
   obtain ⟨p, rfl⟩ := q2n q
   split at hc
   ·rename_i q2
    obtain ⟨p2, rfl⟩ := q7B q2
    simp only [Bool.and_eq_true] at hc
    obtain ⟨⟨h1, h2⟩, h3⟩ := hc
    unfold evE at h
    exact z3V (λ z hz => ha.1 g h1 hz) (λ z hz => hb.1 g h2 hz) (λ z hz => hcc.1 g h3 hz) h
   ·cases hc
  ·cases hc
 ·unfold corE at hc
  split at hc
  ·rename_i q; obtain ⟨p, rfl⟩ := q2n q; exact q0e rfl env
  ·cases hc
variable {ms : List ME}
theorem q2a : ∀ {sg : Sg} {ms : List ME} {es : List Expr}, q0P sg ms es = true -> es.any q0l = false
 | _, [], [], _ => rfl
 | _, [], _ :: _, h => by unfold q0P at h; cases h
 | _, _ :: _, [], h => by unfold q0P at h; cases h
 | sg, m :: ms, e :: es, h => by
  unfold q0P at h
  simp only [Bool.and_eq_true, Bool.not_eq_true'] at h
  rw [List.any_cons, h.1.2, q2a h.2]; rfl
theorem z6q (ha : SEs G F ms) : S1 G F (.lst ms) := by
 refine .of (λ {sg X E e δ r} g hc h => ?_) (λ _ _ => rfl) (λ sg e env hc => ?_)
 ·unfold corE at hc
  split at hc
  ·rename_i es q
   obtain ⟨p, rfl⟩ := q5o q
   unfold evE at h
   exact z3o (λ z hz => ha g hc hz) h
  ·cases hc
 ·unfold corE at hc
  split at hc
  ·rename_i q; obtain ⟨p, rfl⟩ := q5o q; exact q0e rfl env
  ·cases hc
theorem z6w (ha : SEs G F ms) : S1 G F (.tup ms) := by
 refine .of (λ {sg X E e δ r} g hc h => ?_) (λ _ _ => rfl) (λ sg e env hc => ?_)
 ·unfold corE at hc
  split at hc
  ·rename_i es q
   obtain ⟨k, p, rfl⟩ := q3s q
   unfold evE at h
   exact z1S (λ z hz => ha g hc hz) h
  ·cases hc
 ·unfold corE at hc
  split at hc
  ·rename_i q; obtain ⟨k, p, rfl⟩ := q3s q; exact q0e rfl env
  ·cases hc
theorem z4F {f : Nat} (ha : SEs G F ms) : S1 G F (.call f ms) := by
 refine .of (λ {sg X E e δ r} g hc h => ?_) (λ _ _ => rfl) (λ sg e env hc => ?_)
 ·unfold corE at hc
  split at hc
  ·rename_i ef es pos q
   have := q0k q
   subst this
   rw [Bool.and_eq_true, Bool.and_eq_true] at hc
   obtain ⟨⟨h1, h2⟩, h3⟩ := hc
   split at h1
   ·rename_i x qx
    obtain ⟨p, rfl⟩ := q0u qx
    simp only [Bool.and_eq_true, beq_iff_eq, bne_iff_ne, ne_eq] at h1
    obtain ⟨k, fa, fd, ps, hr, hm, hk, hb, hl, fo, dk⟩ := g.fns f x h1.1.1
    cases es with
    | nil => cases h2
    | cons y ys =>
     have ns := q2a h3
     rw [List.any_cons, Bool.or_eq_false_iff] at ns
     unfold evE at h
     exact q9Q fo hl hr (g.glo x h1.1.2) hm hk hb g.pas (λ z hz => ha g h3 hz) (beq_eq_false_iff_ne.mpr h1.2) ns.1 ns.2 h
   ·cases h1
  ·cases hc
 ·unfold corE at hc
  split at hc
  ·rename_i q; have := q0k q; subst this; exact q0e rfl env
  ·cases hc
theorem z2F {f : Nat} (ha : SEs G F ms) : S1 G F (.calld f ms) := by
 refine .of (λ {sg X E e δ r} g hc h => ?_) (λ _ _ => rfl) (λ sg e env hc => ?_)
 ·unfold corE at hc
  split at hc
  ·rename_i ef es pos q
   have := q0k q
   subst this
   rw [Bool.and_eq_true, Bool.and_eq_true] at hc
   obtain ⟨⟨h1, h2⟩, h3⟩ := hc
   split at h1
   ·rename_i x qx
    obtain ⟨p, rfl⟩ := q0u qx
    simp only [Bool.and_eq_true, beq_iff_eq, bne_iff_ne, ne_eq] at h1
    obtain ⟨k, fa, fd, ps, hr, hm, hk, hb, hl, fo, dk⟩ := g.fns f x h1.1.1
    cases es with
    | nil => cases h2
    | cons y ys =>
     have ns := q2a h3
     rw [List.any_cons, Bool.or_eq_false_iff] at ns
     unfold evE at h
     split at h
     ·cases h
     ·rename_i ds qd
      obtain ⟨us, dvs, b1, b2, b3⟩ := dk.1 ds qd
      exact q8E fo hl hr (g.glo x h1.1.2) hm hk b1 b2 b3 g.pas (λ z hz => ha g h3 hz) (beq_eq_false_iff_ne.mpr h1.2) ns.1 ns.2 h
   ·cases h1
  ·cases hc
 ·unfold corE at hc
  split at hc
  ·rename_i q; have := q0k q; subst this; exact q0e rfl env
  ·cases hc
theorem z1X {f : Nat} {kn : Str} {ke : ME} (ha : SEs G F ms) (hk : S1 G F ke) : S1 G F (.callk f ms kn ke) := by
 refine .of (λ {sg X E e δ r} g hc h => ?_) (λ _ _ => rfl) (λ sg e env hc => ?_)
 ·unfold corE at hc
  split at hc
  ·rename_i ef es a v kp pos q
   have := q0k q
   subst this
   simp only [Bool.and_eq_true, beq_iff_eq] at hc
   obtain ⟨⟨⟨⟨h1, h2⟩, h3⟩, h4⟩, h5⟩ := hc
   subst h4
   split at h1
   ·rename_i x qx
    obtain ⟨p, rfl⟩ := q0u qx
    simp only [Bool.and_eq_true, beq_iff_eq, bne_iff_ne, ne_eq] at h1
    obtain ⟨k, fa, fd, ps, hr, hm, hkp, hb, hl, fo, dk⟩ := g.fns f x h1.1.1
    cases es with
    | nil => cases h2
    | cons y ys =>
     have ns := q2a h3
     rw [List.any_cons, Bool.or_eq_false_iff] at ns
     unfold evE at h
     split at h
     ·rename_i qk
      exact q8A fo hl hr (g.glo x h1.1.2) hm hkp (dk.2 kn qk) g.pas (λ z hz => ha g h3 hz) (λ z hz => hk.1 g h5 hz) (beq_eq_false_iff_ne.mpr h1.2) ns.1 ns.2 h
     ·cases h
   ·cases h1
  ·cases hc
 ·unfold corE at hc
  split at hc
  ·rename_i q; have := q0k q; subst this; exact q0e rfl env
  ·cases hc
theorem s_bi {f : Bi} (ha : SEs G F ms) : S1 G F (.bi f ms) := by
 refine .of (λ {sg X E e δ r} g hc h => ?_) (λ _ _ => rfl) (λ sg e env hc => ?_)
 ·unfold corE at hc
  split at hc
  ·rename_i ef es pos q
   have := q0k q
   subst this
   rw [Bool.and_eq_true, Bool.and_eq_true] at hc
   obtain ⟨⟨h1, h2⟩, h3⟩ := hc
   obtain ⟨⟨p, rfl⟩, hg, hm⟩ := q5N g h1
   unfold evE at h
   cases es with
   | nil => cases h2
   | cons y ys =>
    have go : q0P sg ms (y :: ys) = true -> (∀ q, evEs G F ms δ = some q -> PA X (y :: ys) (dA X.D E δ q)) /\ q0l y = false /\ ys.any q0l = false := λ z => by
     have ns := q2a z
     rw [List.any_cons, Bool.or_eq_false_iff] at ns
     exact ⟨λ w hw => ha g z hw, ns.1, ns.2⟩
    cases f with
    | len => obtain ⟨A, s1, s2⟩ := go h3; exact q7Y z5r z1L hg hm boot_len (by decide) (by decide) A s1 s2 h
    | min => obtain ⟨A, s1, s2⟩ := go h3; exact q7Y (z4E g.calm) z2e hg hm boot_min (by decide) (by decide) A s1 s2 h
    | max => obtain ⟨A, s1, s2⟩ := go h3; exact q7Y (z4X g.calm) z1A hg hm boot_max (by decide) (by decide) A s1 s2 h
    | list => obtain ⟨A, s1, s2⟩ := go h3; exact q8a z2B z0f hg hm boot_list (by decide) (by decide) A s1 s2 h
    | tuple => obtain ⟨A, s1, s2⟩ := go h3; exact q8a z0q q9B hg hm boot_tuple (by decide) (by decide) A s1 s2 h
    | sset =>
     dsimp only at h3
     split at h3
     ·rename_i e1 q2
      split at h3
      ·rename_i ef' es' pos' q3
       have q4 := q0k q3
       cases q2
       subst q4
       rw [Bool.and_eq_true, Bool.and_eq_true] at h3
       obtain ⟨⟨p', rfl⟩, hg', hm'⟩ := q5N g h3.1.1
       cases es' with
       | nil => cases h3.1.2
       | cons y' ys' =>
        have ns := q2a h3.2
        rw [List.any_cons, Bool.or_eq_false_iff] at ns
        cases ys' with
        | nil => exact q9T g.calm hg hm hg' hm' (λ w hw => ha g h3.2 hw) ns.1 h
        | cons y2 yr =>
         have z := beq_iff_eq.mp h3.1.2
         simp at z
      ·cases h3
     ·cases h3
  ·cases hc
 ·unfold corE at hc
  split at hc
  ·rename_i q; have := q0k q; subst this; exact q0e rfl env
  ·cases hc
theorem q9d {x : Str} (h : q1Z.contains x = true) : ∃ t, q4n x = some t := by
 have key : ∀ x ∈ q1Z, ∃ t, q4n x = some t := by
  intro x hx
  simp only [q1Z, List.mem_cons, List.not_mem_nil, or_false] at hx
  rcases hx with rfl | rfl | rfl | rfl | rfl | rfl
  ·exact ⟨"int", by decide +kernel⟩
  ·exact ⟨"bool", by decide +kernel⟩
  ·exact ⟨"str", by decide +kernel⟩
  ·exact ⟨"list", by decide +kernel⟩
  ·exact ⟨"tuple", by decide +kernel⟩
  ·exact ⟨"dict", by decide +kernel⟩
 exact key x (List.contains_iff_mem.mp h)
theorem q4q : ∀ x ∈ q1Z, x ≠ "__name__" /\ (x == ("__debug__" : Str)) = false := by
 intro x hx
 simp only [q1Z, List.mem_cons, List.not_mem_nil, or_false] at hx
 rcases hx with rfl | rfl | rfl | rfl | rfl | rfl <;> exact ⟨by decide +kernel, by decide +kernel⟩
noncomputable def z5T : V -> List V -> Hp -> VK -> Prop := λ x xs H Q => ∃ i, x = .int i /\ xs = [] /\ Q (.int (q3V i)) H
theorem z2q (i : Int) : ((Builtin.Int.intBits i : Nat) : Int) = q3V i := by
 unfold Builtin.Int.intBits q3V
 by_cases h : i = 0
 ·subst h; rfl
 ·rw [if_neg (by simpa using h), if_neg h]; push_cast; rfl
theorem z2z {X : Cx} : MtR X "int.bit_length" z5T := by
 intro pins s σ H x xs v us Q I rx rv h
 obtain ⟨i, rfl, rfl, q⟩ := h
 obtain ⟨t, rfl⟩ := (show ∃ t, v = Value.int i t from rx)
 cases rv
 exact PyProof.Rows.call_int_bit_length ⟨.int (q3V i), H, I.tok _, by rw [← z2q]; exact ⟨_, rfl⟩, q⟩
theorem z3M {m : Mt} {es : List ME} (ha : S1 G F a) : S1 G F (.meth m a es) := by
 refine .of (λ {sg X E e δ r} g hc h => ?_) (λ _ _ => rfl) (λ sg e env hc => ?_)
 ·unfold corE at hc
  split at hc
  ·rename_i ef pos q
   have := q0k q
   subst this
   split at hc
   ·rename_i ea n apos q2
    have := q2j q2
    subst this
    simp only [Bool.and_eq_true, beq_iff_eq] at hc
    obtain ⟨⟨⟨⟨h1, h2⟩, h3⟩, h4⟩, h5⟩ := hc
    subst h1
    have hbs : attributeBase ea (z1r m) X.env (eval ea X.env) = eval ea X.env := by
     rw [Bool.or_eq_true] at h3
     rcases h3 with h3 | h3
     ·obtain ⟨y, hy⟩ := Option.isSome_iff_exists.mp h3
      obtain ⟨np, rfl⟩ := q0u hy
      rfl
     ·obtain ⟨⟨a1, o1, b1⟩, hy⟩ := Option.isSome_iff_exists.mp h3
      obtain ⟨np, rfl⟩ := q4C hy
      rfl
    unfold evE at h
    cases m with
    | bitLength =>
     rw [if_pos rfl] at h
     have P := λ t (hA : PE X ea t) => z4u (apos := apos) (cpos := pos) PySem.F.plainAttrs_int PySem.F.slot_int_bit_length PySem.F.type_int_bit_length z2z hA hbs (by rw [beq_iff_eq]; exact h4)
     cases hra : evE G F a δ with
     | none => rw [hra] at h; cases h
     | some q =>
      rw [hra] at h
      have A := ha.1 g h2 hra
      cases q with
      | ex c => cases h; exact (P _ A).weak λ σ H Q ⟨O, W, R, p⟩ => ⟨O, W, R, p⟩
      | ok d dc =>
       have h' : mtD .bitLength d = some r := h
       unfold mtD at h'
       split at h'
       ·rename_i i _
        cases h'
        exact (P _ A).weak λ σ H Q ⟨O, W, R, p⟩ => ⟨O, W, R, λ v H1 s1 g1 => by
         have hv := g1.int (R.hid.mono s1)
         subst hv
         exact ⟨rfl, i, rfl, rfl, p _ H1 s1 q0G⟩⟩
       ·cases h'
    | index => rw [if_neg (by decide)] at h; cases h
    | get => rw [if_neg (by decide)] at h; cases h
   ·cases hc
  ·cases hc
 ·unfold corE at hc
  split at hc
  ·rename_i q
   have := q0k q
   subst this
   exact q0e rfl env
  ·cases hc
theorem z5J (ha : S1 G F a) (hb : S1 G F b) : S1 G F (.idx a b) := by
 refine .of (λ {sg X E e δ r} g hc h => ?_) (λ _ _ => rfl) (λ sg e env hc => ?_)
 ·unfold corE at hc
  split at hc
  ·rename_i ef eb pos q
   have := q0k q
   subst this
   split at hc
   ·rename_i ea n apos q2
    have := q2j q2
    subst this
    simp only [Bool.and_eq_true, beq_iff_eq, Bool.not_eq_true'] at hc
    obtain ⟨⟨⟨⟨⟨h1, h2⟩, h3⟩, h4⟩, h5⟩, h6⟩ := hc
    subst h1
    obtain ⟨y, hy⟩ := Option.isSome_iff_exists.mp h3
    obtain ⟨np, rfl⟩ := q0u hy
    unfold evE at h
    exact z1U g.hu (λ z hz => ha.1 g h2 hz) (λ z hz => hb.1 g h5 hz) rfl (by rw [beq_iff_eq]; exact h4) (q0h h6) h
   ·cases hc
  ·cases hc
 ·unfold corE at hc
  split at hc
  ·rename_i q
   have := q0k q
   subst this
   exact q0e rfl env
  ·cases hc
theorem z5F {ts : List Str} (ha : S1 G F a) : S1 G F (.isi a ts) := by
 refine .of (λ {sg X E e δ r} g hc h => ?_) (λ _ _ => rfl) (λ sg e env hc => ?_)
 ·unfold corE at hc
  split at hc
  ·rename_i ef ea et pos q
   have := q0k q
   subst this
   simp only [Bool.and_eq_true, Bool.not_eq_true'] at hc
   obtain ⟨⟨⟨⟨h1, h2⟩, h3⟩, h4⟩, h5⟩ := hc
   obtain ⟨⟨p, rfl⟩, hg, hm⟩ := q5N g h1
   split at h5
   ·rename_i t
    simp only [Bool.and_eq_true, beq_iff_eq, List.contains_iff_mem] at h5
    obtain ⟨⟨⟨k1, k2⟩, k3⟩, k4⟩ := h5
    obtain ⟨p', rfl⟩ := q0u k1
    obtain ⟨T, hT⟩ := q9d (List.contains_iff_mem.mpr k4)
    obtain ⟨n1, n2⟩ := q4q t k4
    unfold evE at h
    exact z1C hT hg hm (g.glo t k2) (g.blt t k3) n1 n2 (λ z hz => ha.1 g h2 hz) h3 h
   ·cases h5
  ·cases hc
 ·unfold corE at hc
  split at hc
  ·rename_i q; have := q0k q; subst this; exact q0e rfl env
  ·cases hc
theorem q1I : ∀ {ms : List ME} {δ : List Sv} {l : List (DV × Cl)}, evEs G F ms δ = some (.ok l) -> l.length = ms.length
 | [], _, _, h => by unfold evEs at h; cases h; rfl
 | m :: ms, δ, l, h => by
  unfold evEs at h
  split at h
  ·cases h
  ·cases h
  ·split at h
   ·cases h
   ·cases h
   ·rename_i l' q
    cases h
    rw [List.length_cons, List.length_cons, q1I q]
theorem q3j : ∀ {sg : Sg} {ms : List ME} {es : List Expr}, q0P sg ms es = true -> ms.length = es.length
 | _, [], [], _ => rfl
 | _, [], _ :: _, h => by unfold q0P at h; cases h
 | _, _ :: _, [], h => by unfold q0P at h; cases h
 | sg, m :: ms, e :: es, h => by
  unfold q0P at h
  simp only [Bool.and_eq_true] at h
  rw [List.length_cons, List.length_cons, q3j h.2]
theorem z5U (ha : SEs G F ms) : S1 G F (.rng ms) := by
 refine ⟨λ {sg X E e δ r} g hc h => ?_, λ {sg X E e δ r} g hc h => ?_, λ {sg X E e tg δ r} g hc _ h => ?_⟩
 ·unfold corE at hc; rw [Bool.false_and] at hc; cases hc
 ·unfold corE at hc; rw [Bool.false_and] at hc; cases hc
 ·unfold corE at hc
  rw [Bool.true_and] at hc
  split at hc
  ·rename_i ef es pos q
   have := q0k q
   subst this
   rw [Bool.and_eq_true, decide_eq_true_eq] at hc
   obtain ⟨hc, hle⟩ := hc
   rw [Bool.and_eq_true] at hc
   obtain ⟨⟨p, rfl⟩, hg, hm⟩ := q5N g hc.1
   have l1 := q3j hc.2
   have ns := q2a hc.2
   unfold evE at h
   cases es with
   | nil =>
    exfalso
    cases ms with
    | nil => unfold evEs at h; cases h
    | cons _ _ => cases l1
   | cons y ys =>
    rw [List.any_cons, Bool.or_eq_false_iff] at ns
    cases ys with
    | nil => exact q7q hg hm (λ z hz => ha g hc.2 hz) ns.1 h λ l hl => by rw [q1I hl, l1]; rfl
    | cons z zs =>
     cases zs with
     | nil =>
      have ns2 := ns.2
      rw [List.any_cons, Bool.or_eq_false_iff] at ns2
      exact q7D hg hm (λ z hz => ha g hc.2 hz) ns.1 ns2.1 h λ l hl => by rw [q1I hl, l1]; rfl
     | cons u us =>
      cases us with
      | nil =>
       have ns2 := ns.2
       rw [List.any_cons, Bool.or_eq_false_iff] at ns2
       have ns3 := ns2.2
       rw [List.any_cons, Bool.or_eq_false_iff] at ns3
       exact q7A hg hm (λ z hz => ha g hc.2 hz) ns.1 ns2.1 ns3.1 h λ l hl => by rw [q1I hl, l1]; rfl
      | cons _ _ => simp at hle
  ·cases hc
theorem s_zp (ha : S1 G F a) (hb : S1 G F b) : S1 G F (.zp a b) := by
 refine ⟨λ {sg X E e δ r} g hc h => ?_, λ {sg X E e δ r} g hc h => ?_, λ {sg X E e tg δ r} g hc ht h => ?_⟩
 ·unfold corE at hc; rw [Bool.false_and] at hc; cases hc
 ·unfold corE at hc; rw [Bool.false_and] at hc; cases hc
 ·unfold corE at hc
  rw [Bool.true_and] at hc
  split at hc
  ·rename_i ef ea eb pos q
   have := q0k q
   subst this
   simp only [Bool.and_eq_true, Bool.not_eq_true'] at hc
   obtain ⟨⟨⟨⟨h1, h2⟩, h3⟩, h4⟩, h5⟩ := hc
   obtain ⟨⟨p, rfl⟩, hg, hm⟩ := q5N g h1
   have t := ht rfl
   cases q2 : q3k tg with
   | none => rw [q2] at t; cases t
   | some elts =>
    obtain ⟨k, tp, rfl⟩ := q3s q2
    unfold evE at h
    exact z1M hg hm h4 h5 (λ z hz => ha.1 g h2 hz) (λ z hz => hb.1 g h3 hz) h
  ·cases hc
theorem z2E {sg : Sg} {X : Cx} {E : St -> XK} {e : Expr} {δ : List Sv} {r : Re} {tg : Tg} {fr : List (Option Nat)} {cp : CParts} {tn : List Str} (ha : S1 G F a) (hb : S1 G F b) (g : Good sg G F X E) (hemp : cp.ifs = [])
  (h2 : corE sg true b cp.it = true) (hz : isZp b = true -> (q3k cp.tg).isSome = true) (h4 : q2H sg (q1k sg tn fr) fr cp.sc tg = true) (h5 : tgOk ⟨q1k sg tn fr, cp.sc.names, sg.fn, sg.bl, sg.cl, false, true⟩ tg cp.tg = true) (h6 : corE ⟨q1k sg tn fr, cp.sc.names, sg.fn, sg.bl, sg.cl, false, true⟩ false a cp.elt = true)
  (h : evE G F (.comp a tg b fr) δ = some r) : q1e X E δ cp.tg cp.it cp.ifs cp.elt cp.sc (q1k sg tn fr) fr tg r := by
 obtain ⟨S, nd, sl⟩ := q1b g h4
 rw [hemp]
 unfold evE at h
 exact q3W S g.calm nd sl (λ z hz' => hb.2.2 g h2 hz hz') (λ C cells s₂ H₂ fp => q7j (q0X g h4 C cells s₂ H₂ fp) h5) (λ δ' r' hr C cells s₂ H₂ fp => ha.1 (q0X g h4 C cells s₂ H₂ fp) h6 hr) h
theorem z0I {sg : Sg} {X : Cx} {E : St -> XK} {e cd : Expr} {δ : List Sv} {r : Re} {tg : Tg} {fr : List (Option Nat)} {cp : CParts} {tn : List Str} (ha : S1 G F a) (hb : S1 G F b) (hcc : S1 G F c) (g : Good sg G F X E) (hemp : cp.ifs = [cd])
  (h2 : corE sg true b cp.it = true) (hz : isZp b = true -> (q3k cp.tg).isSome = true) (h4 : q2H sg (q1k sg tn fr) fr cp.sc tg = true) (h5 : tgOk ⟨q1k sg tn fr, cp.sc.names, sg.fn, sg.bl, sg.cl, false, true⟩ tg cp.tg = true) (h6 : corE ⟨q1k sg tn fr, cp.sc.names, sg.fn, sg.bl, sg.cl, false, true⟩ false a cp.elt = true)
  (h7 : corE ⟨q1k sg tn fr, cp.sc.names, sg.fn, sg.bl, sg.cl, false, true⟩ false c cd = true) (h : evE G F (.compi a tg b c fr) δ = some r) : q1e X E δ cp.tg cp.it cp.ifs cp.elt cp.sc (q1k sg tn fr) fr tg r := by
 obtain ⟨S, nd, sl⟩ := q1b g h4
 rw [hemp]
 unfold evE at h
 exact q3O S g.calm nd sl (λ z hz' => hb.2.2 g h2 hz hz') (λ C cells s₂ H₂ fp => q7j (q0X g h4 C cells s₂ H₂ fp) h5) (λ δ' r' hr C cells s₂ H₂ fp => ha.1 (q0X g h4 C cells s₂ H₂ fp) h6 hr)
  (λ δ' r' hr C cells s₂ H₂ fp => hcc.2.1 (q0X g h4 C cells s₂ H₂ fp) h7 hr) h
noncomputable def q3K (G : Gs) (F : Nat -> List DV -> Option Ou) (m : ME) : Prop := ∀ {sg : Sg} {X : Cx} {E : St -> XK} {e : Expr} {δ : List Sv} {r : Re}, Good sg G F X E -> corE sg false m e = true -> evE G F m δ = some r ->
 ∃ (cp : CParts) (N' : List Str) (fr : List (Option Nat)) (tg : Tg) (p : Pos), e = .ListComp cp.elt [⟨cp.tg, cp.it, cp.ifs, 0⟩] cp.sc p /\ CompScope X.N N' cp.sc X.env.scope fr /\ q1e X E δ cp.tg cp.it cp.ifs cp.elt cp.sc N' fr tg r /\
  (∀ C cells s₂ H₂ fp, PG (q0m X cp.sc N' C cells s₂ H₂ fp) cp.tg (gT X.K tg)) /\ q3d cp.it = false
theorem q3K.s1 {m : ME} (h : q3K G F m) (hw : ∀ sg e, corE sg true m e = corE sg false m e) (hl : ∀ sg e, corE sg false m e = true -> (q4c e).isSome = true) : S1 G F m := by
 refine .of (λ {sg X E e δ r} g hc q => ?_) hw (λ sg e env hc => ?_)
 ·obtain ⟨cp, N', fr, tg, p, rfl, S, P, hG, hs⟩ := h g hc q
  exact P.pe S g.calm hG hs
 ·have := hl sg e hc
  cases z : q4c e with
  | none => rw [z] at this; cases this
  | some cp => obtain ⟨p, rfl⟩ := q2P z; exact q0e rfl env
theorem z1s {tg : Tg} {fr : List (Option Nat)} (ha : S1 G F a) (hb : S1 G F b) : q3K G F (.comp a tg b fr) := by
 intro sg X E e δ r g hc h
 unfold corE at hc
 split at hc
 ·rename_i cp q
  obtain ⟨p, rfl⟩ := q2P q
  simp only [Bool.and_eq_true, Bool.not_eq_true', Bool.or_eq_true] at hc
  obtain ⟨⟨⟨h1, h2, h3⟩, h4⟩, h5⟩ := hc
  split at h5
  ·rename_i tn qt
   simp only [Bool.and_eq_true] at h5
   refine ⟨cp, _, fr, tg, p, rfl, (q1b g h5.1.1).1, z2E (e := .ListComp cp.elt [⟨cp.tg, cp.it, cp.ifs, 0⟩] cp.sc p) ha hb g (List.isEmpty_iff.mp h1) h2 (λ z => ?_) h5.1.1 h5.1.2 h5.2 h, λ C cells s₂ H₂ fp => q7j (q0X g h5.1.1 C cells s₂ H₂ fp) h5.1.2, h4⟩
   rcases h3 with w | w
   ·rw [z] at w; cases w
   ·exact w
  ·cases h5
 ·cases hc
theorem q8L {tg : Tg} {fr : List (Option Nat)} (ha : S1 G F a) (hb : S1 G F b) (hcc : S1 G F c) : q3K G F (.compi a tg b c fr) := by
 intro sg X E e δ r g hc h
 unfold corE at hc
 split at hc
 ·rename_i cp q
  obtain ⟨p, rfl⟩ := q2P q
  simp only [Bool.and_eq_true, Bool.not_eq_true', Bool.or_eq_true] at hc
  obtain ⟨⟨⟨h2, h3⟩, h4⟩, h5⟩ := hc
  split at h5
  ·rename_i tn ec qt qi
   simp only [Bool.and_eq_true] at h5
   refine ⟨cp, _, fr, tg, p, rfl, (q1b g h5.1.1.1).1, z0I (e := .ListComp cp.elt [⟨cp.tg, cp.it, cp.ifs, 0⟩] cp.sc p) ha hb hcc g qi h2 (λ z => ?_) h5.1.1.1 h5.1.1.2 h5.1.2 h5.2 h, λ C cells s₂ H₂ fp => q7j (q0X g h5.1.1.1 C cells s₂ H₂ fp) h5.1.1.2, h4⟩
   rcases h3 with w | w
   ·rw [z] at w; cases w
   ·exact w
  ·cases h5
 ·cases hc
theorem z5q {tg : Tg} {fr : List (Option Nat)} (ha : S1 G F a) (hb : S1 G F b) : S1 G F (.comp a tg b fr) := q3K.s1 (λ {sg X E e δ r} => z1s ha hb) (λ _ _ => rfl) λ sg e hc => by
 unfold corE at hc
 split at hc
 ·rename_i q; rw [q]; rfl
 ·cases hc
theorem z2X {tg : Tg} {fr : List (Option Nat)} (ha : S1 G F a) (hb : S1 G F b) (hcc : S1 G F c) : S1 G F (.compi a tg b c fr) := q3K.s1 (λ {sg X E e δ r} => q8L ha hb hcc) (λ _ _ => rfl) λ sg e hc => by
 unfold corE at hc
 split at hc
 ·rename_i q; rw [q]; rfl
 ·cases hc
theorem z6n : SEs G F [] := λ {sg X E es δ r} g hc h => by
 cases es with
 | nil => unfold evEs at h; cases h; exact z0s
 | cons _ _ => unfold q0P at hc; cases hc
theorem z3R (ha : S1 G F a) (hb : SEs G F ms) : SEs G F (a :: ms) := λ {sg X E es δ r} g hc h => by
 cases es with
 | nil => unfold q0P at hc; cases hc
 | cons e es =>
  unfold q0P at hc
  simp only [Bool.and_eq_true, Bool.not_eq_true'] at hc
  unfold evEs at h
  exact q8Y hc.1.2 (λ z hz => ha.1 g hc.1.1 hz) (λ z hz => hb g hc.2 hz) h
theorem z3f : SAnd G F [] := λ {sg X E es δ pos} g hc => ⟨λ r h => (by unfold q3Z at h; cases h), λ r h => (by unfold q3Z at h; cases h)⟩
theorem z4b : SOr G F [] := λ {sg X E es δ pos} g hc => ⟨λ r h => (by unfold evOr at h; cases h), λ r h => (by unfold evOr at h; cases h)⟩
theorem q9E (ha : S1 G F a) (hb : SAnd G F ms) : SAnd G F (a :: ms) := λ {sg X E es δ pos} g hc => by
 cases es with
 | nil => unfold q0P at hc; cases hc
 | cons e es =>
  unfold q0P at hc
  simp only [Bool.and_eq_true, Bool.not_eq_true'] at hc
  cases ms with
  | nil =>
   cases es with
   | nil =>
    refine ⟨λ r h => ?_, λ r h => ?_⟩
    ·unfold q3Z at h; exact z1v (ha.1 g hc.1.1 h)
    ·unfold q3Z at h; exact z2S (ha.2.1 g hc.1.1 h)
   | cons _ _ => have := hc.2; unfold q0P at this; cases this
  | cons m ms =>
   cases es with
   | nil => have := hc.2; unfold q0P at this; cases this
   | cons e' es =>
    have B := @hb sg X E (e' :: es) δ pos g hc.2
    refine ⟨λ r h => ?_, λ r h => ?_⟩
    ·unfold q3Z at h; exact z2T (λ z hz => ha.1 g hc.1.1 hz) (λ z hz => B.1 z hz) h
    ·unfold q3Z at h; exact z0S (λ z hz => ha.2.1 g hc.1.1 hz) (λ z hz => B.2 z hz) h
theorem z2n (ha : S1 G F a) (hb : SOr G F ms) : SOr G F (a :: ms) := λ {sg X E es δ pos} g hc => by
 cases es with
 | nil => unfold q0P at hc; cases hc
 | cons e es =>
  unfold q0P at hc
  simp only [Bool.and_eq_true, Bool.not_eq_true'] at hc
  cases ms with
  | nil =>
   cases es with
   | nil =>
    refine ⟨λ r h => ?_, λ r h => ?_⟩
    ·unfold evOr at h; exact z1v (ha.1 g hc.1.1 h)
    ·unfold evOr at h; exact z3L (ha.2.1 g hc.1.1 h)
   | cons _ _ => have := hc.2; unfold q0P at this; cases this
  | cons m ms =>
   cases es with
   | nil => have := hc.2; unfold q0P at this; cases this
   | cons e' es =>
    have B := @hb sg X E (e' :: es) δ pos g hc.2
    refine ⟨λ r h => ?_, λ r h => ?_⟩
    ·unfold evOr at h; exact z5h (λ z hz => ha.1 g hc.1.1 hz) (λ z hz => B.1 z hz) h
    ·unfold evOr at h; exact z2D (λ z hz => ha.2.1 g hc.1.1 hz) (λ z hz => B.2 z hz) h
theorem z6r (ha : SAnd G F ms) : S1 G F (.and ms) := by
 refine .of2 (λ {sg X E e δ r} g hc h => ?_) (λ {sg X E e δ r} g hc h => ?_) (λ _ _ => rfl)
 ·unfold corE at hc
  split at hc
  ·rename_i o es q
   obtain ⟨p, rfl⟩ := q2U q
   simp only [Bool.and_eq_true, beq_iff_eq] at hc
   obtain ⟨h1, h2⟩ := hc
   subst h1
   unfold evE at h
   exact (ha g h2).1 r h
  ·cases hc
 ·unfold corE at hc
  split at hc
  ·rename_i o es q
   obtain ⟨p, rfl⟩ := q2U q
   simp only [Bool.and_eq_true, beq_iff_eq] at hc
   obtain ⟨h1, h2⟩ := hc
   subst h1
   unfold evE at h
   exact ((ha g h2).2 r h).pt
  ·cases hc
theorem s_or (ha : SOr G F ms) : S1 G F (.or ms) := by
 refine .of2 (λ {sg X E e δ r} g hc h => ?_) (λ {sg X E e δ r} g hc h => ?_) (λ _ _ => rfl)
 ·unfold corE at hc
  split at hc
  ·rename_i o es q
   obtain ⟨p, rfl⟩ := q2U q
   simp only [Bool.and_eq_true, beq_iff_eq] at hc
   obtain ⟨h1, h2⟩ := hc
   subst h1
   unfold evE at h
   exact (ha g h2).1 r h
  ·cases hc
 ·unfold corE at hc
  split at hc
  ·rename_i o es q
   obtain ⟨p, rfl⟩ := q2U q
   simp only [Bool.and_eq_true, beq_iff_eq] at hc
   obtain ⟨h1, h2⟩ := hc
   subst h1
   unfold evE at h
   exact ((ha g h2).2 r h).pt
  ·cases hc
end
section
variable {G : Gs} {F : Nat -> List DV -> Option Ou}
mutual
theorem snd : ∀ m : ME, S1 G F m
 | .var _ => z5Z
 | .int _ => z5Q
 | .bl _ => s_bl
 | .str _ => z5K
 | .non => z5R
 | .bin _ a b => z6i (snd a) (snd b)
 | .neg a => z5z (snd a)
 | .not a => z5A (snd a)
 | .cmp _ a b => z6g (snd a) (snd b)
 | .and es => z6r (z1i es)
 | .or es => s_or (z4M es)
 | .ite c a b => z5Y (snd c) (snd a) (snd b)
 | .lst es => z6q (sndL es)
 | .tup es => z6w (sndL es)
 | .ix a b => s_ix (snd a) (snd b)
 | .sl a b c => s_sl (snd a) (snd b) (snd c)
 | .call _ es => z4F (sndL es)
 | .calld _ es => z2F (sndL es)
 | .callk _ es _ ke => z1X (sndL es) (snd ke)
 | .bi _ es => s_bi (sndL es)
 | .isi a _ => z5F (snd a)
 | .meth _ a _ => z3M (snd a)
 | .comp a _ b _ => z5q (snd a) (snd b)
 | .compi a _ b c _ => z2X (snd a) (snd b) (snd c)
 | .idx a b => z5J (snd a) (snd b)
 | .rng es => z5U (sndL es)
 | .zp a b => s_zp (snd a) (snd b)
theorem sndL : ∀ ms : List ME, SEs G F ms
 | [] => z6n
 | a :: ms => z3R (snd a) (sndL ms)
theorem z1i : ∀ ms : List ME, SAnd G F ms
 | [] => z3f
 | a :: ms => q9E (snd a) (z1i ms)
theorem z4M : ∀ ms : List ME, SOr G F ms
 | [] => z4b
 | a :: ms => z2n (snd a) (z4M ms)
end
end
end L2
end
section
namespace L2
open PySem PySem.Spec PyProof.Rows
section
variable (G : Gs) (F : Nat -> List DV -> Option Ou) (fu : Nat)
noncomputable def SS (m : MS) : Prop := ∀ {sg : Sg} {X : Cx} {E : St -> XK} {st : Stmt} {δ : List Sv} {o : Out}, Good sg G F X E -> corS sg m st = true -> evS G F fu m δ = some o -> PS X st (dS X.D E δ o)
noncomputable def SSs (ms : List MS) : Prop := ∀ {sg : Sg} {X : Cx} {E : St -> XK} {sts : List Stmt} {δ : List Sv} {o : Out}, Good sg G F X E -> q2O sg ms sts = true -> evSs G F fu ms δ = some o -> PSs X sts (dS X.D E δ o)
end
section
variable {G : Gs} {F : Nat -> List DV -> Option Ou} {fu : Nat} {e k : ME} {i : Nat}
theorem z4S {e : ME} (h : q8v e = true) : q3K G F e := by
 cases e with
 | comp a _ b _ => exact z1s (snd a) (snd b)
 | compi a _ b c _ => exact q8L (snd a) (snd b) (snd c)
 | _ => exact Bool.noConfusion (show false = true from h)
theorem z5X {own : Bool} : SS G F fu (.set i own e) := by
 intro sg X E st δ o g hc h
 unfold corS at hc
 split at hc
 ·rename_i t v pos
  split at hc
  ·rename_i x pt
   simp only [Bool.and_eq_true, beq_iff_eq, Bool.or_eq_true, Bool.not_eq_true'] at hc
   obtain ⟨⟨⟨h1, h2⟩, h3⟩, h4⟩ := hc
   have l := g.loc x h2
   have hN : X.N[i]? = some x := by rw [g.N]; exact h1
   unfold evS at h
   cases hv : q9l v with
   | false => exact q8e g.nd hN l.1 l.2 (λ z hz => (snd e).1 g h3 hz) (q4o hv) h
   | true =>
    rcases h4 with h4 | h5
    ·rw [hv] at h4; cases h4
    ·cases hr : evE G F e δ with
     | none => rw [hr] at h; cases h
     | some r =>
      obtain ⟨cp, N', fr, tg, p, rfl, S, P, hG, hs⟩ := z4S h5 g h3 hr
      cases hb : (X.env.blockKind == .function && X.env.kindOf x == some .local && pt.line == (Expr.ListComp cp.elt [⟨cp.tg, cp.it, cp.ifs, 0⟩] cp.sc p).pos.line && !(cp.sc.names.any λ (n, k) => n == x && (k == .local || k == .cell))) with
      | false =>
       have hsw : swapsWith (.ListComp cp.elt [⟨cp.tg, cp.it, cp.ifs, 0⟩] cp.sc p) (some (.Name x pt)) pos.line X.env = pure false := by
        show (pure (X.env.blockKind == .function && X.env.kindOf x == some .local && pt.line == (Expr.ListComp cp.elt [⟨cp.tg, cp.it, cp.ifs, 0⟩] cp.sc p).pos.line && !(cp.sc.names.any λ (n, k) => n == x && (k == .local || k == .cell))) : Sem Bool) = pure false
        rw [hb]
       exact q8e g.nd hN l.1 l.2 (λ z hz => (snd e).1 g h3 hz) hsw h
      | true =>
       have hsw : swapsWith (.ListComp cp.elt [⟨cp.tg, cp.it, cp.ifs, 0⟩] cp.sc p) (some (.Name x pt)) pos.line X.env = pure true := by
        show (pure (X.env.blockKind == .function && X.env.kindOf x == some .local && pt.line == (Expr.ListComp cp.elt [⟨cp.tg, cp.it, cp.ifs, 0⟩] cp.sc p).pos.line && !(cp.sc.names.any λ (n, k) => n == x && (k == .local || k == .cell))) : Sem Bool) = pure true
        rw [hb]
       rw [hr] at h
       have h4 : X.env.kindOf x = some .local := by
        simp only [Bool.and_eq_true, beq_iff_eq] at hb
        exact hb.1.1.2
       exact q6k S g.calm g.nd hN h4 P hG hs hsw h
  ·cases hc
 ·cases hc
theorem z6l : SS G F fu (.app i e) := by
 intro sg X E st δ o g hc h
 unfold corS at hc
 split at hc
 ·rename_i v pos
  split at hc
  ·rename_i ef ea cpos q
   have := q0k q
   subst this
   split at hc
   ·rename_i ob n apos q2
    have := q2j q2
    subst this
    simp only [Bool.and_eq_true, Bool.not_eq_true'] at hc
    obtain ⟨⟨⟨⟨h1, h2⟩, h3⟩, h4⟩, h5⟩ := hc
    split at h2
    ·rename_i x q3
     obtain ⟨np, rfl⟩ := q0u q3
     obtain ⟨s1, s2, s3, s4⟩ := q3H g h2
     have hn : n = "append" := beq_iff_eq.mp h1
     subst hn
     unfold evS at h
     exact q7f (q5E s1 s2 s3 s4) (λ z hz => (snd e).1 g h3 hz) h4 h5 h
    ·cases h2
   ·cases hc
  ·cases hc
 ·cases hc
theorem z3N : SS G F fu (.seti i k e) := by
 intro sg X E st δ o g hc h
 unfold corS at hc
 split at hc
 ·rename_i t v pos
  split at hc
  ·rename_i ob ek q
   obtain ⟨sp, rfl⟩ := q2n q
   simp only [Bool.and_eq_true, Bool.not_eq_true'] at hc
   obtain ⟨⟨⟨h2, h3⟩, h4⟩, h5⟩ := hc
   split at h2
   ·rename_i x q3
    obtain ⟨np, rfl⟩ := q0u q3
    obtain ⟨s1, s2, s3, s4⟩ := q3H g h2
    unfold evS at h
    exact q9t (q5E s1 s2 s3 s4) (λ z hz => (snd e).1 g h5 hz) (λ z hz => (snd k).1 g h3 hz) h4 h
   ·cases h2
  ·cases hc
 ·cases hc
theorem z4l {elt it : ME} {tg : Tg} {fr : List (Option Nat)} : SS G F fu (.retc elt tg it fr) := by
 intro sg X E st δ o g hc h
 unfold corS at hc
 split at hc
 ·rename_i v pos
  unfold corE at hc
  split at hc
  ·rename_i cp q
   obtain ⟨p, rfl⟩ := q2P q
   simp only [Bool.and_eq_true, Bool.not_eq_true', Bool.or_eq_true] at hc
   obtain ⟨⟨⟨c1, c2, c3⟩, c4⟩, c5⟩ := hc
   split at c5
   ·rename_i tn qt
    simp only [Bool.and_eq_true] at c5
    unfold evS at h
    split at h
    ·rename_i ds c hw
     split at h
     ·cases h
     ·rename_i m
      rw [not_or] at m
      obtain ⟨xs, e1, e2⟩ := Option.map_eq_some_iff.mp h
      subst e2
      obtain ⟨S, nd, sl⟩ := q1b g c5.1.1
      have hemp := List.isEmpty_iff.mp c1
      rw [hemp]
      refine z0d S g.calm (q6m (E := E) nd sl ((snd it).2.2 g c2 (λ z => ?_) hw) (λ δ' r' hr C cells s₂ H₂ fp => (snd elt).1 (q0X g c5.1.1 C cells s₂ H₂ fp) c5.2 hr) m.1 (by omega) e1) (λ C cells s₂ H₂ fp => q7j (q0X g c5.1.1 C cells s₂ H₂ fp) c5.1.2) c4
      rcases c3 with w | w
      ·rw [z] at w; cases w
      ·exact w
    ·cases h
   ·cases c5
  ·cases hc
 ·cases hc
theorem z3H {f : Nat} {es : List ME} : SS G F fu (.setf i f es) := by
 intro sg X E st δ o g hc h
 unfold corS at hc
 split at hc
 ·rename_i t v pos
  split at hc
  ·rename_i x pt
   simp only [Bool.and_eq_true, beq_iff_eq] at hc
   obtain ⟨⟨h1, h2⟩, h3⟩ := hc
   have l := g.loc x h2
   have hN : X.N[i]? = some x := by rw [g.N]; exact h1
   unfold corE at h3
   split at h3
   ·rename_i ef as cpos q
    have := q0k q
    subst this
    rw [Bool.and_eq_true, Bool.and_eq_true] at h3
    obtain ⟨⟨k1, k2⟩, k3⟩ := h3
    split at k1
    ·rename_i y qx
     obtain ⟨p, rfl⟩ := q0u qx
     simp only [Bool.and_eq_true, beq_iff_eq, bne_iff_ne, ne_eq] at k1
     obtain ⟨k, fa, fd, ps, hr, hm, hk, hb, hl, fo, dk⟩ := g.fns f y k1.1.1
     cases as with
     | nil => cases k2
     | cons a as =>
      have ns := q2a k3
      rw [List.any_cons, Bool.or_eq_false_iff] at ns
      unfold evS at h
      split at h
      ·rename_i l' hl'
       split at h
       ·rename_i m
        split at h
        ·rename_i xs q1
         cases h
         have A := q4H (p := p) (pos := cpos) fo hr (g.glo y k1.1.2) hm hk hb .nil g.pas (sndL es g k3 hl') (beq_eq_false_iff_ne.mpr k1.2) (q0h ns.1) (q1c as ns.2)
         refine z0T g.nd hN l.1 l.2 (q8g (E := E) (n := ps.length) hl (A.weak λ σ H Q z => ?_) m.1 q1) (q4o rfl) m.2
         obtain ⟨O, W, R, p⟩ := z
         exact ⟨O, W, R, λ vs H1 s1 g1 => by
          show spF X.D ps.length (F f) (vs ++ []) H1 Q (E σ)
          rw [List.append_nil]
          exact p vs H1 s1 g1⟩
        ·cases h
       ·cases h
      ·cases h
    ·cases k1
   ·cases h3
  ·cases hc
 ·cases hc
theorem z6a : SS G F fu (.apo i e) := by
 intro sg X E st δ o g hc h
 unfold corS at hc
 split at hc
 ·rename_i v pos
  split at hc
  ·rename_i ef ea cpos q
   have := q0k q
   subst this
   split at hc
   ·rename_i ob n apos q2
    have := q2j q2
    subst this
    simp only [Bool.and_eq_true, Bool.not_eq_true'] at hc
    obtain ⟨⟨⟨⟨h1, h2⟩, h3⟩, h4⟩, h5⟩ := hc
    split at h2
    ·rename_i oa oi q3
     obtain ⟨sp, rfl⟩ := q2n q3
     rw [Bool.and_eq_true] at h2
     obtain ⟨h2, h6⟩ := h2
     split at h2
     ·rename_i x q4
      obtain ⟨np, rfl⟩ := q0u q4
      obtain ⟨jj, ip, rfl⟩ := q3c (beq_iff_eq.mp h6)
      obtain ⟨s1, s2, s3, s4⟩ := q3H g h2
      have hn : n = "append" := beq_iff_eq.mp h1
      subst hn
      unfold evS at h
      exact z2i (q5E s1 s2 s3 s4) (λ z hz => (snd e).1 g h3 hz) h4 h5 h
     ·cases h2
    ·cases h2
   ·cases hc
  ·cases hc
 ·cases hc
theorem z4g : SS G F fu (.appo i e) := by
 intro sg X E st δ o g hc h
 unfold corS at hc
 split at hc
 ·rename_i v pos
  split at hc
  ·rename_i ef ea cpos q
   have := q0k q
   subst this
   split at hc
   ·rename_i ob n apos q2
    have := q2j q2
    subst this
    simp only [Bool.and_eq_true, Bool.not_eq_true'] at hc
    obtain ⟨⟨⟨⟨h1, h2⟩, h3⟩, h4⟩, h5⟩ := hc
    split at h2
    ·rename_i x q3
     obtain ⟨np, rfl⟩ := q0u q3
     obtain ⟨s1, s2, s3, s4⟩ := q3H g h2
     have hn : n = "append" := beq_iff_eq.mp h1
     subst hn
     unfold evS at h
     exact z0h (q5E s1 s2 s3 s4) (λ z hz => (snd e).1 g h3 hz) h4 h5 h
    ·cases h2
   ·cases hc
  ·cases hc
 ·cases hc
theorem z5O : SS G F fu (.ret e) := by
 intro sg X E st δ o g hc h
 unfold corS at hc
 split at hc
 ·unfold evS at h
  exact z3d (λ z hz => (snd e).1 g hc hz) h
 ·cases hc
theorem z5C : SS G F fu (.frz i) := by
 intro sg X E st δ o g hc h
 unfold corS at hc
 cases hc
variable {a b body : List MS} {c : ME} {tg : Tg}
theorem z6F (ha : SSs G F fu a) (hb : SSs G F fu b) : SS G F fu (.iff c a b) := by
 intro sg X E st δ o g hc h
 unfold corS at hc
 split at hc
 ·simp only [Bool.and_eq_true] at hc
  unfold evS at h
  exact z3F (λ z hz => (snd c).2.1 g hc.1.1 hz) (λ z hz => ha g hc.1.2 hz) (λ z hz => hb g hc.2 hz) h
 ·cases hc
theorem t_fo (hb : SSs G F fu body) : SS G F fu (.fo tg e body) := by
 intro sg X E st δ o g hc h
 unfold corS at hc
 split at hc
 ·simp only [Bool.and_eq_true, Bool.not_eq_true', Bool.or_eq_true] at hc
  obtain ⟨⟨⟨⟨h0, h1⟩, h2, h3⟩, h4⟩, h5⟩ := hc
  unfold evS at h
  exact z2Y (g.own h0) g.calm (λ z hz => (snd e).2.2 g h2 (λ w => by
   rcases h3 with q | q
   ·rw [w] at q; cases q
   ·exact q) hz) (q7j g h1) (λ δ' o' ho => hb g h5 ho) h4 h
 ·cases hc
theorem z4V : SSs G F fu [] := by
 intro sg X E sts δ o g hc h
 cases sts with
 | nil => unfold evSs at h; cases h; exact z2g
 | cons a b => unfold q2O at hc; cases hc
theorem z4L {ms : List MS} (hb : SSs G F fu ms) : SSs G F fu (.frz i :: ms) := by
 intro sg X E sts δ o g hc h
 have hc' : q2O sg ms sts = true := by unfold q2O at hc; exact hc
 unfold evSs at h
 have key : evS G F fu (.frz i) δ = (match δ[i]? with | some (.own d) => some (.nx (δ.set i (.val d))) | _ => some (.nx δ)) := by unfold evS; rfl
 rw [key] at h
 cases q : δ[i]? with
 | none => rw [q] at h; exact hb g hc' h
 | some sv =>
  rw [q] at h
  cases sv with
  | own d => exact q7z q (hb g hc' h)
  | no => exact hb g hc' h
  | val d => exact hb g hc' h
  | ot d => exact hb g hc' h
  | o2 d => exact hb g hc' h
theorem q1y {m : MS} {ms : List MS} (ha : SS G F fu m) (hb : SSs G F fu ms) (hm : ∀ i, m ≠ .frz i) : SSs G F fu (m :: ms) := by
 intro sg X E sts δ o g hc h
 cases sts with
 | nil =>
  exfalso
  cases m <;> first | exact hm _ rfl | (unfold q2O at hc; cases hc)
 | cons st sts =>
  have hc' : corS sg m st = true /\ q2O sg ms sts = true := by
   cases m <;> first | exact absurd rfl (hm _) | (unfold q2O at hc; rw [Bool.and_eq_true] at hc; exact hc)
  unfold evSs at h
  split at h
  ·rename_i δ' q
   exact z0P (ha g hc'.1 q) (hb g hc'.2 h)
  ·rename_i hne
   have A := ha g hc'.1 h
   cases o with
   | nx δ' => exact absurd h (hne δ')
   | rt d fr => exact z3w A
   | rtt d => exact z2A A
   | ex c δ' => exact z4q A
end
section
variable {G : Gs} {F : Nat -> List DV -> Option Ou} {fu : Nat}
mutual
theorem sndS : ∀ m : MS, SS G F fu m
 | .set _ _ _ => z5X
 | .app _ _ => z6l
 | .seti _ _ _ => z3N
 | .ret _ => z5O
 | .retc _ _ _ _ => z4l
 | .setf _ _ _ => z3H
 | .apo _ _ => z6a
 | .appo _ _ => z4g
 | .iff _ a b => z6F (q2C a) (q2C b)
 | .fo _ _ body => t_fo (q2C body)
 | .frz _ => z5C
theorem q2C : ∀ ms : List MS, SSs G F fu ms
 | [] => z4V
 | .frz _ :: ms => z4L (q2C ms)
 | .set i o e :: ms => q1y (sndS (.set i o e)) (q2C ms) (by intro i z; cases z)
 | .retc a b c d :: ms => q1y (sndS (.retc a b c d)) (q2C ms) (by intro i z; cases z)
 | .setf i f es :: ms => q1y (sndS (.setf i f es)) (q2C ms) (by intro i z; cases z)
 | .apo i e :: ms => q1y (sndS (.apo i e)) (q2C ms) (by intro i z; cases z)
 | .appo i e :: ms => q1y (sndS (.appo i e)) (q2C ms) (by intro i z; cases z)
 | .app i o :: ms => q1y (sndS (.app i o)) (q2C ms) (by intro i z; cases z)
 | .seti i k o :: ms => q1y (sndS (.seti i k o)) (q2C ms) (by intro i z; cases z)
 | .ret e :: ms => q1y (sndS (.ret e)) (q2C ms) (by intro i z; cases z)
 | .iff c a b :: ms => q1y (sndS (.iff c a b)) (q2C ms) (by intro i z; cases z)
 | .fo t i b :: ms => q1y (sndS (.fo t i b)) (q2C ms) (by intro i z; cases z)
end
end
end L2
end
section
namespace L2
open PySem PySem.Spec PyProof.Rows
theorem RSt.start {D : Dm} {H : Hp} {N : List Str} {ds : List DV} {vs : List V} {O : List Addr} {n : Nat} (hn : n = N.length) (r : RepL D (L2.wo O H) ds vs) (ho : ∀ a ∈ O, H a ≠ none) : RSt D H (L2.start N vs) (q0B n ds) O [] := by
 subst hn
 have ino : ∀ (i : Nat) ds', (q0B N.length ds)[i]? ≠ some (.own ds') := λ i ds' h => by
  unfold q0B at h
  by_cases hi : i < (ds.map Sv.val).length
  ·rw [List.getElem?_append_left hi, List.getElem?_map] at h
   cases q : ds[i]? with
   | none => rw [q] at h; cases h
   | some d => rw [q] at h; cases h
  ·rw [List.getElem?_append_right (by omega), List.getElem?_replicate] at h
   split at h <;> cases h
 have iot : ∀ (i : Nat) ds', (q0B N.length ds)[i]? ≠ some (.ot ds') := λ i ds' h => by
  unfold q0B at h
  by_cases hi : i < (ds.map Sv.val).length
  ·rw [List.getElem?_append_left hi, List.getElem?_map] at h
   cases q : ds[i]? with
   | none => rw [q] at h; cases h
   | some d => rw [q] at h; cases h
  ·rw [List.getElem?_append_right (by omega), List.getElem?_replicate] at h
   split at h <;> cases h
 have io2 : ∀ (i : Nat) ds', (q0B N.length ds)[i]? ≠ some (.o2 ds') := λ i ds' h => by
  unfold q0B at h
  by_cases hi : i < (ds.map Sv.val).length
  ·rw [List.getElem?_append_left hi, List.getElem?_map] at h
   cases q : ds[i]? with
   | none => rw [q] at h; cases h
   | some d => rw [q] at h; cases h
  ·rw [List.getElem?_append_right (by omega), List.getElem?_replicate] at h
   split at h <;> cases h
 refine ⟨λ i d h => ?_, λ i ds' h => absurd h (ino i ds'), λ i j a d1 d2 h => absurd h (ino i d1), λ i d h => absurd h (iot i d), λ i d h => absurd h (io2 i d), ?_, ⟨λ a ha => ho a (by simpa using ha), Same.refl _, λ a ha => (nomatch ha), λ a ha => (nomatch ha)⟩⟩
 ·unfold q0B at h
  by_cases hi : i < (ds.map Sv.val).length
  ·rw [List.getElem?_append_left hi, List.getElem?_map] at h
   cases q : ds[i]? with
   | none => rw [q] at h; cases h
   | some d' =>
    rw [q] at h
    cases h
    obtain ⟨v, e1, e2⟩ := r.get q
    refine ⟨v, ?_, by rw [List.append_nil]; exact e2⟩
    unfold L2.start
    rw [List.getElem?_append_left (by rw [List.length_map]; exact (List.getElem?_eq_some_iff.mp e1).1), List.getElem?_map, e1]
    rfl
  ·rw [List.getElem?_append_right (by omega), List.getElem?_replicate] at h
   split at h <;> cases h
 ·unfold L2.start q0B
  rw [List.length_append, List.length_append, List.length_map, List.length_map, List.length_replicate, List.length_replicate, r.length]
structure FunD (K : PySem.W.Frag) (x qual : Str) (st : Stmt) (f : Addr) (fd : FuncData) : Prop where
 ex : ∃ (oc : Value) (od : Option Addr) (dV kV doc pm : Value) (an : Option Addr) (cdv ct : Value) (osl : Array (Option Value)),
  fd = PySem.W.fnOf x qual (q0t st) (q0o st) (q0c st) dV kV doc pm an cdv ct /\ K.lookup f = some ⟨oc, od, .func fd, osl⟩ /\ PySem.W.codeIn K cdv qual = true
theorem FunD.okX {P : Program} {w : World} {K : PySem.W.Frag} {mg : Str -> Option Value} {base : Heap} {x qual : Str} {st : Stmt} {f : Addr} {fd : FuncData} {N ps : List Str} {k : Nat} {sp : Sp} (F : FunD K x qual st f fd) (S : FnScope N ps (q0c st)) (len : ∀ vs H Q E, sp vs H Q E -> vs.length = ps.length)
  (hbody : ∀ (cdv : Value) (A : Around) (outer : List Env) (s : Shared) (H : Hp) (vs : List V) (Q : VK) (E : XK), Room k (A.deeper (envOfC qual (q0c st) s.heap.objs.size f cdv)) -> sp vs H Q E ->
   ∃ t, PSs (cxD P w K mg base N qual (q0c st) f cdv A outer s H E) (q0o st) t /\ t { nx := λ _ H' => Q .non H', rt := Q } (start N vs) H) : FnOk P w K mg base (CXx P w base) (k + 1) f fd ps sp := by
 obtain ⟨oc, od, dV, kV, doc, pm, an, cdv, ct, osl, rfl, lk, hcd⟩ := F.ex
 exact z5P lk hcd S len λ A outer s H vs Q E hr hsp => hbody cdv A outer s H vs Q E hr hsp
noncomputable def DfOk (G : Gs) (T : List FD) : Prop := (∀ f ds, G.dfl.lookup f = some ds -> ∃ d, T[f]? = some d /\ d.dfl = ds /\ ds ≠ []) /\ ∀ f n, G.kws.lookup f = some n -> ∃ d, T[f]? = some d /\ d.kn = some n
structure Stands (K : PySem.W.Frag) (mg : Str -> Option Value) (fn bl cl : List Str) (d : FD) (x : Str) (fa : Addr) (fd : FuncData) (ps : List Str) : Prop where
 dk : (d.dfl ≠ [] -> ∃ us dvs, q3l K fd ps us /\ Vals dvs us /\ ∀ H, RepL ⟨K, mg⟩ H d.dfl dvs) /\ ∀ n, d.kn = some n -> KBinds K fd ps [n] (q2u ps.length) (q2u ps.length)
 mg : mg x = some (.ref fa)
 kp : PySem.W.keepIn K (.ref fa) = true
 bi : q3l K fd ps []
 np : d.np = ps.length
 ex : ∃ qual st N, FunD K x qual st fa fd /\ FnScope N ps (q0c st) /\ d.n = N.length /\ q2O ⟨N, (q0c st).names, fn, bl, cl, true, true⟩ d.body (q0o st) = true
section
variable {P : Program} {w : World} {K : PySem.W.Frag} {mg : Str -> Option Value} {base : Heap} {G : Gs} {T : List FD} {fu : Nat} {fn bl cl : List Str}
theorem z0W (hT : T.length = fn.length) (hs : ∀ (i : Nat) d x, T[i]? = some d -> fn[i]? = some x -> ∃ fa fd ps, Stands K mg fn bl cl d x fa fd ps) (hbl : ∀ x ∈ bl, mg x = none) (hxf : XFacts K mg G cl)
  (hcon : ∀ x d, G.con.lookup x = some d -> ∃ u v, mg x = some u /\ RelV v u /\ ∀ H, Rep ⟨K, mg⟩ H d v) (hdc : ∀ x kvs, G.dcs.lookup x = some kvs -> q8C K w mg x kvs) (hdf : DfOk G T) : ∀ (k i : Nat) d x fa fd ps, T[i]? = some d -> fn[i]? = some x -> Stands K mg fn bl cl d x fa fd ps ->
  FnOk P w K mg base (CXx P w base) k fa fd ps (spF ⟨K, mg⟩ ps.length (run G T fu k i))
 | 0, i, d, x, fa, fd, ps, h1, h2, S => by
  refine ⟨λ vs H Q E h => ?_, λ A outer s H args us vs Q E hr he hb hv h => ?_⟩
  ·obtain ⟨_, _, _, _, _, _, q, _⟩ := h
   cases q
  ·obtain ⟨_, _, _, _, _, _, q, _⟩ := h
   cases q
 | k + 1, i, d, x, fa, fd, ps, h1, h2, S => by
  obtain ⟨qual, st, N, F, FS, hn, hc⟩ := S.ex
  refine F.okX FS (λ vs H Q E h => ?_) (λ cdv A outer s H vs Q E hr h => ?_)
  ·obtain ⟨O, ds, o, _, e1, e2, _⟩ := h
   rw [e2.length, e1]
  ·obtain ⟨O, ds, o, ho, e1, e2, e3, e4⟩ := h
   have e3' : (match T[i]? with | none => none | some fd => if ds.length = fd.np then Ou.of (evSs G (run G T fu k) fu fd.body (q0B fd.n ds)) else none) = some o := e3
   rw [h1] at e3'
   have e3'' : (if ds.length = d.np then Ou.of (evSs G (run G T fu k) fu d.body (q0B d.n ds)) else none) = some o := e3'
   rw [if_pos (e1.trans S.np.symm)] at e3''
   have g : Good ⟨N, (q0c st).names, fn, bl, cl, true, true⟩ G (run G T fu k) (cxD P w K mg base N qual (q0c st) fa cdv A outer s H E) (λ _ => E) := by
    refine ⟨rfl, FS.nd, λ y hy => ?_, λ y hy => ?_, λ y hy => ⟨?_, .inl rfl⟩, λ y hy => hy, λ y hy => hy, rfl, hr.units, λ f y hy => ?_, hbl, q7l.s, hcon, λ _ => PassesOwn.leaving, hxf, λ _ => ⟨rfl, rfl, rfl, q7J⟩, hdc⟩
    ·unfold visB at hy
     simp only [Bool.or_eq_true, beq_iff_eq] at hy
     rcases hy with (hy | hy) | hy
     ·exact .inl hy
     ·exact .inr (.inl hy)
     ·exact .inr (.inr hy)
    ·unfold gloB at hy
     rw [beq_iff_eq] at hy
     exact hy
    ·unfold locB at hy
     simp only [Bool.or_eq_true, beq_iff_eq] at hy
     exact hy
    ·have hf : f < T.length := by rw [hT]; exact (List.getElem?_eq_some_iff.mp hy).1
     obtain ⟨d', hd'⟩ : ∃ d', T[f]? = some d' := ⟨_, List.getElem?_eq_getElem hf⟩
     obtain ⟨fa', fd', ps', S'⟩ := hs f d' y hd' hy
     refine ⟨k, fa', fd', ps', hr, S'.mg, S'.kp, S'.bi, λ ds o q => ?_, z0W hT hs hbl hxf hcon hdc hdf k f d' y fa' fd' ps' hd' hy S', ?_, ?_⟩
     rotate_left
     ·intro ds q
      obtain ⟨d2, q1, q2, q3⟩ := hdf.1 f ds q
      rw [hd'] at q1; cases q1
      have := S'.dk.1 (by rw [q2]; exact q3)
      rw [q2] at this
      exact this
     ·intro n q
      obtain ⟨d2, q1, q2⟩ := hdf.2 f n q
      rw [hd'] at q1; cases q1
      exact S'.dk.2 n q2
     cases k with
     | zero => cases q
     | succ k =>
      have q' : (match T[f]? with | none => none | some fd => if ds.length = fd.np then Ou.of (evSs G (run G T fu k) fu fd.body (q0B fd.n ds)) else none) = some o := q
      rw [hd'] at q'
      have q'' : (if ds.length = d'.np then Ou.of (evSs G (run G T fu k) fu d'.body (q0B d'.n ds)) else none) = some o := q'
      split at q''
      ·rename_i z; rw [z, S'.np]
      ·cases q''
   cases ho' : evSs G (run G T fu k) fu d.body (q0B d.n ds) with
   | none => rw [ho'] at e3''; cases e3''
   | some oo =>
    rw [ho'] at e3''
    refine ⟨_, q2C d.body g hc ho', H, O, [], RSt.start hn e2 ho, (λ a ha => (nomatch ha)), ho, Same.refl H, ?_⟩
    cases oo with
    | nx δ => cases e3''; exact λ σ' H' W R fr sm => e4 .non H' sm (show Rep ⟨K, mg⟩ (L2.wo O H') .non .non by unfold Rep; rfl)
    | rt d fr => cases e3''; exact λ v H' sm gt => e4 v H' sm gt
    | rtt d => cases e3''; exact λ v H' sm gt => e4 v H' sm gt
    | ex c δ => cases e3''; exact λ σ' H' W C hm R fr sm => e4 H' C hm sm
end
end L2
end
section
namespace L2
open PySem PySem.Spec PyProof.Rows
noncomputable def okD (fn bl cl : List Str) (d : FD) (N ps : List Str) (st : Stmt) : Bool :=
 (q0c st).kind == .function && !(q0c st).isCoroutine && !(q0c st).isGenerator && q4p N && (N.take ps.length == ps) &&
 ps.all (λ x => (q0c st).names.lookup x == some .local || (q0c st).names.lookup x == some .cell) && (q0c st).names.all (λ y => !(y.2 == .free)) &&
 d.n == N.length && d.np == ps.length && q2O ⟨N, (q0c st).names, fn, bl, cl, true, true⟩ d.body (q0o st)
section
variable {P : Program} {w : World} {K : PySem.W.Frag} {mg : Str -> Option Value} {base h : Heap} {G : Gs} {T : List FD} {fu : Nat} {fn bl cl : List Str}
theorem q4m {d : FD} {x : Str} {N ps : List Str} {st : Stmt} {f : Addr} {oc : Value} {od an : Option Addr} {osl : Array (Option Value)} {dV kV doc pm cdv ct : Value} (X : K.In h) (Ns : h.Ns mainGlobals mg) (ok : okD fn bl cl d N ps st = true)
  (a : PySem.W.nsIn K mainGlobals x = some (some (.ref f))) (l : K.lookup f = some ⟨oc, od, .func (PySem.W.fnOf x x (q0t st) (q0o st) (q0c st) dV kV doc pm an cdv ct), osl⟩)
  (c : PySem.W.codeIn K cdv x = true) (k : PySem.W.keepIn K (.ref f) = true)
  (hb : q3l K (PySem.W.fnOf x x (q0t st) (q0o st) (q0c st) dV kV doc pm an cdv ct) ps [])
  (dk : (d.dfl ≠ [] -> ∃ us dvs, q3l K (PySem.W.fnOf x x (q0t st) (q0o st) (q0c st) dV kV doc pm an cdv ct) ps us /\ Vals dvs us /\ ∀ H, RepL ⟨K, mg⟩ H d.dfl dvs) /\ ∀ n, d.kn = some n -> KBinds K (PySem.W.fnOf x x (q0t st) (q0o st) (q0c st) dV kV doc pm an cdv ct) ps [n] (q2u ps.length) (q2u ps.length)) :
  Stands K mg fn bl cl d x f (PySem.W.fnOf x x (q0t st) (q0o st) (q0c st) dV kV doc pm an cdv ct) ps := by
 unfold okD at ok
 simp only [Bool.and_eq_true, beq_iff_eq, Bool.not_eq_true', List.all_eq_true, Bool.or_eq_true, beq_eq_false_iff_ne] at ok
 obtain ⟨⟨⟨⟨⟨⟨⟨⟨⟨h1, h2⟩, h3⟩, h4⟩, h5⟩, h6⟩, h7⟩, h8⟩, h9⟩, h10⟩ := ok
 exact ⟨dk, PySem.W.mg_of X Ns a, k, hb, h9, x, st, N, ⟨oc, od, dV, kV, doc, pm, an, cdv, ct, osl, rfl, l, c⟩, ⟨h1, h2, h3, q2h h4, h5, h6, h7⟩, h8, h10⟩
theorem q0w {d : FD} {x : Str} {N ps : List Str} {st : Stmt} {f : Addr} {oc : Value} {od an : Option Addr} {osl : Array (Option Value)} {kV doc pm cdv ct : Value} (X : K.In h) (Ns : h.Ns mainGlobals mg) (ok : okD fn bl cl d N ps st = true)
  (a : PySem.W.nsIn K mainGlobals x = some (some (.ref f))) (l : K.lookup f = some ⟨oc, od, .func (PySem.W.fnOf x x (q0t st) (q0o st) (q0c st) .none kV doc pm an cdv ct), osl⟩)
  (c : PySem.W.codeIn K cdv x = true) (k : PySem.W.keepIn K (.ref f) = true)
  (hb : ∀ (kV doc pm : Value) (an : Option Addr) (cdv ct : Value) (us : List Value), us.length = ps.length -> bindArgs (PySem.W.fnOf x x (q0t st) (q0o st) (q0c st) .none kV doc pm an cdv ct) ⟨us, []⟩ = pure (ps.zip us)) (e1 : d.dfl = [] := by rfl) (e2 : d.kn = none := by rfl) :
  Stands K mg fn bl cl d x f (PySem.W.fnOf x x (q0t st) (q0o st) (q0c st) .none kV doc pm an cdv ct) ps :=
 q4m X Ns ok a l c k (.all (hb kV doc pm an cdv ct)) ⟨λ z => absurd e1 z, λ n z => by rw [e2] at z; cases z⟩
theorem q9a {fd : FuncData} {ps : List Str} {n : Str} (h : ∀ (s : Shared) (us : List Value) (w : Value), K.In s.heap -> us.length + 1 = ps.length -> BindsTo s fd ⟨us, [(n, w)]⟩ (ps.zip (us ++ [w]))) (hp : ps ≠ []) : KBinds K fd ps [n] (q2u ps.length) (q2u ps.length) := by
 refine ⟨λ s us ws hK hl => ?_, λ r q => q8s r q⟩
 unfold q2u at hl ⊢
 split at hl
 ·rename_i c
  rw [if_pos c]
  obtain ⟨w, rfl⟩ := List.length_eq_one_iff.mp c.2
  exact h s us w hK c.1
 ·exact absurd (List.length_eq_zero_iff.mp hl.symm) hp
theorem z6b {G : Gs} {T : List FD} (e1 : G.dfl = [] := by rfl) (e2 : G.kws = [] := by rfl) : DfOk G T := ⟨λ f ds q => (by rw [e1] at q; cases q), λ f n q => (by rw [e2] at q; cases q)⟩
noncomputable def HS (K : PySem.W.Frag) (mg : Str -> Option Value) (fn bl cl : List Str) (T : List FD) (fs : List Str) : Prop := ∀ (i : Nat) d x, T[i]? = some d -> fs[i]? = some x -> ∃ fa fd ps, Stands K mg fn bl cl d x fa fd ps
theorem z4z {fs : List Str} : HS K mg fn bl cl [] fs := λ i d x h => by cases h
theorem q0Q {d : FD} {x : Str} {fs : List Str} {fa : Addr} {fd : FuncData} {ps : List Str} (h : Stands K mg fn bl cl d x fa fd ps) (t : HS K mg fn bl cl T fs) : HS K mg fn bl cl (d :: T) (x :: fs) := λ i d' x' h1 h2 => by
 cases i with
 | zero => cases h1; cases h2; exact ⟨_, _, _, h⟩
 | succ i => exact t i d' x' h1 h2
theorem z5g {H : Hp} : L2.wo [] H = H := by
 funext b
 unfold L2.wo
 simp
noncomputable def HC (K : PySem.W.Frag) (mg : Str -> Option Value) (c : List (Str × DV)) : Prop := ∀ x d, c.lookup x = some d -> ∃ u v, mg x = some u /\ RelV v u /\ ∀ H, Rep ⟨K, mg⟩ H d v
theorem z2P : HC K mg [] := λ x d h => by cases h
theorem z5u {c : List (Str × DV)} {y : Str} {d : DV} (h : ∃ u v, mg y = some u /\ RelV v u /\ ∀ H, Rep ⟨K, mg⟩ H d v) (t : HC K mg c) : HC K mg ((y, d) :: c) := λ x d' q => by
 rw [List.lookup_cons] at q
 split at q
 ·rename_i e
  cases q
  rw [eq_of_beq e]
  exact h
 ·exact t x d' q
noncomputable def OneL (K : PySem.W.Frag) (mg : Str -> Option Value) (G : Gs) (cl : List Str) (l : List (Str × List Str)) : Prop := ∀ c, (l.lookup c).isSome = true -> ∃ C, XOne K mg G cl c C
theorem z1D {cl : List Str} : OneL K mg G cl [] := λ c h => by cases h
theorem z5v {cl : List Str} {c : Str} {b : List Str} {l : List (Str × List Str)} (h : ∃ C, XOne K mg G cl c C) (t : OneL K mg G cl l) : OneL K mg G cl ((c, b) :: l) := λ c' q => by
 rw [List.lookup_cons] at q
 split at q
 ·rename_i e
  rw [eq_of_beq e]
  exact h
 ·exact t c' q
noncomputable def AllL (mg : Str -> Option Value) (l : List Str) : Prop := ∀ t ∈ l, ∃ Ct, mg t = some (.ref Ct)
theorem z2N : AllL mg [] := λ t h => by cases h
theorem all_cons {t : Str} {l : List Str} (h : ∃ Ct, mg t = some (.ref Ct)) (r : AllL mg l) : AllL mg (t :: l) := λ t' q => by
 rcases List.mem_cons.mp q with e | e
 ·rw [e]; exact h
 ·exact r t' e
noncomputable def OwnL (K : PySem.W.Frag) (mg : Str -> Option Value) (G : Gs) (c : Str) (C : Addr) (l : List Str) : Prop := ∀ t ∈ l, ∀ Ct, mg t = some (.ref Ct) -> PySem.W.kitOne K (.ref C) (.ref Ct) = some (q2I G c t) /\ (q2I G c t = true -> PySem.W.exmOne K (.ref C) (.ref Ct) = some true)
theorem z6u {c : Str} {C : Addr} : OwnL K mg G c C [] := λ t h => by cases h
theorem z5x {c t : Str} {C Ct : Addr} {l : List Str} (m : mg t = some (.ref Ct)) (h : PySem.W.kitOne K (.ref C) (.ref Ct) = some (q2I G c t) /\ (q2I G c t = true -> PySem.W.exmOne K (.ref C) (.ref Ct) = some true)) (r : OwnL K mg G c C l) : OwnL K mg G c C (t :: l) := λ t' q Ct' m' => by
 rcases List.mem_cons.mp q with e | e
 ·subst e
  cases m.symm.trans m'
  exact h
 ·exact r t' e Ct' m'
noncomputable def spS (K : PySem.W.Frag) : Sp := λ vs H Q _ => ∃ (a : Addr) (ns : List Int), vs = [.ref a] /\ ns.length <= 63 /\ SqS K H a (ns.map V.int) /\ ∀ H', Q (.bl true) H'
noncomputable def DCL (K : PySem.W.Frag) (w : World) (mg : Str -> Option Value) (l : List (Str × List (Str × Str))) : Prop := ∀ x kvs, l.lookup x = some kvs -> q8C K w mg x kvs
theorem z1y {w : World} : DCL K w mg [] := λ x kvs h => by cases h
theorem z5w {w : World} {y : Str} {kv : List (Str × Str)} {l : List (Str × List (Str × Str))} (h : q8C K w mg y kv) (t : DCL K w mg l) : DCL K w mg ((y, kv) :: l) := λ x kvs q => by
 rw [List.lookup_cons] at q
 split at q
 ·rename_i e
  cases q
  rw [beq_iff_eq.mp e]
  exact h
 ·exact t x kvs q
noncomputable def KVL (K : PySem.W.Frag) (a : Addr) (l : List (Str × Str)) : Prop := ∀ k v, l.lookup k = some v -> v.length <= sizeLine /\ ∃ t, PySem.W.nsIn K a k = some (some (.str v t))
theorem z6E {a : Addr} : KVL K a [] := λ k v h => by cases h
theorem z5y {a : Addr} {k v : Str} {t : Tok} {l : List (Str × Str)} (h1 : v.length <= sizeLine) (h2 : PySem.W.nsIn K a k = some (some (.str v t))) (r : KVL K a l) : KVL K a ((k, v) :: l) := λ k' v' q => by
 rw [List.lookup_cons] at q
 split at q
 ·rename_i e
  cases q
  rw [beq_iff_eq.mp e]
  exact ⟨h1, t, h2⟩
 ·exact r k' v' q
theorem z0z {k i : Nat} {d : FD} {x p : Str} {fa : Addr} {fd : FuncData} (hT : T.length = fn.length) (hs : HS K mg fn bl cl T fn) (hbl : ∀ x ∈ bl, mg x = none) (hxf : XFacts K mg G cl)
  (hcon : ∀ x d, G.con.lookup x = some d -> ∃ u v, mg x = some u /\ RelV v u /\ ∀ H, Rep ⟨K, mg⟩ H d v) (hdc : ∀ x kvs, G.dcs.lookup x = some kvs -> q8C K w mg x kvs) (hdf : DfOk G T) (h1 : T[i]? = some d) (h2 : fn[i]? = some x) (S : Stands K mg fn bl cl d x fa fd [p])
  (law : ∀ ns : List Int, ns.length <= 63 -> run G T fu k i [.scr ns] = some (.v (.bl true) false)) : FnOk P w K mg base CX0 k fa fd [p] (spS K) := by
 have R := z0W (P := P) (w := w) (base := base) (fu := fu) hT hs hbl hxf hcon hdc hdf k i d x fa fd [p] h1 h2 S
 refine ⟨λ vs H Q E h => ?_, λ A outer s H args us vs Q E hr he hb hv h => ?_⟩
 ·obtain ⟨a, ns, rfl, _⟩ := h
  rfl
 ·obtain ⟨a, ns, rfl, hl, hS, hq⟩ := h
  refine codeAny_mono (R.run A outer s H args us [.ref a] Q E0 hr he hb hv ⟨[], [.scr ns], _, (λ a ha => (nomatch ha)), rfl, ?_, law ns hl, λ v H' _ g => ?_⟩) λ r s' q => ?_
  ·refine RepL.one (q1B.mpr ⟨a, rfl, ?_⟩)
   rw [z5g]
   exact hS
  ·have g' : Rep ⟨K, mg⟩ (L2.wo [] H') (.bl true) v := g
   rw [q3U] at g'
   subst g'
   exact hq H'
  ·cases r with
   | error e =>
    obtain ⟨_, _, _, _, _, _, _, _, _, _, z⟩ := (q : CXx P w base outer H s E0 e s')
    exact z.elim
   | ok fl => cases fl <;> first | exact False.elim q | exact q
end
theorem walkE {l : PySem.W.OpenLaw} {q : Program} {loose : List Str} {XP : (Str -> Option Value) -> Heap -> Prop} {YP : World -> Heap -> Prop} {d : DefRec} {K : Params -> PySem.W.Frag} {k : Nat} {p : Str} (hn : l.most = some 63) (hdf : d.params.defaults = []) (hr : Room k callerA)
  (hY : ∀ (w : World) (h : Heap), YP w h -> (K w.params).In h)
  (F : ∀ (w : World) (mg : Str -> Option Value) (fa : Addr) (h : Heap), (K w.params).In h -> h.Ns mainGlobals mg -> mg d.name = some (.ref fa) ->
   ∃ fd : FuncData, (∀ (s : Shared) (u : Value), BindsTo s fd ⟨[u], []⟩ [(p, u)]) /\ ∀ base : Heap, (K w.params).In base -> base.Ns mainGlobals mg -> FnOk l.prog w (K w.params) mg base CX0 k fa fd [p] (spS (K w.params))) :
  PySem.W.WalkO q loose XP YP l.row.toRowW d [] (λ f vs => PySem.call f vs) :=
 L2.walk_of (n := 63) (k := k) (x := p) (CX := λ _ => CX0) (sp := λ w => spS (K w.params)) hn (by decide) hdf hr hY F (λ _ _ a ns hl hO hS => ⟨a, ns, rfl, hl, SqS.of hO hS, λ _ => rfl⟩) λ _ _ _ _ _ z => z
end L2
end
section
namespace L2
open PySem
section
variable {G : Gs} {F : Nat -> List DV -> Option Ou} {fu : Nat} {δ : List Sv}
theorem q1a {d : DV} {c : Cl} {k : DV -> Cl -> Option Re} : Re.thn (some (.ok d c)) k = k d c := rfl
theorem q1C {l : List (DV × Cl)} {k : List (DV × Cl) -> Option Re} : Rs.thn (some (.ok l)) k = k l := rfl
theorem q4Q {ds : List DV} {c : Cl} {k : List DV -> Cl -> Option Re} : Ri.thn (some (.ok ds c)) k = k ds c := rfl
theorem q9v {d : DV} {c : Cl} {k : DV -> Cl -> Option Out} : Re.thnS δ (some (.ok d c)) k = k d c := rfl
theorem z4Y {m : MS} {r : List MS} {δ' : List Sv} (h : evS G F fu m δ = some (.nx δ')) : evSs G F fu (m :: r) δ = evSs G F fu r δ' := by
 rw [show evSs G F fu (m :: r) δ = (match evS G F fu m δ with | some (.nx δ') => evSs G F fu r δ' | o => o) from rfl, h]
theorem z4y {m : MS} {r : List MS} {d : DV} {fr : Bool} (h : evS G F fu m δ = some (.rt d fr)) : evSs G F fu (m :: r) δ = some (.rt d fr) := by
 rw [show evSs G F fu (m :: r) δ = (match evS G F fu m δ with | some (.nx δ') => evSs G F fu r δ' | o => o) from rfl, h]
theorem q1j {T : List FD} {k f : Nat} {ds : List DV} {fd : FD} (h : T[f]? = some fd) (hl : ds.length = fd.np) : run G T fu (k + 1) f ds = Ou.of (evSs G (run G T fu k) fu fd.body (q0B fd.n ds)) := by
 show (match T[f]? with | none => none | some fd => if ds.length = fd.np then Ou.of (evSs G (run G T fu k) fu fd.body (q0B fd.n ds)) else none) = _
 rw [h]
 exact if_pos hl
end
end L2
namespace L2
open PySem
theorem q5D {I : List Sv -> Prop} {tg : Tg} {body : List Sv -> Option Out} : ∀ {ds : List DV} {δ : List Sv}, (∀ d ∈ ds, ∀ δ, I δ -> ∃ δ1 δ2, tg.bind d δ = some δ1 /\ body δ1 = some (.nx δ2) /\ I δ2) -> I δ -> ∃ δ', q1r tg body ds δ = some (.nx δ') /\ I δ'
 | [], δ, _, i => ⟨δ, rfl, i⟩
 | d :: r, δ, h, i => by
  obtain ⟨δ1, δ2, e1, e2, i2⟩ := h d (List.mem_cons_self ..) δ i
  obtain ⟨δ', e3, i3⟩ := q5D (ds := r) (λ d hd => h d (List.mem_cons_of_mem _ hd)) i2
  refine ⟨δ', ?_, i3⟩
  show (match tg.bind d δ with | none => none | some δ1 => (match body δ1 with | some (.nx δ2) => q1r tg body r δ2 | o => o)) = _
  rw [e1]
  show (match body δ1 with | some (.nx δ2) => q1r tg body r δ2 | o => o) = _
  rw [e2]
  exact e3
theorem q2R {g : DV -> Option Rc} {p : DV -> Bool} : ∀ {ds : List DV}, (∀ d ∈ ds, g d = some (if p d then .item d else .skip)) -> q0z g ds = some (ds.filter p)
 | [], _ => rfl
 | d :: r, h => by
  have h0 := h d (List.mem_cons_self ..)
  have ih := q2R (ds := r) (λ d hd => h d (List.mem_cons_of_mem _ hd))
  unfold q0z
  rw [h0]
  cases hp : p d with
  | false => rw [List.filter_cons_of_neg (by rw [hp]; exact Bool.false_ne_true)]; exact ih
  | true =>
   rw [List.filter_cons_of_pos hp]
   show (match q0z g r with | none => none | some xs => some (d :: xs)) = _
   rw [ih]
theorem q3b {g : DV -> Option Rc} {f : DV -> DV} : ∀ {ds : List DV}, (∀ d ∈ ds, g d = some (.item (f d))) -> q0z g ds = some (ds.map f)
 | [], _ => rfl
 | d :: r, h => by
  have h0 := h d (List.mem_cons_self ..)
  have ih := q3b (ds := r) (λ d hd => h d (List.mem_cons_of_mem _ hd))
  unfold q0z
  rw [h0]
  show (match q0z g r with | none => none | some xs => some (f d :: xs)) = _
  rw [ih]
  rfl
theorem q6B {lo : Int} {n : Nat} {d : DV} (h : d ∈ upTo lo n) : ∃ j : Nat, j < n /\ d = .int (lo + j) := by
 unfold upTo at h
 rw [List.mem_map] at h
 obtain ⟨j, hj, rfl⟩ := h
 exact ⟨j, List.mem_range.mp hj, rfl⟩
end L2
namespace L2
open PySem
section
variable {G : Gs} {F : Nat -> List DV -> Option Ou} {fu : Nat} {δ δ' : List Sv} {m : MS} {r a b body : List MS} {o : Option Out} {c it : ME} {d : DV} {fr : Bool} {tg : Tg} {ds : List DV} {cl : Cl}
theorem q2t (h : evSs G F fu r δ = some (.rt d fr)) : Ou.of (evSs G F fu r δ) = some (.v d fr) := by rw [h]; rfl
theorem q0E (h : evS G F fu m δ = some (.nx δ')) (h2 : evSs G F fu r δ' = o) : evSs G F fu (m :: r) δ = o := (z4Y h).trans h2
theorem q2l (h : evS G F fu m δ = some (.rt d fr)) : evSs G F fu (m :: r) δ = some (.rt d fr) := z4y h
theorem z1H {bb : Bool} (hc : tstD (evE G F c δ) = some (.ok bb)) : evS G F fu (.iff c a b) δ = if bb then evSs G F fu a δ else evSs G F fu b δ := by
 show Rt.thnS δ (tstD (evE G F c δ)) (λ k => if k then evSs G F fu a δ else evSs G F fu b δ) = _
 rw [hc]; rfl
theorem q6x (hc : tstD (evE G F c δ) = some (.ok true)) (h : evSs G F fu a δ = some (.nx δ')) (h2 : evSs G F fu r δ' = o) : evSs G F fu (.iff c a b :: r) δ = o := q0E ((z1H hc).trans h) h2
theorem z3Q (hc : tstD (evE G F c δ) = some (.ok false)) (h : evSs G F fu b δ = some (.nx δ')) (h2 : evSs G F fu r δ' = o) : evSs G F fu (.iff c a b :: r) δ = o := q0E ((z1H hc).trans h) h2
theorem z5m (hc : tstD (evE G F c δ) = some (.ok true)) (h : evSs G F fu a δ = some (.rt d fr)) : evSs G F fu (.iff c a b :: r) δ = some (.rt d fr) := q2l ((z1H hc).trans h)
theorem q2i (hc : tstD (evE G F c δ) = some (.ok false)) (h2 : evSs G F fu r δ = o) : evSs G F fu (.iff c a [] :: r) δ = o := z3Q hc rfl h2
theorem q6l (hw : q0K (evE G F it δ) = some (.ok ds cl)) (hc : cl = .strong \/ cl = .fresh) (h : q1r tg (λ δ' => evSs G F fu body δ') ds δ = some (.nx δ')) (h2 : evSs G F fu r δ' = o) : evSs G F fu (.fo tg it body :: r) δ = o := by
 refine q0E ?_ h2
 show Ri.thnS δ (q0K (evE G F it δ)) (λ ds c => if c = .strong \/ c = .fresh then q1r tg (λ δ' => evSs G F fu body δ') ds δ else none) = _
 rw [hw]
 show (if cl = .strong \/ cl = .fresh then q1r tg (λ δ' => evSs G F fu body δ') ds δ else none) = _
 rw [if_pos hc]
 exact h
theorem q0L {i : Nat} {e : ME} (h : evE G F e δ = some (.ok d cl)) (hs : stro d cl = true) : evS G F fu (.set i false e) δ = some (.nx (δ.set i (.val d))) := by
 show Re.thnS δ (evE G F e δ) (λ d c => if false then q3N i δ d c else (if stro d c then some (.nx (δ.set i (.val d))) else none)) = _
 rw [h]
 show (if stro d cl then some (Out.nx (δ.set i (.val d))) else none) = _
 rw [if_pos hs]
theorem q4h {i : Nat} {e : ME} (h : evE G F e δ = some (.ok d .fresh)) : evS G F fu (.set i true e) δ = some (.nx (δ.set i (.own d))) := by
 show Re.thnS δ (evE G F e δ) (λ d c => if true then q3N i δ d c else (if stro d c then some (.nx (δ.set i (.val d))) else none)) = _
 rw [h]
 rfl
theorem q2b {e : ME} (h : evE G F e δ = some (.ok d cl)) (hc : cl ≠ .ft := by first | decide | (intro z; cases z)) : evS G F fu (.ret e) δ = some (.rt d (frD d cl)) := by
 show Re.thnS δ (evE G F e δ) (λ d c => some (retD d c)) = _
 rw [h]
 show some (retD d cl) = _
 cases cl <;> first | rfl | exact absurd rfl hc
theorem q0D {f : Nat} {es : List ME} {l : List (DV × Cl)} (ha : evEs G F es δ = some (.ok l)) (hs : (l.all λ p => p.2 == .strong || p.2 == .fresh) = true) (h : F f (l.map (·.1)) = some (.v d fr)) : evE G F (.call f es) δ = some (.ok d (if fr then .fresh else .strong)) := by
 show Rs.thn (evEs G F es δ) (λ l => q1f F f l) = _
 rw [ha]
 show q1f F f l = _
 unfold q1f
 rw [h, hs]
 rfl
theorem z0r {f : Nat} {es : List ME} {l : List (DV × Cl)} (ha : evEs G F es δ = some (.ok l)) (hs : (l.all λ p => p.2 == .strong || p.2 == .fresh) = false) (h : F f (l.map (·.1)) = some (.v d fr)) : evE G F (.call f es) δ = some (.ok d .weak) := by
 show Rs.thn (evEs G F es δ) (λ l => q1f F f l) = _
 rw [ha]
 show q1f F f l = _
 unfold q1f
 rw [h, hs]
 rfl
theorem q0R {e : ME} {x : Bool} (h : evE G F e δ = some (.ok (.bl x) cl)) : tstD (evE G F e δ) = some (.ok x) := by rw [h]; rfl
theorem q4e {e : ME} {x : Bool} (h : evE G F e δ = some (.ok (.bl x) cl)) : evE G F (.not e) δ = some (.ok (.bl (!x)) .strong) := by
 show Re.thn (evE G F e δ) (λ x _ => (q2m x).map λ k => .ok (.bl (!k)) .strong) = _
 rw [h]; rfl
end
end L2
namespace L2
open PySem
section
variable {G : Gs} {F : Nat -> List DV -> Option Ou} {fu : Nat} {δ δ' : List Sv} {a b : ME} {x y : DV} {cx cy : Cl}
theorem q2S {op : Operator} {r : Option Re} (ha : evE G F a δ = some (.ok x cx)) (hb : evE G F b δ = some (.ok y cy)) (h : binD op x y cx cy = r) : evE G F (.bin op a b) δ = r := by
 show Re.thn (evE G F a δ) (λ x cx => Re.thn (evE G F b δ) λ y cy => binD op x y cx cy) = _
 rw [ha, q1a, hb, q1a, h]
theorem q2A {op : CmpOp} {t : Bool} (ha : evE G F a δ = some (.ok x cx)) (hb : evE G F b δ = some (.ok y cy)) (h : cmpD op x y = some t) : evE G F (.cmp op a b) δ = some (.ok (.bl t) .strong) := by
 show Re.thn (evE G F a δ) (λ x _ => Re.thn (evE G F b δ) λ y _ => (cmpD op x y).map λ k => .ok (.bl k) .strong) = _
 rw [ha, q1a, hb, q1a, h]; rfl
theorem q1s {d : DV} (ha : evE G F a δ = some (.ok x cx)) (hb : evE G F b δ = some (.ok y cy)) (h : ixD x y = some d) : evE G F (.ix a b) δ = some (.ok d cx.item) := by
 show Re.thn (evE G F a δ) (λ x cx => Re.thn (evE G F b δ) λ y _ => (ixD x y).map λ d => .ok d cx.item) = _
 rw [ha, q1a, hb, q1a, h]; rfl
theorem q9P {t : Bool} (ha : evE G F a δ = some (.ok (.bl false) cx)) : evE G F (.and [a, b]) δ = some (.ok (.bl false) cx) := by
 show Re.thn (evE G F a δ) (λ x c => andD x c (evE G F b δ)) = _
 rw [ha]; rfl
theorem q7a {o : Option Re} (ha : evE G F a δ = some (.ok (.bl true) cx)) (hb : evE G F b δ = o) : evE G F (.and [a, b]) δ = o := by
 show Re.thn (evE G F a δ) (λ x c => andD x c (evE G F b δ)) = _
 rw [ha]; exact hb
theorem q6a {o : Option Re} (ha : evE G F a δ = some (.ok (.bl false) cx)) (hb : evE G F b δ = o) : evE G F (.or [a, b]) δ = o := by
 show Re.thn (evE G F a δ) (λ x c => orD x c (evE G F b δ)) = _
 rw [ha]; exact hb
theorem q0y : evEs G F [] δ = some (.ok []) := rfl
theorem q0d {es : List ME} {l : List (DV × Cl)} (ha : evE G F a δ = some (.ok x cx)) (h : evEs G F es δ = some (.ok l)) : evEs G F (a :: es) δ = some (.ok ((x, cx) :: l)) := by
 unfold evEs
 rw [ha, h]
end
end L2
namespace L2
open PySem
section
variable {G : Gs} {F : Nat -> List DV -> Option Ou} {fu : Nat} {δ δ' : List Sv} {a b c e : ME} {x y d : DV} {cx cy cl : Cl} {i : Nat} {ds : List DV}
theorem z0X {t : Bool} (h : tstD (evE G F c δ) = some (.ok t)) : evE G F (.ite c a b) δ = if t then evE G F a δ else evE G F b δ := by
 show Rt.thn (tstD (evE G F c δ)) (λ k => if k then evE G F a δ else evE G F b δ) = _
 rw [h]; rfl
theorem q7d (h0 : δ[i]? = some (.own (.lst ds))) (h : evE G F e δ = some (.ok d cl)) (hs : stro d cl = true) (hl : ds.length < mostLen) : evS G F fu (.app i e) δ = some (.nx (δ.set i (.own (.lst (ds ++ [d]))))) := by
 unfold evS
 rw [h0]
 show Re.thnS δ (evE G F e δ) (λ d c => if stro d c /\ ds.length < mostLen then some (.nx (δ.set i (.own (.lst (ds ++ [d]))))) else none) = _
 rw [h]
 exact if_pos ⟨hs, hl⟩
theorem q9w {k : ME} {n : Int} {j : Nat} (h0 : δ[i]? = some (.own (.lst ds))) (h : evE G F e δ = some (.ok d cl)) (hk : evE G F k δ = some (.ok (.int n) cx)) (hs : stro d cl = true) (hj : q1T ds.length n = some j) : evS G F fu (.seti i k e) δ = some (.nx (δ.set i (.own (.lst (ds.set j d))))) := by
 unfold evS
 rw [h0]
 show Re.thnS δ (evE G F e δ) (λ d c => Re.thnS δ (evE G F k δ) λ k _ => (match k with | .int k => (match q1T ds.length k with | some j => if stro d c then some (.nx (δ.set i (.own (.lst (ds.set j d))))) else none | none => none) | _ => none)) = _
 rw [h, q9v, hk, q9v]
 show (match q1T ds.length n with | some j => if stro d cl then some (Out.nx (δ.set i (.own (.lst (ds.set j d))))) else none | none => none) = _
 rw [hj]
 exact if_pos hs
end
end L2
namespace L2
open PySem
section
variable {G : Gs} {F : Nat -> List DV -> Option Ou} {fu : Nat} {δ δ' : List Sv} {a b c e : ME} {x y d : DV} {cx cy cl : Cl} {i : Nat} {ds : List DV}
theorem q2d {I : Nat -> List Sv -> Prop} {body : List Sv -> Option Out} : ∀ (n : Nat) (lo : Int) {δ : List Sv}, (∀ j < n, ∀ δ, I j δ -> ∃ δ2, body (δ.set i (.val (.int (lo + j)))) = some (.nx δ2) /\ I (j + 1) δ2) -> I 0 δ -> ∃ δ', q1r (.one i) body (upTo lo n) δ = some (.nx δ') /\ I n δ'
 | 0, _, δ, _, i0 => ⟨δ, rfl, i0⟩
 | n + 1, lo, δ, h, i0 => by
  have e : upTo lo (n + 1) = .int lo :: upTo (lo + 1) n := by
   unfold upTo
   rw [List.range_succ_eq_map, List.map_cons, List.map_map]
   congr 1
   ·congr 1; omega
   ·apply List.map_congr_left
    intro a _
    show DV.int _ = DV.int _
    congr 1
    push_cast
    omega
  obtain ⟨δ2, h0, i1⟩ := h 0 (by omega) δ i0
  rw [show lo + ((0 : Nat) : Int) = lo by omega] at h0
  obtain ⟨δ', h1, i2⟩ := q2d (I := λ j => I (j + 1)) n (lo + 1) (δ := δ2) (λ j hj δ q => by
   obtain ⟨δ3, q1, q2⟩ := h (j + 1) (by omega) δ q
   refine ⟨δ3, ?_, q2⟩
   rw [show lo + 1 + ((j : Nat) : Int) = lo + ((j + 1 : Nat) : Int) by push_cast; omega]
   exact q1) i1
  refine ⟨δ', ?_, i2⟩
  rw [e]
  show (match body (δ.set i (.val (.int lo))) with | some (.nx δ2) => q1r (.one i) body (upTo (lo + 1) n) δ2 | o => o) = _
  rw [h0]
  exact h1
theorem z0n {elt it cd : ME} {tg : Tg} {fr : List (Option Nat)} {p : DV -> Bool} (hw : q0K (evE G F it δ) = some (.ok ds cl)) (hc : cl ≠ .weak) (hl : ds.length <= mostLen)
  (h : ∀ d ∈ ds, ∃ δ', tg.bind d (q0v fr δ) = some δ' /\ tstD (evE G F cd δ') = some (.ok (p d)) /\ evE G F elt δ' = some (.ok d .strong)) : evE G F (.compi elt tg it cd fr) δ = some (.ok (.lst (ds.filter p)) .fresh) := by
 show Ri.thn (q0K (evE G F it δ)) (λ ds c => if c = .weak \/ mostLen < ds.length then none else q1h (q0z (λ d => (tg.bind d (q0v fr δ)).bind λ δ' => Rc.test (tstD (evE G F cd δ')) (Rc.of (evE G F elt δ'))) ds)) = _
 rw [hw, q4Q, if_neg (by rintro (z | z); exact hc z; omega), q2R (p := p) (λ d hd => ?_)]
 ·rfl
 ·obtain ⟨δ', e1, e2, e3⟩ := h d hd
  rw [e1, Option.bind_some, e2, e3]
  cases p d <;> rfl
theorem q3J {elt it : ME} {tg : Tg} {fr : List (Option Nat)} {f : DV -> DV} (hw : q0K (evE G F it δ) = some (.ok ds cl)) (hc : cl ≠ .weak) (hl : ds.length <= mostLen)
  (h : ∀ d ∈ ds, ∃ δ', tg.bind d (q0v fr δ) = some δ' /\ evE G F elt δ' = some (.ok (f d) .strong)) : evE G F (.comp elt tg it fr) δ = some (.ok (.lst (ds.map f)) .fresh) := by
 show Ri.thn (q0K (evE G F it δ)) (λ ds c => if c = .weak \/ mostLen < ds.length then none else q1h (q0z (λ d => (tg.bind d (q0v fr δ)).bind λ δ' => Rc.of (evE G F elt δ')) ds)) = _
 rw [hw, q4Q, if_neg (by rintro (z | z); exact hc z; omega), q3b (f := f) (λ d hd => ?_)]
 ·rfl
 ·obtain ⟨δ', e1, e2⟩ := h d hd
  rw [e1, Option.bind_some, e2]
  rfl
theorem z3u {l : List Int} {j : Nat} (h : j < l.length) : ixD (.lst (l.map DV.int)) (.int j) = some (.int l[j]) := by
 have hh : (j : Int) < ((l.map DV.int).length : Int) := by rw [List.length_map]; exact_mod_cast h
 simp only [ixD, atD, q1T, if_pos (Int.natCast_nonneg j), if_pos hh, Option.bind_some, Int.toNat_natCast, List.getElem?_map, List.getElem?_eq_getElem h, Option.map_some]
theorem q2Q {l : List Int} {i : Int} (h0 : 0 <= i) (h : i < l.length) : ∃ v, ixD (.lst (l.map DV.int)) (.int i) = some (.int v) := by
 obtain ⟨j, rfl⟩ := Int.eq_ofNat_of_zero_le h0
 exact ⟨_, z3u (by omega)⟩
end
end L2
namespace L2
open PySem
section
variable {G : Gs} {F : Nat -> List DV -> Option Ou} {fu : Nat} {δ δ' : List Sv} {r body : List MS} {it : ME} {cl : Cl} {ds : List DV} {tg : Tg} {o : Option Out}
end
end L2
namespace L2
open PySem
section
variable {G : Gs} {F : Nat -> List DV -> Option Ou} {fu : Nat} {δ δ' : List Sv} {a b : ME} {i j : Int} {cx cy : Cl}
theorem q0g : evE G F (.int i) δ = some (.ok (.int i) .strong) := rfl
theorem q0a {n : Nat} {d : DV} (h : δ[n]? = some (.val d)) : evE G F (.var n) δ = some (.ok d .strong) := by unfold evE; rw [h]
theorem q2e {n : Nat} {d : DV} (h : δ[n]? = some (.own d)) : evE G F (.var n) δ = some (.ok d .top) := by unfold evE; rw [h]
theorem q2Y (ha : evE G F a δ = some (.ok (.int i) cx)) (hb : evE G F b δ = some (.ok (.int j) cy)) : evE G F (.bin .Add a b) δ = some (.ok (.int (i + j)) .strong) := q2S ha hb rfl
theorem z1W (ha : evE G F a δ = some (.ok (.int i) cx)) (hb : evE G F b δ = some (.ok (.int j) cy)) : evE G F (.bin .Sub a b) δ = some (.ok (.int (i - j)) .strong) := q2S ha hb rfl
theorem q6p (ha : evE G F a δ = some (.ok (.int i) cx)) (hb : evE G F b δ = some (.ok (.int j) cy)) (h : q3f i j = true) : evE G F (.bin .Mult a b) δ = some (.ok (.int (i * j)) .strong) := q2S ha hb (if_pos h)
theorem q2F (ha : evE G F a δ = some (.ok (.int i) cx)) (hb : evE G F b δ = some (.ok (.int j) cy)) (h : 0 < j) : evE G F (.bin .Mod a b) δ = some (.ok (.int (i % j)) .strong) := q2S ha hb (if_pos h)
theorem z4G (ha : evE G F a δ = some (.ok (.int i) cx)) (hb : evE G F b δ = some (.ok (.int j) cy)) (h : 0 < j /\ j < 1073741824) : evE G F (.bin .FloorDiv a b) δ = some (.ok (.int (i / j)) .strong) := q2S ha hb (if_pos h)
theorem b_eq (ha : evE G F a δ = some (.ok (.int i) cx)) (hb : evE G F b δ = some (.ok (.int j) cy)) : evE G F (.cmp .Eq a b) δ = some (.ok (.bl (i == j)) .strong) := q2A ha hb rfl
theorem b_lt (ha : evE G F a δ = some (.ok (.int i) cx)) (hb : evE G F b δ = some (.ok (.int j) cy)) : evE G F (.cmp .Lt a b) δ = some (.ok (.bl (decide (i < j))) .strong) := q2A ha hb rfl
theorem b_gt (ha : evE G F a δ = some (.ok (.int i) cx)) (hb : evE G F b δ = some (.ok (.int j) cy)) : evE G F (.cmp .Gt a b) δ = some (.ok (.bl (decide (j < i))) .strong) := q2A ha hb rfl
end
end L2
namespace L2
open PySem
section
variable {G : Gs} {F : Nat -> List DV -> Option Ou} {fu : Nat} {δ δ' : List Sv} {es : List ME} {l : List (DV × Cl)}
theorem z1m {x : Str} : evE G F (.str x) δ = some (.ok (.str x) .strong) := rfl
end
end L2
namespace L2
open PySem
end L2
namespace L2
open PySem
end L2
end
section
namespace k51
open PySem L2
noncomputable def q2K : FD := { n := 1, np := 1, dfl := [], body := [.ret (.bi .tuple [.comp (.bi .tuple [.comp (.ix (.var 0) (.var 1)) (.one 0) (.var 1) [none, some 0]]) (.one 0) (.rng [.bi .len [.ix (.var 0) (.int 0)]]) [none, some 0]])] }
noncomputable def q1J : FD := { n := 1, np := 1, dfl := [], body := [.ret (.comp (.idx (.var 1) (.var 0)) (.one 0) (.var 0) [none, some 0])] }
noncomputable def q4I : FD := { n := 5, np := 2, dfl := [], body := [.set 2 false (.call 1 [.call 4 [.var 0, .var 1]]), .set 3 false (.bi .sset [.var 2]), .set 4 false (.meth .bitLength (.bin .Sub (.bi .len [.var 3]) (.int 1)) []), .retc (.call 5 [.idx (.var 1) (.var 0), .var 2]) (.one 0) (.var 2) [none, some 3, some 4]] }
noncomputable def q1v : FD := { n := 2, np := 2, dfl := [.str "row"], kn := some "side", body := [.ret (.bi .len [.ix (.call 2 [.var 0, .var 1]) (.int 0)])] }
noncomputable def q2o : FD := { n := 2, np := 2, dfl := [], body := [.ret (.ite (.cmp .Eq (.var 1) (.str "row")) (.var 0) (.call 0 [.var 0]))] }
noncomputable def q3o : FD := { n := 2, np := 2, dfl := [], body := [.ret (.comp (.bin .BitAnd (.bin .RShift (.var 1) (.var 0)) (.int 1)) (.one 0) (.rng [.bin .Sub (.var 1) (.int 1), .neg (.int 1), .neg (.int 1)]) [none, some 0])] }
noncomputable def q3g : FD := { n := 1, np := 1, dfl := [], body := [.ret (.and [.isi (.var 0) ["int"], .not (.isi (.var 0) ["bool"])])] }
noncomputable def q1d : FD := { n := 2, np := 2, dfl := [], body := [.iff (.cmp .Lt (.var 1) (.bi .len [.var 0])) [.ret (.ix (.var 0) (.var 1))] [], .ret (.int 0)] }
noncomputable def q1l : FD := { n := 5, np := 2, dfl := [], body := [.set 2 true (.lst []), .set 3 false (.bin .Add (.bin .Mod (.var 0) (.int 2147483647)) (.int 48271)), .fo (.one 4) (.rng [.var 1]) [.set 3 false (.bin .Mod (.bin .Add (.bin .Add (.bin .Mult (.var 3) (.int 48271)) (.bin .Mult (.var 4) (.var 4))) (.int 11)) (.int 2147483647)), .app 2 (.bin .FloorDiv (.var 3) (.int 7))], .ret (.var 2)] }
noncomputable def q1w : FD := { n := 8, np := 3, dfl := [], body := [.set 3 false (.call 8 [.call 7 [.var 0, .int 0], .int 3]), .set 4 false (.bin .Add (.int 1) (.bin .Mod (.ix (.var 3) (.int 0)) (.int 8))), .set 5 false (.bin .Add (.int 1) (.bin .Mod (.ix (.var 3) (.int 1)) (.int 8))), .set 6 true (.comp (.bin .Mod (.var 0) (.var 1)) (.one 0) (.call 8 [.call 7 [.var 0, .int 1], .bin .Mult (.var 4) (.var 5)]) [none, some 2]), .fo (.one 7) (.rng [.bi .min [.bin .Mult (.var 4) (.var 5), .bin .Sub (.bi .len [.var 0]) (.var 1)]]) [.seti 6 (.var 7) (.bin .Mod (.ix (.var 0) (.bin .Add (.var 1) (.var 7))) (.var 2))], .ret (.comp (.sl (.var 1) (.bin .Mult (.var 0) (.var 2)) (.bin .Add (.bin .Mult (.var 0) (.var 2)) (.var 2))) (.one 0) (.rng [.var 4]) [none, some 6, some 5])] }
noncomputable def q0T : FD := { n := 1, np := 1, dfl := [], body := [.ret (.bi .tuple [.comp (.bi .tuple [.var 0]) (.one 0) (.var 0) [none]])] }
noncomputable def q1t : FD := { n := 7, np := 2, dfl := [], body := [.set 0 true (.comp (.bi .list [.var 0]) (.one 0) (.var 0) [none]), .fo (.one 2) (.rng [.bin .Mod (.ix (.var 1) (.int 0)) (.int 4)]) [.set 3 false (.bin .Mod (.ix (.var 1) (.bin .Add (.int 1) (.var 2))) (.bi .len [.var 0])), .set 4 false (.ix (.var 0) (.bin .Mod (.ix (.var 1) (.bin .Add (.int 5) (.var 2))) (.bi .len [.var 0]))), .set 5 false (.ix (.var 0) (.bin .Mod (.ix (.var 1) (.bin .Add (.int 9) (.var 2))) (.bi .len [.var 0]))), .set 6 false (.bin .Mod (.ix (.var 1) (.bin .Add (.int 13) (.var 2))) (.int 4)), .iff (.cmp .Eq (.var 6) (.int 0)) [.seti 0 (.var 3) (.bi .list [.var 4])] [], .iff (.and [.cmp .Eq (.var 6) (.int 1), .cmp .Lt (.bin .Add (.bi .max [.var 4]) (.bi .max [.var 5])) (.int 10)]) [.seti 0 (.var 3) (.comp (.bin .Add (.var 0) (.var 1)) (.many [0, 1]) (.zp (.var 4) (.var 5)) [none, none])] [], .iff (.and [.cmp .Eq (.var 6) (.int 2), .cmp .Lt (.bi .max [.var 4]) (.int 5)]) [.seti 0 (.var 3) (.comp (.bin .Mult (.int 2) (.var 0)) (.one 0) (.var 4) [none])] [], .iff (.cmp .Eq (.var 6) (.int 3)) [.seti 0 (.var 3) (.bin .Mult (.lst [.int 0]) (.bi .len [.var 4]))] []], .ret (.var 0)] }
noncomputable def q2r : FD := { n := 9, np := 1, dfl := [], body := [.set 1 true (.lst []), .set 2 true (.lst []), .fo (.one 3) (.var 0) [.iff (.cmp .NotIn (.var 3) (.var 1)) [.app 1 (.var 3)] [], .app 2 (.idx (.var 1) (.var 3))], .set 4 false (.ix (.lst [.int 0, .int 0, .int 1, .int 2, .int 2, .int 3, .int 3, .int 3, .int 3]) (.bi .len [.var 1])), .set 5 true (.lst []), .frz 2, .fo (.one 6) (.var 2) [.set 7 false (.lst []), .fo (.one 8) (.rng [.var 4]) [.set 7 false (.bin .Add (.lst [.bin .Mod (.var 6) (.int 2)]) (.var 7)), .set 6 false (.bin .FloorDiv (.var 6) (.int 2))], .app 5 (.var 7)], .ret (.var 5)] }
noncomputable def q1R : FD := { n := 4, np := 2, dfl := [], body := [.iff (.or [.not (.isi (.var 0) ["list"]), .cmp .NotEq (.bi .len [.var 0]) (.bi .len [.var 1])]) [.ret (.bl false)] [], .fo (.many [2, 3]) (.zp (.var 0) (.var 1)) [.iff (.or [.not (.isi (.var 2) ["list"]), .cmp .NotEq (.var 2) (.var 3)]) [.ret (.bl false)] [], .iff (.cmp .NotEq (.bi .len [.compi (.var 0) (.one 0) (.var 2) (.call 6 [.var 0]) [none]]) (.bi .len [.var 3])) [.ret (.bl false)] []], .ret (.bl true)] }
noncomputable def q1W : FD := { n := 6, np := 3, dfl := [], body := [.set 3 false (.call 12 [.var 1]), .setf 4 2 [.var 0, .var 2], .set 5 false (.callk 3 [.var 0] "side" (.var 2)), .iff (.or [.not (.call 13 [.var 4, .var 3]), .not (.call 6 [.var 5]), .cmp .NotEq (.var 5) (.bi .len [.ix (.var 3) (.int 0)])]) [.ret (.bl false)] [], .apo 4 (.int 1), .appo 4 (.lst []), .ret (.call 13 [.call 2 [.var 0, .var 2], .var 3])] }
noncomputable def q7t : FD := { n := 5, np := 1, dfl := [], body := [.set 1 false (.call 8 [.call 7 [.var 0, .int 2], .int 20]), .set 2 false (.call 9 [.var 0, .int 4, .ix (.lst [.int 2, .int 4, .int 10]) (.bin .Mod (.ix (.var 1) (.int 17)) (.int 3))]), .iff (.cmp .Gt (.bin .Mod (.ix (.var 1) (.int 18)) (.int 3)) (.int 0)) [.set 2 false (.call 11 [.var 2, .var 1])] [], .iff (.cmp .Eq (.bin .Mod (.ix (.var 1) (.int 18)) (.int 3)) (.int 2)) [.set 2 false (.comp (.comp (.ix (.var 0) (.var 1)) (.one 0) (.var 1) [none, some 0]) (.one 0) (.rng [.bi .len [.ix (.var 2) (.int 0)]]) [none, some 2])] [], .set 3 false (.call 10 [.var 2]), .set 4 false (.comp (.comp (.ix (.var 0) (.var 1)) (.one 0) (.var 1) [none, some 0]) (.one 0) (.rng [.bi .len [.ix (.var 2) (.int 0)]]) [none, some 2]), .iff (.or [.not (.call 14 [.var 3, .var 2, .str "row"]), .not (.call 14 [.var 3, .var 4, .str "column"])]) [.ret (.bl false)] [], .ret (.and [.cmp .Eq (.calld 3 [.var 3]) (.bi .len [.ix (.call 12 [.var 2]) (.int 0)]), .call 14 [.var 3, .var 2, .str "row"]])] }
noncomputable def T : List FD := [q2K, q1J, q4I, q1v, q2o, q3o, q3g, q1d, q1l, q1w, q0T, q1t, q2r, q1R, q1W, q7t]
noncomputable def G : Gs := { con := [], cls := [], dfl := [(3, [.str "row"])], kws := [(3, "side")] }
end k51
namespace k51
open PySem L2
variable {fu k : Nat} {F : Nat -> List DV -> Option Ou} {δ : List Sv} {ds : List DV} {cl : Cl} {N M : Nat} {R : List (List Int)}
theorem z4J {x : Int} : run G T fu (k + 1) 6 [.int x] = some (.v (.bl true) false) := by
 rw [q1j (fd := q3g) rfl rfl]
 rfl
theorem q8x (ns : List Int) (j : Nat) : ∃ v : Int, run G T fu (k + 1) 7 [.scr ns, .int j] = some (.v (.int v) false) := by
 rw [q1j (fd := q1d) rfl rfl]
 unfold q1d
 by_cases h : j < ns.length
 ·refine ⟨ns[j], q2t (z5m (q0R (cl := .strong) ?_) (q2l ?_))⟩
  ·simp [evE, evEs, q1a, q1C, q0B, biOk, biD, lenD, cmpD, h]
  ·simp [evS, evE, q1a, q0B, ixD, q1T, h, Re.thnS, frD, retD, Cl.item]
 ·refine ⟨0, q2t (q2i (q0R (cl := .strong) ?_) (q2l rfl))⟩
  simp [evE, evEs, q1a, q1C, q0B, biOk, biD, lenD, cmpD]
  omega
theorem z0u (xs : List Int) (v : Int) : xs.map DV.int ++ [.int v] = (xs ++ [v]).map DV.int := by rw [List.map_append]; rfl
theorem q7u {F : Nat -> List DV -> Option Ou} {δ : List Sv} {e : ME} {n : Nat} {cl : Cl} (h : evE G F e δ = some (.ok (.int n) cl)) (hn : n <= 1000) : q0K (evE G F (.rng [e]) δ) = some (.ok (upTo 0 n) .fresh) := by
 show q0K (Rs.thn (evEs G F [e] δ) (λ l => (rngD l).map λ ds => .ok (.lst ds) .fresh)) = _
 rw [q0d h q0y, q1C]
 have hs : (q0I (n : Int) && decide ((n : Int) <= (mostLen : Int))) = true := by
  rw [Bool.and_eq_true, decide_eq_true_iff]
  refine ⟨?_, Int.le_trans (show (n : Int) <= 1000 by omega) (by decide)⟩
  unfold q0I
  rw [Bool.and_eq_true, decide_eq_true_iff, decide_eq_true_iff]
  exact ⟨Int.le_trans (by decide) (Int.natCast_nonneg n), Int.lt_of_le_of_lt (show (n : Int) <= 1000 by omega) (by decide)⟩
 show q0K ((if q0I (n : Int) && decide ((n : Int) <= (mostLen : Int)) then some (upTo 0 (n : Int).toNat) else none).map λ ds => .ok (.lst ds) .fresh) = _
 rw [if_pos hs, Int.toNat_natCast]
 rfl
theorem z6y {j : Nat} (hj : j < 1000) : q3f (j : Int) (j : Int) = true := by unfold q3f; simp; omega
theorem m48 (x : Int) : q3f x 48271 = true := by unfold q3f; simp
theorem q4D (c : Int) (n : Nat) (hn : n <= 1000) : ∃ xs : List Int, xs.length = n /\ run G T fu (k + 1) 8 [.int c, .int n] = some (.v (.lst (xs.map DV.int)) true) := by
 rw [q1j (fd := q1l) rfl rfl]
 obtain ⟨δ1, h1, xs, num, z, hl, rfl⟩ := q2d (i := 4) (I := λ j δ => ∃ (xs : List Int) (num : Int) (z : Sv), xs.length = j /\ δ = [.val (.int c), .val (.int n), .own (.lst (xs.map DV.int)), .val (.int num), z])
  (body := λ δ' => evSs G (run G T fu k) fu [.set 3 false (.bin .Mod (.bin .Add (.bin .Add (.bin .Mult (.var 3) (.int 48271)) (.bin .Mult (.var 4) (.var 4))) (.int 11)) (.int 2147483647)), .app 2 (.bin .FloorDiv (.var 3) (.int 7))] δ') n 0 (δ := [.val (.int c), .val (.int n), .own (.lst []), .val (.int (c % 2147483647 + 48271)), .no])
  (λ j hj δ I => by
   obtain ⟨xs, num, z, hl, rfl⟩ := I
   rw [show (0 : Int) + (j : Int) = j by omega]
   obtain ⟨N, hN⟩ : ∃ N : Int, (num * 48271 + (j : Int) * j + 11) % 2147483647 = N := ⟨_, rfl⟩
   obtain ⟨D, hD⟩ : ∃ D : Int, N / 7 = D := ⟨_, rfl⟩
   refine ⟨_, q0E (q0L (d := .int N) (cl := .strong) ?_ rfl) (q0E (q7d (d := .int D) (cl := .strong) rfl ?_ rfl (by rw [List.length_map, hl]; exact Nat.lt_of_lt_of_le (Nat.lt_of_lt_of_le hj hn) (by decide))) rfl), xs ++ [D], N, .val (.int j), by rw [List.length_append, hl]; rfl, ?_⟩
   ·rw [← hN]; exact q2F (q2Y (q2Y (q6p (q0a rfl) q0g (m48 _)) (q6p (q0a rfl) (q0a rfl) (z6y (by omega)))) q0g) q0g (by decide)
   ·rw [← hD]; exact z4G (q0a rfl) q0g (by decide)
   ·rw [← z0u]; rfl) ⟨[], _, .no, rfl, rfl⟩
 refine ⟨xs, hl, ?_⟩
 unfold q1l
 exact q2t (q0E (q4h rfl) (q0E (q0L (d := .int (c % 2147483647 + 48271)) (cl := .strong) (q2Y (q2F (q0a rfl) q0g (by decide)) q0g) rfl) (q6l (q7u (n := n) (q0a rfl) hn) (.inr rfl) h1 (q2l rfl))))
theorem z0j (r o : Nat) : Builtin.bitAnd r o = ((r &&& o : Nat) : Int) := by
 unfold Builtin.bitAnd
 rw [decide_eq_true (Int.natCast_nonneg r), decide_eq_true (Int.natCast_nonneg o)]
 rfl
theorem z4h (o i : Nat) : Builtin.bitAnd ((o : Int) / 2 ^ ((i : Int).toNat)) 1 = if o.testBit i then 1 else 0 := by
 have e : (o : Int) / 2 ^ ((i : Int).toNat) = ((o / 2 ^ i : Nat) : Int) := by
  rw [Int.toNat_natCast]; push_cast; rfl
 rw [e, show (1 : Int) = ((1 : Nat) : Int) from rfl, z0j, Nat.and_one_is_mod, Nat.testBit_eq_decide_div_mod_eq]
 have : o / 2 ^ i % 2 = 0 \/ o / 2 ^ i % 2 = 1 := by omega
 rcases this with h | h <;> rw [h] <;> rfl
theorem q3x {e : ME} {ds : List DV} {c : Cl} (h : evE G F e δ = some (.ok (.lst ds) c)) : evE G F (.bi .tuple [e]) δ = some (.ok (.tup ds) c.item) := by
 show Rs.thn (evEs G F [e] δ) (λ l => q4l l) = _
 rw [q0d h q0y]
 rfl
theorem q1g {e : ME} {ds : List DV} {c : Cl} (h : evE G F e δ = some (.ok (.lst ds) c)) : evE G F (.bi .len [e]) δ = some (.ok (.int ds.length) .strong) := by
 show Rs.thn (evEs G F [e] δ) (λ l => lenD l) = _
 rw [q0d h q0y]
 rfl
theorem z1z {e : ME} {ds : List DV} {c : Cl} (h : evE G F e δ = some (.ok (.tup ds) c)) : evE G F (.bi .len [e]) δ = some (.ok (.int ds.length) .strong) := by
 show Rs.thn (evEs G F [e] δ) (λ l => lenD l) = _
 rw [q0d h q0y]
 rfl
noncomputable def iD (r : List Int) : List DV := r.map DV.int
noncomputable def rL (rows : List (List Int)) : DV := .lst (rows.map λ r => .lst (iD r))
noncomputable def tT (rows : List (List Int)) : DV := .tup (rows.map λ r => .tup (iD r))
noncomputable def Rect (n m : Nat) (rows : List (List Int)) : Prop := rows.length = n /\ ∀ r ∈ rows, r.length = m
theorem q7I (rows : List (List Int)) (h : rows.length <= 1000) : run G T fu (k + 1) 10 [rL rows] = some (.v (tT rows) false) := by
 rw [q1j (fd := q0T) rfl rfl]
 have cm := q3J (G := G) (F := run G T fu k) (δ := q0B 1 [rL rows]) (elt := .bi .tuple [.var 0]) (tg := .one 0) (it := .var 0) (fr := [none]) (f := λ d => match d with | .lst ds => .tup ds | d => d) (ds := rows.map λ r => .lst (iD r)) (cl := .strong) rfl (by decide)
  (by rw [List.length_map]; exact Nat.le_trans h (by decide)) (λ d hd => by
   obtain ⟨r, hr, rfl⟩ := List.mem_map.mp hd
   exact ⟨[.val (.lst (iD r))], rfl, q3x (q0a rfl)⟩)
 rw [List.map_map] at cm
 unfold q0T
 exact q2t (q2l (q2b (q3x cm)))
noncomputable def col (rows : List (List Int)) (j : Nat) : List Int := rows.map λ r => r.getD j 0
noncomputable def flip (m : Nat) (rows : List (List Int)) : List (List Int) := (List.range m).map (col rows)
theorem z2j {r : List Int} {j : Nat} (h : j < r.length) : ixD (.tup (iD r)) (.int j) = some (.int (r.getD j 0)) := by
 have hh : (j : Int) < ((r.map DV.int).length : Int) := by rw [List.length_map]; exact_mod_cast h
 unfold iD
 simp only [ixD, atD, q1T, if_pos (Int.natCast_nonneg j), if_pos hh, Option.bind_some, Int.toNat_natCast, List.getElem?_map, List.getElem?_eq_getElem h, Option.map_some, List.getD_eq_getElem?_getD, Option.getD_some]
theorem z1Z {r : List Int} {j : Nat} (h : j < r.length) : ixD (.lst (iD r)) (.int j) = some (.int (r.getD j 0)) := by
 have hh : (j : Int) < ((r.map DV.int).length : Int) := by rw [List.length_map]; exact_mod_cast h
 unfold iD
 simp only [ixD, atD, q1T, if_pos (Int.natCast_nonneg j), if_pos hh, Option.bind_some, Int.toNat_natCast, List.getElem?_map, List.getElem?_eq_getElem h, Option.map_some, List.getD_eq_getElem?_getD, Option.getD_some]
theorem z6v (rows : List (List Int)) (m j : Nat) (hm : ∀ r ∈ rows, r.length = m) (hj : j < m) (hl : rows.length <= 1000) : evE G F (.comp (.ix (.var 0) (.var 1)) (.one 0) (.var 1) [none, some 0]) [.val (.int j), .val (tT rows)] = some (.ok (.lst (iD (col rows j))) .fresh) := by
 have cm := q3J (G := G) (F := F) (δ := [.val (.int j), .val (tT rows)]) (elt := .ix (.var 0) (.var 1)) (tg := .one 0) (it := .var 1) (fr := [none, some 0]) (f := λ d => match d with | .tup ds => ds.getD j (.int 0) | d => d) (ds := rows.map λ r => .tup (iD r)) (cl := .strong) rfl (by decide)
  (by rw [List.length_map]; exact Nat.le_trans hl (by decide)) (λ d hd => by
   obtain ⟨r, hr, rfl⟩ := List.mem_map.mp hd
   refine ⟨[.val (.tup (iD r)), .val (.int j)], rfl, ?_⟩
   have hjr : j < r.length := by rw [hm r hr]; exact hj
   have e : (iD r).getD j (.int 0) = .int (r.getD j 0) := by
    unfold iD
    rw [List.getD_eq_getElem?_getD, List.getElem?_map, List.getElem?_eq_getElem hjr, List.getD_eq_getElem?_getD, List.getElem?_eq_getElem hjr]
    rfl
   show _ = some (Re.ok ((iD r).getD j (.int 0)) .strong)
   rw [e]
   exact q1s (q0a rfl) (q0a rfl) (z2j hjr))
 rw [List.map_map] at cm
 refine cm.trans ?_
 congr 3
 unfold iD col
 rw [List.map_map]
 apply List.map_congr_left
 intro r hr
 have hjr : j < r.length := by rw [hm r hr]; exact hj
 show (iD r).getD j (.int 0) = .int (r.getD j 0)
 unfold iD
 rw [List.getD_eq_getElem?_getD, List.getElem?_map, List.getElem?_eq_getElem hjr, List.getD_eq_getElem?_getD, List.getElem?_eq_getElem hjr]
 rfl
theorem q8l (rows : List (List Int)) (n m : Nat) (R : Rect n m rows) (hn : 0 < n) (hn2 : n <= 1000) (hm2 : m <= 1000) : run G T fu (k + 1) 0 [tT rows] = some (.v (tT (flip m rows)) false) := by
 rw [q1j (fd := q2K) rfl rfl]
 obtain ⟨r0, rest, rfl⟩ : ∃ r0 rest, rows = r0 :: rest := by
  cases rows with
  | nil => have := R.1; simp at this; omega
  | cons a b => exact ⟨a, b, rfl⟩
 have hr0 : r0.length = m := R.2 r0 (List.mem_cons_self ..)
 have hl : evE G (run G T fu k) (.bi .len [.ix (.var 0) (.int 0)]) (q0B 1 [tT (r0 :: rest)]) = some (.ok (.int (m : Nat)) .strong) := by
  have e : evE G (run G T fu k) (.ix (.var 0) (.int 0)) (q0B 1 [tT (r0 :: rest)]) = some (.ok (.tup (iD r0)) .strong) := q1s (x := tT (r0 :: rest)) (y := .int 0) (q0a rfl) q0g (by
   have h0 : (0 : Int) < (((r0 :: rest).map λ r => DV.tup (iD r)).length : Int) := by simp
   simp only [tT, ixD, atD, q1T, if_pos (Int.le_refl 0), if_pos h0, Option.bind_some]
   rfl)
  have q := z1z e
  rw [show (iD r0).length = m by unfold iD; rw [List.length_map, hr0]] at q
  exact q
 have cm := q3J (G := G) (F := run G T fu k) (δ := q0B 1 [tT (r0 :: rest)]) (elt := .bi .tuple [.comp (.ix (.var 0) (.var 1)) (.one 0) (.var 1) [none, some 0]]) (tg := .one 0) (it := .rng [.bi .len [.ix (.var 0) (.int 0)]]) (fr := [none, some 0]) (f := λ d => match d with | .int j => .tup (iD (col (r0 :: rest) j.toNat)) | d => d) (ds := upTo 0 m) (cl := .fresh)
  (q7u hl hm2) (by decide) (by unfold L2.upTo; rw [List.length_map, List.length_range]; exact Nat.le_trans hm2 (by decide)) (λ d hd => by
   obtain ⟨j, hj, rfl⟩ := q6B hd
   rw [show (0 : Int) + (j : Int) = j by omega]
   refine ⟨[.val (.int j), .val (tT (r0 :: rest))], rfl, ?_⟩
   show _ = some (Re.ok (.tup (iD (col (r0 :: rest) (j : Int).toNat))) .strong)
   rw [Int.toNat_natCast]
   exact q3x (z6v (r0 :: rest) m j R.2 hj (by rw [R.1]; exact hn2)))
 have hf : (upTo 0 m).map (λ d => match d with | .int j => DV.tup (iD (col (r0 :: rest) j.toNat)) | d => d) = (flip m (r0 :: rest)).map λ r => .tup (iD r) := by
  unfold L2.upTo flip
  rw [List.map_map, List.map_map]
  apply List.map_congr_left
  intro j _
  show DV.tup (iD (col (r0 :: rest) ((0 : Int) + (j : Int)).toNat)) = _
  rw [show ((0 : Int) + (j : Int)).toNat = j by omega]
  rfl
 rw [hf] at cm
 unfold q2K
 exact q2t (q2l (q2b (q3x cm)))
theorem q4Z {rows : List (List Int)} {i : Nat} (h : i < rows.length) : rows.getD i [] ∈ rows := by
 rw [List.getD_eq_getElem?_getD, List.getElem?_eq_getElem h]
 exact List.getElem_mem h
theorem q2G (n : Nat) : ∀ r : List Int, DV.plains n (iD r) = true
 | [] => by unfold iD; simp [DV.plains]
 | a :: r => by
  have q := q2G n r
  unfold iD at q ⊢
  rw [List.map_cons]
  unfold DV.plains
  rw [q]
  cases n <;> rfl
theorem q6X {elt it : ME} {tg : Tg} {fr : List (Option Nat)} {f : DV -> DV} (hw : q0K (evE G F it δ) = some (.ok ds cl)) (hc : cl ≠ .weak) (hl : ds.length <= mostLen)
  (h : ∀ d ∈ ds, ∃ δ' c, tg.bind d (q0v fr δ) = some δ' /\ evE G F elt δ' = some (.ok (f d) c) /\ stro (f d) c = true) : evE G F (.comp elt tg it fr) δ = some (.ok (.lst (ds.map f)) .fresh) := by
 show Ri.thn (q0K (evE G F it δ)) (λ ds c => if c = .weak \/ mostLen < ds.length then none else q1h (q0z (λ d => (tg.bind d (q0v fr δ)).bind λ δ' => Rc.of (evE G F elt δ')) ds)) = _
 rw [hw, q4Q, if_neg (by rintro (z | z); exact hc z; omega), q3b (f := f) (λ d hd => ?_)]
 ·rfl
 ·obtain ⟨δ', c, e1, e2, e3⟩ := h d hd
  rw [e1, Option.bind_some, e2]
  show (if stro (f d) c then some (Rc.item (f d)) else none) = _
  rw [if_pos e3]
theorem z6C {e : ME} {i : Int} {cl : Cl} (h : evE G F e δ = some (.ok (.int i) cl)) (h1 : i <= 1000) (h2 : -1000 <= i) : q0K (evE G F (.rng [e]) δ) = some (.ok (upTo 0 i.toNat) .fresh) := by
 show q0K (Rs.thn (evEs G F [e] δ) (λ l => (rngD l).map λ ds => .ok (.lst ds) .fresh)) = _
 rw [q0d h q0y, q1C]
 have hs : (q0I i && decide (i <= (mostLen : Int))) = true := by
  rw [Bool.and_eq_true, decide_eq_true_iff]
  refine ⟨?_, Int.le_trans h1 (by decide)⟩
  unfold q0I
  rw [Bool.and_eq_true, decide_eq_true_iff, decide_eq_true_iff]
  exact ⟨Int.le_trans (by decide) h2, Int.lt_of_le_of_lt h1 (by decide)⟩
 show q0K ((if q0I i && decide (i <= (mostLen : Int)) then some (upTo 0 i.toNat) else none).map λ ds => .ok (.lst ds) .fresh) = _
 rw [if_pos hs]
 rfl
noncomputable def q5c (n m : Nat) (ws : List Int) : List (List Int) := (List.range n).map λ j => (ws.drop (j * m)).take m
theorem q9s {n m : Nat} {ws : List Int} (h : ws.length = n * m) : Rect n m (q5c n m ws) := by
 unfold q5c
 refine ⟨by rw [List.length_map, List.length_range], λ r hr => ?_⟩
 obtain ⟨j, hj, rfl⟩ := List.mem_map.mp hr
 have hj' := List.mem_range.mp hj
 rw [List.length_take, List.length_drop, h]
 have : (j + 1) * m <= n * m := Nat.mul_le_mul_right m hj'
 rw [Nat.add_mul, Nat.one_mul] at this
 omega
theorem z6m {a lo hi : ME} {ds : List DV} {c c1 c2 : Cl} {l h : Int} (ha : evE G F a δ = some (.ok (.lst ds) c)) (hl : evE G F lo δ = some (.ok (.int l) c1)) (hh : evE G F hi δ = some (.ok (.int h) c2)) : evE G F (.sl a lo hi) δ = some (.ok (.lst (cutD ds (some l) (some h))) (Cl.anew c c)) := by
 unfold evE
 rw [ha, q1a, hl, q1a]
 show Re.thn (evE G F hi δ) _ = _
 rw [hh]
 rfl
theorem z1Y {ws : List Int} {n m j : Nat} (h : ws.length = n * m) (hj : j < n) : cutD (iD ws) (some ((j : Int) * m)) (some ((j : Int) * m + m)) = iD ((ws.drop (j * m)).take m) := by
 have e1 : ((j : Int) * m) = ((j * m : Nat) : Int) := by push_cast; rfl
 have e2 : ((j : Int) * m + m) = ((j * m + m : Nat) : Int) := by push_cast; rfl
 have le : j * m + m <= n * m := by
  have : (j + 1) * m <= n * m := Nat.mul_le_mul_right m hj
  rw [Nat.add_mul, Nat.one_mul] at this
  exact this
 have len : (iD ws).length = n * m := by unfold iD; rw [List.length_map, h]
 unfold cutD slIx
 rw [e2, e1]
 simp only [len]
 rw [if_neg (by omega), if_neg (by omega), Int.toNat_natCast, Int.toNat_natCast, Nat.min_eq_left le, Nat.min_eq_left (show j * m <= n * m by omega), show j * m + m - j * m = m by omega]
 unfold iD
 rw [← List.map_drop, ← List.map_take]
theorem z2w {n j : Nat} (h : j < n) : q1T n (j : Int) = some j := by
 unfold q1T
 rw [if_pos (Int.natCast_nonneg j), if_pos (by omega), Int.toNat_natCast]
theorem z4m {F : Nat -> List DV -> Option Ou} {δ : List Sv} {es : List ME} {l : List (DV × Cl)} (h : evEs G F es δ = some (.ok l)) : evE G F (.bi .min es) δ = minD l := by
 have e : evE G F (.bi .min es) δ = Rs.thn (evEs G F es δ) (λ l => minD l) := rfl
 rw [e, h]
 rfl
theorem z3a (ns : List Int) (hns : ns.length <= 63) (tp : Int) (htp : 0 < tp) : ∃ (n m : Nat) (rows : List (List Int)), 0 < n /\ n <= 8 /\ 0 < m /\ m <= 8 /\ Rect n m rows /\ run G T fu (k + 2) 9 [.scr ns, .int 4, .int tp] = some (.v (rL rows) true) := by
 obtain ⟨v0, c0⟩ := q8x (fu := fu) (k := k) ns 0
 obtain ⟨v1, c1⟩ := q8x (fu := fu) (k := k) ns 1
 obtain ⟨xs, hx, st0⟩ := q4D (fu := fu) (k := k) v0 3 (by decide)
 obtain ⟨a0, h0⟩ := q2Q (l := xs) (i := 0) (by omega) (by rw [hx]; omega)
 obtain ⟨a1, h1⟩ := q2Q (l := xs) (i := 1) (by omega) (by rw [hx]; omega)
 obtain ⟨n, hn⟩ : ∃ n : Nat, 1 + a0 % 8 = (n : Int) := ⟨(1 + a0 % 8).toNat, by omega⟩
 obtain ⟨m, hm⟩ : ∃ m : Nat, 1 + a1 % 8 = (m : Int) := ⟨(1 + a1 % 8).toNat, by omega⟩
 have n8 : n <= 8 := by omega
 have m8 : m <= 8 := by omega
 have nm : n * m <= 64 := Nat.le_trans (Nat.mul_le_mul n8 m8) (by decide)
 obtain ⟨ws0, hw0, st1⟩ := q4D (fu := fu) (k := k) v1 (n * m) (by omega)
 have mk1 : q3f (n : Int) (m : Int) = true := by unfold q3f; simp; omega
 have cm := q3J (G := G) (F := run G T fu (k + 1)) (δ := [.val (.scr ns), .val (.int 4), .val (.int tp), .val (.lst (xs.map DV.int)), .val (.int n), .val (.int m), .no, .no]) (elt := .bin .Mod (.var 0) (.var 1)) (tg := .one 0) (it := .call 8 [.call 7 [.var 0, .int 1], .bin .Mult (.var 4) (.var 5)]) (fr := [none, some 2]) (f := λ d => match d with | .int x => .int (x % tp) | d => d) (ds := ws0.map DV.int) (cl := .fresh)
  (by
   have q := q0D (G := G) (F := run G T fu (k + 1)) (δ := [.val (.scr ns), .val (.int 4), .val (.int tp), .val (.lst (xs.map DV.int)), .val (.int n), .val (.int m), .no, .no]) (f := 8) (q0d (q0D (f := 7) (q0d (q0a (n := 0) (d := .scr ns) rfl) (q0d (q0g (i := 1)) q0y)) rfl c1) (q0d (q6p (q0a (n := 4) (d := .int n) rfl) (q0a (n := 5) (d := .int m) rfl) mk1) q0y)) rfl (by rw [show ((n : Int) * (m : Int)) = ((n * m : Nat) : Int) by push_cast; rfl]; exact st1)
   rw [q]
   rfl) (by decide) (by rw [List.length_map, hw0]; exact Nat.le_trans nm (by decide)) (λ d hd => by
   obtain ⟨x, hx, rfl⟩ := List.mem_map.mp hd
   exact ⟨[.val (.int x), .val (.int tp)], rfl, q2F (q0a rfl) (q0a rfl) htp⟩)
 rw [List.map_map, show ((λ d => match d with | DV.int x => DV.int (x % tp) | d => d) ∘ DV.int) = DV.int ∘ (λ x : Int => x % tp) from rfl, ← List.map_map] at cm
 obtain ⟨b, hb, hb1, hb2⟩ : ∃ b : Int, (if (ns.length : Int) - 4 < (n : Int) * m then (ns.length : Int) - 4 else (n : Int) * m) = b /\ b <= ((n * m : Nat) : Int) /\ b <= (ns.length : Int) - 4 := by
  refine ⟨_, rfl, ?_, ?_⟩ <;> split <;> push_cast <;> omega
 have hb3 : -1000 <= b := by
  rw [← hb]
  have : (0 : Int) <= (n : Int) * m := Int.mul_nonneg (Int.natCast_nonneg n) (Int.natCast_nonneg m)
  split <;> omega
 obtain ⟨δ1, l1, ws, z, hw, rfl⟩ := q2d (i := 7) (I := λ _ δ => ∃ (ws : List Int) (z : Sv), ws.length = n * m /\ δ = [.val (.scr ns), .val (.int 4), .val (.int tp), .val (.lst (xs.map DV.int)), .val (.int n), .val (.int m), .own (.lst (ws.map DV.int)), z])
  (body := λ δ' => evSs G (run G T fu (k + 1)) fu [.seti 6 (.var 7) (.bin .Mod (.ix (.var 0) (.bin .Add (.var 1) (.var 7))) (.var 2))] δ') b.toNat 0 (δ := [.val (.scr ns), .val (.int 4), .val (.int tp), .val (.lst (xs.map DV.int)), .val (.int n), .val (.int m), .own (.lst ((ws0.map λ x => x % tp).map DV.int)), .no])
  (λ j hj δ I => by
   obtain ⟨ws, z, hw, rfl⟩ := I
   rw [show (0 : Int) + (j : Int) = j by omega]
   have h3 : 4 + j < ns.length := by omega
   have hv : ixD (.scr ns) (.int (4 + (j : Int))) = some (.int ns[4 + j]) := by
    rw [show (4 : Int) + (j : Int) = ((4 + j : Nat) : Int) by push_cast; rfl]
    show ((q1T ns.length ((4 + j : Nat) : Int)).bind λ j => ns[j]?).map DV.int = _
    rw [z2w h3, Option.bind_some, List.getElem?_eq_getElem h3]
    rfl
   refine ⟨_, q0E (q9w (d := .int (ns[4 + j] % tp)) (cl := .strong) (n := j) (cx := .strong) (j := j) rfl (q2F (q1s (q0a rfl) (q2Y (q0a rfl) (q0a rfl)) hv) (q0a rfl) htp) (q0a rfl) rfl (z2w (by rw [List.length_map, hw]; omega))) rfl, ws.set j (ns[4 + j] % tp), .val (.int j), by rw [List.length_set]; exact hw, ?_⟩
   rw [List.map_set]
   rfl) ⟨ws0.map λ x => x % tp, .no, by rw [List.length_map]; exact hw0, rfl⟩
 have em : evE G (run G T fu (k + 1)) (.bi .min [.bin .Mult (.var 4) (.var 5), .bin .Sub (.bi .len [.var 0]) (.var 1)]) [.val (.scr ns), .val (.int 4), .val (.int tp), .val (.lst (xs.map DV.int)), .val (.int n), .val (.int m), .own (.lst ((ws0.map λ x => x % tp).map DV.int)), .no] = some (.ok (.int b) .strong) := by
  have e1 : evE G (run G T fu (k + 1)) (.bi .len [.var 0]) [.val (.scr ns), .val (.int 4), .val (.int tp), .val (.lst (xs.map DV.int)), .val (.int n), .val (.int m), .own (.lst ((ws0.map λ x => x % tp).map DV.int)), .no] = some (.ok (.int ns.length) .strong) := rfl
  rw [z4m (q0d (q6p (q0a (n := 4) (d := .int n) rfl) (q0a (n := 5) (d := .int m) rfl) mk1) (q0d (z1W e1 (q0a (n := 1) (d := .int 4) rfl)) q0y)), ← hb]
  rfl
 have rt := q6X (F := run G T fu (k + 1)) (δ := [.val (.scr ns), .val (.int 4), .val (.int tp), .val (.lst (xs.map DV.int)), .val (.int n), .val (.int m), .own (.lst (ws.map DV.int)), z]) (elt := .sl (.var 1) (.bin .Mult (.var 0) (.var 2)) (.bin .Add (.bin .Mult (.var 0) (.var 2)) (.var 2))) (tg := .one 0) (it := .rng [.var 4]) (fr := [none, some 6, some 5]) (f := λ d => match d with | .int j => .lst (iD ((ws.drop (j.toNat * m)).take m)) | d => d) (ds := upTo 0 n) (cl := .fresh)
  (q7u (q0a rfl) (by omega)) (by decide) (by unfold L2.upTo; rw [List.length_map, List.length_range]; exact Nat.le_trans n8 (by decide)) (λ d hd => by
   obtain ⟨j, hj, rfl⟩ := q6B hd
   rw [show (0 : Int) + (j : Int) = j by omega]
   have mk2 : q3f (j : Int) (m : Int) = true := by unfold q3f; simp; omega
   refine ⟨[.val (.int j), .own (.lst (iD ws)), .val (.int m)], .fresh, rfl, ?_, rfl⟩
   show _ = some (Re.ok (.lst (iD ((ws.drop ((j : Int).toNat * m)).take m))) .fresh)
   rw [Int.toNat_natCast, ← z1Y hw hj]
   exact z6m (q2e rfl) (q6p (q0a rfl) (q0a rfl) mk2) (q2Y (q6p (q0a rfl) (q0a rfl) mk2) (q0a rfl)))
 have hf : (upTo 0 n).map (λ d => match d with | .int j => DV.lst (iD ((ws.drop (j.toNat * m)).take m)) | d => d) = (q5c n m ws).map λ r => .lst (iD r) := by
  unfold L2.upTo q5c
  rw [List.map_map, List.map_map]
  apply List.map_congr_left
  intro j _
  show DV.lst (iD ((ws.drop (((0 : Int) + (j : Int)).toNat * m)).take m)) = _
  rw [show ((0 : Int) + (j : Int)).toNat = j by omega]
  rfl
 rw [hf] at rt
 refine ⟨n, m, q5c n m ws, by omega, n8, by omega, m8, q9s hw, ?_⟩
 rw [q1j (fd := q1w) rfl rfl]
 unfold q1w
 exact q2t (q0E (q0L (q0D (q0d (q0D (q0d (q0a rfl) (q0d q0g q0y)) rfl c0) (q0d q0g q0y)) rfl st0) rfl) (q0E (q0L (d := .int n) (cl := .strong) (by rw [← hn]; exact q2Y q0g (q2F (q1s (q0a rfl) q0g h0) q0g (by decide))) rfl) (q0E (q0L (d := .int m) (cl := .strong) (by rw [← hm]; exact q2Y q0g (q2F (q1s (q0a rfl) q0g h1) q0g (by decide))) rfl) (q0E (q4h cm) (q6l (z6C em (by omega) hb3) (.inr rfl) l1 (q2l (q2b rt)))))))
theorem q5y {n m : Nat} {rows : List (List Int)} (R : Rect n m rows) : Rect m n (flip m rows) := by
 unfold flip
 refine ⟨by rw [List.length_map, List.length_range], λ r hr => ?_⟩
 obtain ⟨j, hj, rfl⟩ := List.mem_map.mp hr
 unfold col
 rw [List.length_map, R.1]
theorem q4U {rows : List (List Int)} {i : Nat} (h : i < rows.length) : ixD (rL rows) (.int i) = some (.lst (iD (rows.getD i []))) := by
 have hh : (i : Int) < ((rows.map λ r => DV.lst (iD r)).length : Int) := by rw [List.length_map]; exact_mod_cast h
 simp only [rL, ixD, atD, q1T, if_pos (Int.natCast_nonneg i), if_pos hh, Option.bind_some, Int.toNat_natCast, List.getElem?_map, List.getElem?_eq_getElem h, Option.map_some, List.getD_eq_getElem?_getD, Option.getD_some]
theorem z3z (rows : List (List Int)) (m j : Nat) (hm : ∀ r ∈ rows, r.length = m) (hj : j < m) (hl : rows.length <= 1000) : evE G F (.comp (.ix (.var 0) (.var 1)) (.one 0) (.var 1) [none, some 0]) [.val (.int j), .val (rL rows)] = some (.ok (.lst (iD (col rows j))) .fresh) := by
 have key : ∀ r ∈ rows, (iD r).getD j (.int 0) = .int (r.getD j 0) := λ r hr => by
  have hjr : j < r.length := by rw [hm r hr]; exact hj
  unfold iD
  rw [List.getD_eq_getElem?_getD, List.getElem?_map, List.getElem?_eq_getElem hjr, List.getD_eq_getElem?_getD, List.getElem?_eq_getElem hjr]
  rfl
 have cm := q3J (G := G) (F := F) (δ := [.val (.int j), .val (rL rows)]) (elt := .ix (.var 0) (.var 1)) (tg := .one 0) (it := .var 1) (fr := [none, some 0]) (f := λ d => match d with | .lst ds => ds.getD j (.int 0) | d => d) (ds := rows.map λ r => .lst (iD r)) (cl := .strong) rfl (by decide)
  (by rw [List.length_map]; exact Nat.le_trans hl (by decide)) (λ d hd => by
   obtain ⟨r, hr, rfl⟩ := List.mem_map.mp hd
   refine ⟨[.val (.lst (iD r)), .val (.int j)], rfl, ?_⟩
   show _ = some (Re.ok ((iD r).getD j (.int 0)) .strong)
   rw [key r hr]
   exact q1s (q0a rfl) (q0a rfl) (z1Z (by rw [hm r hr]; exact hj)))
 rw [List.map_map] at cm
 refine cm.trans ?_
 congr 3
 unfold col
 rw [show iD (rows.map λ r => r.getD j 0) = rows.map (λ r => DV.int (r.getD j 0)) by unfold iD; rw [List.map_map]; rfl]
 exact List.map_congr_left key
theorem z4Q {F : Nat -> List DV -> Option Ou} {δ : List Sv} {es : List ME} {l : List (DV × Cl)} (h : evEs G F es δ = some (.ok l)) (hl : l.length <= mostLen) (hs : stros l = true) : evE G F (.lst es) δ = some (.ok (.lst (l.map (·.1))) .fresh) := by
 have e : evE G F (.lst es) δ = Rs.thn (evEs G F es δ) (λ l => if l.length <= mostLen then some (.ok (.lst (l.map (·.1))) (if stros l then .fresh else .weak)) else none) := rfl
 rw [e, h, q1C, if_pos hl, hs]
 rfl
theorem q3w {α : Type} [BEq α] [LawfulBEq α] {f : α -> DV} (hf : ∀ a b, deq (f a) (f b) = (a == b)) (r : α) : ∀ {l : List α}, r ∈ l -> q3m (f r) (l.map f) = some (l.idxOf r)
 | a :: l, hm => by
  rw [List.map_cons]
  unfold q3m
  rw [hf, List.idxOf_cons]
  cases hb : (a == r) with
  | true => rfl
  | false =>
   have h2 : r ∈ l := by
    rcases List.mem_cons.mp hm with e | e
    ·subst e; simp at hb
    ·exact e
   rw [q3w hf r h2]
   rfl
theorem z3n {α : Type} [BEq α] [LawfulBEq α] {f : α -> DV} (hf : ∀ a b, deq (f a) (f b) = (a == b)) (r : α) (l : List α) : ((l.map f).any λ d => deq d (f r)) = l.elem r := by
 induction l with
 | nil => rfl
 | cons a l ih =>
  rw [List.map_cons, List.any_cons, ih, hf, List.elem_cons]
  have : (a == r) = (r == a) := by
   rw [Bool.eq_iff_iff, beq_iff_eq, beq_iff_eq]
   exact eq_comm
  rw [this]
  cases (r == a) <;> rfl
theorem q6c : ∀ a b : List Int, deqs (iD a) (iD b) = (a == b)
 | [], [] => rfl
 | [], _ :: _ => rfl
 | _ :: _, [] => rfl
 | x :: a, y :: b => by
  have ih := q6c a b
  unfold iD at ih ⊢
  rw [List.map_cons, List.map_cons]
  unfold deqs
  rw [ih]
  unfold deq
  rfl
theorem z2c (a b : List Int) : deq (.lst (iD a)) (.lst (iD b)) = (a == b) := q6c a b
theorem z6j (a b : List Int) : deq (.tup (iD a)) (.tup (iD b)) = (a == b) := q6c a b
theorem z5D (a b : Nat) : deq (.int (a : Int)) (.int (b : Int)) = (a == b) := by
 unfold deq
 rw [Bool.eq_iff_iff, beq_iff_eq, beq_iff_eq]
 omega
theorem q2X {n : Nat} : ∀ {l : List DV}, (∀ d ∈ l, d.plain n = true) -> DV.plains n l = true
 | [], _ => by unfold DV.plains; rfl
 | d :: r, h => by
  unfold DV.plains
  rw [h d (List.mem_cons_self ..), q2X λ x hx => h x (List.mem_cons_of_mem _ hx)]
  rfl
theorem q4r (n : Nat) (a : List Int) : DV.plain (n + 1) (.lst (iD a)) = true := q2G n a
theorem q8B (n : Nat) (a : List Int) : DV.plain (n + 1) (.tup (iD a)) = true := q2G n a
theorem q9D (n : Nat) (a : Int) : DV.plain n (.int a) = true := by cases n <;> (unfold DV.plain; rfl)
theorem q6C (n : Nat) (rows : List (List Int)) : DV.plains (n + 1) (rows.map λ r => .lst (iD r)) = true := q2X λ d hd => by
 obtain ⟨r, _, rfl⟩ := List.mem_map.mp hd
 exact q4r n r
theorem z0x (n : Nat) (rows : List (List Int)) : DV.plains (n + 1) (rows.map λ r => .tup (iD r)) = true := q2X λ d hd => by
 obtain ⟨r, _, rfl⟩ := List.mem_map.mp hd
 exact q8B n r
theorem z6d {rows : List (List Int)} {r : List Int} (h : r ∈ rows) (hl : rows.length <= 1000) : idxD (.lst (rows.map λ r => .lst (iD r))) (.lst (iD r)) = some (.int (rows.idxOf r : Nat)) := by
 unfold idxD
 dsimp only
 rw [q4r 59, q6C 59, decide_eq_true (by rw [List.length_map]; exact Nat.le_trans hl (by decide)), q3w (f := λ r => .lst (iD r)) z2c r h]
 rfl
theorem z6e {rows : List (List Int)} {r : List Int} (h : r ∈ rows) (hl : rows.length <= 1000) : idxD (.tup (rows.map λ r => .tup (iD r))) (.tup (iD r)) = some (.int (rows.idxOf r : Nat)) := by
 unfold idxD
 dsimp only
 rw [q8B 59, z0x 59, decide_eq_true (by rw [List.length_map]; exact Nat.le_trans hl (by decide)), q3w (f := λ r => .tup (iD r)) z6j r h]
 rfl
theorem z6s {l : List Nat} {r : Nat} (h : r ∈ l) (hl : l.length <= 1000) : idxD (.lst (l.map λ (j : Nat) => DV.int (j : Int))) (.int (r : Int)) = some (.int (l.idxOf r : Nat)) := by
 unfold idxD
 dsimp only
 rw [q9D, q2X λ d hd => by obtain ⟨j, _, rfl⟩ := List.mem_map.mp hd; exact q9D 60 _, decide_eq_true (by rw [List.length_map]; exact Nat.le_trans hl (by decide)), q3w (f := λ (j : Nat) => DV.int (j : Int)) z5D r h]
 rfl
theorem q7O {a b : ME} {x y d : DV} {cx cy : Cl} (ha : evE G F a δ = some (.ok x cx)) (hs : seqB x = true) (hb : evE G F b δ = some (.ok y cy)) (h : idxD x y = some d) : evE G F (.idx a b) δ = some (.ok d .strong) := by
 show Re.thn (evE G F a δ) (λ x _ => if seqB x then Re.thn (evE G F b δ) λ y _ => (idxD x y).map λ d => .ok d .strong else none) = _
 rw [ha, q1a, if_pos hs, hb, q1a, h]
 rfl
noncomputable def dR (σ : List (List Int)) (r : List Int) : List (List Int) := if r ∈ σ then σ else σ ++ [r]
noncomputable def firsts (rows : List (List Int)) : List (List Int) := rows.foldl dR []
theorem q9e {α : Type} [BEq α] [LawfulBEq α] {r : α} : ∀ {p q : List α}, r ∉ p -> (p ++ r :: q).idxOf r = p.length
 | [], q, _ => by simp
 | a :: p, q, h => by
  have h1 : ¬ a = r := λ z => h (z ▸ List.mem_cons_self ..)
  have h2 : r ∉ p := λ z => h (List.mem_cons_of_mem _ z)
  have hb : (a == r) = false := by simpa using h1
  rw [List.cons_append, List.idxOf_cons, hb, q9e h2]
  rfl
theorem q8F {α : Type} [BEq α] [LawfulBEq α] {r : α} : ∀ {p q : List α}, r ∈ p -> (p ++ q).idxOf r < p.length
 | a :: p, q, h => by
  rw [List.cons_append, List.idxOf_cons]
  by_cases z : a = r
  ·have hb : (a == r) = true := by simpa using z
   rw [hb]
   exact Nat.succ_pos _
  ·have hb : (a == r) = false := by simpa using z
   rw [hb]
   have : r ∈ p := by
    rcases List.mem_cons.mp h with e | e
    ·exact absurd e.symm z
    ·exact e
   exact Nat.succ_lt_succ (q8F this)
inductive Asc : List Int -> Prop
 | nil : Asc []
 | snoc {l : List Int} {x : Int} : Asc l -> (∀ y ∈ l, y < x) -> Asc (l ++ [x])
theorem q3B (rows : List (List Int)) : ∀ (q p : List (List Int)), p ++ q = rows ->
  (p.map λ r => ((rows.idxOf r : Nat) : Int)).foldl dk [] = (p.foldl dR []).map (λ r => ((rows.idxOf r : Nat) : Int)) -> (∀ x, x ∈ p.foldl dR [] ↔ x ∈ p) -> Asc ((p.foldl dR []).map (λ r => ((rows.idxOf r : Nat) : Int))) -> (p.foldl dR []).length <= p.length -> (p.foldl dR []).Nodup ->
  ((rows.map λ r => ((rows.idxOf r : Nat) : Int)).foldl dk [] = (firsts rows).map (λ r => ((rows.idxOf r : Nat) : Int)) /\ (∀ x, x ∈ firsts rows ↔ x ∈ rows) /\ Asc ((firsts rows).map (λ r => ((rows.idxOf r : Nat) : Int))) /\ (firsts rows).length <= rows.length /\ (firsts rows).Nodup)
 | [], p, e, h1, h2, h3, h4, h5 => by
  rw [List.append_nil] at e
  subst e
  exact ⟨h1, h2, h3, h4, h5⟩
 | r :: q, p, e, h1, h2, h3, h4, h5 => by
  have lt : ∀ x ∈ p, rows.idxOf x < p.length := λ x hx => by rw [← e]; exact q8F hx
  by_cases hr : r ∈ p
  ·have hd : r ∈ p.foldl dR [] := (h2 r).mpr hr
   have e1 : (p ++ [r]).foldl dR [] = p.foldl dR [] := by
    rw [List.foldl_append]
    exact if_pos hd
   refine q3B rows q (p ++ [r]) (by rw [List.append_assoc]; exact e) ?_ ?_ (by rw [e1]; exact h3) (by rw [e1, List.length_append]; omega) (by rw [e1]; exact h5)
   ·rw [List.map_append, List.foldl_append, h1, e1]
    show dk _ _ = _
    unfold dk
    rw [if_pos (List.mem_map.mpr ⟨r, hd, rfl⟩)]
   ·intro x
    rw [e1, h2 x, List.mem_append, List.mem_singleton]
    exact ⟨.inl, λ z => z.elim id λ z => z ▸ hr⟩
  ·have hd : r ∉ p.foldl dR [] := λ z => hr ((h2 r).mp z)
   have hn : rows.idxOf r = p.length := by rw [← e]; exact q9e hr
   have e1 : (p ++ [r]).foldl dR [] = p.foldl dR [] ++ [r] := by
    rw [List.foldl_append]
    exact if_neg hd
   have below : ∀ y ∈ (p.foldl dR []).map (λ r => ((rows.idxOf r : Nat) : Int)), y < ((rows.idxOf r : Nat) : Int) := λ y hy => by
    obtain ⟨x, hx, rfl⟩ := List.mem_map.mp hy
    have := lt x ((h2 x).mp hx)
    rw [hn]
    omega
   refine q3B rows q (p ++ [r]) (by rw [List.append_assoc]; exact e) ?_ ?_ (by rw [e1, List.map_append]; exact .snoc h3 below) (by rw [e1, List.length_append, List.length_append]; simp only [List.length_singleton]; omega) ?_
   ·rw [List.map_append, List.foldl_append, h1, e1, List.map_append]
    show dk _ _ = _
    unfold dk
    rw [if_neg (λ z => Int.lt_irrefl _ (below _ z))]
    rfl
   ·intro x
    rw [e1, List.mem_append, List.mem_append, h2 x]
   ·rw [e1]
    refine List.nodup_append.mpr ⟨h5, by simp, ?_⟩
    intro a ha b hb
    rw [List.mem_singleton] at hb
    subst hb
    exact λ z => hd (z ▸ ha)
theorem q5v {x z : Int} (hz : x < z \/ ¬ x < z) : ∀ {l : List Int}, (∀ y ∈ l, y < z) -> x < z -> insI x (l ++ [z]) = insI x l ++ [z]
 | [], _, h => by show insI x [z] = _; unfold insI; rw [if_pos h]; rfl
 | y :: r, hl, h => by
  rw [List.cons_append]
  unfold insI
  by_cases q : x < y
  ·rw [if_pos q, if_pos q]; rfl
  ·rw [if_neg q, if_neg q, q5v hz (λ y hy => hl y (List.mem_cons_of_mem _ hy)) h]; rfl
theorem q5G {z : Int} : ∀ {l : List Int}, (∀ y ∈ l, y < z) -> q2k (l ++ [z]) = q2k l ++ [z] /\ ∀ y ∈ q2k l, y < z
 | [], _ => ⟨rfl, λ y hy => by cases hy⟩
 | x :: r, h => by
  obtain ⟨h1, h2⟩ := q5G (l := r) λ y hy => h y (List.mem_cons_of_mem _ hy)
  have hx := h x (List.mem_cons_self ..)
  refine ⟨?_, ?_⟩
  ·show insI x (q2k (r ++ [z])) = insI x (q2k r) ++ [z]
   rw [h1]
   exact q5v (.inl hx) h2 hx
  ·have ins : ∀ {l : List Int} {y : Int}, y ∈ insI x l -> y = x \/ y ∈ l := by
    intro l
    induction l with
    | nil => intro y hy; exact .inl (List.mem_singleton.mp hy)
    | cons a l ih =>
     intro y hy
     unfold insI at hy
     split at hy
     ·rcases List.mem_cons.mp hy with e | e
      ·exact .inl e
      ·exact .inr e
     ·rcases List.mem_cons.mp hy with e | e
      ·exact .inr (e ▸ List.mem_cons_self ..)
      ·rcases ih e with e | e
       ·exact .inl e
       ·exact .inr (List.mem_cons_of_mem _ e)
   intro y hy
   rcases ins (show y ∈ insI x (q2k r) from hy) with e | e
   ·rw [e]; exact hx
   ·exact h2 y e
theorem z0k {l : List Int} (h : Asc l) : q2k l = l := by
 induction h with
 | nil => rfl
 | snoc h hb ih => rw [(q5G hb).1, ih]
theorem q3Q (rows : List (List Int)) : q2k ((rows.map λ r => ((rows.idxOf r : Nat) : Int)).foldl dk []) = (firsts rows).map (λ r => ((rows.idxOf r : Nat) : Int)) /\ (rows.map λ r => ((rows.idxOf r : Nat) : Int)).foldl dk [] = (firsts rows).map (λ r => ((rows.idxOf r : Nat) : Int)) /\ (∀ x, x ∈ firsts rows ↔ x ∈ rows) /\ (firsts rows).length <= rows.length /\ (firsts rows).Nodup := by
 obtain ⟨h1, h2, h3, h4, h5⟩ := q3B rows rows [] rfl rfl (λ x => by simp) .nil (Nat.le_refl _) List.nodup_nil
 exact ⟨by rw [h1]; exact z0k h3, h1, h2, h4, h5⟩
theorem z2a {α : Type} [BEq α] [LawfulBEq α] {l : List α} {a b : α} (ha : a ∈ l) (hb : b ∈ l) (h : l.idxOf a = l.idxOf b) : a = b := by
 have h1 := List.getElem_idxOf (List.idxOf_lt_length_iff.mpr ha)
 have h2 := List.getElem_idxOf (List.idxOf_lt_length_iff.mpr hb)
 rw [← h1, ← h2]
 simp only [h]
theorem q8V {α β : Type} [BEq α] [LawfulBEq α] [BEq β] [LawfulBEq β] {g : α -> β} {r : α} : ∀ {l : List α}, (∀ s ∈ l, g s = g r -> s = r) -> (l.map g).idxOf (g r) = l.idxOf r
 | [], _ => rfl
 | a :: l, h => by
  rw [List.map_cons, List.idxOf_cons, List.idxOf_cons, q8V λ s hs => h s (List.mem_cons_of_mem _ hs)]
  by_cases z : a = r
  ·subst z; simp
  ·have h1 : ¬ g a = g r := λ q => z (h a (List.mem_cons_self ..) q)
   have b1 : (g a == g r) = false := by simpa using h1
   have b2 : (a == r) = false := by simpa using z
   rw [b1, b2]
noncomputable def cd (n : Nat) : Nat -> List Int
 | 0 => []
 | l + 1 => ((n / 2 ^ l % 2 : Nat) : Int) :: cd n l
theorem q6S (n : Nat) : ∀ l, (cd n l).length = l
 | 0 => rfl
 | l + 1 => by show (cd n l).length + 1 = _; rw [q6S n l]
theorem q2B {α : Type} {g : DV -> Option Rc} {h f : α -> DV} : ∀ {l : List α}, (∀ a ∈ l, g (h a) = some (.item (f a))) -> q0z g (l.map h) = some (l.map f)
 | [], _ => rfl
 | a :: r, q => by
  rw [List.map_cons, List.map_cons]
  unfold q0z
  rw [q a (List.mem_cons_self ..)]
  show (match q0z g (r.map h) with | none => none | some xs => some (f a :: xs)) = _
  rw [q2B λ x hx => q x (List.mem_cons_of_mem _ hx)]
theorem q2V {α : Type} {l : List α} {h f : α -> DV} {elt it : ME} {tg : Tg} {fr : List (Option Nat)} (hw : q0K (evE G F it δ) = some (.ok (l.map h) cl)) (hc : cl ≠ .weak) (hl : l.length <= mostLen)
  (q : ∀ a ∈ l, ∃ δ' c, tg.bind (h a) (q0v fr δ) = some δ' /\ evE G F elt δ' = some (.ok (f a) c) /\ stro (f a) c = true) : evE G F (.comp elt tg it fr) δ = some (.ok (.lst (l.map f)) .fresh) := by
 show Ri.thn (q0K (evE G F it δ)) (λ ds c => if c = .weak \/ mostLen < ds.length then none else q1h (q0z (λ d => (tg.bind d (q0v fr δ)).bind λ δ' => Rc.of (evE G F elt δ')) ds)) = _
 rw [hw, q4Q, if_neg (by rintro (z | z); exact hc z; rw [List.length_map] at z; omega), q2B (f := f) (λ a ha => ?_)]
 ·rfl
 ·obtain ⟨δ', c, e1, e2, e3⟩ := q a ha
  rw [e1, Option.bind_some, e2]
  show (if stro (f a) c then some (Rc.item (f a)) else none) = _
  rw [if_pos e3]
noncomputable def kI (rows : List (List Int)) : List Int := rows.map λ r => ((rows.idxOf r : Nat) : Int)
theorem q5U (rows : List (List Int)) (hl : rows.length <= 1000) : run G T fu (k + 1) 1 [tT rows] = some (.v (.lst (iD (kI rows))) true) := by
 rw [q1j (fd := q1J) rfl rfl]
 unfold q1J
 have e := q2V (F := run G T fu k) (δ := q0B 1 [tT rows]) (elt := .idx (.var 1) (.var 0)) (tg := .one 0) (it := .var 0) (fr := [none, some 0]) (l := rows) (h := λ r => .tup (iD r)) (f := λ r => .int ((rows.idxOf r : Nat) : Int)) (cl := .strong) rfl (by decide) (Nat.le_trans hl (by decide)) (λ r hr => ⟨[.val (.tup (iD r)), .val (tT rows)], .strong, rfl, q7O (q0a rfl) rfl (q0a rfl) (z6e hr hl), rfl⟩)
 have e2 : (rows.map λ r => DV.int ((rows.idxOf r : Nat) : Int)) = iD (kI rows) := by unfold iD kI; rw [List.map_map]; rfl
 rw [e2] at e
 exact q2t (q2l (q2b e))
theorem z1o {e : ME} {i : Int} (h : evE G F e δ = some (.ok (.int i) cl)) : evE G F (.neg e) δ = some (.ok (.int (-i)) .strong) := by
 unfold evE
 rw [h]
 rfl
theorem z3X {a b c : ME} {i j : Int} (ha : evE G F a δ = some (.ok (.int i) .strong)) (hb : evE G F b δ = some (.ok (.int j) .strong)) (hc : evE G F c δ = some (.ok (.int (-1)) .strong)) (h1 : -1000 <= i) (h2 : i <= 1000) (h3 : -1000 <= j) (h4 : j <= 1000) : q0K (evE G F (.rng [a, b, c]) δ) = some (.ok (q1q i (i - j).toNat) .fresh) := by
 show q0K (Rs.thn (evEs G F [a, b, c] δ) (λ l => (rngD l).map λ ds => .ok (.lst ds) .fresh)) = _
 rw [q0d ha (q0d hb (q0d hc q0y)), q1C]
 have s1 : q0I i = true := by
  unfold q0I
  rw [Bool.and_eq_true, decide_eq_true_iff, decide_eq_true_iff]
  exact ⟨Int.le_trans (by decide) h1, Int.lt_of_le_of_lt h2 (by decide)⟩
 have s2 : q0I j = true := by
  unfold q0I
  rw [Bool.and_eq_true, decide_eq_true_iff, decide_eq_true_iff]
  exact ⟨Int.le_trans (by decide) h3, Int.lt_of_le_of_lt h4 (by decide)⟩
 have s3 : decide (i - j <= (mostLen : Int)) = true := decide_eq_true (Int.le_trans (show i - j <= 2000 by omega) (by decide))
 show q0K ((if q0I i && q0I j && decide (i - j <= (mostLen : Int)) && decide ((-1 : Int) = -1) then some (q1q i (i - j).toNat) else none).map λ ds => .ok (.lst ds) .fresh) = _
 rw [s1, s2, s3]
 rfl
theorem q7T (l : Nat) : q1q (l : Int) (l + 1) = .int l :: q1q ((l : Int) - 1) l := by
 unfold q1q
 rw [List.range_succ_eq_map, List.map_cons, List.map_map, show (l : Int) - ((0 : Nat) : Int) = l by omega]
 congr 1
 apply List.map_congr_left
 intro a _
 show DV.int ((l : Int) - ((a + 1 : Nat) : Int)) = DV.int _
 congr 1
 push_cast
 omega
theorem q6J (n : Nat) (f : DV -> DV) (hf : ∀ j : Nat, f (.int j) = .int ((n / 2 ^ j % 2 : Nat) : Int)) : ∀ l : Nat, (q1q ((l : Int) - 1) l).map f = iD (cd n l)
 | 0 => rfl
 | l + 1 => by
  rw [show ((l + 1 : Nat) : Int) - 1 = (l : Int) by omega, q7T, List.map_cons, q6J n f hf l, hf]
  rfl
theorem z0Q {l : Nat} {d : DV} (h : d ∈ q1q ((l : Int) - 1) l) : ∃ j : Nat, j < l /\ d = .int j := by
 unfold q1q at h
 obtain ⟨a, ha, rfl⟩ := List.mem_map.mp h
 have := List.mem_range.mp ha
 exact ⟨l - 1 - a, by omega, by congr 1; omega⟩
theorem z0R (n l : Nat) (hl : l <= 100) : run G T fu (k + 1) 5 [.int n, .int l] = some (.v (.lst (iD (cd n l))) true) := by
 rw [q1j (fd := q3o) rfl rfl]
 unfold q3o
 have w := z3X (F := run G T fu k) (δ := q0B 2 [.int n, .int l]) (a := .bin .Sub (.var 1) (.int 1)) (b := .neg (.int 1)) (c := .neg (.int 1)) (z1W (q0a (n := 1) (d := .int l) rfl) (q0g (i := 1))) (z1o (q0g (i := 1))) (z1o (q0g (i := 1))) (by omega) (by omega) (by omega) (by omega)
 rw [show ((l : Int) - 1 - -1).toNat = l by omega] at w
 have e := q6X (F := run G T fu k) (δ := q0B 2 [.int n, .int l]) (elt := .bin .BitAnd (.bin .RShift (.var 1) (.var 0)) (.int 1)) (tg := .one 0) (it := .rng [.bin .Sub (.var 1) (.int 1), .neg (.int 1), .neg (.int 1)]) (fr := [none, some 0]) (f := λ d => match d with | .int j => .int ((n / 2 ^ j.toNat % 2 : Nat) : Int) | d => d) w (by decide) (by unfold q1q; rw [List.length_map, List.length_range]; exact Nat.le_trans hl (by decide)) (λ d hd => by
  obtain ⟨j, hj, rfl⟩ := z0Q hd
  refine ⟨[.val (.int j), .val (.int n)], .strong, rfl, ?_, rfl⟩
  have h1 : evE G (run G T fu k) (.bin .RShift (.var 1) (.var 0)) [.val (.int j), .val (.int n)] = some (.ok (.int ((n : Int) / 2 ^ ((j : Int).toNat))) .strong) := q2S (op := .RShift) (x := .int n) (y := .int j) (q0a rfl) (q0a rfl) (show (if (0 : Int) <= (j : Int) then some (Re.ok (DV.int ((n : Int) / 2 ^ ((j : Int).toNat))) Cl.strong) else none) = _ from if_pos (Int.natCast_nonneg j))
  refine q2S h1 q0g ?_
  show some (Re.ok (DV.int (Builtin.bitAnd _ 1)) Cl.strong) = _
  rw [z4h]
  show _ = some (Re.ok (DV.int ((n / 2 ^ ((j : Int).toNat) % 2 : Nat) : Int)) Cl.strong)
  rw [Int.toNat_natCast, Nat.testBit_eq_decide_div_mod_eq]
  have : n / 2 ^ j % 2 = 0 \/ n / 2 ^ j % 2 = 1 := by omega
  rcases this with h | h <;> rw [h] <;> rfl)
 rw [q6J n _ (λ j => by show DV.int ((n / 2 ^ ((j : Int).toNat) % 2 : Nat) : Int) = _; rw [Int.toNat_natCast])] at e
 exact q2t (q2l (q2b e))
theorem q4B : ∀ ns : List Int, ints? (iD ns) = some ns
 | [] => rfl
 | n :: r => by
  show (ints? (iD r)).map (n :: ·) = _
  rw [q4B r]
  rfl
theorem z1T {e : ME} {ns : List Int} (h : evE G F e δ = some (.ok (.lst (iD ns)) cl)) (h1 : ns.length < 4000) (h2 : (ns.foldl dk []).length < 64) : evE G F (.bi .sset [e]) δ = some (.ok (.lst (iD (q2k (ns.foldl dk [])))) .fresh) := by
 have q : evE G F (.bi .sset [e]) δ = Rs.thn (evEs G F [e] δ) (λ l => q8Q l) := rfl
 rw [q, q0d h q0y, q1C]
 unfold q8Q
 dsimp only
 rw [q4B]
 dsimp only
 rw [if_pos ⟨h1, h2⟩]
 rfl
theorem z2W {e : ME} {i : Int} (h : evE G F e δ = some (.ok (.int i) cl)) : evE G F (.meth .bitLength e []) δ = some (.ok (.int (q3V i)) .strong) := by
 unfold evE
 rw [if_pos rfl, h]
 rfl
noncomputable def sd (s : Bool) : DV := if s then .str "row" else .str "column"
noncomputable def lin (m : Nat) (rows : List (List Int)) (s : Bool) : List (List Int) := if s then rows else flip m rows
theorem z4r : cmpD .Eq (.str "row") (.str "row") = some true := by decide +kernel
theorem z4B : cmpD .Eq (.str "column") (.str "row") = some false := by decide +kernel
theorem q9p (rows : List (List Int)) (n m : Nat) (R : Rect n m rows) (hn : 0 < n) (hn2 : n <= 1000) (hm2 : m <= 1000) (s : Bool) : run G T fu (k + 2) 4 [tT rows, sd s] = some (.v (tT (lin m rows s)) false) := by
 rw [q1j (fd := q2o) rfl rfl]
 unfold q2o
 cases s with
 | true => exact q2t (q2l (q2b (cl := .strong) ((z0X (t := true) (q0R (cl := .strong) (q2A (q0a rfl) z1m z4r))).trans ((if_pos rfl).trans (q0a rfl)))))
 | false => exact q2t (q2l (q2b (cl := .strong) ((z0X (t := false) (q0R (cl := .strong) (q2A (q0a rfl) z1m z4B))).trans ((if_neg Bool.false_ne_true).trans (q0D (q0d (q0a rfl) q0y) rfl (q8l rows n m R hn hn2 hm2))))))
noncomputable def lg (n : Nat) : Nat := [0, 0, 1, 2, 2, 3, 3, 3, 3].getD n 0
noncomputable def cds (R : List (List Int)) : List (List Int) := R.map λ r => cd ((firsts R).idxOf r) (lg (firsts R).length)
noncomputable def cL (R : List (List Int)) : DV := rL (cds R)
theorem z2H (n : Nat) : lg n <= 3 := by
 by_cases h : n < 9
 ·have : n = 0 \/ n = 1 \/ n = 2 \/ n = 3 \/ n = 4 \/ n = 5 \/ n = 6 \/ n = 7 \/ n = 8 := by omega
  rcases this with rfl | rfl | rfl | rfl | rfl | rfl | rfl | rfl | rfl <;> decide
 ·unfold lg
  rw [List.getD_eq_getElem?_getD, List.getElem?_eq_none (by simp; omega)]
  decide
theorem q9C {n : Nat} (h0 : 0 < n) (h : n <= 8) : q3V ((n : Int) - 1) = (lg n : Int) /\ n <= 2 ^ lg n /\ ixD (.lst [.int 0, .int 0, .int 1, .int 2, .int 2, .int 3, .int 3, .int 3, .int 3]) (.int n) = some (.int (lg n : Int)) := by
 have : n = 1 \/ n = 2 \/ n = 3 \/ n = 4 \/ n = 5 \/ n = 6 \/ n = 7 \/ n = 8 := by omega
 rcases this with rfl | rfl | rfl | rfl | rfl | rfl | rfl | rfl <;> exact ⟨by decide +kernel, by decide, rfl⟩
theorem q4k {R : List (List Int)} (h : 0 < R.length) : 0 < (firsts R).length := by
 obtain ⟨r, hr⟩ := List.exists_mem_of_length_pos h
 exact List.length_pos_of_mem (((q3Q R).2.2.1 r).mpr hr)
theorem z3r (σ : List (List Int)) (r : List Int) : cmpD .NotIn (.lst (iD r)) (.lst (σ.map λ r => .lst (iD r))) = some (!σ.elem r) := by
 show (if DV.plain 60 (.lst (iD r)) && DV.plains 60 (σ.map λ r => .lst (iD r)) then some (!(σ.map λ r => DV.lst (iD r)).any λ d => deq d (.lst (iD r))) else none) = _
 rw [q4r 59, q6C 59, z3n (f := λ r => .lst (iD r)) z2c]
 rfl
theorem z1J (R : List (List Int)) : (cds R).length = R.length := by unfold cds; rw [List.length_map]
noncomputable def hd (l : List Nat) : DV := match l with | [] => .non | c :: _ => .int c
theorem q8U {e : ME} (h : evE G F e δ = some (.ok (.lst ds) .strong)) : evE G F (.bi .list [e]) δ = some (.ok (.lst ds) .fresh) := by
 have q : evE G F (.bi .list [e]) δ = Rs.thn (evEs G F [e] δ) (λ l => q7i l) := rfl
 rw [q, q0d h q0y]
 rfl
theorem rep0 : ∀ L : Nat, (List.replicate L [DV.int 0]).flatten = iD (List.replicate L 0)
 | 0 => rfl
 | L + 1 => by rw [List.replicate_succ, List.flatten_cons, rep0 L]; rfl
theorem z2Z {e : ME} {n : Int} {ns : List Int} (h : evE G F e δ = some (.ok (.lst (iD (n :: ns))) cl)) : evE G F (.bi .max [e]) δ = some (.ok (.int (maxI n ns)) .strong) := by
 have q : evE G F (.bi .max [e]) δ = Rs.thn (evEs G F [e] δ) (λ l => maxD l) := rfl
 rw [q, q0d h q0y, q1C]
 unfold maxD
 dsimp only
 rw [q4B]
theorem Rect.set (rc : Rect N M R) {r : List Int} (h : r.length = M) (i : Nat) : Rect N M (R.set i r) := by
 refine ⟨by rw [List.length_set]; exact rc.1, λ x hx => ?_⟩
 rcases List.mem_or_eq_of_mem_set hx with e | e
 ·exact rc.2 x e
 ·rw [e]; exact h
theorem q4R {e : ME} {r : List Int} (hr : 0 < r.length) (h : evE G F e δ = some (.ok (.lst (iD r)) cl)) : ∃ v, evE G F (.bi .max [e]) δ = some (.ok (.int v) .strong) := by
 cases r with
 | nil => cases hr
 | cons n ns => exact ⟨_, z2Z h⟩
theorem q9y : ∀ a b : List Int, zpD (iD a) (iD b) = (a.zip b).map λ p => .tup [.int p.1, .int p.2]
 | [], _ => by unfold iD; cases ‹List Int› <;> rfl
 | x :: a, [] => rfl
 | x :: a, y :: b => by
  have ih := q9y a b
  show DV.tup [.int x, .int y] :: zpD (iD a) (iD b) = _
  rw [ih]
  rfl
theorem put (rc : Rect N M R) {i : Nat} (hi : i < N) {r' : List Int} (hr : r'.length = M) {e : ME} {xs c a b w : Sv} (he : evE G F e [.own (rL R), xs, c, .val (.int i), a, b, w] = some (.ok (.lst (iD r')) .fresh)) :
  evSs G F fu [.seti 0 (.var 3) e] [.own (rL R), xs, c, .val (.int i), a, b, w] = some (.nx [.own (rL (R.set i r')), xs, c, .val (.int i), a, b, w]) := by
 refine q0E (q9w (d := .lst (iD r')) (cl := .fresh) (n := i) (cx := .strong) (j := i) (ds := R.map λ r => .lst (iD r)) rfl he (q0a rfl) rfl (z2w (by rw [List.length_map, rc.1]; exact hi))) ?_
 unfold rL
 rw [List.map_set]
 rfl
noncomputable def mxB : List MS := [.iff (.cmp .Eq (.var 6) (.int 0)) [.seti 0 (.var 3) (.bi .list [.var 4])] [], .iff (.and [.cmp .Eq (.var 6) (.int 1), .cmp .Lt (.bin .Add (.bi .max [.var 4]) (.bi .max [.var 5])) (.int 10)]) [.seti 0 (.var 3) (.comp (.bin .Add (.var 0) (.var 1)) (.many [0, 1]) (.zp (.var 4) (.var 5)) [none, none])] [], .iff (.and [.cmp .Eq (.var 6) (.int 2), .cmp .Lt (.bi .max [.var 4]) (.int 5)]) [.seti 0 (.var 3) (.comp (.bin .Mult (.int 2) (.var 0)) (.one 0) (.var 4) [none])] [], .iff (.cmp .Eq (.var 6) (.int 3)) [.seti 0 (.var 3) (.bin .Mult (.lst [.int 0]) (.bi .len [.var 4]))] []]
theorem z0o {xs c a b w : Sv} {i : Nat} {t : ME} {e : ME} {rest : List MS} {P : Option Out -> Prop} (rc : Rect N M R) (hi : i < N) (bb : Bool) (ht : tstD (evE G F t [.own (rL R), xs, c, .val (.int i), a, b, w]) = some (.ok bb))
  (he : ∃ r' : List Int, r'.length = M /\ evE G F e [.own (rL R), xs, c, .val (.int i), a, b, w] = some (.ok (.lst (iD r')) .fresh)) (next : ∀ R' : List (List Int), Rect N M R' -> P (evSs G F fu rest [.own (rL R'), xs, c, .val (.int i), a, b, w])) :
  P (evSs G F fu (.iff t [.seti 0 (.var 3) e] [] :: rest) [.own (rL R), xs, c, .val (.int i), a, b, w]) := by
 cases bb with
 | false => rw [q2i ht rfl]; exact next R rc
 | true =>
  obtain ⟨r', h1, h2⟩ := he
  rw [q6x ht (put rc hi h1 h2) rfl]
  exact next _ (rc.set h1 i)
theorem q9K (rc : Rect N M R) (m0 : 0 < M) (m8 : M <= 8) {i : Nat} (hi : i < N) (xs c : Sv) (r1 r2 : List Int) (l1 : r1.length = M) (l2 : r2.length = M) (w : Int) :
  ∃ R', Rect N M R' /\ evSs G F fu mxB [.own (rL R), xs, c, .val (.int i), .val (.lst (iD r1)), .val (.lst (iD r2)), .val (.int w)] = some (.nx [.own (rL R'), xs, c, .val (.int i), .val (.lst (iD r1)), .val (.lst (iD r2)), .val (.int w)]) := by
 have m1 : M <= mostLen := Nat.le_trans m8 (by decide)
 have k4 : ∀ R : List (List Int), evE G F (.var 4) [.own (rL R), xs, c, .val (.int i), .val (.lst (iD r1)), .val (.lst (iD r2)), .val (.int w)] = some (.ok (.lst (iD r1)) .strong) := λ R => q0a rfl
 have k5 : ∀ R : List (List Int), evE G F (.var 5) [.own (rL R), xs, c, .val (.int i), .val (.lst (iD r1)), .val (.lst (iD r2)), .val (.int w)] = some (.ok (.lst (iD r2)) .strong) := λ R => q0a rfl
 have tw : ∀ (R : List (List Int)) (j : Int), evE G F (.cmp .Eq (.var 6) (.int j)) [.own (rL R), xs, c, .val (.int i), .val (.lst (iD r1)), .val (.lst (iD r2)), .val (.int w)] = some (.ok (.bl (w == j)) .strong) := λ R j => b_eq (q0a rfl) q0g
 have ta : ∀ (R : List (List Int)) (j : Int) (e : ME), (∃ t, evE G F e [.own (rL R), xs, c, .val (.int i), .val (.lst (iD r1)), .val (.lst (iD r2)), .val (.int w)] = some (.ok (.bl t) .strong)) -> ∃ t, tstD (evE G F (.and [.cmp .Eq (.var 6) (.int j), e]) [.own (rL R), xs, c, .val (.int i), .val (.lst (iD r1)), .val (.lst (iD r2)), .val (.int w)]) = some (.ok t) := λ R j e ⟨t, he⟩ => by
  have q := tw R j
  cases z : (w == j) with
  | false => rw [z] at q; exact ⟨false, q0R (q9P (t := true) q)⟩
  | true => rw [z] at q; exact ⟨t, q0R (q7a q he)⟩
 unfold mxB
 refine z0o (P := λ o => ∃ R', Rect N M R' /\ o = some (.nx [.own (rL R'), xs, c, .val (.int i), .val (.lst (iD r1)), .val (.lst (iD r2)), .val (.int w)])) rc hi _ (q0R (tw R 0)) ⟨r1, l1, q8U (k4 R)⟩ λ R1 rc1 => ?_
 obtain ⟨v1, e1⟩ := q4R (F := F) (r := r1) (by omega) (k4 R1)
 obtain ⟨v2, e2⟩ := q4R (F := F) (r := r2) (by omega) (k5 R1)
 obtain ⟨t1, ht1⟩ := ta R1 1 (.cmp .Lt (.bin .Add (.bi .max [.var 4]) (.bi .max [.var 5])) (.int 10)) ⟨_, b_lt (q2Y e1 e2) q0g⟩
 refine z0o (P := λ o => ∃ R', Rect N M R' /\ o = some (.nx [.own (rL R'), xs, c, .val (.int i), .val (.lst (iD r1)), .val (.lst (iD r2)), .val (.int w)])) rc1 hi t1 ht1 ⟨(r1.zip r2).map λ p => p.1 + p.2, by rw [List.length_map, List.length_zip, l1, l2]; omega, ?_⟩ λ R2 rc2 => ?_
 ·have cm := q2V (F := F) (δ := [.own (rL R1), xs, c, .val (.int i), .val (.lst (iD r1)), .val (.lst (iD r2)), .val (.int w)]) (elt := .bin .Add (.var 0) (.var 1)) (tg := .many [0, 1]) (it := .zp (.var 4) (.var 5)) (fr := [none, none]) (l := r1.zip r2) (h := λ p => .tup [.int p.1, .int p.2]) (f := λ p => .int (p.1 + p.2)) (cl := .strong) (by
   show q0K (Re.thn (evE G F (.var 4) _) (λ x c => Re.thn (evE G F (.var 5) _) λ y c' => zipD x y c c')) = _
   rw [k4 R1, q1a, k5 R1, q1a]
   show some (Ri.ok (zpD (iD r1) (iD r2)) _) = _
   rw [q9y]
   rfl) (by decide) (by rw [List.length_zip, l1, l2]; omega) (λ p hp => ⟨[.val (.int p.1), .val (.int p.2)], .strong, rfl, q2Y (q0a rfl) (q0a rfl), rfl⟩)
  rw [show ((r1.zip r2).map λ p => DV.int (p.1 + p.2)) = iD ((r1.zip r2).map λ p => p.1 + p.2) by unfold iD; rw [List.map_map]; rfl] at cm
  exact cm
 obtain ⟨v3, e3⟩ := q4R (F := F) (r := r1) (by omega) (k4 R2)
 obtain ⟨t2, ht2⟩ := ta R2 2 (.cmp .Lt (.bi .max [.var 4]) (.int 5)) ⟨_, b_lt e3 q0g⟩
 refine z0o (P := λ o => ∃ R', Rect N M R' /\ o = some (.nx [.own (rL R'), xs, c, .val (.int i), .val (.lst (iD r1)), .val (.lst (iD r2)), .val (.int w)])) rc2 hi t2 ht2 ⟨r1.map λ x => 2 * x, by rw [List.length_map, l1], ?_⟩ λ R3 rc3 => ?_
 ·have m2 : ∀ x : Int, q3f 2 x = true := λ x => by unfold q3f; simp
  have cm := q2V (F := F) (δ := [.own (rL R2), xs, c, .val (.int i), .val (.lst (iD r1)), .val (.lst (iD r2)), .val (.int w)]) (elt := .bin .Mult (.int 2) (.var 0)) (tg := .one 0) (it := .var 4) (fr := [none]) (l := r1) (h := λ x => .int x) (f := λ x => .int (2 * x)) (cl := .strong) rfl (by decide) (by rw [l1]; exact m1) (λ x hx => ⟨[.val (.int x)], .strong, rfl, q6p q0g (q0a rfl) (m2 x), rfl⟩)
  rw [show (r1.map λ x => DV.int (2 * x)) = iD (r1.map λ x => 2 * x) by unfold iD; rw [List.map_map]; rfl] at cm
  exact cm
 refine z0o (P := λ o => ∃ R', Rect N M R' /\ o = some (.nx [.own (rL R'), xs, c, .val (.int i), .val (.lst (iD r1)), .val (.lst (iD r2)), .val (.int w)])) rc3 hi _ (q0R (tw R3 3)) ⟨List.replicate M 0, List.length_replicate .., ?_⟩ λ R4 rc4 => ⟨R4, rc4, rfl⟩
 have el := q1g (k4 R3)
 rw [show (iD r1).length = M by unfold iD; rw [List.length_map, l1]] at el
 have hh : ([DV.int 0] : List DV).length * (M : Int).toNat <= mostLen /\ -(2 ^ 63) <= (M : Int) /\ (M : Int) < 2 ^ 63 := ⟨by rw [Int.toNat_natCast]; exact Nat.le_trans (show 1 * M <= 8 by omega) (by decide), by omega, by omega⟩
 have e0 := q2S (op := .Mult) (a := .lst [.int 0]) (x := .lst [.int 0]) (cx := .fresh) rfl el (show (if ([DV.int 0] : List DV).length * (M : Int).toNat <= mostLen /\ -(2 ^ 63) <= (M : Int) /\ (M : Int) < 2 ^ 63 then some (Re.ok (.lst (List.replicate (M : Int).toNat [DV.int 0]).flatten) (Cl.anew .fresh .fresh)) else none) = _ from if_pos hh)
 rw [Int.toNat_natCast, rep0] at e0
 exact e0
theorem z2y (rc : Rect N M R) (n0 : 0 < N) (n8 : N <= 8) (m0 : 0 < M) (m8 : M <= 8) (xs : List Int) (hx : xs.length = 20) : ∃ R', Rect N M R' /\ run G T fu (k + 1) 11 [rL R, .lst (iD xs)] = some (.v (rL R') true) := by
 rw [q1j (fd := q1t) rfl rfl]
 obtain ⟨a0, h0⟩ := q2Q (l := xs) (i := 0) (by omega) (by rw [hx]; omega)
 obtain ⟨b, hb⟩ : ∃ b : Nat, a0 % 4 = (b : Int) := ⟨(a0 % 4).toNat, by omega⟩
 have hb4 : b < 4 := by omega
 obtain ⟨δ1, l1, R', z2, z3, z4, z5, z6, rc', rfl⟩ := q2d (i := 2) (I := λ _ δ => ∃ (R' : List (List Int)) (z2 z3 z4 z5 z6 : Sv), Rect N M R' /\ δ = [.own (rL R'), .val (.lst (iD xs)), z2, z3, z4, z5, z6])
  (body := λ δ' => evSs G (run G T fu k) fu ([.set 3 false (.bin .Mod (.ix (.var 1) (.bin .Add (.int 1) (.var 2))) (.bi .len [.var 0])), .set 4 false (.ix (.var 0) (.bin .Mod (.ix (.var 1) (.bin .Add (.int 5) (.var 2))) (.bi .len [.var 0]))), .set 5 false (.ix (.var 0) (.bin .Mod (.ix (.var 1) (.bin .Add (.int 9) (.var 2))) (.bi .len [.var 0]))), .set 6 false (.bin .Mod (.ix (.var 1) (.bin .Add (.int 13) (.var 2))) (.int 4))] ++ mxB) δ') b 0 (δ := [.own (rL R), .val (.lst (iD xs)), .no, .no, .no, .no, .no])
  (λ j hj δ I => by
   obtain ⟨R', z2, z3, z4, z5, z6, rc', rfl⟩ := I
   rw [show (0 : Int) + (j : Int) = j by omega]
   obtain ⟨a1, h1⟩ := q2Q (l := xs) (i := 1 + (j : Int)) (by omega) (by rw [hx]; omega)
   obtain ⟨a5, h5⟩ := q2Q (l := xs) (i := 5 + (j : Int)) (by omega) (by rw [hx]; omega)
   obtain ⟨a9, h9⟩ := q2Q (l := xs) (i := 9 + (j : Int)) (by omega) (by rw [hx]; omega)
   obtain ⟨a13, h13⟩ := q2Q (l := xs) (i := 13 + (j : Int)) (by omega) (by rw [hx]; omega)
   have md : ∀ a : Int, ∃ i : Nat, a % (N : Int) = (i : Int) /\ i < N := λ a => by
    have p1 := Int.emod_nonneg a (show (N : Int) ≠ 0 by omega)
    have p2 := Int.emod_lt_of_pos a (show (0 : Int) < N by omega)
    exact ⟨(a % (N : Int)).toNat, by omega, by omega⟩
   obtain ⟨i1, e1, lt1⟩ := md a1
   obtain ⟨i5, e5, lt5⟩ := md a5
   obtain ⟨i9, e9, lt9⟩ := md a9
   have le : ∀ r : List Sv, evE G (run G T fu k) (.bi .len [.var 0]) (.own (rL R') :: r) = some (.ok (.int N) .strong) := λ r => by
    have q := q1g (q2e (G := G) (F := run G T fu k) (n := 0) (d := rL R') (δ := .own (rL R') :: r) rfl)
    rw [List.length_map, rc'.1] at q
    exact q
   have l5 : i5 < R'.length := by rw [rc'.1]; exact lt5
   have l9 : i9 < R'.length := by rw [rc'.1]; exact lt9
   have np : (0 : Int) < (N : Int) := by omega
   obtain ⟨R2, rc2, mt⟩ := q9K (fu := fu) (F := run G T fu k) rc' m0 m8 lt1 (.val (.lst (iD xs))) (.val (.int j)) (R'.getD i5 []) (R'.getD i9 []) (rc'.2 _ (q4Z l5)) (rc'.2 _ (q4Z l9)) (a13 % 4)
   refine ⟨_, q0E (q0L (d := .int i1) (cl := .strong) (by rw [← e1]; exact q2F (q1s (q0a rfl) (q2Y q0g (q0a rfl)) h1) (le _) np) rfl) (q0E (q0L (d := .lst (iD (R'.getD i5 []))) (cl := .strong) (q1s (y := .int i5) (cy := .strong) (q2e (d := rL R') rfl) (by rw [← e5]; exact q2F (q1s (q0a rfl) (q2Y q0g (q0a rfl)) h5) (le _) np) (q4U l5)) rfl) (q0E (q0L (d := .lst (iD (R'.getD i9 []))) (cl := .strong) (q1s (y := .int i9) (cy := .strong) (q2e (d := rL R') rfl) (by rw [← e9]; exact q2F (q1s (q0a rfl) (q2Y q0g (q0a rfl)) h9) (le _) np) (q4U l9)) rfl)
    (q0E (q0L (d := .int (a13 % 4)) (cl := .strong) (q2F (q1s (q0a rfl) (q2Y q0g (q0a rfl)) h13) q0g (by decide)) rfl) mt))), R2, _, _, _, _, _, rc2, rfl⟩) ⟨R, .no, .no, .no, .no, .no, rc, rfl⟩
 refine ⟨R', rc', ?_⟩
 have cm := q2V (F := run G T fu k) (δ := q0B 7 [rL R, .lst (iD xs)]) (elt := .bi .list [.var 0]) (tg := .one 0) (it := .var 0) (fr := [none]) (l := R) (h := λ r => .lst (iD r)) (f := λ r => .lst (iD r)) (cl := .strong) rfl (by decide) (by rw [rc.1]; exact Nat.le_trans n8 (by decide)) (λ r hr => ⟨[.val (.lst (iD r))], .fresh, rfl, q8U (q0a rfl), rfl⟩)
 have w : q0K (evE G (run G T fu k) (.rng [.bin .Mod (.ix (.var 1) (.int 0)) (.int 4)]) [.own (rL R), .val (.lst (iD xs)), .no, .no, .no, .no, .no]) = some (.ok (upTo 0 b) .fresh) := q7u (by rw [← hb]; exact q2F (q1s (q0a rfl) q0g h0) q0g (by decide)) (by omega)
 unfold q1t
 exact q2t (q0E (q4h cm) (q6l w (.inr rfl) l1 (q2l (q2b (q2e (d := rL R') rfl)))))
end k51
end
section
namespace k51
open PySem L2
section
variable {G : Gs} {F : Nat -> List DV -> Option Ou} {δ : List Sv} {fu : Nat} {d : DV} {r : List MS}
theorem z4C (h : evSs G F fu r δ = some (.rtt d)) : Ou.of (evSs G F fu r δ) = some (.t d) := by rw [h]; rfl
theorem z4f {m : MS} (h : evS G F fu m δ = some (.rtt d)) : evSs G F fu (m :: r) δ = some (.rtt d) := by
 unfold evSs
 rw [h]
theorem z0F {f : Nat} {es : List ME} {l : List (DV × Cl)} {xs : List DV} (ha : evEs G F es δ = some (.ok l)) (hs : (l.all λ p => p.2 == .strong || p.2 == .fresh) = true) (h : F f (l.map (·.1)) = some (.t (.lst xs))) : evE G F (.call f es) δ = some (.ok (.lst xs) .fresh) := by
 show Rs.thn (evEs G F es δ) (λ l => q1f F f l) = _
 rw [ha]
 show q1f F f l = _
 unfold q1f
 rw [h, hs]
 rfl
theorem q6r {tg : Tg} {body : List Sv -> Option Out} {d : DV} {r : List DV} {δ1 δ2 : List Sv} (h1 : tg.bind d δ = some δ1) (h2 : body δ1 = some (.nx δ2)) : q1r tg body (d :: r) δ = q1r tg body r δ2 := by
 show (match tg.bind d δ with | none => none | some δ1 => match body δ1 with | some (.nx δ2) => q1r tg body r δ2 | o => o) = _
 rw [h1]
 show (match body δ1 with | some (.nx δ2) => q1r tg body r δ2 | o => o) = _
 rw [h2]
theorem z6D {a b c : ME} {cx cy : Cl} {o : Option Re} (ha : evE G F a δ = some (.ok (.bl false) cx)) (hb : evE G F b δ = some (.ok (.bl false) cy)) (hc : evE G F c δ = o) : evE G F (.or [a, b, c]) δ = o := by
 have e : evE G F (.or [a, b, c]) δ = Re.thn (evE G F a δ) (λ x cc => orD x cc (Re.thn (evE G F b δ) λ y cd => orD y cd (evE G F c δ))) := by
  rw [evE, evOr, evOr, evOr]; rfl
 rw [e, ha, q1a]
 show Re.thn (evE G F b δ) (λ y cd => orD y cd (evE G F c δ)) = _
 rw [hb, q1a]
 exact hc
end
variable {fu k : Nat} {F : Nat -> List DV -> Option Ou} {δ : List Sv} {ds : List DV} {cl : Cl} {N M : Nat} {R : List (List Int)}
theorem z6x (r : List Int) : Rc.ofF (some (.ok (.lst (iD r)) .fresh)) = some (.item (.lst (iD r))) := by
 show (match ints? (iD r) with | some _ => some (Rc.item (.lst (iD r))) | none => none) = _
 rw [q4B]
theorem z3i {α : Type} {l : List α} {h : α -> DV} {f : α -> List Int} {elt it : ME} {tg : Tg} {fr : List (Option Nat)} (hw : q0K (evE G F it δ) = some (.ok (l.map h) cl)) (hc : cl ≠ .weak) (hl : l.length <= mostLen)
  (q : ∀ a ∈ l, ∃ δ', tg.bind (h a) (q0v fr δ) = some δ' /\ evE G F elt δ' = some (.ok (.lst (iD (f a))) .fresh)) : evS G F fu (.retc elt tg it fr) δ = some (.rtt (.lst (l.map λ a => .lst (iD (f a))))) := by
 unfold evS
 rw [hw]
 show (if cl = .weak \/ mostLen < (l.map h).length then none else (q0z (λ d => (tg.bind d (q0v fr δ)).bind λ δ' => Rc.ofF (evE G F elt δ')) (l.map h)).map λ xs => Out.rtt (.lst xs)) = _
 rw [if_neg (by rintro (z | z); exact hc z; rw [List.length_map] at z; omega), q2B (f := λ a => .lst (iD (f a))) (λ a ha => ?_)]
 ·rfl
 ·obtain ⟨δ', e1, e2⟩ := q a ha
  rw [e1, Option.bind_some, e2, z6x]
theorem q5V (tb s : DV) (R : List (List Int)) (h0 : 0 < R.length) (h8 : R.length <= 8) (hl : run G T fu (k + 2) 4 [tb, s] = some (.v (tT R) false)) : run G T fu (k + 3) 2 [tb, s] = some (.t (cL R)) := by
 rw [q1j (fd := q4I) rfl rfl]
 obtain ⟨f1, f2, f3, f4, f5⟩ := q3Q R
 have fp := q4k h0
 obtain ⟨b1, b2, b3⟩ := q9C fp (show (firsts R).length <= 8 by omega)
 have rk := q5U (fu := fu) (k := k + 1) R (by omega)
 have kl : (kI R).length < 4000 := by unfold kI; rw [List.length_map]; omega
 have kd : ((kI R).foldl dk []).length < 64 := by
  show ((R.map λ r => ((R.idxOf r : Nat) : Int)).foldl dk []).length < 64
  rw [f2, List.length_map]
  omega
 have s1 : iD (q2k ((kI R).foldl dk [])) = ((firsts R).map (λ r => R.idxOf r)).map λ (j : Nat) => DV.int (j : Int) := by
  show iD (q2k ((R.map λ r => ((R.idxOf r : Nat) : Int)).foldl dk [])) = _
  rw [f1]
  unfold iD
  rw [List.map_map, List.map_map]
  rfl
 have cm := z3i (fu := fu) (F := run G T fu (k + 2)) (δ := [.val (tb), .val s, .val (.lst (iD (kI R))), .val (.lst (((firsts R).map (λ r => R.idxOf r)).map λ (j : Nat) => DV.int (j : Int))), .val (.int (lg (firsts R).length : Int))]) (elt := .call 5 [.idx (.var 1) (.var 0), .var 2]) (tg := .one 0) (it := .var 2) (fr := [none, some 3, some 4]) (l := R) (h := λ r => .int ((R.idxOf r : Nat) : Int)) (f := λ r => cd ((firsts R).idxOf r) (lg (firsts R).length)) (cl := .strong)
  (by rw [q0a (d := .lst (iD (kI R))) rfl]; unfold iD kI; rw [List.map_map]; rfl) (by decide) (Nat.le_trans h8 (by decide)) (λ r hr => by
   refine ⟨[.val (.int ((R.idxOf r : Nat) : Int)), .val (.lst (((firsts R).map (λ r => R.idxOf r)).map λ (j : Nat) => DV.int (j : Int))), .val (.int (lg (firsts R).length : Int))], rfl, ?_⟩
   have hm : R.idxOf r ∈ (firsts R).map (λ r => R.idxOf r) := List.mem_map.mpr ⟨r, (f3 r).mpr hr, rfl⟩
   have ei := z6s hm (by rw [List.length_map]; omega)
   rw [q8V (g := λ r => R.idxOf r) (r := r) (l := firsts R) λ x hx e => z2a ((f3 x).mp hx) hr e] at ei
   exact q0D (fr := true) (q0d (q7O (q0a rfl) rfl (q0a rfl) ei) (q0d (q0a rfl) q0y)) rfl (z0R ((firsts R).idxOf r) (lg (firsts R).length) (Nat.le_trans (z2H _) (by decide))))
 have e2 : (R.map λ r => DV.lst (iD (cd ((firsts R).idxOf r) (lg (firsts R).length)))) = (cds R).map λ c => .lst (iD c) := by unfold cds; rw [List.map_map]; rfl
 rw [e2] at cm
 have se := z1T (F := run G T fu (k + 2)) (δ := [.val (tb), .val s, .val (.lst (iD (kI R))), .no, .no]) (e := .var 2) (ns := kI R) (cl := .strong) (q0a rfl) kl kd
 rw [s1] at se
 have be := z2W (F := run G T fu (k + 2)) (z1W (q1g (q0a (n := 3) (d := .lst (((firsts R).map (λ r => R.idxOf r)).map λ (j : Nat) => DV.int (j : Int))) (δ := [.val (tb), .val s, .val (.lst (iD (kI R))), .val (.lst (((firsts R).map (λ r => R.idxOf r)).map λ (j : Nat) => DV.int (j : Int))), .no]) rfl)) (q0g (i := 1)))
 rw [List.length_map, List.length_map, b1] at be
 unfold q4I
 exact z4C (q0E (q0L (cl := .fresh) (q0D (fr := true) (q0d (q0D (q0d (q0a rfl) (q0d (q0a rfl) q0y)) rfl hl) q0y) rfl rk) rfl) (q0E (q0L se rfl) (q0E (q0L be rfl) (z4f cm))))
theorem z3E {es : List ME} {l : List (DV × Cl)} {R : List (List Int)} (ha : evEs G F es δ = some (.ok l)) (hs : (l.all λ p => p.2 == .strong || p.2 == .fresh) = true) (h : F 2 (l.map (·.1)) = some (.t (cL R))) : evE G F (.call 2 es) δ = some (.ok (cL R) .fresh) := z0F ha hs h
theorem cds0 (h0 : 0 < R.length) : ∃ c cs, cds R = c :: cs /\ c.length = lg (firsts R).length := by
 cases R with
 | nil => cases h0
 | cons r R => exact ⟨_, _, rfl, q6S _ _⟩
theorem at0 {c : List Int} {cs : List (List Int)} : ixD (rL (c :: cs)) (.int 0) = some (.lst (iD c)) := q4U (rows := c :: cs) (i := 0) (by simp)
theorem q3h (r : List Int) : (iD r).length = r.length := by unfold iD; rw [List.length_map]
theorem q8u (tb s : DV) (R : List (List Int)) (h0 : 0 < R.length) (h : run G T fu k 2 [tb, s] = some (.t (cL R))) : run G T fu (k + 1) 3 [tb, s] = some (.v (.int (lg (firsts R).length : Int)) false) := by
 rw [q1j (fd := q1v) rfl rfl]
 unfold q1v
 obtain ⟨c, cs, e1, e2⟩ := cds0 h0
 have t := q1g (q1s (z3E (F := run G T fu k) (δ := q0B 2 [tb, s]) (R := R) (es := [.var 0, .var 1]) (l := [(tb, .strong), (s, .strong)]) rfl rfl h) (q0g (i := 0)) (show ixD (cL R) (.int 0) = some (.lst (iD c)) by unfold cL; rw [e1]; exact at0))
 rw [q3h, e2] at t
 exact q2t (q2l (q2b t))
theorem q6T : ∀ (q σ : List (List Int)), ∃ t, q.foldl dR σ = σ ++ t
 | [], σ => ⟨[], by simp⟩
 | r :: q, σ => by
  obtain ⟨t, e⟩ := q6T q (dR σ r)
  rw [List.foldl_cons, e]
  unfold dR
  split
  ·exact ⟨t, rfl⟩
  ·exact ⟨[r] ++ t, by rw [List.append_assoc]⟩
noncomputable def nums (Fs : List (List Int)) (q : List (List Int)) : List Int := q.map λ r => ((Fs.idxOf r : Nat) : Int)
theorem q6M (A E1 E2 E3 E4 E5 : Sv) : ∀ (q σ : List (List Int)) (ns : List Int) (z : Sv), σ.length + q.length <= 1000 -> ns.length + q.length <= 1000 -> ∃ z', q1r (.one 3) (λ δ' => evSs G F fu [.iff (.cmp .NotIn (.var 3) (.var 1)) [.app 1 (.var 3)] [], .app 2 (.idx (.var 1) (.var 3))] δ') (q.map λ r => .lst (iD r)) [A, .own (.lst (σ.map λ r => .lst (iD r))), .own (.lst (iD ns)), z, E1, E2, E3, E4, E5] = some (.nx [A, .own (.lst ((q.foldl dR σ).map λ r => .lst (iD r))), .own (.lst (iD (ns ++ nums (q.foldl dR σ) q))), z', E1, E2, E3, E4, E5])
 | [], σ, ns, z, _, _ => ⟨z, by rw [show ns ++ nums ([].foldl dR σ) [] = ns from List.append_nil ns]; rfl⟩
 | r :: q, σ, ns, z, h, h' => by
  rw [List.length_cons] at h h'
  have sl : (dR σ r).length <= σ.length + 1 := by unfold dR; split <;> simp
  have mem : r ∈ dR σ r := by
   unfold dR
   split
   ·assumption
   ·simp
  obtain ⟨t, ht⟩ := q6T q (dR σ r)
  have ix : ((q.foldl dR (dR σ r)).idxOf r) = (dR σ r).idxOf r := by rw [ht, List.idxOf_append, if_pos mem]
  obtain ⟨z', e⟩ := q6M A E1 E2 E3 E4 E5 q (dR σ r) (ns ++ [(((dR σ r).idxOf r : Nat) : Int)]) (.val (.lst (iD r))) (by omega) (by rw [List.length_append, List.length_singleton]; omega)
  refine ⟨z', ?_⟩
  have e2 : ns ++ nums ((r :: q).foldl dR σ) (r :: q) = (ns ++ [(((dR σ r).idxOf r : Nat) : Int)]) ++ nums (q.foldl dR (dR σ r)) q := by
   rw [List.foldl_cons]
   unfold nums
   rw [List.map_cons, ix]
   simp
  rw [e2, List.foldl_cons, ← e]
  have t := q0R (q2A (q0a (G := G) (F := F) (n := 3) (d := .lst (iD r)) (δ := [A, .own (.lst (σ.map λ r => .lst (iD r))), .own (.lst (iD ns)), .val (.lst (iD r)), E1, E2, E3, E4, E5]) rfl) (q2e (n := 1) rfl) (z3r σ r))
  have fin : evSs G F fu [.app 2 (.idx (.var 1) (.var 3))] [A, .own (.lst ((dR σ r).map λ r => .lst (iD r))), .own (.lst (iD ns)), .val (.lst (iD r)), E1, E2, E3, E4, E5] = some (.nx [A, .own (.lst ((dR σ r).map λ r => .lst (iD r))), .own (.lst (iD (ns ++ [(((dR σ r).idxOf r : Nat) : Int)]))), .val (.lst (iD r)), E1, E2, E3, E4, E5]) := by
   refine q0E (q7d (d := .int ((dR σ r).idxOf r : Nat)) (cl := .strong) rfl (q7O (q2e rfl) rfl (q0a rfl) (z6d mem (by omega))) rfl (by rw [q3h]; exact Nat.lt_of_le_of_lt (show ns.length <= 1000 by omega) (by decide))) ?_
   unfold iD; rw [List.map_append]; rfl
  refine q6r (δ1 := [A, .own (.lst (σ.map λ r => .lst (iD r))), .own (.lst (iD ns)), .val (.lst (iD r)), E1, E2, E3, E4, E5]) rfl ?_
  by_cases hr : r ∈ σ
  ·rw [show σ.elem r = true from List.elem_iff.mpr hr] at t
   have q1 : dR σ r = σ := if_pos hr
   rw [q1] at fin ⊢
   exact q2i t fin
  ·rw [show σ.elem r = false from Bool.eq_false_iff.mpr λ z => hr (List.elem_iff.mp z)] at t
   have q1 : dR σ r = σ ++ [r] := if_neg hr
   rw [q1] at fin ⊢
   refine q6x t (q0E (q7d (d := .lst (iD r)) (cl := .strong) rfl (q0a rfl) rfl (by rw [List.length_map]; exact Nat.lt_of_le_of_lt (show σ.length <= 1000 by omega) (by decide))) rfl) ?_
   have q2 : (σ.map λ r => DV.lst (iD r)) ++ [DV.lst (iD r)] = (σ ++ [r]).map λ r => DV.lst (iD r) := by rw [List.map_append]; rfl
   show evSs G F fu [.app 2 (.idx (.var 1) (.var 3))] [A, .own (.lst ((σ.map λ r => DV.lst (iD r)) ++ [DV.lst (iD r)])), .own (.lst (iD ns)), .val (.lst (iD r)), E1, E2, E3, E4, E5] = _
   rw [q2]
   exact fin
noncomputable def cB : List MS := [.set 7 false (.bin .Add (.lst [.bin .Mod (.var 6) (.int 2)]) (.var 7)), .set 6 false (.bin .FloorDiv (.var 6) (.int 2))]
theorem q8r (A B C D E1 : Sv) (n l : Nat) (hl : l <= 100) (w : Sv) : ∃ z' w', q1r (.one 8) (λ δ' => evSs G F fu cB δ') (upTo 0 l) [A, B, C, D, .val (.int l), E1, .val (.int n), .val (.lst []), w] = some (.nx [A, B, C, D, .val (.int l), E1, z', .val (.lst (iD (cd n l))), w']) := by
 obtain ⟨δ1, h1, z, rfl⟩ := q2d (i := 8) (I := λ j δ => ∃ z : Sv, δ = [A, B, C, D, .val (.int l), E1, .val (.int ((n / 2 ^ j : Nat) : Int)), .val (.lst (iD (cd n j))), z])
  (body := λ δ' => evSs G F fu cB δ') l 0 (δ := [A, B, C, D, .val (.int l), E1, .val (.int n), .val (.lst []), w])
  (λ j hj δ I => by
   obtain ⟨z, rfl⟩ := I
   rw [show (0 : Int) + (j : Int) = j by omega]
   refine ⟨_, q0E (q0L (d := .lst (iD (cd n (j + 1)))) (cl := .fresh) ?_ rfl) (q0E (q0L (d := .int ((n / 2 ^ (j + 1) : Nat) : Int)) (cl := .strong) ?_ rfl) rfl), .val (.int j), rfl⟩
   ·have hlen : ([DV.int ((n / 2 ^ j : Nat) % 2)] : List DV).length + (iD (cd n j)).length <= mostLen := by
     rw [q3h, q6S]
     exact Nat.le_trans (show 1 + j <= 101 by omega) (by decide)
    have e1 := z4Q (F := F) (δ := [A, B, C, D, .val (.int l), E1, .val (.int ((n / 2 ^ j : Nat) : Int)), .val (.lst (iD (cd n j))), .val (.int j)]) (es := [.bin .Mod (.var 6) (.int 2)]) (q0d (q2F (q0a (n := 6) rfl) (q0g (i := 2)) (by decide)) q0y) (show 1 <= mostLen by decide) rfl
    have e2 : ((n / 2 ^ j : Nat) : Int) % 2 = ((n / 2 ^ j % 2 : Nat) : Int) := by push_cast; rfl
    refine (q2S (op := .Add) e1 (q0a (n := 7) rfl) (if_pos hlen)).trans ?_
    show some (Re.ok (DV.lst (DV.int (((n / 2 ^ j : Nat) : Int) % 2) :: iD (cd n j))) _) = _
    rw [e2]
    rfl
   ·rw [show ((n / 2 ^ (j + 1) : Nat) : Int) = ((n / 2 ^ j : Nat) : Int) / 2 by rw [Nat.pow_succ, ← Nat.div_div_eq_div_mul]; push_cast; rfl]
    exact z4G (q0a rfl) q0g (by decide)) ⟨w, by rw [Nat.pow_zero, Nat.div_one]; rfl⟩
 exact ⟨_, z, h1⟩
theorem q6t (A B C D : Sv) (l : Nat) (hl : l <= 100) : ∀ (ns : List Nat) (cs : List (List Int)) (x y z : Sv), cs.length + ns.length <= 1000 -> ∃ x' y' z', q1r (.one 6) (λ δ' => evSs G F fu [.set 7 false (.lst []), .fo (.one 8) (.rng [.var 4]) cB, .app 5 (.var 7)] δ') (ns.map λ (n : Nat) => DV.int (n : Int)) [A, B, C, D, .val (.int l), .own (.lst (cs.map λ c => .lst (iD c))), x, y, z] = some (.nx [A, B, C, D, .val (.int l), .own (.lst ((cs ++ ns.map λ n => cd n l).map λ c => .lst (iD c))), x', y', z'])
 | [], cs, x, y, z, _ => ⟨x, y, z, by rw [show cs ++ ([] : List Nat).map (λ n => cd n l) = cs from List.append_nil cs]; rfl⟩
 | n :: ns, cs, x, y, z, h => by
  rw [List.length_cons] at h
  obtain ⟨z1, w1, e1⟩ := q8r (fu := fu) (F := F) A B C D (.own (.lst (cs.map λ c => .lst (iD c)))) n l hl z
  obtain ⟨x', y', z', ih⟩ := q6t A B C D l hl ns (cs ++ [cd n l]) z1 (.val (.lst (iD (cd n l)))) w1 (by rw [List.length_append, List.length_singleton]; omega)
  refine ⟨x', y', z', ?_⟩
  rw [show cs ++ (n :: ns).map (λ n => cd n l) = (cs ++ [cd n l]) ++ ns.map λ n => cd n l by simp, ← ih]
  refine q6r (δ1 := [A, B, C, D, .val (.int l), .own (.lst (cs.map λ c => .lst (iD c))), .val (.int n), y, z]) rfl (q0E (q0L (d := .lst []) (cl := .fresh) rfl rfl) (q6l (q7u (n := l) (q0a rfl) (by omega)) (.inr rfl) e1 (q0E (q7d (d := .lst (iD (cd n l))) (cl := .strong) rfl (q0a rfl) rfl (by rw [List.length_map]; exact Nat.lt_of_le_of_lt (show cs.length <= 1000 by omega) (by decide))) ?_)))
  rw [List.map_append]
  rfl
theorem z4D (R : List (List Int)) (h0 : 0 < R.length) (h8 : R.length <= 8) : run G T fu (k + 1) 12 [rL R] = some (.v (cL R) true) := by
 rw [q1j (fd := q2r) rfl rfl]
 unfold q2r
 have fp := q4k h0
 have fl : (firsts R).length <= R.length := by have := (q3Q R).2.2.2; omega
 obtain ⟨b1, b2, b3⟩ := q9C fp (show (firsts R).length <= 8 by omega)
 obtain ⟨z1, e1⟩ := q6M (F := run G T fu k) (fu := fu) (.val (rL R)) .no .no .no .no .no R [] [] .no (by simp; omega) (by simp; omega)
 rw [List.nil_append] at e1
 have nn : iD (nums (firsts R) R) = (R.map λ r => (firsts R).idxOf r).map λ (n : Nat) => DV.int (n : Int) := by unfold iD nums; rw [List.map_map, List.map_map]; rfl
 obtain ⟨x', y', z', e2⟩ := q6t (F := run G T fu k) (fu := fu) (.val (rL R)) (.own (.lst ((firsts R).map λ r => .lst (iD r)))) (.val (.lst (iD (nums (firsts R) R)))) z1 (lg (firsts R).length) (Nat.le_trans (z2H _) (by decide)) (R.map λ r => (firsts R).idxOf r) [] .no .no .no (by rw [List.length_map]; simp; omega)
 have e3 : ([] ++ (R.map λ r => (firsts R).idxOf r).map λ n => cd n (lg (firsts R).length)) = cds R := by rw [List.nil_append, List.map_map]; rfl
 rw [e3] at e2
 have lt : evE G (run G T fu k) (.bi .len [.var 1]) [.val (rL R), .own (.lst ((firsts R).map λ r => .lst (iD r))), .own (.lst (iD (nums (firsts R) R))), z1, .no, .no, .no, .no, .no] = some (.ok (.int (firsts R).length) .strong) := by
  have t := q1g (F := run G T fu k) (δ := [.val (rL R), .own (.lst ((firsts R).map λ r => .lst (iD r))), .own (.lst (iD (nums (firsts R) R))), z1, .no, .no, .no, .no, .no]) (q2e (n := 1) (d := .lst ((firsts R).map λ r => .lst (iD r))) rfl)
  rw [List.length_map] at t
  exact t
 refine q2t (q0E (q4h rfl) (q0E (q4h rfl) (q6l (ds := R.map λ r => .lst (iD r)) (cl := .strong) rfl (.inl rfl) e1 (q0E (q0L (d := .int (lg (firsts R).length : Int)) (cl := .strong) (q1s (x := .lst [.int 0, .int 0, .int 1, .int 2, .int 2, .int 3, .int 3, .int 3, .int 3]) (cx := .fresh) rfl lt b3) rfl) (q0E (q4h rfl) (q0E rfl (q6l (ds := (R.map λ r => (firsts R).idxOf r).map λ (n : Nat) => DV.int (n : Int)) (cl := .strong) ?_ (.inl rfl) e2 (q2l rfl))))))))
 rw [← nn]
 rfl
end k51
end
section
namespace k51
open PySem L2
variable {fu k : Nat} {F : Nat -> List DV -> Option Ou} {δ : List Sv} {ds : List DV} {cl : Cl} {N M : Nat} {R : List (List Int)}
theorem q7M : ∀ {rows : List (List Int)} {d : DV}, d ∈ zpD (rows.map λ r => .lst (iD r)) (rows.map λ r => .lst (iD r)) -> ∃ r ∈ rows, d = .tup [.lst (iD r), .lst (iD r)]
 | [], d, h => by simp [zpD] at h
 | r :: rows, d, h => by
  rcases List.mem_cons.mp (show d ∈ .tup [.lst (iD r), .lst (iD r)] :: zpD (rows.map λ r => .lst (iD r)) (rows.map λ r => .lst (iD r)) from h) with z | z
  ·exact ⟨r, List.mem_cons_self .., z⟩
  ·obtain ⟨r', h1, h2⟩ := q7M z
   exact ⟨r', List.mem_cons_of_mem _ h1, h2⟩
theorem z6f (a : List Int) : cmpD .NotEq (.lst (iD a)) (.lst (iD a)) = some false := by
 show (if DV.plain 60 (.lst (iD a)) && DV.plain 60 (.lst (iD a)) then some (!deq (.lst (iD a)) (.lst (iD a))) else none) = _
 rw [q4r, z2c, beq_self_eq_true]
 rfl
theorem ne_i (a : Int) : cmpD .NotEq (.int a) (.int a) = some false := by
 show some (!(a == a)) = _
 rw [beq_self_eq_true]; rfl
theorem z3B (rows : List (List Int)) (hr : ∀ r ∈ rows, r.length <= 1000) : run G T fu (k + 2) 13 [rL rows, rL rows] = some (.v (.bl true) false) := by
 rw [q1j (fd := q1R) rfl rfl]
 unfold q1R
 have lenq := ne_i ((rows.map λ r => DV.lst (iD r)).length : Int)
 obtain ⟨δ', e, a, b, rfl⟩ := q5D (I := λ δ => ∃ a b : Sv, δ = [.val (rL rows), .val (rL rows), a, b]) (tg := .many [2, 3])
  (body := λ δ' => evSs G (run G T fu (k + 1)) fu [.iff (.or [.not (.isi (.var 2) ["list"]), .cmp .NotEq (.var 2) (.var 3)]) [.ret (.bl false)] [], .iff (.cmp .NotEq (.bi .len [.compi (.var 0) (.one 0) (.var 2) (.call 6 [.var 0]) [none]]) (.bi .len [.var 3])) [.ret (.bl false)] []] δ')
  (ds := zpD (rows.map λ r => .lst (iD r)) (rows.map λ r => .lst (iD r))) (δ := [.val (rL rows), .val (rL rows), .no, .no]) (λ d hd δ I => by
   obtain ⟨r, hrm, rfl⟩ := q7M hd
   obtain ⟨a, b, rfl⟩ := I
   have c1 := z0n (G := G) (F := run G T fu (k + 1)) (δ := [.val (rL rows), .val (rL rows), .val (.lst (iD r)), .val (.lst (iD r))]) (elt := .var 0) (tg := .one 0) (it := .var 2) (cd := .call 6 [.var 0]) (fr := [none]) (ds := iD r) (cl := .strong) (p := λ _ => true) rfl (by decide) (by rw [q3h]; exact Nat.le_trans (hr r hrm) (by decide))
    (λ d hd => by
     obtain ⟨x, hx, rfl⟩ := List.mem_map.mp hd
     exact ⟨[.val (.int x)], rfl, q0R (cl := .strong) (q0D (l := [(.int x, .strong)]) rfl rfl z4J), q0a rfl⟩)
   rw [List.filter_eq_self.mpr (by simp)] at c1
   have t := q2A (op := .NotEq) (q1g c1) (q1g (F := run G T fu (k + 1)) (δ := [.val (rL rows), .val (rL rows), .val (.lst (iD r)), .val (.lst (iD r))]) (e := .var 3) (ds := iD r) (c := .strong) rfl) (ne_i _)
   exact ⟨[.val (rL rows), .val (rL rows), .val (.lst (iD r)), .val (.lst (iD r))], _, rfl, q2i (q0R (cl := .strong) (q6a (q4e (x := true) (cl := .strong) rfl) (q2A (q0a rfl) (q0a rfl) (z6f _)))) (q2i (q0R t) rfl), _, _, rfl⟩) ⟨.no, .no, rfl⟩
 have hw : q0K (evE G (run G T fu (k + 1)) (.zp (.var 0) (.var 1)) [.val (rL rows), .val (rL rows), .no, .no]) = some (.ok (zpD (rows.map λ r => .lst (iD r)) (rows.map λ r => .lst (iD r))) .strong) := rfl
 exact q2t (q2i (q0R (cl := .strong) (q6a (q4e (x := true) (cl := .strong) rfl) (q2A (q1g (q0a rfl)) (q1g (q0a rfl)) lenq))) (q6l hw (.inl rfl) e (q2l rfl)))
theorem q5t (R : List (List Int)) : ∀ r ∈ cds R, r.length <= 1000 := λ r hr => by
 unfold cds at hr
 obtain ⟨x, _, rfl⟩ := List.mem_map.mp hr
 rw [q6S]
 exact Nat.le_trans (z2H _) (by decide)
theorem z2l {i f : Nat} {es : List ME} {l : List (DV × Cl)} {xs : List DV} (ha : evEs G F es δ = some (.ok l)) (hs : (l.all λ p => p.2 == .strong || p.2 == .fresh) = true) (hn : noOt i δ = true) (h : F f (l.map (·.1)) = some (.t (.lst xs))) : evS G F fu (.setf i f es) δ = some (.nx (δ.set i (.o2 (.lst xs)))) := by
 unfold evS
 rw [ha]
 show (if (l.all λ p => p.2 == .strong || p.2 == .fresh) = true /\ noOt i δ = true then (match F f (l.map (·.1)) with | some (.t (.lst xs)) => some (Out.nx (δ.set i (.o2 (.lst xs)))) | _ => none) else none) = _
 rw [if_pos ⟨hs, hn⟩, h]
theorem q9F {f : Nat} {es : List ME} {ke : ME} {kn : Str} {l : List (DV × Cl)} {d' : DV} {c' : Cl} {d : DV} {fr : Bool} (hk : G.kws.lookup f = some kn) (ha : evEs G F es δ = some (.ok l)) (hb : evE G F ke δ = some (.ok d' c')) (hs : ((l ++ [(d', c')]).all λ p => p.2 == .strong || p.2 == .fresh) = true) (h : F f ((l ++ [(d', c')]).map (·.1)) = some (.v d fr)) : evE G F (.callk f es kn ke) δ = some (.ok d (if fr then .fresh else .strong)) := by
 unfold evE
 rw [if_pos hk, ha, q1C, hb, q1a]
 unfold q1f
 rw [h]
 show some (Re.ok d (if _ then _ else _)) = _
 rw [if_pos hs]
theorem z0C {f : Nat} {es : List ME} {l : List (DV × Cl)} {ds : List DV} {d : DV} {fr : Bool} (hk : G.dfl.lookup f = some ds) (ha : evEs G F es δ = some (.ok l)) (hs : ((l ++ ds.map λ d => (d, Cl.strong)).all λ p => p.2 == .strong || p.2 == .fresh) = true) (h : F f ((l ++ ds.map λ d => (d, Cl.strong)).map (·.1)) = some (.v d fr)) : evE G F (.calld f es) δ = some (.ok d (if fr then .fresh else .strong)) := by
 unfold evE
 rw [hk]
 show Rs.thn (evEs G F es δ) _ = _
 rw [ha, q1C]
 unfold q1f
 rw [h, hs]
 rfl
theorem z4e {n : Nat} {d : DV} (h : δ[n]? = some (.o2 d)) : evE G F (.var n) δ = some (.ok d .weak) := by unfold evE; rw [h]
theorem z4N {i : Nat} {e : ME} {c : List Int} {r : List DV} {z : Int} {cz : Cl} (h0 : δ[i]? = some (.o2 (.lst (.lst (iD c) :: r)))) (h : evE G F e δ = some (.ok (.int z) cz)) (hl : c.length <= 1000) : evS G F fu (.apo i e) δ = some (.nx (δ.set i (.o2 (.lst (.lst (iD c ++ [.int z]) :: r))))) := by
 unfold evS
 rw [h0]
 show (match evE G F e δ with | some (.ok (.int z) _) => if (iD c).length < mostLen then some (Out.nx (δ.set i (.o2 (.lst (.lst (iD c ++ [DV.int z]) :: r))))) else none | _ => none) = _
 rw [h]
 exact if_pos (by rw [q3h]; exact Nat.lt_of_le_of_lt hl (by decide))
theorem z3l {i : Nat} {e : ME} {xs : List DV} (h0 : δ[i]? = some (.o2 (.lst xs))) (h : evE G F e δ = some (.ok (.lst []) .fresh)) (hl : xs.length <= 1000) : evS G F fu (.appo i e) δ = some (.nx (δ.set i (.o2 (.lst (xs ++ [.lst []]))))) := by
 unfold evS
 rw [h0]
 show (match evE G F e δ with | some (.ok d c) => if newI d c /\ xs.length < mostLen then some (Out.nx (δ.set i (.o2 (.lst (xs ++ [d]))))) else none | _ => none) = _
 rw [h]
 exact if_pos ⟨rfl, Nat.lt_of_le_of_lt hl (by decide)⟩
theorem z0Y (tb sv : DV) (hi : tb.immut = true) (R : List (List Int)) (h0 : 0 < R.length) (h8 : R.length <= 8) (hl : ∀ k, run G T fu (k + 2) 4 [tb, sv] = some (.v (tT R) false)) (k : Nat) : run G T fu (k + 6) 14 [tb, rL R, sv] = some (.v (.bl true) false) := by
 have c5 := q5V (fu := fu) (k := k + 2) tb sv R h0 h8 (hl _)
 have c4 := q5V (fu := fu) (k := k + 1) tb sv R h0 h8 (hl _)
 have al := q8u (fu := fu) (k := k + 4) tb sv R h0 c4
 have du := z4D (fu := fu) (k := k + 4) R h0 h8
 obtain ⟨c, cs, e1, e2⟩ := cds0 h0
 have td := z3B (fu := fu) (k := k + 3) (cds R) (q5t R)
 rw [q1j (fd := q1W) rfl rfl]
 have cl : cL R = .lst (.lst (iD c) :: cs.map λ c => .lst (iD c)) := by unfold cL; rw [e1]; rfl
 have csl : cs.length <= 8 := by have := z1J R; rw [e1, List.length_cons] at this; omega
 have cll : c.length <= 1000 := q5t R c (by rw [e1]; exact List.mem_cons_self ..)
 have at3 : ixD (cL R) (.int 0) = some (.lst (iD c)) := by unfold cL; rw [e1]; exact at0
 have ln : ∀ δ : List Sv, δ[3]? = some (.val (cL R)) -> evE G (run G T fu (k + 5)) (.bi .len [.ix (.var 3) (.int 0)]) δ = some (.ok (.int (lg (firsts R).length : Int)) .strong) := λ δ d3 => by
  have t := q1g (q1s (q0a (G := G) (F := run G T fu (k + 5)) d3) (q0g (i := 0)) at3)
  rw [q3h, e2] at t
  exact t
 have td' : run G T fu (k + 5) 13 [cL R, cL R] = some (.v (.bl true) false) := td
 unfold q1W
 refine q2t (q0E (q0L (d := cL R) (cl := .fresh) (q0D (fr := true) (l := [(rL R, .strong)]) rfl rfl du) rfl)
  (q0E (z2l (l := [(tb, .strong), (sv, .strong)]) (xs := (cds R).map λ c => .lst (iD c)) rfl rfl rfl c5)
  (q0E (q0L (d := .int (lg (firsts R).length : Int)) (cl := .strong) (q9F (fr := false) (l := [(tb, .strong)]) (d' := sv) (c' := .strong) rfl rfl rfl rfl al) rfl)
  (q2i (q0R (cl := .strong) (z6D (q4e (x := true) (z0r (l := [(cL R, .weak), (cL R, .strong)]) (q0d (z4e rfl) (q0d (q0a rfl) q0y)) rfl td')) (q4e (x := true) (q0D (l := [(.int (lg (firsts R).length : Int), .strong)]) rfl rfl z4J)) (q2A (q0a rfl) (ln _ rfl) (ne_i _)))) ?_))))
 show evSs G (run G T fu (k + 5)) fu _ [.val tb, .val (rL R), .val sv, .val (cL R), .o2 (cL R), .val (.int (lg (firsts R).length : Int))] = _
 have s1 : ([.val tb, .val (rL R), .val sv, .val (cL R), .o2 (cL R), .val (.int (lg (firsts R).length : Int))] : List Sv)[4]? = some (.o2 (.lst (.lst (iD c) :: cs.map λ c => .lst (iD c)))) := by rw [← cl]; rfl
 refine q0E (z4N s1 (q0g (i := 1)) cll) (q0E (z3l (xs := .lst (iD c ++ [.int 1]) :: cs.map λ c => .lst (iD c)) rfl rfl (by rw [List.length_cons, List.length_map]; omega)) (q2l (q2b (cl := .strong) (q0D (l := [(cL R, .fresh), (cL R, .strong)]) (q0d (z3E (l := [(tb, .strong), (sv, .strong)]) rfl rfl c5) (q0d (q0a rfl) q0y)) rfl td'))))
theorem z4Z (n : Int) : ∃ tp : Int, 0 < tp /\ ixD (.lst [.int 2, .int 4, .int 10]) (.int (n % 3)) = some (.int tp) := by
 have : n % 3 = 0 \/ n % 3 = 1 \/ n % 3 = 2 := by omega
 rcases this with h | h | h
 ·exact ⟨2, by decide, by rw [h]; rfl⟩
 ·exact ⟨4, by decide, by rw [h]; rfl⟩
 ·exact ⟨10, by decide, by rw [h]; rfl⟩
theorem z1t (rows : List (List Int)) (n m : Nat) (rc : Rect n m rows) (hn : 0 < n) (hn2 : n <= 8) (hm2 : m <= 8) (h2 : δ[2]? = some (.val (rL rows))) : evE G F (.comp (.comp (.ix (.var 0) (.var 1)) (.one 0) (.var 1) [none, some 0]) (.one 0) (.rng [.bi .len [.ix (.var 2) (.int 0)]]) [none, some 2]) δ = some (.ok (rL (flip m rows)) .fresh) := by
 have r0 : 0 < rows.length := by rw [rc.1]; exact hn
 have h2' : δ.getD 2 .no = .val (rL rows) := by rw [List.getD_eq_getElem?_getD, h2]; rfl
 have up : upTo 0 m = (List.range m).map λ (j : Nat) => DV.int (j : Int) := by
  unfold L2.upTo
  apply List.map_congr_left
  intro j _
  rw [Int.zero_add]
 have w : q0K (evE G F (.rng [.bi .len [.ix (.var 2) (.int 0)]]) δ) = some (.ok ((List.range m).map λ (j : Nat) => DV.int (j : Int)) .fresh) := by
  have t := q1g (q1s (q0a h2) (q0g (G := G) (F := F) (i := 0)) (show ixD (rL rows) (.int 0) = some (.lst (iD (rows.getD 0 []))) from q4U r0))
  rw [show (iD (rows.getD 0 [])).length = m by rw [q3h]; exact rc.2 _ (q4Z r0)] at t
  rw [q7u t (by omega), up]
 have e := q2V (l := List.range m) (h := λ (j : Nat) => DV.int (j : Int)) (f := λ j => .lst (iD (col rows j))) (elt := .comp (.ix (.var 0) (.var 1)) (.one 0) (.var 1) [none, some 0]) (tg := .one 0) (fr := [none, some 2]) w (by decide) (by rw [List.length_range]; exact Nat.le_trans hm2 (by decide)) λ j hj => by
  refine ⟨[.val (.int j), .val (rL rows)], .fresh, ?_, z3z rows m j rc.2 (List.mem_range.mp hj) (by rw [rc.1]; omega), rfl⟩
  show some ((q0v [none, some 2] δ).set 0 (.val (.int j))) = _
  unfold q0v
  simp only [List.map_cons, List.map_nil, h2']
  rfl
 rw [e]
 unfold rL flip
 rw [List.map_map]
 rfl
theorem z1g (rows : List (List Int)) : (tT rows).immut = true := by
 show DV.immuts (rows.map λ r => .tup (iD r)) = true
 have h1 : ∀ r : List Int, DV.immuts (iD r) = true := λ r => by
  induction r with
  | nil => rfl
  | cons x r ih => show ((DV.int x).immut && DV.immuts (iD r)) = true; rw [ih]; rfl
 induction rows with
 | nil => rfl
 | cons r rows ih => show ((DV.tup (iD r)).immut && DV.immuts (rows.map λ r => .tup (iD r))) = true; rw [ih, Bool.and_true]; exact h1 r
noncomputable def rest : List MS := q7t.body.drop 4
theorem q4S {n m : Nat} {rows : List (List Int)} (rc : Rect n m rows) (n0 : 0 < n) (n8 : n <= 8) (m0 : 0 < m) (m8 : m <= 8) (ns : List Int) (xs : DV) : evSs G (run G T 100 39) 100 rest [.val (.scr ns), .val xs, .val (rL rows), .no, .no] = some (.rt (.bl true) false) := by
 have R' := q5y rc
 have e3 := q7I (fu := 100) (k := 38) rows (by rw [rc.1]; omega)
 have lr : ∀ k, run G T 100 (k + 2) 4 [tT rows, .str "row"] = some (.v (tT rows) false) := λ k => q9p (fu := 100) (k := k) rows n m rc n0 (by omega) (by omega) true
 have lc : ∀ k, run G T 100 (k + 2) 4 [tT rows, .str "column"] = some (.v (tT (flip m rows)) false) := λ k => q9p (fu := 100) (k := k) rows n m rc n0 (by omega) (by omega) false
 have r0 : 0 < rows.length := by rw [rc.1]; exact n0
 have r8 : rows.length <= 8 := by rw [rc.1]; exact n8
 have s1 := z0Y (fu := 100) (tT rows) (.str "row") (z1g rows) rows r0 r8 lr 33
 have s2 := z0Y (fu := 100) (tT rows) (.str "column") (z1g rows) (flip m rows) (by rw [R'.1]; exact m0) (by rw [R'.1]; exact m8) lc 33
 have al := q8u (fu := 100) (k := 38) (tT rows) (.str "row") rows r0 (q5V (fu := 100) (k := 35) (tT rows) (.str "row") rows r0 r8 (lr 35))
 have du := z4D (fu := 100) (k := 38) rows r0 r8
 obtain ⟨c, cs, e1, e2⟩ := cds0 r0
 have at3 : ixD (cL rows) (.int 0) = some (.lst (iD c)) := by unfold cL; rw [e1]; exact at0
 unfold rest q7t
 refine q0E (q0L (q0D (l := [(rL rows, .strong)]) rfl rfl e3) rfl) (q0E (q0L (z1t rows n m rc n0 n8 m8 rfl) rfl) (q2i (q0R (cl := .strong) (q6a (q4e (x := true) (q0D (l := [(tT rows, .strong), (rL rows, .strong), (.str "row", .strong)]) rfl rfl s1)) (q4e (x := true) (q0D (l := [(tT rows, .strong), (rL (flip m rows), .strong), (.str "column", .strong)]) rfl rfl s2)))) (q2l (q2b (cl := .strong) (q7a (cx := .strong) ?_ (q0D (l := [(tT rows, .strong), (rL rows, .strong), (.str "row", .strong)]) rfl rfl s1))))))
 have t := q1g (q1s (q0D (G := G) (F := run G T 100 39) (δ := [.val (.scr ns), .val xs, .val (rL rows), .val (tT rows), .val (rL (flip m rows))]) (es := [.var 2]) (f := 12) (fr := true) (l := [(rL rows, .strong)]) rfl rfl du) (q0g (i := 0)) at3)
 rw [q3h, e2] at t
 have u := b_eq (z0C (F := run G T 100 39) (δ := [.val (.scr ns), .val xs, .val (rL rows), .val (tT rows), .val (rL (flip m rows))]) (es := [.var 3]) (f := 3) (fr := false) (l := [(tT rows, .strong)]) (ds := [.str "row"]) rfl rfl rfl al) t
 rw [beq_self_eq_true] at u
 exact u
theorem z2O : ∀ ns : List Int, ns.length <= 63 -> run G T 100 40 15 [.scr ns] = some (.v (.bl true) false) := by
 intro ns hns
 obtain ⟨v2, c2⟩ := q8x (fu := 100) (k := 38) ns 2
 obtain ⟨xs, hx, st⟩ := q4D (fu := 100) (k := 38) v2 20 (by decide)
 obtain ⟨a, ha⟩ := q2Q (l := xs) (i := 17) (by omega) (by rw [hx]; omega)
 obtain ⟨b, hb⟩ := q2Q (l := xs) (i := 18) (by omega) (by rw [hx]; omega)
 obtain ⟨tp, t1, t3⟩ := z4Z a
 obtain ⟨n, m, rows, n0, n8, m0, m8, rc, e2⟩ := z3a (fu := 100) (k := 37) ns hns tp t1
 obtain ⟨R1, rc1, mx⟩ := z2y (fu := 100) (k := 38) rc n0 n8 m0 m8 xs hx
 have tail0 := q4S rc n0 n8 m0 m8 ns (.lst (iD xs))
 have tail1 := q4S rc1 n0 n8 m0 m8 ns (.lst (iD xs))
 have tail2 := q4S (q5y rc1) m0 m8 n0 n8 ns (.lst (iD xs))
 rw [q1j (fd := q7t) rfl rfl]
 have e : q7t.body = .set 1 false (.call 8 [.call 7 [.var 0, .int 2], .int 20]) :: .set 2 false (.call 9 [.var 0, .int 4, .ix (.lst [.int 2, .int 4, .int 10]) (.bin .Mod (.ix (.var 1) (.int 17)) (.int 3))]) :: .iff (.cmp .Gt (.bin .Mod (.ix (.var 1) (.int 18)) (.int 3)) (.int 0)) [.set 2 false (.call 11 [.var 2, .var 1])] [] :: .iff (.cmp .Eq (.bin .Mod (.ix (.var 1) (.int 18)) (.int 3)) (.int 2)) [.set 2 false (.comp (.comp (.ix (.var 0) (.var 1)) (.one 0) (.var 1) [none, some 0]) (.one 0) (.rng [.bi .len [.ix (.var 2) (.int 0)]]) [none, some 2])] [] :: rest := rfl
 rw [e]
 have t : ∀ r : DV, evE G (run G T 100 39) (.cmp .Gt (.bin .Mod (.ix (.var 1) (.int 18)) (.int 3)) (.int 0)) [.val (.scr ns), .val (.lst (iD xs)), .val r, .no, .no] = some (.ok (.bl (decide (0 < b % 3))) .strong) := λ r => b_gt (q2F (q1s (q0a rfl) q0g hb) q0g (by decide)) q0g
 have u : ∀ r : DV, evE G (run G T 100 39) (.cmp .Eq (.bin .Mod (.ix (.var 1) (.int 18)) (.int 3)) (.int 2)) [.val (.scr ns), .val (.lst (iD xs)), .val r, .no, .no] = some (.ok (.bl (b % 3 == 2)) .strong) := λ r => b_eq (q2F (q1s (q0a rfl) q0g hb) q0g (by decide)) q0g
 refine q2t (q0E (q0L (q0D (q0d (q0D (l := [(.scr ns, .strong), (.int 2, .strong)]) rfl rfl c2) (q0d q0g q0y)) rfl st) rfl)
  (q0E (q0L (q0D (l := [(.scr ns, .strong), (.int 4, .strong), (.int tp, .strong)]) (q0d (q0a rfl) (q0d q0g (q0d (q1s (x := .lst [.int 2, .int 4, .int 10]) (cx := .fresh) rfl (q2F (q1s (q0a rfl) q0g ha) q0g (by decide)) t3) q0y))) rfl e2) rfl) ?_))
 have tt := t (rL rows)
 cases q : decide (0 < b % 3) with
 | false =>
  rw [q] at tt
  have q2 : (b % 3 == 2) = false := by
   have := of_decide_eq_false q
   rw [beq_eq_false_iff_ne]; omega
  have uu := u (rL rows)
  rw [q2] at uu
  exact q2i (q0R tt) (q2i (q0R uu) tail0)
 | true =>
  rw [q] at tt
  refine q6x (q0R tt) (q0E (q0L (q0D (fr := true) (l := [(rL rows, .strong), (.lst (iD xs), .strong)]) rfl rfl mx) rfl) rfl) ?_
  have uu := u (rL R1)
  cases q2 : (b % 3 == 2) with
  | false =>
   rw [q2] at uu
   exact q2i (q0R uu) tail1
  | true =>
   rw [q2] at uu
   exact q6x (q0R uu) (q0E (q0L (z1t R1 n m rc1 n0 n8 m8 rfl) rfl) rfl) tail2
end k51
end
section
namespace k51
open PySem L2 PySem.Spec PyProof.Rows
noncomputable def top (i : Nat) : Stmt := PySem.Challenge.pw_talkleast_k51_codes.main.body.getD i (.Pass ⟨0, 0, 0, 0⟩)
theorem lnS {α : Type} {us : List α} {n : Nat} (h : us.length = n + 1) : ∃ a r, us = a :: r /\ r.length = n := by cases us with | nil => cases h | cons a r => exact ⟨a, r, rfl, Nat.succ.inj h⟩
theorem ln0 {α : Type} {us : List α} (h : us.length = 0) : us = [] := List.length_eq_zero_iff.mp h
noncomputable def fn : List Str := ["flipped", "row_kinds", "codes", "alone_bits", "lines_of", "digits", "_law_int", "_law_cell_at", "_law_stream", "_law_table", "_law_as_table", "_law_mixed", "_law_due", "_law_told", "_law_side", "law"]
noncomputable def bl : List Str := ["tuple", "range", "len", "sorted", "set", "isinstance", "int", "bool", "min", "list", "max", "zip"]
noncomputable def cl : List Str := []
theorem ok0 : okD fn bl cl q2K ["table"] ["table"] (top 1) = true := by decide +kernel
theorem ok1 : okD fn bl cl q1J ["table"] ["table"] (top 2) = true := by decide +kernel
theorem ok2 : okD fn bl cl q4I ["table", "side", "kinds", "firsts", "length"] ["table", "side"] (top 4) = true := by decide +kernel
theorem ok3 : okD fn bl cl q1v ["table", "side"] ["table", "side"] (top 5) = true := by decide +kernel
theorem ok4 : okD fn bl cl q2o ["table", "side"] ["table", "side"] (top 6) = true := by decide +kernel
theorem ok5 : okD fn bl cl q3o ["number", "length"] ["number", "length"] (top 7) = true := by decide +kernel
theorem ok6 : okD fn bl cl q3g ["_law_found"] ["_law_found"] (top 9) = true := by decide +kernel
theorem ok7 : okD fn bl cl q1d ["_law_script", "_law_k"] ["_law_script", "_law_k"] (top 10) = true := by decide +kernel
theorem ok8 : okD fn bl cl q1l ["_law_cell", "_law_many", "_law_found", "_law_number", "_law_k"] ["_law_cell", "_law_many"] (top 11) = true := by decide +kernel
theorem ok9 : okD fn bl cl q1w ["_law_script", "_law_start", "_law_most", "_law_xs", "_law_many", "_law_wide", "_law_words", "_law_k"] ["_law_script", "_law_start", "_law_most"] (top 12) = true := by decide +kernel
theorem ok10 : okD fn bl cl q0T ["_law_rows"] ["_law_rows"] (top 13) = true := by decide +kernel
theorem ok11 : okD fn bl cl q1t ["_law_rows", "_law_xs", "_law_k", "_law_at", "_law_one", "_law_other", "_law_way"] ["_law_rows", "_law_xs"] (top 14) = true := by decide +kernel
theorem ok12 : okD fn bl cl q2r ["_law_rows", "_law_firsts_there", "_law_numbers", "_law_row", "_law_long", "_law_due_here", "_law_number", "_law_code", "_law_k"] ["_law_rows"] (top 15) = true := by decide +kernel
theorem ok13 : okD fn bl cl q1R ["_law_found", "_law_due_here", "_law_code", "_law_right"] ["_law_found", "_law_due_here"] (top 16) = true := by decide +kernel
theorem ok14 : okD fn bl cl q1W ["_law_table_here", "_law_rows", "_law_which", "_law_due_here", "_law_found", "_law_bits"] ["_law_table_here", "_law_rows", "_law_which"] (top 17) = true := by decide +kernel
theorem ok15 : okD fn bl cl q7t ["_law_script", "_law_xs", "_law_rows", "_law_table_here", "_law_columns"] ["_law_script"] (top 18) = true := by decide +kernel
theorem dfok : DfOk G T := by
 refine ⟨λ f ds q => ?_, λ f n q => ?_⟩
 ·unfold G at q
  rw [List.lookup_cons] at q
  split at q
  ·rename_i e; cases q; rw [eq_of_beq e]; exact ⟨_, rfl, rfl, by intro z; cases z⟩
  skip
  cases q
 ·unfold G at q
  rw [List.lookup_cons] at q
  split at q
  ·rename_i e; cases q; rw [eq_of_beq e]; exact ⟨_, rfl, rfl⟩
  skip
  cases q
open PySem.W
theorem all_mk {l : OpenLaw} {w : World} {K : Frag} {h : Heap} {mg : Str -> Option Value} {fa f0 f1 f2 f3 f4 f5 f6 f7 f8 f9 f10 f11 f12 f13 f14 f15 : Addr} (X : K.In h) (Ns : h.Ns mainGlobals mg) (hfa : mg "law" = some (.ref fa))
  {od0 an0 od1 an1 od2 an2 od3 an3 od4 an4 od5 an5 od6 an6 od7 an7 od8 an8 od9 an9 od10 an10 od11 an11 od12 an12 od13 an13 od14 an14 od15 an15 : Option Addr} {sl0 sl1 sl2 sl3 sl4 sl5 sl6 sl7 sl8 sl9 sl10 sl11 sl12 sl13 sl14 sl15 : Array (Option Value)} {oc0 kV0 dc0 pm0 cd0 ct0 oc1 kV1 dc1 pm1 cd1 ct1 oc2 kV2 dc2 pm2 cd2 ct2 oc3 kV3 dc3 pm3 cd3 ct3 oc4 kV4 dc4 pm4 cd4 ct4 oc5 kV5 dc5 pm5 cd5 ct5 oc6 kV6 dc6 pm6 cd6 ct6 oc7 kV7 dc7 pm7 cd7 ct7 oc8 kV8 dc8 pm8 cd8 ct8 oc9 kV9 dc9 pm9 cd9 ct9 oc10 kV10 dc10 pm10 cd10 ct10 oc11 kV11 dc11 pm11 cd11 ct11 oc12 kV12 dc12 pm12 cd12 ct12 oc13 kV13 dc13 pm13 cd13 ct13 oc14 kV14 dc14 pm14 cd14 ct14 oc15 kV15 dc15 pm15 cd15 ct15 : Value}
  (a0 : nsIn K mainGlobals "flipped" = some (some (.ref f0))) (l0 : K.lookup f0 = some ⟨oc0, od0, .func (fnOf "flipped" "flipped" (q0t (top 1)) (q0o (top 1)) (q0c (top 1)) .none kV0 dc0 pm0 an0 cd0 ct0), sl0⟩) (c0 : codeIn K cd0 "flipped" = true) (k0 : keepIn K (.ref f0) = true)
  (a1 : nsIn K mainGlobals "row_kinds" = some (some (.ref f1))) (l1 : K.lookup f1 = some ⟨oc1, od1, .func (fnOf "row_kinds" "row_kinds" (q0t (top 2)) (q0o (top 2)) (q0c (top 2)) .none kV1 dc1 pm1 an1 cd1 ct1), sl1⟩) (c1 : codeIn K cd1 "row_kinds" = true) (k1 : keepIn K (.ref f1) = true)
  (a2 : nsIn K mainGlobals "codes" = some (some (.ref f2))) (l2 : K.lookup f2 = some ⟨oc2, od2, .func (fnOf "codes" "codes" (q0t (top 4)) (q0o (top 4)) (q0c (top 4)) .none kV2 dc2 pm2 an2 cd2 ct2), sl2⟩) (c2 : codeIn K cd2 "codes" = true) (k2 : keepIn K (.ref f2) = true)
  {T3 : Addr} {to3 : Value} {td3 : Option Addr} {tn3 : Nat} {ts3 : Array (Option Value)} {tt3 : _} (tl3 : K.lookup T3 = some ⟨to3, td3, .seq #[.str "row" tt3] tn3, ts3⟩)
  (a3 : nsIn K mainGlobals "alone_bits" = some (some (.ref f3))) (l3 : K.lookup f3 = some ⟨oc3, od3, .func (fnOf "alone_bits" "alone_bits" (q0t (top 5)) (q0o (top 5)) (q0c (top 5)) (.ref T3) kV3 dc3 pm3 an3 cd3 ct3), sl3⟩) (c3 : codeIn K cd3 "alone_bits" = true) (k3 : keepIn K (.ref f3) = true)
  (a4 : nsIn K mainGlobals "lines_of" = some (some (.ref f4))) (l4 : K.lookup f4 = some ⟨oc4, od4, .func (fnOf "lines_of" "lines_of" (q0t (top 6)) (q0o (top 6)) (q0c (top 6)) .none kV4 dc4 pm4 an4 cd4 ct4), sl4⟩) (c4 : codeIn K cd4 "lines_of" = true) (k4 : keepIn K (.ref f4) = true)
  (a5 : nsIn K mainGlobals "digits" = some (some (.ref f5))) (l5 : K.lookup f5 = some ⟨oc5, od5, .func (fnOf "digits" "digits" (q0t (top 7)) (q0o (top 7)) (q0c (top 7)) .none kV5 dc5 pm5 an5 cd5 ct5), sl5⟩) (c5 : codeIn K cd5 "digits" = true) (k5 : keepIn K (.ref f5) = true)
  (a6 : nsIn K mainGlobals "_law_int" = some (some (.ref f6))) (l6 : K.lookup f6 = some ⟨oc6, od6, .func (fnOf "_law_int" "_law_int" (q0t (top 9)) (q0o (top 9)) (q0c (top 9)) .none kV6 dc6 pm6 an6 cd6 ct6), sl6⟩) (c6 : codeIn K cd6 "_law_int" = true) (k6 : keepIn K (.ref f6) = true)
  (a7 : nsIn K mainGlobals "_law_cell_at" = some (some (.ref f7))) (l7 : K.lookup f7 = some ⟨oc7, od7, .func (fnOf "_law_cell_at" "_law_cell_at" (q0t (top 10)) (q0o (top 10)) (q0c (top 10)) .none kV7 dc7 pm7 an7 cd7 ct7), sl7⟩) (c7 : codeIn K cd7 "_law_cell_at" = true) (k7 : keepIn K (.ref f7) = true)
  (a8 : nsIn K mainGlobals "_law_stream" = some (some (.ref f8))) (l8 : K.lookup f8 = some ⟨oc8, od8, .func (fnOf "_law_stream" "_law_stream" (q0t (top 11)) (q0o (top 11)) (q0c (top 11)) .none kV8 dc8 pm8 an8 cd8 ct8), sl8⟩) (c8 : codeIn K cd8 "_law_stream" = true) (k8 : keepIn K (.ref f8) = true)
  (a9 : nsIn K mainGlobals "_law_table" = some (some (.ref f9))) (l9 : K.lookup f9 = some ⟨oc9, od9, .func (fnOf "_law_table" "_law_table" (q0t (top 12)) (q0o (top 12)) (q0c (top 12)) .none kV9 dc9 pm9 an9 cd9 ct9), sl9⟩) (c9 : codeIn K cd9 "_law_table" = true) (k9 : keepIn K (.ref f9) = true)
  (a10 : nsIn K mainGlobals "_law_as_table" = some (some (.ref f10))) (l10 : K.lookup f10 = some ⟨oc10, od10, .func (fnOf "_law_as_table" "_law_as_table" (q0t (top 13)) (q0o (top 13)) (q0c (top 13)) .none kV10 dc10 pm10 an10 cd10 ct10), sl10⟩) (c10 : codeIn K cd10 "_law_as_table" = true) (k10 : keepIn K (.ref f10) = true)
  (a11 : nsIn K mainGlobals "_law_mixed" = some (some (.ref f11))) (l11 : K.lookup f11 = some ⟨oc11, od11, .func (fnOf "_law_mixed" "_law_mixed" (q0t (top 14)) (q0o (top 14)) (q0c (top 14)) .none kV11 dc11 pm11 an11 cd11 ct11), sl11⟩) (c11 : codeIn K cd11 "_law_mixed" = true) (k11 : keepIn K (.ref f11) = true)
  (a12 : nsIn K mainGlobals "_law_due" = some (some (.ref f12))) (l12 : K.lookup f12 = some ⟨oc12, od12, .func (fnOf "_law_due" "_law_due" (q0t (top 15)) (q0o (top 15)) (q0c (top 15)) .none kV12 dc12 pm12 an12 cd12 ct12), sl12⟩) (c12 : codeIn K cd12 "_law_due" = true) (k12 : keepIn K (.ref f12) = true)
  (a13 : nsIn K mainGlobals "_law_told" = some (some (.ref f13))) (l13 : K.lookup f13 = some ⟨oc13, od13, .func (fnOf "_law_told" "_law_told" (q0t (top 16)) (q0o (top 16)) (q0c (top 16)) .none kV13 dc13 pm13 an13 cd13 ct13), sl13⟩) (c13 : codeIn K cd13 "_law_told" = true) (k13 : keepIn K (.ref f13) = true)
  (a14 : nsIn K mainGlobals "_law_side" = some (some (.ref f14))) (l14 : K.lookup f14 = some ⟨oc14, od14, .func (fnOf "_law_side" "_law_side" (q0t (top 17)) (q0o (top 17)) (q0c (top 17)) .none kV14 dc14 pm14 an14 cd14 ct14), sl14⟩) (c14 : codeIn K cd14 "_law_side" = true) (k14 : keepIn K (.ref f14) = true)
  (a15 : nsIn K mainGlobals "law" = some (some (.ref f15))) (l15 : K.lookup f15 = some ⟨oc15, od15, .func (fnOf "law" "law" (q0t (top 18)) (q0o (top 18)) (q0c (top 18)) .none kV15 dc15 pm15 an15 cd15 ct15), sl15⟩) (c15 : codeIn K cd15 "law" = true) (k15 : keepIn K (.ref f15) = true)
  (z0 : nsIn K mainGlobals "tuple" = some none)
  (z1 : nsIn K mainGlobals "range" = some none)
  (z2 : nsIn K mainGlobals "len" = some none)
  (z3 : nsIn K mainGlobals "sorted" = some none)
  (z4 : nsIn K mainGlobals "set" = some none)
  (z5 : nsIn K mainGlobals "isinstance" = some none)
  (z6 : nsIn K mainGlobals "int" = some none)
  (z7 : nsIn K mainGlobals "bool" = some none)
  (z8 : nsIn K mainGlobals "min" = some none)
  (z9 : nsIn K mainGlobals "list" = some none)
  (z10 : nsIn K mainGlobals "max" = some none)
  (z11 : nsIn K mainGlobals "zip" = some none)
  : ∃ fd : FuncData, (∀ (s : Shared) (v : Value), BindsTo s fd ⟨[v], []⟩ [("_law_script", v)]) /\ ∀ base : Heap, K.In base -> base.Ns mainGlobals mg -> FnOk l.prog w K mg base CX0 40 fa fd ["_law_script"] (spS K) := by
 have e := hfa.symm.trans (mg_of X Ns a15)
 cases e
 have S0 := q0w X Ns ok0 a0 l0 c0 k0 λ _ _ _ _ _ _ us hl => by obtain ⟨_, _, rfl, h0⟩ := lnS hl; obtain rfl := ln0 h0; rfl
 have S1 := q0w X Ns ok1 a1 l1 c1 k1 λ _ _ _ _ _ _ us hl => by obtain ⟨_, _, rfl, h0⟩ := lnS hl; obtain rfl := ln0 h0; rfl
 have S2 := q0w X Ns ok2 a2 l2 c2 k2 λ _ _ _ _ _ _ us hl => by obtain ⟨_, _, rfl, h0⟩ := lnS hl; obtain ⟨_, _, rfl, h1⟩ := lnS h0; obtain rfl := ln0 h1; rfl
 have S3 := q4m X Ns ok3 a3 l3 c3 k3 (λ s us hK hl => by rw [List.append_nil] at hl ⊢; obtain ⟨_, _, rfl, h0⟩ := lnS hl; obtain ⟨_, _, rfl, h1⟩ := lnS h0; obtain rfl := ln0 h1; first | exact .of_eq rfl | exact .of_defaults rfl (hK _ _ tl3) rfl rfl rfl) ⟨λ _ => ⟨[.str "row" tt3], [.str "row"], λ s us hK hl => by (rw [List.length_append] at hl; replace hl := Nat.succ.inj hl; obtain ⟨_, _, rfl, h0⟩ := lnS hl; obtain rfl := ln0 h0; first | exact .of_eq rfl | exact .of_defaults rfl (hK _ _ tl3) rfl rfl rfl), .cons ⟨_, rfl⟩ .nil, λ H => RepL.one (q1N.mpr ⟨rfl, by decide⟩)⟩, λ n z => by cases z; exact q9a (λ s us w hK hl => by replace hl := Nat.succ.inj hl; obtain ⟨_, _, rfl, h0⟩ := lnS hl; obtain rfl := ln0 h0; first | exact .of_eq rfl | exact .of_defaults rfl (hK _ _ tl3) rfl rfl rfl) (by intro z; cases z)⟩
 have S4 := q0w X Ns ok4 a4 l4 c4 k4 λ _ _ _ _ _ _ us hl => by obtain ⟨_, _, rfl, h0⟩ := lnS hl; obtain ⟨_, _, rfl, h1⟩ := lnS h0; obtain rfl := ln0 h1; rfl
 have S5 := q0w X Ns ok5 a5 l5 c5 k5 λ _ _ _ _ _ _ us hl => by obtain ⟨_, _, rfl, h0⟩ := lnS hl; obtain ⟨_, _, rfl, h1⟩ := lnS h0; obtain rfl := ln0 h1; rfl
 have S6 := q0w X Ns ok6 a6 l6 c6 k6 λ _ _ _ _ _ _ us hl => by obtain ⟨_, _, rfl, h0⟩ := lnS hl; obtain rfl := ln0 h0; rfl
 have S7 := q0w X Ns ok7 a7 l7 c7 k7 λ _ _ _ _ _ _ us hl => by obtain ⟨_, _, rfl, h0⟩ := lnS hl; obtain ⟨_, _, rfl, h1⟩ := lnS h0; obtain rfl := ln0 h1; rfl
 have S8 := q0w X Ns ok8 a8 l8 c8 k8 λ _ _ _ _ _ _ us hl => by obtain ⟨_, _, rfl, h0⟩ := lnS hl; obtain ⟨_, _, rfl, h1⟩ := lnS h0; obtain rfl := ln0 h1; rfl
 have S9 := q0w X Ns ok9 a9 l9 c9 k9 λ _ _ _ _ _ _ us hl => by obtain ⟨_, _, rfl, h0⟩ := lnS hl; obtain ⟨_, _, rfl, h1⟩ := lnS h0; obtain ⟨_, _, rfl, h2⟩ := lnS h1; obtain rfl := ln0 h2; rfl
 have S10 := q0w X Ns ok10 a10 l10 c10 k10 λ _ _ _ _ _ _ us hl => by obtain ⟨_, _, rfl, h0⟩ := lnS hl; obtain rfl := ln0 h0; rfl
 have S11 := q0w X Ns ok11 a11 l11 c11 k11 λ _ _ _ _ _ _ us hl => by obtain ⟨_, _, rfl, h0⟩ := lnS hl; obtain ⟨_, _, rfl, h1⟩ := lnS h0; obtain rfl := ln0 h1; rfl
 have S12 := q0w X Ns ok12 a12 l12 c12 k12 λ _ _ _ _ _ _ us hl => by obtain ⟨_, _, rfl, h0⟩ := lnS hl; obtain rfl := ln0 h0; rfl
 have S13 := q0w X Ns ok13 a13 l13 c13 k13 λ _ _ _ _ _ _ us hl => by obtain ⟨_, _, rfl, h0⟩ := lnS hl; obtain ⟨_, _, rfl, h1⟩ := lnS h0; obtain rfl := ln0 h1; rfl
 have S14 := q0w X Ns ok14 a14 l14 c14 k14 λ _ _ _ _ _ _ us hl => by obtain ⟨_, _, rfl, h0⟩ := lnS hl; obtain ⟨_, _, rfl, h1⟩ := lnS h0; obtain ⟨_, _, rfl, h2⟩ := lnS h1; obtain rfl := ln0 h2; rfl
 have S15 := q0w X Ns ok15 a15 l15 c15 k15 λ _ _ _ _ _ _ us hl => by obtain ⟨_, _, rfl, h0⟩ := lnS hl; obtain rfl := ln0 h0; rfl
 refine ⟨_, λ s v => .of_eq rfl, λ base _ _ => z0z (T := T) (G := G) (fu := 100) rfl (q0Q S0 (q0Q S1 (q0Q S2 (q0Q S3 (q0Q S4 (q0Q S5 (q0Q S6 (q0Q S7 (q0Q S8 (q0Q S9 (q0Q S10 (q0Q S11 (q0Q S12 (q0Q S13 (q0Q S14 (q0Q S15 z4z)))))))))))))))) ?_ ?_ ?_ ?_ dfok (i := 15) rfl rfl S15 z2O⟩
 ·refine List.forall_mem_cons.mpr ⟨mg_none_of X Ns z0, ?_⟩; refine List.forall_mem_cons.mpr ⟨mg_none_of X Ns z1, ?_⟩; refine List.forall_mem_cons.mpr ⟨mg_none_of X Ns z2, ?_⟩; refine List.forall_mem_cons.mpr ⟨mg_none_of X Ns z3, ?_⟩; refine List.forall_mem_cons.mpr ⟨mg_none_of X Ns z4, ?_⟩; refine List.forall_mem_cons.mpr ⟨mg_none_of X Ns z5, ?_⟩; refine List.forall_mem_cons.mpr ⟨mg_none_of X Ns z6, ?_⟩; refine List.forall_mem_cons.mpr ⟨mg_none_of X Ns z7, ?_⟩; refine List.forall_mem_cons.mpr ⟨mg_none_of X Ns z8, ?_⟩; refine List.forall_mem_cons.mpr ⟨mg_none_of X Ns z9, ?_⟩; refine List.forall_mem_cons.mpr ⟨mg_none_of X Ns z10, ?_⟩; refine List.forall_mem_cons.mpr ⟨mg_none_of X Ns z11, ?_⟩; intro x hx; cases hx
 ·exact ⟨z1D, z2N⟩
 ·intro x d h
  exact z2P x d h
 ·intro x kvs h
  exact z1y x kvs h
end k51
open PySem PySem.W PyProof.Rows
set_option maxRecDepth 100000 in
set_option maxHeartbeats 0 in
theorem PySem.Challenge.cw_talkleast_k51_codes_holds : PySem.Challenge.rw_talkleast_k51_codes.Holds := by
 w_on; o_law; k_head; (case hw => w_witness2)
 k_fill
 refine L2.walkE (l := PySem.Challenge.rw_talkleast_k51_codes) (k := 40) (p := "_law_script") rfl rfl ⟨rfl, by decide, by decide⟩ (λ w h Y => PySem.W.kIn_of Y) ?F
 case F =>
  intro w mg fa h KX G hmg
  refine' k51.all_mk KX G hmg ?a0 ?l0 ?c0 ?k0 ?a1 ?l1 ?c1 ?k1 ?a2 ?l2 ?c2 ?k2 ?tl3 ?a3 ?l3 ?c3 ?k3 ?a4 ?l4 ?c4 ?k4 ?a5 ?l5 ?c5 ?k5 ?a6 ?l6 ?c6 ?k6 ?a7 ?l7 ?c7 ?k7 ?a8 ?l8 ?c8 ?k8 ?a9 ?l9 ?c9 ?k9 ?a10 ?l10 ?c10 ?k10 ?a11 ?l11 ?c11 ?k11 ?a12 ?l12 ?c12 ?k12 ?a13 ?l13 ?c13 ?k13 ?a14 ?l14 ?c14 ?k14 ?a15 ?l15 ?c15 ?k15 ?z0 ?z1 ?z2 ?z3 ?z4 ?z5 ?z6 ?z7 ?z8 ?z9 ?z10 ?z11
  (case a0 => k_is); (case l0 => k_is); (case c0 => k_is); (case k0 => k_is)
  (case a1 => k_is); (case l1 => k_is); (case c1 => k_is); (case k1 => k_is)
  (case a2 => k_is); (case l2 => k_is); (case c2 => k_is); (case k2 => k_is)
  (case a3 => k_is); (case l3 => k_is); (case c3 => k_is); (case k3 => k_is)
  (case a4 => k_is); (case l4 => k_is); (case c4 => k_is); (case k4 => k_is)
  (case a5 => k_is); (case l5 => k_is); (case c5 => k_is); (case k5 => k_is)
  (case a6 => k_is); (case l6 => k_is); (case c6 => k_is); (case k6 => k_is)
  (case a7 => k_is); (case l7 => k_is); (case c7 => k_is); (case k7 => k_is)
  (case a8 => k_is); (case l8 => k_is); (case c8 => k_is); (case k8 => k_is)
  (case a9 => k_is); (case l9 => k_is); (case c9 => k_is); (case k9 => k_is)
  (case a10 => k_is); (case l10 => k_is); (case c10 => k_is); (case k10 => k_is)
  (case a11 => k_is); (case l11 => k_is); (case c11 => k_is); (case k11 => k_is)
  (case a12 => k_is); (case l12 => k_is); (case c12 => k_is); (case k12 => k_is)
  (case a13 => k_is); (case l13 => k_is); (case c13 => k_is); (case k13 => k_is)
  (case a14 => k_is); (case l14 => k_is); (case c14 => k_is); (case k14 => k_is)
  (case a15 => k_is); (case l15 => k_is); (case c15 => k_is); (case k15 => k_is)
  (case tl3 => k_is)
  (case z0 => k_is)
  (case z1 => k_is)
  (case z2 => k_is)
  (case z3 => k_is)
  (case z4 => k_is)
  (case z5 => k_is)
  (case z6 => k_is)
  (case z7 => k_is)
  (case z8 => k_is)
  (case z9 => k_is)
  (case z10 => k_is)
  (case z11 => k_is)
end

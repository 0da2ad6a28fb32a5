import PyProof.Rows.All
import Wide.All
import OpenK.AllK
import Wide.FinOn
import PyProof.EqAt
import PyProof.EqKinds
import PyProof.TupleCall
import PyProof.P3In
import PyProof.ZipIter
import PyProof.ExcAttrAll.ValueError
import PyProof.TupleIter
import PyProof.SetScanFacts
import PyProof.SetKind
import PyProof.DictKinds
import PyProof.DictStraight
import PyProof.Rows.SetFrom
import PyProof.CollectWalk
import PyProof.Seq
import PyProof.DictIter
import PyProof.Rows.Tup
import PyProof.FactsAll.set_1
import PyProof.FactsAll.set_2
import PyProof.Rows.SortWalk
import PySem.Builtin.Int.W1All
import PySem.Syntax
import Lean
import PySem.Challenge.RW_talkleast_k12_plans_run
section
-- CHANGE: your row's module here, as the last of these rows
set_option Elab.async false
set_option linter.all false
set_option maxRecDepth 100000
/-! THE HAND LAYER, for ints, bools, texts, own classes, LISTS and tuples (index, slices, in, append, pop ..), calls, loops. Paste it whole ahead of your own text; what your proof does not reach may be deleted. -/
namespace L2
open PySem PySem.Spec PyProof.Rows

/-- a key: an int or a str -/
abbrev Key := Sum Int Str
def keyIs : Key → Value → Bool
  | .inl k, v => Value.isInt k v
  | .inr x, v => Value.isStrOf x v
def keyH (w : World) : Key → Int
  | .inl k => hashInt k
  | .inr x => hashStr w x
theorem keyIs_shape : ∀ {k : Key} {v : Value}, keyIs k v = true → (∃ i t, k = Sum.inl i ∧ v = Value.int i t) ∨ (∃ x t, k = Sum.inr x ∧ v = Value.str x t)
  | .inl i, v, h => by
    obtain ⟨t, e⟩ := Value.isInt_shape (k := i) (v := v) h
    exact .inl ⟨i, t, rfl, e⟩
  | .inr x, v, h => by
    obtain ⟨t, e⟩ := Value.isStrOf_shape (x := x) (v := v) h
    exact .inr ⟨x, t, rfl, e⟩
theorem key_ll (a b : Int) : decide ((Sum.inl a : Key) = Sum.inl b) = (a == b) := by
  by_cases e : a = b
  · subst e; simp
  · have h : ¬ (Sum.inl a : Key) = Sum.inl b := fun q => e (Sum.inl.inj q)
    rw [decide_eq_false h]
    exact (beq_eq_false_iff_ne.mpr e).symm
theorem key_rr (a b : Str) : decide ((Sum.inr a : Key) = Sum.inr b) = decide (a = b) := by
  by_cases e : a = b
  · subst e; simp
  · have h : ¬ (Sum.inr a : Key) = Sum.inr b := fun q => e (Sum.inr.inj q)
    rw [decide_eq_false h, decide_eq_false e]
theorem key_lr (a : Int) (b : Str) : decide ((Sum.inl a : Key) = Sum.inr b) = false := decide_eq_false (fun q => nomatch q)
theorem key_rl (a : Str) (b : Int) : decide ((Sum.inr a : Key) = Sum.inl b) = false := decide_eq_false (fun q => nomatch q)

def mixKind (prog : Program) (w : World) : PySem.KeyKind prog w Key where
  is := keyIs
  hash := keyH w
  inj := fun v a b ha hb => by
    rcases keyIs_shape ha with ⟨i, t, rfl, rfl⟩ | ⟨x, t, rfl, rfl⟩
    · rcases keyIs_shape hb with ⟨j, u, rfl, e⟩ | ⟨y, u, rfl, e⟩
      · injection e with e1 _; rw [e1]
      · exact nomatch e
    · rcases keyIs_shape hb with ⟨j, u, rfl, e⟩ | ⟨y, u, rfl, e⟩
      · exact nomatch e
      · injection e with e1 _; rw [e1]
  byValue := fun k v h => by
    rcases keyIs_shape h with ⟨i, t, rfl, rfl⟩ | ⟨x, t, rfl, rfl⟩ <;> rfl
  pyHash := fun hv h => by
    rcases keyIs_shape hv with ⟨i, t, rfl, rfl⟩ | ⟨x, t, rfl, rfl⟩
    · exact wpAny_pyHash_int h
    · exact wpAny_pyHash_str h
  eqBool := fun hu hv h => by
    rcases keyIs_shape hu with ⟨i, t, rfl, rfl⟩ | ⟨x, t, rfl, rfl⟩
    · rcases keyIs_shape hv with ⟨j, u, rfl, rfl⟩ | ⟨y, u, rfl, rfl⟩
      · rw [key_ll] at h; exact wpAny_eqBool_int h
      · rw [key_lr] at h; exact SeqAt.EqAt.int_str i t y u _ _ _ _ h
    · rcases keyIs_shape hv with ⟨j, u, rfl, rfl⟩ | ⟨y, u, rfl, rfl⟩
      · rw [key_rl] at h; exact SeqAt.EqAt.str_int x t j u _ _ _ _ h
      · rw [key_rr] at h; exact wpAny_eqBool_str h
  «strs» := fun k x t v h => by
    rcases keyIs_shape h with ⟨i, u, rfl, e⟩ | ⟨y, u, rfl, e⟩
    · exact nomatch e
    · injection e with e1 _
      subst e1
      cases v <;> rfl

end L2

namespace L2
open PySem PySem.Spec PyProof.Rows

/-- a value, without the heap -/
inductive V where
  | non | bl (b : Bool) | int (i : Int) | str (x : Str) | byt (b : Array UInt8) | flt (b : UInt64) | ref (a : Addr) | ty (n : String)
  deriving DecidableEq

def RelV : V → Value → Prop
  | .non, u => u = Value.none
  | .bl b, u => u = Value.bool b
  | .int i, u => ∃ t, u = Value.int i t
  | .str x, u => ∃ t, u = Value.str x t
  | .byt b, u => ∃ t, u = Value.bytes b t
  | .flt b, u => ∃ t, u = Value.float b t
  | .ref a, u => u = Value.ref a
  | .ty n, u => u = Value.type n

abbrev Vals : List V → List Value → Prop := Paired RelV
theorem Vals.length {xs : List V} {us : List Value} (r : Vals xs us) : xs.length = us.length := Paired.length r
theorem Vals.get : ∀ {xs : List V} {us : List Value} {i : Nat} {x : V}, Vals xs us → xs[i]? = some x → ∃ u, us[i]? = some u ∧ RelV x u
  | _, _, _, _, .nil, e => by simp at e
  | _, _, 0, _, .cons r _, e => by simp at e; subst e; exact ⟨_, rfl, r⟩
  | _, _, i + 1, x, .cons _ t, e => by
    obtain ⟨u, h1, h2⟩ := Vals.get (i := i) (x := x) t (by simpa using e)
    exact ⟨u, by simpa using h1, h2⟩
theorem Vals.set {x : V} {u : Value} (r : RelV x u) : ∀ {xs : List V} {us : List Value} (i : Nat), Vals xs us → Vals (xs.set i x) (us.set i u)
  | _, _, _, .nil => .nil
  | _, _, 0, .cons _ t => .cons r t
  | _, _, i + 1, .cons q t => .cons q (Vals.set r i t)
theorem Vals.append : ∀ {xs ys : List V} {us ws : List Value}, Vals xs us → Vals ys ws → Vals (xs ++ ys) (us ++ ws)
  | _, _, _, _, .nil, s => s
  | _, _, _, _, .cons r t, s => .cons r (Vals.append t s)
theorem Vals.take : ∀ {xs : List V} {us : List Value} (n : Nat), Vals xs us → Vals (xs.take n) (us.take n)
  | _, _, 0, _ => .nil
  | _, _, _ + 1, .nil => .nil
  | _, _, n + 1, .cons r t => .cons r (Vals.take n t)
theorem Vals.drop : ∀ {xs : List V} {us : List Value} (n : Nat), Vals xs us → Vals (xs.drop n) (us.drop n)
  | _, _, 0, r => r
  | _, _, _ + 1, .nil => .nil
  | _, _, n + 1, .cons _ t => Vals.drop n t
def RelO : Option V → Option Value → Prop
  | some v, some u => RelV v u
  | none, none => True
  | _, _ => False
def KV {κ : Type} : List (κ × V) → List (κ × Value) → Prop := Paired fun (p : κ × V) (q : κ × Value) => p.1 = q.1 ∧ RelV p.2 q.2

/-- a key of a dict (00_mix): an int or a text -/
def kV : Key → V
  | .inl i => .int i
  | .inr x => .str x

/-- what stands at a tracked address -/
inductive HO where
  /-- a list -/
  | lst (xs : List V)
  /-- a tuple (never changes) -/
  | tup (xs : List V)
  /-- a dict whose keys are ints and texts; one whose keys are tuples of ints and texts (the empty one is both) -/
  | dK (kvs : List (Key × V)) | dT (kvs : List (List Key × V))
  /-- a set of ints: its members, its size -/
  | set (S : Int → Bool) (n : Nat)
  /-- an instance of the class at C, its dict at dx, its attributes -/
  | ins (C dx : Addr) (fs : List (Str × V))
  /-- the dict of the instance at x -/
  | own (x : Addr)
  /-- the dict of an exception -/
  | xd (fs : List (Str × V))
  /-- a bound method, f of x -/
  | met (f x : Addr)
  /-- a range object lo, lo + 1, .. below hi -/
  | rng (lo hi : Int)
  /-- a thing that is known to the object (the script; a dict while a loop walks it): read, never written while it is so -/
  | frz (o : Obj) (u : HO)
  /-- a code object's table -/
  | tbl (ps : Array Value)
  /-- any other thing, by what is true of its one object (a def of one's own: SetO a S n := HO.ext fun h => ..) -/
  | ext (φ : Heap → Prop)

abbrev Hp := Addr → Option HO
def upd (H : Hp) (a : Addr) (o : HO) : Hp := fun b => if b = a then some o else H b
theorem upd_same {H : Hp} {a : Addr} {o : HO} : upd H a o a = some o := by unfold upd; rw [if_pos rfl]
theorem upd_ne {H : Hp} {a b : Addr} {o : HO} (h : b ≠ a) : upd H a o b = H b := by unfold upd; rw [if_neg h]
theorem ne_of_none {H : Hp} {a b : Addr} {o : HO} (h : H a = some o) (h' : H b = none) : a ≠ b := by
  intro e; subst e; rw [h] at h'; cases h'

section
variable (P : Program) (w : World)
def ObjOk (H : Hp) (h : Heap) (a : Addr) : HO → Prop
  | .lst xs => xs.length ≤ sizeLine ∧ ∃ (its : List Value) (n : Nat), Vals xs its ∧ h.get? a = some { cls := .type "list", data := .seq its.toArray n }
  | .tup xs => xs.length ≤ sizeLine ∧ ∃ its : List Value, Vals xs its ∧ IsTup h a its.toArray
  | .dK kvs => kvs.length ≤ sizeLine ∧ (a == sysModules) = false ∧ ∃ vs, KV kvs vs ∧ h.DictOf (mixKind P w) a vs
  | .dT kvs => kvs.length ≤ sizeLine ∧ (a == sysModules) = false ∧ ∃ xs : List (List Key × Addr × Value),
      Paired (fun (p : List Key × V) (q : List Key × Addr × Value) => p.1 = q.1 ∧ H q.2.1 = some (.tup (p.1.map kV)) ∧ RelV p.2 q.2.2) kvs xs ∧
      ∃ o es ep, h.get? a = some o ∧ o.ExactDict ∧ o.data = .dict es ep ∧ es.toList = xs.map (entryOfKey (tupleKind (mixKind P w))) ∧ (xs.map (·.1)).Nodup
  | .set S n => h.SetOf (intKind P w) a S n
  | .ins C dx fs => H dx = some (.own a) ∧ fs.length ≤ 1000 ∧ dx ≠ a ∧ h.get? a = some (PySem.W.instObj C dx) ∧
      ∃ mA, h.Ns1 dx mA ∧ (∀ f, RelO (fs.lookup f) (mA f)) ∧ PySem.Within mA (fs.map (·.1))
  | .own _ => ∃ o, h.get? a = some o
  | .xd fs => ∃ mA, h.Ns1 a mA ∧ ∀ f, RelO (fs.lookup f) (mA f)
  | .rng lo hi => ∃ t u v, h.get? a = some { cls := .type "range", data := .fields #[.int lo t, .int hi u, .int 1 v] }
  | .frz o u => h.get? a = some o ∧ ObjOk H h a u
  | .tbl ps => h.get? a = some { cls := .none, data := .fields ps }
  | .met f x => h.get? a = some (PySem.W.methodObj (.ref f) (.ref x))
  | .ext φ => φ h ∧ (∃ o, h.get? a = some o) ∧ ∀ h1 h2 : Heap, φ h1 → (∀ o, h1.get? a = some o → h2.get? a = some o) → φ h2
/-- the abstract heap is held -/
def HOk (H : Hp) (h : Heap) : Prop := ∀ a o, H a = some o → ObjOk P w H h a o
end

section
variable {P : Program} {w : World} {H H' : Hp} {h h' : Heap} {a : Addr} {o : HO}
theorem ObjOk.lt (x : ObjOk P w H h a o) : a < h.objs.size := by
  cases o with
  | lst xs => obtain ⟨_, _, _, _, e⟩ := x; exact Heap.lt_size e
  | tup xs => obtain ⟨_, _, _, p⟩ := x; exact p.lt
  | dK kvs => obtain ⟨_, _, _, _, o, _, _, e, _⟩ := x; exact Heap.lt_size e
  | dT kvs => obtain ⟨_, _, _, _, o, _, _, e, _⟩ := x; exact Heap.lt_size e
  | set S n => obtain ⟨o, _, _, _, e, _⟩ := x; exact Heap.lt_size e
  | ins C dx fs => obtain ⟨_, _, _, e, _⟩ := x; exact Heap.lt_size e
  | own y => obtain ⟨_, e⟩ := x; exact Heap.lt_size e
  | xd fs => obtain ⟨_, ⟨_, _, _, e, _⟩, _⟩ := x; exact Heap.lt_size e
  | rng lo hi => obtain ⟨_, _, _, e⟩ := x; exact Heap.lt_size e
  | frz ob u => obtain ⟨e, _⟩ := x; exact Heap.lt_size e
  | tbl ps => exact Heap.lt_size (show h.get? a = some _ from x)
  | met f y => exact Heap.lt_size (show h.get? a = some _ from x)
  | ext φ => obtain ⟨_, ⟨_, e⟩, _⟩ := x; exact Heap.lt_size e
theorem Paired.mapP {α β : Type} {F G : α → β → Prop} : ∀ {l₁ : List α} {l₂ : List β}, Paired F l₁ l₂ → (∀ a b, F a b → G a b) → Paired G l₁ l₂
  | _, _, .nil, _ => .nil
  | _, _, .cons r t, f => .cons (f _ _ r) (Paired.mapP t f)
/-- what an object's description leans on: its own object, its own dict, the tuples -/
theorem ObjOk.stay (x : ObjOk P w H h a o) (k : ∀ b u, (b = a ∨ H b = some (.own a)) → h.get? b = some u → h'.get? b = some u)
    (ho : ∀ b, H b = some (.own a) → H' b = some (.own a)) (ht : ∀ b xs, H b = some (.tup xs) → H' b = some (.tup xs)) : ObjOk P w H' h' a o := by
  induction o with
  | lst xs => obtain ⟨z, its, n, r, e⟩ := x; exact ⟨z, its, n, r, k _ _ (.inl rfl) e⟩
  | tup xs => obtain ⟨z, its, r, ob, e, c⟩ := x; exact ⟨z, its, r, ob, k _ _ (.inl rfl) e, c⟩
  | dK kvs => obtain ⟨z, y, vs, r, ob, es, ep, e, c⟩ := x; exact ⟨z, y, vs, r, ob, es, ep, k _ _ (.inl rfl) e, c⟩
  | dT kvs =>
    obtain ⟨z, y, xs, r, ob, es, ep, e, c⟩ := x
    exact ⟨z, y, xs, Paired.mapP r fun p q z => ⟨z.1, ht _ _ z.2.1, z.2.2⟩, ob, es, ep, k _ _ (.inl rfl) e, c⟩
  | set S n => obtain ⟨ob, es, ep, t, e, c⟩ := x; exact ⟨ob, es, ep, t, k _ _ (.inl rfl) e, c⟩
  | ins C dx fs =>
    obtain ⟨d, z, ne, e, mA, ⟨od, es, ep, e2, c⟩, r⟩ := x
    exact ⟨ho _ d, z, ne, k _ _ (.inl rfl) e, mA, ⟨od, es, ep, k _ _ (.inr d) e2, c⟩, r⟩
  | own y => obtain ⟨ob, e⟩ := x; exact ⟨ob, k _ _ (.inl rfl) e⟩
  | xd fs => obtain ⟨mA, ⟨od, es, ep, e, c⟩, r⟩ := x; exact ⟨mA, ⟨od, es, ep, k _ _ (.inl rfl) e, c⟩, r⟩
  | rng lo hi => obtain ⟨t, u, v, e⟩ := x; exact ⟨t, u, v, k _ _ (.inl rfl) e⟩
  | frz ob u ih => obtain ⟨e, q⟩ := x; exact ⟨k _ _ (.inl rfl) e, ih q⟩
  | tbl ps =>
    have e : h.get? a = some { cls := .none, data := .fields ps } := x
    show h'.get? a = some { cls := .none, data := .fields ps }
    exact k a _ (.inl rfl) e
  | met f y =>
    have e : h.get? a = some (PySem.W.methodObj (.ref f) (.ref y)) := x
    show h'.get? a = some (PySem.W.methodObj (.ref f) (.ref y))
    exact k a _ (.inl rfl) e
  | ext φ => obtain ⟨p, ⟨o, e⟩, st⟩ := x; exact ⟨st _ _ p fun o q => k _ _ (.inl rfl) q, ⟨o, k _ _ (.inl rfl) e⟩, st⟩
theorem HOk.lt (x : HOk P w H h) (e : H a = some o) : a < h.objs.size := (x a o e).lt
theorem HOk.fresh (x : HOk P w H h) (e : h.objs.size ≤ a) : H a = none := by
  cases q : H a with
  | none => rfl
  | some u => exact absurd (Nat.lt_of_lt_of_le (x.lt q) e) (Nat.lt_irrefl _)
/-- every object of the heap is kept -/
theorem HOk.kept (x : HOk P w H h) (k : ∀ b u, h.get? b = some u → h'.get? b = some u) : HOk P w H h' := fun a o e =>
  (x a o e).stay (fun b u _ q => k b u q) (fun _ q => q) fun _ _ q => q
/-- a new object is laid and tracked -/
theorem HOk.laid (x : HOk P w H h) (k : ∀ b u, h.get? b = some u → h'.get? b = some u) (hp : h.objs.size ≤ a) (new : ObjOk P w (upd H a o) h' a o) : HOk P w (upd H a o) h' := fun b u e => by
  have hn := x.fresh hp
  by_cases hb : b = a
  · subst hb; rw [upd_same] at e; cases e; exact new
  · rw [upd_ne hb] at e
    exact (x b u e).stay (fun c v _ q => k c v q) (fun c q => by rw [upd_ne (ne_of_none q hn)]; exact q) fun c xs q => by rw [upd_ne (ne_of_none q hn)]; exact q
end

/-- what may be read as u: it is u, or a known u -/
def Rd (H : Hp) (a : Addr) (u : HO) : Prop := H a = some u ∨ ∃ o, H a = some (.frz o u)
theorem Rd.of {H : Hp} {a : Addr} {u : HO} (h : H a = some u) : Rd H a u := .inl h
theorem Rd.ok {P : Program} {w : World} {H : Hp} {h : Heap} {a : Addr} {u : HO} (r : Rd H a u) (x : HOk P w H h) : ObjOk P w H h a u := by
  rcases r with r | ⟨o, r⟩
  · exact x a u r
  · obtain ⟨_, q⟩ := x a _ r
    exact q
/-- what may be written -/
def Mut : Option HO → Prop
  | some (.lst _) => True
  | some (.dK _) => True
  | some (.dT _) => True
  | some (.set _ _) => True
  | some (.ins _ _ _) => True
  | some (.ext _) => True
  | _ => False
section
variable {P : Program} {w : World} {H : Hp} {h h' : Heap} {x e : Addr} {o' : HO}
/-- the object at e is changed: x itself, or the dict of the instance x -/
theorem HOk.write (ok : HOk P w H h) (mu : Mut (H x)) (he : e = x ∨ H e = some (.own x)) (k : ∀ b u, b ≠ e → h.get? b = some u → h'.get? b = some u) (heo : ∃ u, h'.get? e = some u)
    (new : ObjOk P w (upd H x o') h' x o') : HOk P w (upd H x o') h' := fun b u q => by
  have nown : ∀ c y, H c = some (.own y) → c ≠ x := fun c y r z => by subst z; rw [r] at mu; exact mu
  have ntup : ∀ c xs, H c = some (.tup xs) → c ≠ x := fun c xs r z => by subst z; rw [r] at mu; exact mu
  by_cases hb : b = x
  · subst hb; rw [upd_same] at q; cases q; exact new
  · rw [upd_ne hb] at q
    by_cases hbe : b = e
    · have q' : H b = some (.own x) := by
        rcases he with z | z
        · exact absurd (hbe.trans z) hb
        · rw [hbe]; exact z
      rw [q] at q'; cases q'
      obtain ⟨v, hv⟩ := heo
      exact ⟨v, by rw [hbe]; exact hv⟩
    · refine (ok b u q).stay (fun c v hc r => k c v ?_ r) (fun c r => by rw [upd_ne (nown c b r)]; exact r) fun c xs r => by rw [upd_ne (ntup c xs r)]; exact r
      rcases hc with rfl | hc
      · exact hbe
      · rintro rfl
        rcases he with z | z
        · exact nown c b hc z
        · rw [hc] at z; cases z; exact hb rfl
end

/-! ### kept unless tracked; of the frames at fs (the callers') the slots may change (an exception that passes writes there); of the records at ex (iterators) nothing is said -/
structure Un (fs ex : List Addr) (H H' : Hp) (h h' : Heap) : Prop where
  keep : ∀ b o, h.get? b = some o → H b = none → b ∉ fs → b ∉ ex → h'.get? b = some o
  slot : ∀ b o, h.get? b = some o → H b = none → b ∈ fs → b ∉ ex → ∃ sl, h'.get? b = some { o with slots := sl }
  free : ∀ b o, h.get? b = some o → H b = none → b ∉ ex → H' b = none
  there : ∀ b o, h.get? b = some o → b ∉ ex → ∃ o', h'.get? b = some o'
  tups : ∀ b xs, H b = some (.tup xs) → H' b = some (.tup xs)
  frzs : ∀ b o u, H b = some (.frz o u) → H' b = some (.frz o u)
  tbls : ∀ b ps, H b = some (.tbl ps) → ∃ more, H' b = some (.tbl (ps ++ more))
section
variable {fs fs' ex ex' : List Addr} {H H1 H2 : Hp} {h h1 h2 h' : Heap} {a x e : Addr} {o : HO}
theorem Un.any (u : Un fs ex H H1 h h1) {b : Addr} {ob : Obj} (q : h.get? b = some ob) (n : H b = none) (hx : b ∉ ex) : ∃ sl, h1.get? b = some { ob with slots := sl } := by
  by_cases hb : b ∈ fs
  · exact u.slot b ob q n hb hx
  · exact ⟨ob.slots, u.keep b ob q n hb hx⟩
theorem Un.trans (a : Un fs ex H H1 h h1) (b : Un fs ex H1 H2 h1 h2) : Un fs ex H H2 h h2 where
  keep := fun c ob q n hc hx => b.keep c ob (a.keep c ob q n hc hx) (a.free c ob q n hx) hc hx
  slot := fun c ob q n hc hx => by
    obtain ⟨sl, e1⟩ := a.slot c ob q n hc hx
    obtain ⟨sl', e2⟩ := b.slot c _ e1 (a.free c ob q n hx) hc hx
    exact ⟨sl', e2⟩
  free := fun c ob q n hx => by
    obtain ⟨o', e1⟩ := a.there c ob q hx
    exact b.free c o' e1 (a.free c ob q n hx) hx
  there := fun c ob q hx => by
    obtain ⟨o', e1⟩ := a.there c ob q hx
    exact b.there c o' e1 hx
  tups := fun c xs q => b.tups c xs (a.tups c xs q)
  frzs := fun c ob xs q => b.frzs c ob xs (a.frzs c ob xs q)
  tbls := fun c ps q => by
    obtain ⟨m1, e1⟩ := a.tbls c ps q
    obtain ⟨m2, e2⟩ := b.tbls c _ e1
    exact ⟨m1 ++ m2, by rw [e2, Array.append_assoc]⟩
theorem Un.kept (k : ∀ b u, h.get? b = some u → h'.get? b = some u) : Un fs ex H H h h' :=
  ⟨fun b ob q _ _ _ => k b ob q, fun b ob q _ _ _ => ⟨ob.slots, k b ob q⟩, fun _ _ _ n _ => n, fun b ob q _ => ⟨ob, k b ob q⟩, fun _ _ q => q, fun _ _ _ q => q, fun _ ps q => ⟨#[], by rw [q]; simp⟩⟩
theorem Un.refl : Un fs ex H H h h := Un.kept fun _ _ q => q
theorem Un.laid (k : ∀ b u, h.get? b = some u → h'.get? b = some u) (hp : h.objs.size ≤ a) (hn : H a = none) : Un fs ex H (upd H a o) h h' where
  keep := fun b u q _ _ _ => k b u q
  slot := fun b u q _ _ _ => ⟨u.slots, k b u q⟩
  free := fun b u q n _ => by rw [upd_ne (Nat.ne_of_lt (Nat.lt_of_lt_of_le (Heap.lt_size q) hp))]; exact n
  there := fun b u q _ => ⟨u, k b u q⟩
  tups := fun b xs q => by rw [upd_ne (ne_of_none q hn)]; exact q
  frzs := fun b u xs q => by rw [upd_ne (ne_of_none q hn)]; exact q
  tbls := fun b ps q => ⟨#[], by rw [upd_ne (ne_of_none q hn), q]; simp⟩
theorem Un.write (mu : Mut (H x)) (he : e = x ∨ H e = some (.own x)) (k : ∀ b u, b ≠ e → h.get? b = some u → h'.get? b = some u) (heo : ∃ u, h'.get? e = some u) : Un fs ex H (upd H x o) h h' := by
  have hx : ∀ b, H b = none → b ≠ x := fun b n z => by subst z; rw [n] at mu; exact mu
  have hb : ∀ b, H b = none → b ≠ e := fun b n z => by
    subst z
    rcases he with r | r
    · exact hx b n r
    · rw [n] at r; cases r
  have hm : ∀ b u, H b = some u → ¬ Mut (some u) → b ≠ x := fun b u q nm z => by subst z; rw [q] at mu; exact nm mu
  refine ⟨fun b u q n _ _ => k b u (hb b n) q, fun b u q n _ _ => ⟨u.slots, k b u (hb b n) q⟩, fun b u q n _ => by rw [upd_ne (hx b n)]; exact n, fun b u q _ => ?_,
    fun b xs q => by rw [upd_ne (hm b _ q fun z => z)]; exact q, fun b u xs q => by rw [upd_ne (hm b _ q fun z => z)]; exact q, fun b ps q => ⟨#[], by rw [upd_ne (hm b _ q fun z => z), q]; simp⟩⟩
  by_cases hbe : b = e
  · subst hbe; exact heo
  · exact ⟨u, k b u hbe q⟩
theorem Un.mono (u : Un fs ex H H1 h h1) (hs : ∀ b ∈ fs, b ∈ fs') (hx : ∀ b ∈ ex, b ∈ ex') : Un fs' ex' H H1 h h1 :=
  ⟨fun b ob q n hb he => u.keep b ob q n (fun z => hb (hs b z)) fun z => he (hx b z), fun _ _ q n _ he => u.any q n fun z => he (hx _ z), fun b ob q n he => u.free b ob q n fun z => he (hx b z), fun b ob q he => u.there b ob q fun z => he (hx b z), u.tups, u.frzs, u.tbls⟩
end

/-! ### the heap without what is tracked -/
def trk (h : Heap) (H : Hp) : List Addr := (List.range h.objs.size).filter fun a => (H a).isSome
def hidT (h : Heap) (H : Hp) : Heap := PySem.W.hideAll h (trk h H)
theorem hidT_size (h : Heap) (H : Hp) : (hidT h H).objs.size = h.objs.size := PySem.W.hideAll_size _ _
theorem hidT_get {h : Heap} {H : Hp} {b : Addr} {o : Obj} (e : h.get? b = some o) (n : H b = none) : (hidT h H).get? b = some o :=
  PySem.W.hideAll_get _ e fun hm => by
    have q : (H b).isSome = true := (List.mem_filter.mp hm).2
    rw [n] at q; simp at q
theorem of_hidT {h : Heap} {H : Hp} {b : Addr} {o : Obj} (e : (hidT h H).get? b = some o) : h.get? b = some o ∧ H b = none := by
  have e' : h.get? b = some o := PySem.W.of_hideAll (trk h H) e
  refine ⟨e', ?_⟩
  cases q : H b with
  | none => rfl
  | some x =>
    have hm : b ∈ trk h H := List.mem_filter.mpr ⟨List.mem_range.mpr (Heap.lt_size e'), by simp [q]⟩
    have z : (hidT h H).get? b = none := PySem.W.hideAll_none (trk h H) hm
    rw [z] at e; cases e

/-! ### OpenK's ledger, filled with every new object but one -/
def allNews (g h : Heap) (L : Addr) : List (Addr × Obj) := (List.range h.objs.size).filterMap fun a => if a = L ∨ (g.get? a).isSome = true then none else (h.get? a).map fun o => (a, o)
def rest (g h : Heap) (L d : Addr) : List (Addr × Obj) := (allNews g h L).filter fun p => decide (p.1 ≠ d)
end L2

namespace L2
open PySem PySem.Spec PyProof.Rows

/-- the module's facts, over the base: the heap at the law's entry without what is tracked there -/
structure Mod (K : PySem.W.Frag) (mg : Str → Option Value) (base : Heap) : Prop where
  kin : K.In base
  glob : base.Ns mainGlobals mg
  blt : ∃ mb, base.Ns builtinsNs mb ∧ ∀ x : Str, x ≠ "__name__" → mb x = bootBuiltins x
  nolimit : base.NoLimit

/-- the context: a def's body (or a comprehension's block) running. base: fixed through the whole law; s₀, H₀: the entry; outer: the frames whose slots others may change (a def's callers); stack: all frames that run;
   ex: iterators that were made ahead of the entry and are walked here (a comprehension's); fn: the names whose cells were made at the entry (a def: all; a comprehension's block: its own); calm: not within an except suite; pn: pins that every state bears; xe: what is wanted of an exception that leaves the code -/
structure Cx where
  prog : Program
  w : World
  K : PySem.W.Frag
  mg : Str → Option Value
  base : Heap
  A : Around
  N : List Str
  s₀ : Shared
  H₀ : Hp
  env : Env
  outer : List Env
  stack : List Env
  ex : List Addr
  fn : Str → Bool
  calm : Bool
  pn : List (Addr × Obj)
  xe : Value → Shared → Prop
/-- the callers' frames -/
def frs (l : List Env) : List Addr := l.filterMap (·.frame)
abbrev Cx.fs (X : Cx) : List Addr := frs X.outer

def Vis (sc : Scope) (x : Str) : Prop := sc.names.lookup x = some .local ∨ sc.names.lookup x = some .cell ∨ sc.names.lookup x = some .free
def Loc (sc : Scope) (x : Str) : Prop := sc.names.lookup x = some .local ∨ sc.names.lookup x = some .cell
def Look (env : Env) (h : Heap) (m : Str → Option Value) (x : Str) (u : Value) : Prop :=
  (env.kindOf x = some .local ∧ m x = some u) ∨ ((env.kindOf x = some .cell ∨ env.kindOf x = some .free) ∧ ∃ c, env.cells.lookup x = some c ∧ h.IsCell c (some u))

structure Cx.Ok (X : Cx) : Prop where
  mod : Mod X.K X.mg X.base
  kind : X.env.scope.kind = .function
  glob : X.env.globals = mainGlobals
  blt : X.env.builtins = builtinsNs
  above : X.s₀.heap.objs.size ≤ X.env.locals
  inj : ∀ x y c, X.env.cells.lookup x = some c → X.env.cells.lookup y = some c → x = y
  has : ∀ x, (X.env.kindOf x = some .cell ∨ X.env.kindOf x = some .free) → ∃ c, X.env.cells.lookup x = some c
  cab : ∀ x c, X.fn x = true → X.env.cells.lookup x = some c → X.s₀.heap.objs.size ≤ c
  hd : X.calm = true → X.A.handled = none
  frames : X.A.frames = some X.stack
  stk : X.stack = X.outer ∨ (X.stack = X.env :: X.outer ∧ X.env.frame = some X.env.locals)
  exf : ∀ b ∈ X.ex, b ≠ X.env.locals ∧ ∀ x c, X.env.cells.lookup x = some c → c ≠ b
  bs : ∀ b o, X.base.get? b = some o → X.s₀.heap.get? b = some o ∧ X.H₀ b = none
  bsz : X.base.objs.size ≤ X.s₀.heap.objs.size
  noex : ∀ b o, X.base.get? b = some o → b ∉ X.ex
  exfs : ∀ b ∈ X.ex, b ∉ X.fs
  funs : X.s₀.heap.FunFrames X.base X.outer
  frf : ∀ b ∈ X.fs, X.H₀ b = none

structure Inv (X : Cx) (pins : List (Addr × Obj)) (σ : List (Option V)) (H : Hp) (s : Shared) : Prop where
  ok : X.Ok
  os : s.os = X.s₀.os
  bare : AllBare s.gens
  base : Un X.fs X.ex X.H₀ H X.s₀.heap s.heap
  loc : ∃ m, s.heap.Ns X.env.locals m ∧ ∀ (i : Nat) (x : Str) (v : V), X.N[i]? = some x → σ[i]? = some (some v) → Vis X.env.scope x → ∃ u, RelV v u ∧ Look X.env s.heap m x u
  cell : ∀ x c, X.env.cells.lookup x = some c → ∃ v, s.heap.IsCell c v
  free : H X.env.locals = none
  freeC : ∀ x c, X.env.cells.lookup x = some c → H c = none
  pin : ∀ p ∈ X.pn ++ pins, s.heap.get? p.1 = some p.2 ∧ H p.1 = none ∧ p.1 ≠ X.env.locals ∧ p.1 ∉ X.fs ∧ ∀ v, p.2.data ≠ .cell v
  hok : HOk X.prog X.w H s.heap
  len : σ.length = X.N.length

section
variable {X : Cx} {pins : List (Addr × Obj)} {σ : List (Option V)} {H H' : Hp} {s : Shared} {h' : Heap}

theorem Cx.Ok.nofr (ok : X.Ok) {b : Addr} {o : Obj} (e : X.base.get? b = some o) : b ∉ X.fs := fun hb => by
  have := (ok.funs.mem hb).1
  rw [e] at this; cases this
theorem Inv.bs (I : Inv X pins σ H s) : ∀ b o, X.base.get? b = some o → s.heap.get? b = some o ∧ H b = none := fun b o e =>
  ⟨I.base.keep b o (I.ok.bs b o e).1 (I.ok.bs b o e).2 (I.ok.nofr e) (I.ok.noex b o e), I.base.free b o (I.ok.bs b o e).1 (I.ok.bs b o e).2 (I.ok.noex b o e)⟩
theorem Inv.bk (I : Inv X pins σ H s) : ∀ b o, X.base.get? b = some o → s.heap.get? b = some o := fun b o e => (I.bs b o e).1
theorem Inv.mod (I : Inv X pins σ H s) : Mod X.K X.mg X.base := I.ok.mod
theorem Inv.kIn (I : Inv X pins σ H s) : X.K.In s.heap := I.ok.mod.kin.keeps I.bk
theorem Inv.nolimit (I : Inv X pins σ H s) : s.heap.NoLimit := I.ok.mod.nolimit.keeps I.bk
/-- the frame over the base: for OpenK's rules (K.In X.base is I.mod.kin) -/
theorem Inv.fr (I : Inv X pins σ H s) : ∃ m, Fr X.base X.env.locals s.heap m :=
  let ⟨m, hn, _⟩ := I.loc
  ⟨m, hn, I.bk, Nat.le_trans I.ok.bsz I.ok.above⟩
theorem Inv.lt (I : Inv X pins σ H s) : X.env.locals < s.heap.objs.size := let ⟨_, hn, _⟩ := I.loc; hn.lt
theorem Inv.sz (I : Inv X pins σ H s) : X.s₀.heap.objs.size ≤ s.heap.objs.size := Nat.le_trans I.ok.above (Nat.le_of_lt I.lt)
theorem Inv.nofs (I : Inv X pins σ H s) {a : Addr} (h : s.heap.objs.size ≤ a) : a ∉ X.fs := fun hb => by
  obtain ⟨_, o, ho, _⟩ := I.ok.funs.mem hb
  exact absurd (Nat.lt_of_lt_of_le (Heap.lt_size ho) (Nat.le_trans I.sz h)) (Nat.lt_irrefl _)
theorem Inv.cne (I : Inv X pins σ H s) : ∀ x c, X.env.cells.lookup x = some c → c ≠ X.env.locals := fun x c e z => by
  obtain ⟨v, o, ho, hd⟩ := I.cell x c e
  obtain ⟨m, ⟨o', es, ep, ho', hd', _⟩, _⟩ := I.loc
  rw [z, ho'] at ho; cases ho; rw [hd'] at hd; cases hd
theorem Inv.funs (I : Inv X pins σ H s) : s.heap.FunFrames X.base X.outer := by
  have all : ∀ (l : List Env), (∀ b ∈ frs l, b ∈ X.fs) → X.s₀.heap.FunFrames X.base l → s.heap.FunFrames X.base l := by
    intro l
    induction l with
    | nil => intro _ _; trivial
    | cons env r ih =>
      intro hs hl
      obtain ⟨hk, ⟨L, o, hf, hn, ho, hd⟩, hr⟩ := hl
      have hL : L ∈ X.fs := hs L (by unfold frs; rw [List.filterMap_cons, hf]; exact List.mem_cons_self)
      obtain ⟨sl, e⟩ := I.base.slot L o ho (I.ok.frf L hL) hL fun z => I.ok.exfs L z hL
      exact ⟨hk, ⟨L, _, hf, hn, e, hd⟩, ih (fun b hb => hs b (by unfold frs; rw [List.filterMap_cons, hf]; exact List.mem_cons_of_mem _ hb)) hr⟩
  exact all X.outer (fun _ hb => hb) I.ok.funs

/-- the frames that run, for a call -/
theorem Inv.stack (I : Inv X pins σ H s) : s.heap.FunFrames X.base X.stack := by
  rcases I.ok.stk with e | ⟨e, hf⟩
  · rw [e]; exact I.funs
  · rw [e]
    obtain ⟨m, hn, _⟩ := I.loc
    refine .cons (by rw [I.ok.kind]; decide) hf hn ?_ I.funs
    exact Heap.get?_none_of_le (Nat.le_trans I.ok.bsz I.ok.above)
theorem Inv.stkSub (I : Inv X pins σ H s) : ∀ b ∈ frs X.stack, b ∈ X.env.locals :: X.fs := fun b hb => by
  rcases I.ok.stk with e | ⟨e, hf⟩
  · rw [e] at hb; exact List.mem_cons_of_mem _ hb
  · rw [e] at hb
    unfold frs at hb
    rw [List.filterMap_cons, hf] at hb
    exact hb
theorem Inv.stkFree (I : Inv X pins σ H s) : ∀ b ∈ frs X.stack, H b = none := fun b hb => by
  rcases List.mem_cons.mp (I.stkSub b hb) with e | hb
  · rw [e]; exact I.free
  · obtain ⟨_, o, ho, _⟩ := I.ok.funs.mem hb
    exact I.base.free b o ho (I.ok.frf b hb) fun z => I.ok.exfs b z hb

/-- THE STEP: the untracked objects but the frame and the records at ch are kept (the callers' frames up to slots), the frame's map is kept, the new abstract heap is held -/
theorem Inv.step {g' : Array GenState} {t' : Nat} {d' : Drawn} {ch : List Addr} (I : Inv X pins σ H s)
    (hch : ∀ b ∈ ch, (b ∈ X.ex ∨ X.s₀.heap.objs.size ≤ b) ∧ b ≠ X.env.locals ∧ (∀ x c, X.env.cells.lookup x = some c → c ≠ b) ∧ ∀ p ∈ X.pn ++ pins, p.1 ≠ b)
    (keep : ∀ b o, b ≠ X.env.locals → b ∉ X.fs → b ∉ ch → s.heap.get? b = some o → H b = none → h'.get? b = some o)
    (slot : ∀ b o, b ≠ X.env.locals → b ∈ X.fs → b ∉ ch → s.heap.get? b = some o → H b = none → ∃ sl, h'.get? b = some { o with slots := sl }) (free : ∀ b o, b ∉ ch → s.heap.get? b = some o → H b = none → H' b = none)
    (there : ∀ b o, b ∉ ch → s.heap.get? b = some o → ∃ o', h'.get? b = some o')
    (tups : ∀ b xs, H b = some (.tup xs) → H' b = some (.tup xs)) (frzs : ∀ b o u, H b = some (.frz o u) → H' b = some (.frz o u)) (tbls : ∀ b ps, H b = some (.tbl ps) → ∃ more, H' b = some (.tbl (ps ++ more)))
    (ns : ∀ m, s.heap.Ns X.env.locals m → h'.Ns X.env.locals m) (hok : HOk X.prog X.w H' h') (hg : AllBare g') :
    Inv X pins σ H' { s with heap := h', gens := g', drawn := d', toks := t' } := by
  have neL : ∀ b o, X.s₀.heap.get? b = some o → b ≠ X.env.locals := fun b o e => Nat.ne_of_lt (Nat.lt_of_lt_of_le (Heap.lt_size e) I.ok.above)
  have neC : ∀ b o, X.s₀.heap.get? b = some o → b ∉ X.ex → b ∉ ch := fun b o e hx hb => by
    rcases (hch b hb).1 with z | z
    · exact hx z
    · exact absurd (Nat.lt_of_lt_of_le (Heap.lt_size e) z) (Nat.lt_irrefl _)
  have cellK : ∀ x c, X.env.cells.lookup x = some c → ∀ v, s.heap.IsCell c v → h'.IsCell c v := fun x c e v ⟨o, ho, hd⟩ => by
    have nch : c ∉ ch := fun z => (hch c z).2.2.1 x c e rfl
    by_cases hc : c ∈ X.fs
    · obtain ⟨sl, q⟩ := slot c o (I.cne x c e) hc nch ho (I.freeC x c e)
      exact ⟨_, q, hd⟩
    · exact ⟨o, keep c o (I.cne x c e) hc nch ho (I.freeC x c e), hd⟩
  refine ⟨I.ok, I.os, hg, ⟨fun b o e n hb hx => ?_, fun b o e n hb hx => ?_, fun b o e n hx => ?_, fun b o e hx => ?_, fun b xs e => tups b xs (I.base.tups b xs e), fun b o xs e => frzs b o xs (I.base.frzs b o xs e), fun b ps e => ?_⟩, ?_, fun x c e => ?_, ?_, fun x c e => ?_, fun p hp => ?_, hok, I.len⟩
  · exact keep b o (neL b o e) hb (neC b o e hx) (I.base.keep b o e n hb hx) (I.base.free b o e n hx)
  · obtain ⟨sl, e1⟩ := I.base.slot b o e n hb hx
    obtain ⟨sl', e2⟩ := slot b _ (neL b o e) hb (neC b o e hx) e1 (I.base.free b o e n hx)
    exact ⟨sl', e2⟩
  · obtain ⟨o', e1⟩ := I.base.there b o e hx
    exact free b o' (neC b o e hx) e1 (I.base.free b o e n hx)
  · obtain ⟨o', e1⟩ := I.base.there b o e hx
    exact there b o' (neC b o e hx) e1
  · obtain ⟨m1, e1⟩ := I.base.tbls b ps e
    obtain ⟨m2, e2⟩ := tbls b _ e1
    exact ⟨m1 ++ m2, by rw [e2, Array.append_assoc]⟩
  · obtain ⟨m, hn, hl⟩ := I.loc
    refine ⟨m, ns m hn, fun i x v e1 e2 e3 => ?_⟩
    obtain ⟨u, r, l⟩ := hl i x v e1 e2 e3
    refine ⟨u, r, ?_⟩
    rcases l with l | ⟨k, c, e, z⟩
    · exact .inl l
    · exact .inr ⟨k, c, e, cellK x c e _ z⟩
  · obtain ⟨v, z⟩ := I.cell x c e
    exact ⟨v, cellK x c e v z⟩
  · obtain ⟨m, ⟨o, _, _, ho, _⟩, _⟩ := I.loc
    exact free _ o (fun z => (hch _ z).2.1 rfl) ho I.free
  · obtain ⟨v, o, ho, hd⟩ := I.cell x c e
    exact free c o (fun z => (hch c z).2.2.1 x c e rfl) ho (I.freeC x c e)
  · obtain ⟨e, n, ne, nf, d⟩ := I.pin p hp
    have nch : p.1 ∉ ch := fun z => (hch p.1 z).2.2.2 p hp rfl
    exact ⟨keep p.1 p.2 ne nf nch e n, free p.1 p.2 nch e n, ne, nf, d⟩
/-- .. where the frame's own object is kept too -/
theorem Inv.un {t' : Nat} (I : Inv X pins σ H s) (u : Un X.fs [] H H' s.heap h') (hok : HOk X.prog X.w H' h') : Inv X pins σ H' { s with heap := h', toks := t' } := by
  obtain ⟨m, ⟨o, es, ep, ho, r⟩, _⟩ := id I.loc
  obtain ⟨sl, hL⟩ := u.any ho I.free (by simp)
  exact I.step (g' := s.gens) (d' := s.drawn) (ch := []) (fun _ z => nomatch z) (fun b o _ hb _ e n => u.keep b o e n hb (by simp)) (fun b o _ hb _ e n => u.slot b o e n hb (by simp)) (fun b o _ e n => u.free b o e n (by simp)) (fun b o _ e => u.there b o e (by simp)) u.tups u.frzs u.tbls (fun m' hm => by
    obtain ⟨o', es', ep', ho', r'⟩ := hm
    rw [ho] at ho'; cases ho'
    exact ⟨_, es', ep', hL, r'⟩) hok I.bare
/-- behind a call (or a comprehension's block): the slots of this frame may have changed too, the records at ch may have turned -/
theorem Inv.call {g' : Array GenState} {t' : Nat} {d' : Drawn} {ch : List Addr} (I : Inv X pins σ H s) (u : Un (frs X.stack) ch H H' s.heap h') (hok : HOk X.prog X.w H' h') (hg : AllBare g')
    (hch : ∀ b ∈ ch, (b ∈ X.ex ∨ X.s₀.heap.objs.size ≤ b) ∧ b ≠ X.env.locals ∧ (∀ x c, X.env.cells.lookup x = some c → c ≠ b) ∧ ∀ p ∈ X.pn ++ pins, p.1 ≠ b) :
    Inv X pins σ H' { s with heap := h', gens := g', drawn := d', toks := t' } := by
  obtain ⟨m, ⟨o, es, ep, ho, r⟩, _⟩ := id I.loc
  obtain ⟨sl, hL⟩ := u.any ho I.free fun z => (hch _ z).2.1 rfl
  exact I.step (ch := ch) hch (fun b o hL hb hc e n => u.keep b o e n (fun z => (List.mem_cons.mp (I.stkSub b z)).elim hL hb) hc) (fun b o _ _ hc e n => u.any e n hc) (fun b o hc e n => u.free b o e n hc) (fun b o hc e => u.there b o e hc) u.tups u.frzs u.tbls (fun m' hm => by
    obtain ⟨o', es', ep', ho', r'⟩ := hm
    rw [ho] at ho'; cases ho'
    exact ⟨_, es', ep', hL, r'⟩) hok hg
/-- an untracked record of ours (an iterator) has turned -/
theorem Inv.turned {t' : Nat} {it : Addr} (I : Inv X pins σ H s) (k : ∀ b o, b ≠ it → s.heap.get? b = some o → h'.get? b = some o) (hn : H it = none) (hL : it ≠ X.env.locals)
    (h1 : it ∈ X.ex ∨ X.s₀.heap.objs.size ≤ it) (h2 : ∀ x c, X.env.cells.lookup x = some c → c ≠ it) (h3 : ∀ p ∈ X.pn ++ pins, p.1 ≠ it) : Inv X pins σ H { s with heap := h', toks := t' } := by
  have nit : ∀ b u, H b = some u → b ≠ it := fun b u e z => by rw [z, hn] at e; cases e
  refine I.step (g' := s.gens) (d' := s.drawn) (ch := [it]) (fun b hb => ?_) (fun b o _ _ hc e _ => k b o (fun z => hc (by simp [z])) e) (fun b o _ _ hc e _ => ⟨o.slots, k b o (fun z => hc (by simp [z])) e⟩) (fun _ _ _ _ n => n)
    (fun b o hc e => ⟨o, k b o (fun z => hc (by simp [z])) e⟩) (fun _ _ e => e) (fun _ _ _ e => e) (fun b ps e => ⟨#[], by rw [e]; simp⟩) (fun m hm => ?_) (fun b u e => ?_) I.bare
  · have e : b = it := by simpa using hb
    subst e
    exact ⟨h1, hL, h2, h3⟩
  · obtain ⟨o, es, ep, ho, r⟩ := hm
    exact ⟨o, es, ep, k _ o (Ne.symm hL) ho, r⟩
  · refine (I.hok b u e).stay (fun c v hc q => k c v ?_ q) (fun _ q => q) fun _ _ q => q
    rcases hc with z | z
    · rw [z]; exact nit b u e
    · exact nit c _ z
theorem Inv.tok (I : Inv X pins σ H s) (t : Nat) : Inv X pins σ H { s with toks := t } := I.un (h' := s.heap) (t' := t) Un.refl I.hok
/-- all objects kept -/
theorem Inv.kept {t' : Nat} (I : Inv X pins σ H s) (k : ∀ b u, s.heap.get? b = some u → h'.get? b = some u) : Inv X pins σ H { s with heap := h', toks := t' } := I.un (Un.kept k) (I.hok.kept k)
/-- a new object laid and tracked -/
theorem Inv.laid {a : Addr} {o : HO} {t' : Nat} (I : Inv X pins σ H s) (k : ∀ b u, s.heap.get? b = some u → h'.get? b = some u) (hp : s.heap.objs.size ≤ a) (new : ObjOk X.prog X.w (upd H a o) h' a o) :
    Inv X pins σ (upd H a o) { s with heap := h', toks := t' } := I.un (Un.laid k hp (I.hok.fresh hp)) (I.hok.laid k hp new)
/-- an object written -/
theorem Inv.write {x e : Addr} {o : HO} {t' : Nat} (I : Inv X pins σ H s) (mu : Mut (H x)) (he : e = x ∨ H e = some (.own x)) (k : ∀ b u, b ≠ e → s.heap.get? b = some u → h'.get? b = some u) (heo : ∃ u, h'.get? e = some u)
    (new : ObjOk X.prog X.w (upd H x o) h' x o) : Inv X pins σ (upd H x o) { s with heap := h', toks := t' } := I.un (Un.write mu he k heo) (I.hok.write mu he k heo new)
/-- forgetting slots, pins -/
theorem Inv.weak {σ' : List (Option V)} (I : Inv X pins σ H s) (hl : σ'.length = σ.length) (w : ∀ (i : Nat) v, σ'[i]? = some (some v) → σ[i]? = some (some v)) : Inv X pins σ' H s :=
  ⟨I.ok, I.os, I.bare, I.base, let ⟨m, hn, hl'⟩ := I.loc; ⟨m, hn, fun i x v e1 e2 e3 => hl' i x v e1 (w i v e2) e3⟩, I.cell, I.free, I.freeC, I.pin, I.hok, hl.trans I.len⟩
theorem Inv.pins_of {pins' : List (Addr × Obj)} (I : Inv X pins σ H s) (h : ∀ p ∈ pins', s.heap.get? p.1 = some p.2 ∧ H p.1 = none ∧ p.1 ≠ X.env.locals ∧ p.1 ∉ X.fs ∧ ∀ v, p.2.data ≠ .cell v) : Inv X pins' σ H s :=
  ⟨I.ok, I.os, I.bare, I.base, I.loc, I.cell, I.free, I.freeC, fun p hp => (List.mem_append.mp hp).elim (fun z => I.pin p (List.mem_append_left _ z)) (h p), I.hok, I.len⟩

theorem nodup_ix {N : List Str} (hN : N.Nodup) {i j : Nat} {x : Str} (a : N[i]? = some x) (b : N[j]? = some x) : i = j := by
  obtain ⟨h1, e1⟩ := List.getElem?_eq_some_iff.mp a
  obtain ⟨h2, e2⟩ := List.getElem?_eq_some_iff.mp b
  exact (List.getElem_inj hN).mp (e1.trans e2.symm)

/-- a name is stored; what changed -/
theorem store_ok2 {M : Model} {A : Around} {E : Value → Shared → Prop} {i : Nat} {x : Str} {v : V} {u : Value} {Q : Unit → Shared → Prop} (I : Inv X pins σ H s) (hN : X.N.Nodup) (hi : X.N[i]? = some x) (hx : Loc X.env.scope x) (r : RelV v u)
    (h : ∀ s', Inv X pins (σ.set i (some v)) H s' → (∃ a, Heap.SameBut a s.heap s'.heap ∧ (a = X.env.locals ∨ X.env.cells.lookup x = some a)) → Q () s') (hf : X.fn x = true ∨ X.env.scope.names.lookup x = some .local := by first | exact .inl rfl | exact .inr rfl | assumption) : wpAny M A (storeName X.env x u) Q E s := by
  obtain ⟨m, hn, hl⟩ := id I.loc
  have hcls : (X.env.scope.kind == .class || (X.env.scope.kind == .module && X.env.locals != X.env.globals)) = false := by rw [I.ok.kind]; rfl
  have hiσ : i < σ.length := by rw [I.len]; exact (List.getElem?_eq_some_iff.mp hi).1
  have cne := I.cne
  have tracked : ∀ {a : Addr} {h' : Heap}, (∃ o, s.heap.get? a = some o ∧ H a = none) → Heap.SameBut a s.heap h' → HOk X.prog X.w H h' := fun {a h'} ha hs b ob e => by
    obtain ⟨_, _, hfree⟩ := ha
    refine (I.hok b ob e).stay (fun c w' hc q => (hs.2 c ?_).trans q) (fun _ q => q) fun _ _ q => q
    rintro rfl
    rcases hc with rfl | hc
    · rw [hfree] at e; cases e
    · rw [hfree] at hc; cases hc
  rcases hx with hk | hk
  · refine wpAny_storeName_local hk hn (fun h' hn' hs => ?_) hcls
    obtain ⟨oL, _, _, hoL, _⟩ := id hn
    refine h _ ⟨I.ok, I.os, I.bare, ⟨fun b o e n hb hx => ?_, fun b o e n hb hx => ?_, I.base.free, fun b o e hx => ?_, I.base.tups, I.base.frzs, I.base.tbls⟩, ⟨_, hn', fun j y v' e1 e2 e3 => ?_⟩, fun y c e => ?_, I.free, I.freeC, fun p hp => ?_, tracked ⟨oL, hoL, I.free⟩ hs, by simpa using I.len⟩ ⟨_, hs, .inl rfl⟩
    · exact (hs.2 b (Nat.ne_of_lt (Nat.lt_of_lt_of_le (Heap.lt_size e) I.ok.above))).trans (I.base.keep b o e n hb hx)
    · obtain ⟨sl, e1⟩ := I.base.slot b o e n hb hx
      exact ⟨sl, (hs.2 b (Nat.ne_of_lt (Nat.lt_of_lt_of_le (Heap.lt_size e) I.ok.above))).trans e1⟩
    · obtain ⟨o', e1⟩ := I.base.there b o e hx
      exact ⟨o', (hs.2 b (Nat.ne_of_lt (Nat.lt_of_lt_of_le (Heap.lt_size e) I.ok.above))).trans e1⟩
    · by_cases hj : j = i
      · subst hj
        rw [hi] at e1; cases e1
        rw [List.getElem?_set_self hiσ] at e2
        cases e2
        exact ⟨u, r, .inl ⟨hk, by simp⟩⟩
      · rw [List.getElem?_set_ne (Ne.symm hj)] at e2
        obtain ⟨u', r', q⟩ := hl j y v' e1 e2 e3
        refine ⟨u', r', ?_⟩
        rcases q with ⟨k, e⟩ | ⟨k, c, e, z⟩
        · refine .inl ⟨k, ?_⟩
          have : y ≠ x := fun e => hj (nodup_ix hN e1 (e ▸ hi))
          simp [this, e]
        · exact .inr ⟨k, c, e, z.sameBut hs (cne y c e)⟩
    · obtain ⟨w', z⟩ := I.cell y c e
      exact ⟨w', z.sameBut hs (cne y c e)⟩
    · obtain ⟨e, n, ne, nf, d⟩ := I.pin p hp
      exact ⟨(hs.2 p.1 ne).trans e, n, ne, nf, d⟩
  · have hfn : X.fn x = true := by
      rcases hf with z | z
      · exact z
      · rw [z] at hk; cases hk
    obtain ⟨c, hc⟩ := I.ok.has x (.inl hk)
    obtain ⟨w', z⟩ := I.cell x c hc
    refine wpAny_storeName_cell I.ok.kind hk hc z (fun h' hc' hs => ?_)
    obtain ⟨oc, hoc, hocd⟩ := id z
    refine h { s with heap := h' } ⟨I.ok, I.os, I.bare, ⟨fun b o e n hb hx => ?_, fun b o e n hb hx => ?_, I.base.free, fun b o e hx => ?_, I.base.tups, I.base.frzs, I.base.tbls⟩, ⟨m, hn.sameBut hs (Ne.symm (cne x c hc)), fun j y v' e1 e2 e3 => ?_⟩, fun y c' e => ?_, I.free, I.freeC, fun p hp => ?_, tracked ⟨oc, hoc, I.freeC x c hc⟩ hs, by simpa using I.len⟩ ⟨c, hs, .inr hc⟩
    · exact (hs.2 b (Nat.ne_of_lt (Nat.lt_of_lt_of_le (Heap.lt_size e) (I.ok.cab x c hfn hc)))).trans (I.base.keep b o e n hb hx)
    · obtain ⟨sl, e1⟩ := I.base.slot b o e n hb hx
      exact ⟨sl, (hs.2 b (Nat.ne_of_lt (Nat.lt_of_lt_of_le (Heap.lt_size e) (I.ok.cab x c hfn hc)))).trans e1⟩
    · obtain ⟨o', e1⟩ := I.base.there b o e hx
      exact ⟨o', (hs.2 b (Nat.ne_of_lt (Nat.lt_of_lt_of_le (Heap.lt_size e) (I.ok.cab x c hfn hc)))).trans e1⟩
    · by_cases hj : j = i
      · subst hj
        rw [hi] at e1; cases e1
        rw [List.getElem?_set_self hiσ] at e2
        cases e2
        exact ⟨u, r, .inr ⟨.inl hk, c, hc, hc'⟩⟩
      · rw [List.getElem?_set_ne (Ne.symm hj)] at e2
        obtain ⟨u', r', q⟩ := hl j y v' e1 e2 e3
        refine ⟨u', r', ?_⟩
        rcases q with q | ⟨k, c', e, z'⟩
        · exact .inl q
        · refine .inr ⟨k, c', e, z'.sameBut hs ?_⟩
          rintro rfl
          exact hj (nodup_ix hN e1 (I.ok.inj _ _ _ e hc ▸ hi))
    · by_cases hcc : c' = c
      · subst hcc; exact ⟨_, hc'⟩
      · obtain ⟨w2, z2⟩ := I.cell y c' e
        exact ⟨w2, z2.sameBut hs hcc⟩
    · obtain ⟨e, n, ne, nf, d⟩ := I.pin p hp
      refine ⟨(hs.2 p.1 ?_).trans e, n, ne, nf, d⟩
      intro q
      rw [q, hoc] at e
      have q' : oc = p.2 := Option.some.inj e
      exact d w' (by rw [← q']; exact hocd)
theorem store_ok {M : Model} {A : Around} {E : Value → Shared → Prop} {i : Nat} {x : Str} {v : V} {u : Value} {Q : Unit → Shared → Prop} (I : Inv X pins σ H s) (hN : X.N.Nodup) (hi : X.N[i]? = some x) (hx : Loc X.env.scope x) (r : RelV v u)
    (h : ∀ s', Inv X pins (σ.set i (some v)) H s' → Q () s') (hf : X.fn x = true ∨ X.env.scope.names.lookup x = some .local := by first | exact .inl rfl | exact .inr rfl | assumption) : wpAny M A (storeName X.env x u) Q E s :=
  store_ok2 I hN hi hx r (fun s' I' _ => h s' I') hf
/-- behind a call or a block, the state as it is -/
theorem Inv.call' {s' : Shared} {ch : List Addr} (I : Inv X pins σ H s) (ho : s'.os = s.os) (u : Un (frs X.stack) ch H H' s.heap s'.heap) (hok : HOk X.prog X.w H' s'.heap) (hg : AllBare s'.gens)
    (hch : ∀ b ∈ ch, (b ∈ X.ex ∨ X.s₀.heap.objs.size ≤ b) ∧ b ≠ X.env.locals ∧ (∀ x c, X.env.cells.lookup x = some c → c ≠ b) ∧ ∀ p ∈ X.pn ++ pins, p.1 ≠ b) : Inv X pins σ H' s' := by
  obtain ⟨h', g', d', t', o'⟩ := s'
  have e : o' = s.os := ho
  subst e
  exact I.call (g' := g') (t' := t') (d' := d') u hok hg hch
end

/-! ### the judgements -/
/-- an exception: its class, its own dict's address (where it has one), the abstract heap behind it -/
abbrev XK := Value → Option Addr → Hp → Prop
abbrev St := List (Option V)
abbrev VK := V → Hp → Prop
/-- an expression's reading; a test's; an argument list's -/
abbrev TE := St → Hp → VK → Prop
abbrev TT := St → Hp → (Bool → Hp → Prop) → Prop
abbrev TA := St → Hp → (List V → Hp → Prop) → Prop
/-- what is wanted behind a statement -/
structure Ends where
  nx : St → Hp → Prop
  rt : VK
  bk : St → Hp → Prop := fun _ _ => False
  ct : St → Hp → Prop := fun _ _ => False
abbrev TS := Ends → St → Hp → Prop

def EP (X : Cx) (pins : List (Addr × Obj)) (σ : St) (Q : VK) (u : Value) (s' : Shared) : Prop := ∃ v H', Inv X pins σ H' s' ∧ RelV v u ∧ Q v H'
def TP (X : Cx) (pins : List (Addr × Obj)) (σ : St) (Q : Bool → Hp → Prop) (b : Bool) (s' : Shared) : Prop := ∃ H', Inv X pins σ H' s' ∧ Q b H'
def AP (X : Cx) (pins : List (Addr × Obj)) (σ : St) (Q : List V → Hp → Prop) (us : List Value) (s' : Shared) : Prop := ∃ vs H', Inv X pins σ H' s' ∧ Vals vs us ∧ Q vs H'
def SP (X : Cx) (pins : List (Addr × Obj)) (D : Ends) (f : Flow) (s' : Shared) : Prop :=
  match f with
  | .next => ∃ σ' H', Inv X pins σ' H' s' ∧ D.nx σ' H'
  | .brk => ∃ σ' H', Inv X pins σ' H' s' ∧ D.bk σ' H'
  | .cont => ∃ σ' H', Inv X pins σ' H' s' ∧ D.ct σ' H'
  | .ret u => ∃ v σ' H', Inv X pins σ' H' s' ∧ RelV v u ∧ D.rt v H'

def PE (X : Cx) (e : Expr) (t : TE) : Prop :=
  ∀ (pins : List (Addr × Obj)) (s : Shared) (σ : St) (H : Hp) (Q : VK), Inv X pins σ H s → t σ H Q → wpAny (model X.prog X.w) X.A (eval e X.env) (EP X pins σ Q) X.xe s
def PT (X : Cx) (e : Expr) (t : TT) : Prop :=
  ∀ (pins : List (Addr × Obj)) (s : Shared) (σ : St) (H : Hp) (Q : Bool → Hp → Prop), Inv X pins σ H s → t σ H Q → wpAny (model X.prog X.w) X.A (isTrue e X.env (eval e X.env)) (TP X pins σ Q) X.xe s
/-- a test whatever its 'whole' is (and, or) -/
def PW (X : Cx) (e : Expr) (t : TT) : Prop :=
  ∀ (whole : Sem Value) (pins : List (Addr × Obj)) (s : Shared) (σ : St) (H : Hp) (Q : Bool → Hp → Prop), Inv X pins σ H s → t σ H Q → wpAny (model X.prog X.w) X.A (isTrue e X.env whole) (TP X pins σ Q) X.xe s
theorem PW.pt {X : Cx} {e : Expr} {t : TT} (h : PW X e t) : PT X e t := h _
/-- an argument list (no star), from the left -/
def PA (X : Cx) (es : List Expr) (t : TA) : Prop :=
  ∀ (pos : Pos) (pins : List (Addr × Obj)) (s : Shared) (σ : St) (H : Hp) (Q : List V → Hp → Prop), Inv X pins σ H s → t σ H Q → wpAny (model X.prog X.w) X.A (spliced (backTo pos (starEach es X.env))) (AP X pins σ Q) X.xe s
def PS (X : Cx) (st : Stmt) (t : TS) : Prop :=
  ∀ (pins : List (Addr × Obj)) (s : Shared) (σ : St) (H : Hp) (D : Ends), Inv X pins σ H s → t D σ H → wpAny (model X.prog X.w) X.A (exec st X.env) (SP X pins D) X.xe s
def PSs (X : Cx) (st : List Stmt) (t : TS) : Prop :=
  ∀ (pins : List (Addr × Obj)) (s : Shared) (σ : St) (H : Hp) (D : Ends), Inv X pins σ H s → t D σ H → wpAny (model X.prog X.w) X.A (execs st X.env) (SP X pins D) X.xe s
/-- weaken the end -/
theorem thn {α : Type} {t : Sem α} {Q Q' : α → Shared → Prop} {M : Model} {A : Around} {E : Value → Shared → Prop} {s : Shared} (h : wpAny M A t Q E s) (hQ : ∀ a s, Q a s → Q' a s) : wpAny M A t Q' E s := wpAny_mono h hQ fun _ _ x => x
end L2

namespace L2
open PySem PySem.Spec PyProof.Rows
section
variable {X : Cx}

/-- two expressions in a row -/
theorem bin {a b : Expr} {ta tb : TE} (ha : PE X a ta) (hb : PE X b tb) {pins : List (Addr × Obj)} {s : Shared} {σ : St} {H : Hp} {R : V → V → Hp → Prop} (I : Inv X pins σ H s) (h : ta σ H fun x H1 => tb σ H1 fun y H2 => R x y H2)
    {α : Type} {Q : α → Shared → Prop} {f : Value → Value → Sem α}
    (hf : ∀ v u s2 x y H2, Inv X pins σ H2 s2 → RelV x v → RelV y u → R x y H2 → wpAny (model X.prog X.w) X.A (f v u) Q X.xe s2) :
    wpAny (model X.prog X.w) X.A (eval a X.env) (fun v s₁ => wpAny (model X.prog X.w) X.A (eval b X.env) (fun u s₂ => wpAny (model X.prog X.w) X.A (f v u) Q X.xe s₂) X.xe s₁) X.xe s := by
  refine thn (ha pins s σ H _ I h) fun v s1 ⟨x, H1, I1, r1, q1⟩ => ?_
  refine thn (hb pins s1 σ H1 _ I1 q1) fun u s2 ⟨y, H2, I2, r2, q2⟩ => ?_
  exact hf v u s2 x y H2 I2 r1 r2 q2

/-! ### names and constants -/
def tVar (i : Nat) : TE := fun σ H Q => ∃ v, σ[i]? = some (some v) ∧ Q v H
def tC (v : V) : TE := fun _ H Q => Q v H
theorem pe_var {i : Nat} {x : Str} {pos : Pos} (hN : X.N[i]? = some x) (hv : Vis X.env.scope x) (hd : (x == ("__debug__" : Str)) = false := by decide) (hcd : (x == ("__classdict__" : Str)) = false := by decide) : PE X (.Name x pos) (tVar i) := by
  intro pins s σ H Q I h
  obtain ⟨v, e, h⟩ := h
  obtain ⟨m, hn, hl⟩ := I.loc
  obtain ⟨u, r, l⟩ := hl i x v hN e hv
  have fin : EP X pins σ Q u s := ⟨v, H, I, r, h⟩
  rcases l with ⟨hk, hm⟩ | ⟨hk, c, hc, hcell⟩
  · exact wpAny_Name (wpAny_loadName_local I.ok.kind hk hn hm fin) hd
  · rcases hk with hk | hk
    · exact wpAny_Name (wpAny_loadName_cell I.ok.kind hk hc hcell fin) hd
    · exact wpAny_Name (wpAny_loadName_free I.ok.kind hk hc hcell fin hcd) hd
theorem pe_int {i j pos} : PE X (.Constant (.int i) j pos) (tC (.int i)) := fun _ _ _ H _ I h => wpAny_Constant_int ⟨.int i, H, I.tok _, ⟨_, rfl⟩, h⟩
theorem pe_bl {b j pos} : PE X (.Constant (.bool b) j pos) (tC (.bl b)) := fun _ _ _ H _ I h => Constant_bool ⟨.bl b, H, I, rfl, h⟩
theorem pe_non {j pos} : PE X (.Constant .none j pos) (tC .non) := fun _ _ _ H _ I h => Constant_none ⟨.non, H, I, rfl, h⟩
theorem pe_str {x j pos} : PE X (.Constant (.str x) j pos) (tC (.str x)) := fun _ _ _ H _ I h => Calls.Constant_str ⟨.str x, H, I.tok _, ⟨_, rfl⟩, h⟩

/-- a global name of the def -/
def Gl (X : Cx) (x : Str) : Prop := X.env.kindOf x = some .globalImplicit
theorem ld_glob {E : Value → Shared → Prop} {pins : List (Addr × Obj)} {s : Shared} {σ : St} {H : Hp} {x : Str} {u : Value} {pos : Pos} {Q : Value → Shared → Prop} (I : Inv X pins σ H s) (hg : Gl X x) (hm : X.mg x = some u) (h : Q u s)
    (hd : (x == ("__debug__" : Str)) = false := by decide) : wpAny (model X.prog X.w) X.A (eval (.Name x pos) X.env) Q E s :=
  Calls.Name_function_global I.ok.kind hg (Calls.loadGlobal_global (by rw [I.ok.glob]; exact I.mod.glob.keeps I.bk) hm h) hd
theorem ld_blt {E : Value → Shared → Prop} {pins : List (Addr × Obj)} {s : Shared} {σ : St} {H : Hp} {x : Str} {u : Value} {pos : Pos} {Q : Value → Shared → Prop} (I : Inv X pins σ H s) (hg : Gl X x) (hm : X.mg x = none) (hv : bootBuiltins x = some u) (h : Q u s)
    (hn : x ≠ "__name__" := by decide) (hd : (x == ("__debug__" : Str)) = false := by decide) : wpAny (model X.prog X.w) X.A (eval (.Name x pos) X.env) Q E s := by
  obtain ⟨mb, h1, h2⟩ := I.mod.blt
  exact Calls.Name_function_global I.ok.kind hg (Calls.loadGlobal_builtin (by rw [I.ok.glob]; exact I.mod.glob.keeps I.bk) hm (by rw [I.ok.blt]; exact h1.keeps I.bk) ((h2 x hn).trans hv) h) hd
/-- a module's constant, a class, a function, as a value -/
theorem pe_glob {x : Str} {v : V} {u : Value} {pos : Pos} (hg : Gl X x) (hm : X.mg x = some u) (r : RelV v u) (hd : (x == ("__debug__" : Str)) = false := by decide) : PE X (.Name x pos) (tC v) :=
  fun _ _ _ H _ I h => ld_glob I hg hm ⟨v, H, I, r, h⟩ hd
theorem pe_bltn {x : Str} {v : V} {u : Value} {pos : Pos} (hg : Gl X x) (hm : X.mg x = none) (hv : bootBuiltins x = some u) (r : RelV v u) (hn : x ≠ "__name__" := by decide) (hd : (x == ("__debug__" : Str)) = false := by decide) : PE X (.Name x pos) (tC v) :=
  fun _ _ _ H _ I h => ld_blt I hg hm hv ⟨v, H, I, r, h⟩ hn hd

/-! ### arithmetic -/
/-- two ints -/
def t2I (ta tb : TE) (k : Int → Int → Hp → Prop) : St → Hp → Prop := fun σ H => ta σ H fun x H1 => tb σ H1 fun y H2 => ∃ i j, x = .int i ∧ y = .int j ∧ k i j H2
def tAdd (ta tb : TE) : TE := fun σ H Q => t2I ta tb (fun i j H2 => Q (.int (i + j)) H2) σ H
def tSub (ta tb : TE) : TE := fun σ H Q => t2I ta tb (fun i j H2 => Q (.int (i - j)) H2) σ H
/-- the left factor below 2^64 -/
def tMul (ta tb : TE) : TE := fun σ H Q => t2I ta tb (fun i j H2 => (-(2 ^ 64) < i ∧ i < 2 ^ 64) ∧ Q (.int (i * j)) H2) σ H
variable {a b : Expr} {ta tb : TE} {pos : Pos}
/-! ### comparisons -/
def PC (X : Cx) (op : CmpOp) (a b : Expr) (t : TE) : Prop :=
  ∀ (pins : List (Addr × Obj)) (s : Shared) (σ : St) (H : Hp) (Q : VK), Inv X pins σ H s → t σ H Q →
    wpAny (model X.prog X.w) X.A (eval a X.env) (fun v s₁ => wpAny (model X.prog X.w) X.A (eval b X.env) (fun u s₂ => wpAny (model X.prog X.w) X.A (compareOp op v u) (EP X pins σ Q) X.xe s₂) X.xe s₁) X.xe s
def tCmp (p : Int → Int → Bool) (ta tb : TE) : TE := fun σ H Q => t2I ta tb (fun i j H2 => Q (.bl (p i j)) H2) σ H
abbrev tLt : TE → TE → TE := tCmp fun i j => decide (i < j)
abbrev tLe : TE → TE → TE := tCmp fun i j => decide (i ≤ j)
abbrev tGt : TE → TE → TE := tCmp fun i j => decide (j < i)
abbrev tGe : TE → TE → TE := tCmp fun i j => decide (j ≤ i)
abbrev tEqI : TE → TE → TE := tCmp fun i j => decide (i = j)
abbrev tNeI : TE → TE → TE := tCmp fun i j => !decide (i = j)
/-- is None -/
def tIsN (ta : TE) : TE := fun σ H Q => ta σ H fun x H1 => Q (.bl (decide (x = .non))) H1
def tNotN (ta : TE) : TE := fun σ H Q => ta σ H fun x H1 => Q (.bl (!decide (x = .non))) H1
/-- a comparison as a value, as a test -/
def tB (t : TE) : TT := fun σ H Q => t σ H fun x H1 => ∃ c, x = .bl c ∧ Q c H1
/-! ### and, or, not -/
variable {tA tB' : TT} {rest : List Expr}
def tAnd (t u : TT) : TT := fun σ H Q => t σ H fun c H1 => if c = true then u σ H1 Q else Q false H1
def tOr (t u : TT) : TT := fun σ H Q => t σ H fun c H1 => if c = true then Q true H1 else u σ H1 Q
def tNot (t : TT) : TT := fun σ H Q => t σ H fun c H1 => Q (!c) H1
theorem pw_and1 (ha : PT X a tA) : PW X (.BoolOp .And [a] pos) tA := by
  intro wh pins s σ H Q I h
  refine isTrue_and (thn (ha pins s σ H Q I h) fun c s1 e => ?_)
  cases c with
  | true => exact isTrue_and_nil e
  | false => exact e
theorem pw_or1 (ha : PT X a tA) : PW X (.BoolOp .Or [a] pos) tA := by
  intro wh pins s σ H Q I h
  refine isTrue_or (thn (ha pins s σ H Q I h) fun c s1 e => ?_)
  cases c with
  | false => exact isTrue_or_nil e
  | true => exact e
theorem pw_and (ha : PT X a tA) (hb : PW X (.BoolOp .And (b :: rest) pos) tB') : PW X (.BoolOp .And (a :: b :: rest) pos) (tAnd tA tB') := by
  intro wh pins s σ H Q I h
  refine isTrue_and (thn (ha pins s σ H _ I h) fun c s1 ⟨H1, I1, q1⟩ => ?_)
  cases c with
  | true => exact hb wh pins s1 σ H1 Q I1 q1
  | false => exact ⟨H1, I1, q1⟩
theorem pw_or (ha : PT X a tA) (hb : PW X (.BoolOp .Or (b :: rest) pos) tB') : PW X (.BoolOp .Or (a :: b :: rest) pos) (tOr tA tB') := by
  intro wh pins s σ H Q I h
  refine isTrue_or (thn (ha pins s σ H _ I h) fun c s1 ⟨H1, I1, q1⟩ => ?_)
  cases c with
  | true => exact ⟨H1, I1, q1⟩
  | false => exact hb wh pins s1 σ H1 Q I1 q1
theorem pt_not (ha : PT X a tA) : PT X (.UnaryOp .Not a pos) (tNot tA) := by
  intro pins s σ H Q I h
  exact isTrue_not (ha pins s σ H (fun c H1 => Q (!c) H1) I h)
/-- .. as values (bools) -/
def tAndV (ta tb : TE) : TE := fun σ H Q => ta σ H fun x H1 => ∃ c, x = .bl c ∧ if c = true then tb σ H1 Q else Q (.bl false) H1
def tOrV (ta tb : TE) : TE := fun σ H Q => ta σ H fun x H1 => ∃ c, x = .bl c ∧ if c = true then Q (.bl true) H1 else tb σ H1 Q
def tNotV (ta : TE) : TE := fun σ H Q => ta σ H fun x H1 => ∃ c, x = .bl c ∧ Q (.bl (!c)) H1
theorem pe_one {op} {t : TE} (h : PE X a t) : PE X (.BoolOp op [a] pos) t := fun pins s σ H Q I hw => BoolOp_one (h pins s σ H Q I hw)
/-- a if t else b -/
def tIf (t : TT) (ta tb : TE) : TE := fun σ H Q => t σ H fun c H1 => if c = true then ta σ H1 Q else tb σ H1 Q
theorem pe_ifExp {c : Expr} (hc : PT X c tA) (ha : PE X a ta) (hb : PE X b tb) : PE X (.IfExp c a b pos) (tIf tA ta tb) := by
  intro pins s σ H Q I h
  refine wpAny_IfExp (thn (hc pins s σ H _ I h) fun d s1 ⟨H1, I1, q1⟩ => ?_)
  cases d with
  | true => exact ha pins s1 σ H1 Q I1 q1
  | false => exact hb pins s1 σ H1 Q I1 q1
end
end L2

namespace L2
open PySem PySem.Spec PyProof.Rows

/-! ### a list, a tuple that is read: tracked, frozen, or an object of the module -/
def SqL (K : PySem.W.Frag) (H : Hp) (a : Addr) (xs : List V) : Prop :=
  Rd H a (.lst xs) ∨
    ∃ (o : Obj) (its : Array Value) (n : Nat), K.lookup a = some o ∧ o.cls = .type "list" ∧ o.dict = none ∧ o.data = .seq its n ∧ its.size ≤ sizeLine ∧ Vals xs its.toList
def SqT (K : PySem.W.Frag) (H : Hp) (a : Addr) (xs : List V) : Prop :=
  Rd H a (.tup xs) ∨
    ∃ (o : Obj) (its : Array Value) (n : Nat), K.lookup a = some o ∧ o.cls = .type "tuple" ∧ o.data = .seq its n ∧ its.size ≤ sizeLine ∧ Vals xs its.toList
def absV : Value → Option V
  | .none => some .non
  | .bool b => some (.bl b)
  | .int i _ => some (.int i)
  | .str x _ => some (.str x)
  | .bytes b _ => some (.byt b)
  | .float b _ => some (.flt b)
  | .ref a => some (.ref a)
  | .type n => some (.ty n)
  | _ => none
theorem RelV.abs {x : V} {u : Value} (r : RelV x u) : absV u = some x := by
  cases x with
  | non => cases r; rfl
  | bl _ => cases r; rfl
  | int _ => obtain ⟨t, rfl⟩ := r; rfl
  | str _ => obtain ⟨t, rfl⟩ := r; rfl
  | byt _ => obtain ⟨t, rfl⟩ := r; rfl
  | flt _ => obtain ⟨t, rfl⟩ := r; rfl
  | ref _ => cases r; rfl
  | ty _ => cases r; rfl
theorem RelV.inj {x y : V} {u : Value} (r : RelV x u) (q : RelV y u) : x = y := Option.some.inj (r.abs.symm.trans q.abs)
theorem Vals.inj : ∀ {xs ys : List V} {us : List Value}, Vals xs us → Vals ys us → xs = ys
  | _, _, _, .nil, .nil => rfl
  | _, _, _, .cons r t, .cons r' t' => by rw [r.inj r', Vals.inj t t']
section
variable {X : Cx} {pins : List (Addr × Obj)} {σ : St} {H : Hp} {s : Shared} {a : Addr} {xs ys : List V}
theorem SqL.of {K : PySem.W.Frag} (h : H a = some (.lst xs)) : SqL K H a xs := .inl (.inl h)
theorem SqT.of {K : PySem.W.Frag} (h : H a = some (.tup xs)) : SqT K H a xs := .inl (.inl h)
theorem Inv.list (I : Inv X pins σ H s) (h : SqL X.K H a xs) : ∃ its : List Value, Vals xs its ∧ PlainL s.heap a its.toArray ∧ xs.length ≤ sizeLine := by
  rcases h with h | ⟨o, its, n, hk, hc, hd, hs, hz, r⟩
  · obtain ⟨z, its, n, r, e⟩ := h.ok I.hok
    exact ⟨its, r, ⟨_, n, e, rfl, rfl, rfl⟩, z⟩
  · refine ⟨its.toList, r, ⟨o, n, I.kIn a o hk, hc, hd, by simpa using hs⟩, ?_⟩
    have e := r.length
    simp only [Array.length_toList] at e
    omega
theorem Inv.tuple (I : Inv X pins σ H s) (h : SqT X.K H a xs) : ∃ its : List Value, Vals xs its ∧ IsTup s.heap a its.toArray ∧ xs.length ≤ sizeLine := by
  rcases h with h | ⟨o, its, n, hk, hc, hs, hz, r⟩
  · obtain ⟨z, its, r, p⟩ := h.ok I.hok
    exact ⟨its, r, p, z⟩
  · refine ⟨its.toList, r, ⟨o, I.kIn a o hk, hc, n, by simpa using hs⟩, ?_⟩
    have e := r.length
    simp only [Array.length_toList] at e
    omega
theorem Inv.list_inj (I : Inv X pins σ H s) (h : SqL X.K H a xs) (h' : SqL X.K H a ys) : xs = ys := by
  obtain ⟨its, r, ⟨o, n, e, _, _, d⟩, _⟩ := I.list h
  obtain ⟨its', r', ⟨o', n', e', _, _, d'⟩, _⟩ := I.list h'
  rw [e] at e'; cases e'
  rw [d] at d'
  injection d' with d1 _
  have : its = its' := by simpa using congrArg Array.toList d1
  subst this
  exact r.inj r'
theorem Inv.tuple_inj (I : Inv X pins σ H s) (h : SqT X.K H a xs) (h' : SqT X.K H a ys) : xs = ys := by
  obtain ⟨its, r, ⟨o, e, _, n, d⟩, _⟩ := I.tuple h
  obtain ⟨its', r', ⟨o', e', _, n', d'⟩, _⟩ := I.tuple h'
  rw [e] at e'; cases e'
  rw [d] at d'
  injection d' with d1 _
  have : its = its' := by simpa using congrArg Array.toList d1
  subst this
  exact r.inj r'
end

/-! ### another wish about exceptions -/
abbrev Cx.wish (X : Cx) (E : Value → Shared → Prop) : Cx := { X with xe := E }
/-- no exception leaves -/
abbrev Cx.nox (X : Cx) : Cx := X.wish fun _ _ => False
theorem Cx.Ok.wish {X : Cx} (ok : X.Ok) (E : Value → Shared → Prop) : (X.wish E).Ok :=
  ⟨ok.mod, ok.kind, ok.glob, ok.blt, ok.above, ok.inj, ok.has, ok.cab, ok.hd, ok.frames, ok.stk, ok.exf, ok.bs, ok.bsz, ok.noex, ok.exfs, ok.funs, ok.frf⟩
theorem Cx.Ok.unwish {X : Cx} {E : Value → Shared → Prop} (ok : (X.wish E).Ok) : X.Ok :=
  ⟨ok.mod, ok.kind, ok.glob, ok.blt, ok.above, ok.inj, ok.has, ok.cab, ok.hd, ok.frames, ok.stk, ok.exf, ok.bs, ok.bsz, ok.noex, ok.exfs, ok.funs, ok.frf⟩
section
variable {X : Cx} {pins : List (Addr × Obj)} {σ : St} {H : Hp} {s : Shared} {E : Value → Shared → Prop}
theorem Inv.wish (I : Inv X pins σ H s) (E : Value → Shared → Prop) : Inv (X.wish E) pins σ H s := ⟨I.ok.wish E, I.os, I.bare, I.base, I.loc, I.cell, I.free, I.freeC, I.pin, I.hok, I.len⟩
theorem Inv.unwish (I : Inv (X.wish E) pins σ H s) : Inv X pins σ H s := ⟨I.ok.unwish, I.os, I.bare, I.base, I.loc, I.cell, I.free, I.freeC, I.pin, I.hok, I.len⟩
theorem SP.unwish {D : Ends} {f : Flow} {s' : Shared} (h : SP (X.wish E) pins D f s') : SP X pins D f s' := by
  cases f with
  | next => obtain ⟨σ', H', I, q⟩ := h; exact ⟨σ', H', I.unwish, q⟩
  | brk => obtain ⟨σ', H', I, q⟩ := h; exact ⟨σ', H', I.unwish, q⟩
  | cont => obtain ⟨σ', H', I, q⟩ := h; exact ⟨σ', H', I.unwish, q⟩
  | ret u => obtain ⟨v, σ', H', I, r, q⟩ := h; exact ⟨v, σ', H', I.unwish, r, q⟩
theorem PE.nox {e : Expr} {t : TE} (h : PE X.nox e t) : PE X e t := fun pins s σ H Q I hw =>
  wpAny_mono (h pins s σ H Q (I.wish _) hw) (fun _ _ ⟨v, H', I', r, q⟩ => ⟨v, H', I'.unwish, r, q⟩) fun _ _ z => False.elim z
theorem PT.nox {e : Expr} {t : TT} (h : PT X.nox e t) : PT X e t := fun pins s σ H Q I hw =>
  wpAny_mono (h pins s σ H Q (I.wish _) hw) (fun _ _ ⟨H', I', q⟩ => ⟨H', I'.unwish, q⟩) fun _ _ z => False.elim z
theorem PSs.nox {st : List Stmt} {t : TS} (h : PSs X.nox st t) : PSs X st t := fun pins s σ H D I hw =>
  wpAny_mono (h pins s σ H D (I.wish _) hw) (fun _ _ q => q.unwish) fun _ _ z => False.elim z
end

/-! ### blocks and small statements -/
section
variable {X : Cx} {st : Stmt} {rest : List Stmt} {t u : TS} {e : Expr} {te : TE} {pos : Pos}
def tNext : TS := fun D σ H => D.nx σ H
def tSeq (t u : TS) : TS := fun D σ H => t { D with nx := u D } σ H
theorem pss_nil : PSs X [] tNext := fun _ _ σ H _ I h => wpAny_execs_nil ⟨σ, H, I, h⟩
theorem pss_cons (h1 : PS X st t) (h2 : PSs X rest u) : PSs X (st :: rest) (tSeq t u) := by
  intro pins s σ H D I h
  refine wpAny_execs_cons (thn (h1 pins s σ H { D with nx := u D } I h) fun f s1 q => ?_)
  cases f with
  | next =>
    obtain ⟨σ', H', I', q⟩ := q
    exact h2 pins s1 σ' H' D I' q
  | ret v => exact q
  | brk => exact q
  | cont => exact q
theorem pss_one (h1 : PS X st t) : PSs X [st] t := by
  intro pins s σ H D I h
  refine wpAny_execs_cons (thn (h1 pins s σ H D I h) fun f s1 q => ?_)
  cases f with
  | next => exact wpAny_execs_nil q
  | ret v => exact q
  | brk => exact q
  | cont => exact q
def tBreak : TS := fun D σ H => D.bk σ H
def tCont : TS := fun D σ H => D.ct σ H
theorem ps_pass : PS X (.Pass pos) tNext := fun _ _ σ H _ I h => wpAny_Pass ⟨σ, H, I, h⟩
/-- in a def's body nothing is shown -/
theorem Inv.quiet {pins : List (Addr × Obj)} {σ : St} {H : Hp} {s : Shared} (I : Inv X pins σ H s) : interactive X.env = false := by simp [interactive, I.ok.kind]
/-- an expression whose value is dropped -/
def tDrop (te : TE) : TS := fun D σ H => te σ H fun _ H1 => D.nx σ H1
theorem ps_expr (he : PE X e te) (hs : swapsWith e none pos.line X.env = pure false := by rfl) : PS X (.Expr e pos) (tDrop te) := by
  intro pins s σ H D I h
  exact wpAny_Expr_any (thn (he pins s σ H _ I h) fun v s1 ⟨x, H1, I1, r1, q1⟩ => ⟨σ, H1, I1, q1⟩) I.quiet hs
def tRet (te : TE) : TS := fun D σ H => te σ H D.rt
theorem ps_ret (he : PE X e te) : PS X (.Return (some e) pos) (tRet te) := by
  intro pins s σ H D I h
  exact wpAny_Return_some (thn (he pins s σ H _ I h) fun v s1 ⟨x, H1, I1, r1, q1⟩ => ⟨x, σ, H1, I1, r1, q1⟩)
def tRetN : TS := fun D _ H => D.rt .non H
theorem ps_retN : PS X (.Return none pos) tRetN := fun _ _ σ H _ I h => wpAny_Return_none ⟨.non, σ, H, I, rfl, h⟩
def tIfS (c : TT) (t u : TS) : TS := fun D σ H => c σ H fun b H1 => if b = true then t D σ H1 else u D σ H1
theorem ps_if {c : Expr} {a b : List Stmt} {tc : TT} (hc : PT X c tc) (ha : PSs X a t) (hb : PSs X b u) : PS X (.If c a b pos) (tIfS tc t u) := by
  intro pins s σ H D I h
  refine wpAny_If (thn (hc pins s σ H _ I h) fun d s1 ⟨H1, I1, q1⟩ => ?_)
  cases d with
  | true => exact ha pins s1 σ H1 D I1 q1
  | false => exact hb pins s1 σ H1 D I1 q1
/-- code that the proof never comes to -/
def tNever : TS := fun _ _ _ => False
theorem pss_never {sts : List Stmt} : PSs X sts tNever := fun _ _ _ _ _ _ h => h.elim
end

/-! ### targets -/
abbrev TG := V → St → Hp → (St → Hp → Prop) → Prop
abbrev TGs := List V → St → Hp → (St → Hp → Prop) → Prop
def PG (X : Cx) (target : Expr) (t : TG) : Prop :=
  ∀ (pins : List (Addr × Obj)) (s : Shared) (σ : St) (H : Hp) (v : V) (u : Value) (Q : St → Hp → Prop), Inv X pins σ H s → RelV v u → t v σ H Q →
    wpAny (model X.prog X.w) X.A (assign target X.env u) (fun _ s' => ∃ σ' H', Inv X pins σ' H' s' ∧ Q σ' H') X.xe s
/-- several targets, one after another -/
def PGs (X : Cx) (ts : List Expr) (t : TGs) : Prop :=
  ∀ (pins : List (Addr × Obj)) (s : Shared) (σ : St) (H : Hp) (vs : List V) (us : List Value) (Q : St → Hp → Prop), Inv X pins σ H s → Vals vs us → t vs σ H Q →
    wpAny (model X.prog X.w) X.A (assignInOrder ((assignEach ts X.env).map (·.2)) us) (fun _ s' => ∃ σ' H', Inv X pins σ' H' s' ∧ Q σ' H') X.xe s
/-- o[i] = v, by values -/
abbrev TSet := V → V → V → Hp → (Hp → Prop) → Prop
def PSet (X : Cx) (t : TSet) : Prop :=
  ∀ (pins : List (Addr × Obj)) (s : Shared) (σ : St) (H : Hp) (o i v : V) (ov iv u : Value) (Q : Hp → Prop), Inv X pins σ H s → RelV o ov → RelV i iv → RelV v u → t o i v H Q →
    wpAny (model X.prog X.w) X.A (setItem ov iv u) (fun _ s' => ∃ H', Inv X pins σ H' s' ∧ Q H') X.xe s
/-- a op= b, by values -/
abbrev TIp := V → V → Hp → VK → Prop
def PIp (X : Cx) (op : Operator) (t : TIp) : Prop :=
  ∀ (pins : List (Addr × Obj)) (s : Shared) (σ : St) (H : Hp) (x y : V) (v u : Value) (Q : VK), Inv X pins σ H s → RelV x v → RelV y u → t x y H Q →
    wpAny (model X.prog X.w) X.A (inplaceOp op v u) (EP X pins σ Q) X.xe s
section
variable {X : Cx} {pos : Pos}
def gName (i : Nat) : TG := fun v σ H Q => Q (σ.set i (some v)) H
theorem pg_name {i : Nat} {x : Str} (hN : X.N.Nodup) (hi : X.N[i]? = some x) (hx : Loc X.env.scope x) (hf : X.fn x = true ∨ X.env.scope.names.lookup x = some .local := by first | exact .inl rfl | exact .inr rfl | assumption) : PG X (.Name x pos) (gName i) := by
  intro pins s σ H v u Q I r h
  exact wpAny_assign_Name (store_ok I hN hi hx r (fun s' I' => ⟨_, H, I', h⟩) hf)
def gNil : TGs := fun vs σ H Q => vs = [] ∧ Q σ H
def gCons (t : TG) (u : TGs) : TGs := fun vs σ H Q => ∃ v r, vs = v :: r ∧ t v σ H fun σ' H' => u r σ' H' Q
theorem pgs_nil : PGs X [] gNil := by
  intro pins s σ H vs us Q I r h
  obtain ⟨e, h⟩ := h
  subst e
  cases r
  exact assignInOrder_nil ⟨σ, H, I, h⟩
theorem pgs_cons {e : Expr} {es : List Expr} {t : TG} {u : TGs} (h1 : PG X e t) (h2 : PGs X es u)
    (hs : (assignEach (e :: es) X.env).map (·.2) = assign e X.env :: (assignEach es X.env).map (·.2) := by rfl) : PGs X (e :: es) (gCons t u) := by
  intro pins s σ H vs us Q I r h
  obtain ⟨v, vr, e1, h⟩ := h
  subst e1
  cases r with
  | cons r rr =>
    rw [hs]
    refine assignInOrder_cons (thn (h1 pins s σ H _ _ _ I r h) fun _ s1 ⟨σ1, H1, I1, q1⟩ => ?_)
    exact h2 pins s1 σ1 H1 _ _ Q I1 rr q1
/-- (a, b, ..) = a tuple of that length -/
def gTup (K : PySem.W.Frag) (n : Nat) (t : TGs) : TG := fun v σ H Q => ∃ a xs, v = .ref a ∧ SqT K H a xs ∧ xs.length = n ∧ t xs σ H Q
theorem pg_tup {es : List Expr} {k : Nat} {t : TGs} {n : Nat} (hc : X.calm = true) (h : PGs X es t)
    (hn : (assignEach es X.env).length = n := by rfl) (hst : (assignEach es X.env).findIdx? (·.1) = none := by rfl) : PG X (.Tuple es k pos) (gTup X.K n t) := by
  intro pins s σ H v u Q I r hw
  obtain ⟨a, xs, e1, hq, hl, hw⟩ := hw
  subst e1
  cases r
  obtain ⟨its, rv, ht, hz⟩ := I.tuple hq
  refine assign_Tuple_tuple (I.ok.hd hc) ht (by simp [hn, ← hl, rv.length]) hst fun h' hx => ?_
  have I1 : Inv X pins σ H { s with heap := h' } := I.kept (t' := s.toks) fun b o e => hx b o (Nat.ne_of_lt (Heap.lt_size e)) e
  exact h pins _ σ H xs _ Q I1 (by simpa using rv) hw
/-- o[i] = .. -/
def gSub (to ti : TE) (t : TSet) : TG := fun v σ H Q => to σ H fun o H1 => ti σ H1 fun i H2 => t o i v H2 fun H3 => Q σ H3
theorem pg_sub {o i : Expr} {to ti : TE} {t : TSet} (ho : PE X o to) (hi : PE X i ti) (hs : PSet X t)
    (ha : ∀ v, assign (.Subscript o i pos) X.env v = (do
      let ov ← holding [v] (eval o X.env)
      let iv ← holding [v, ov] (eval i X.env)
      standAt pos
      holding [v, ov, iv] (setItem ov iv v)
      release [v, ov, iv] []) := by intro _; rfl) : PG X (.Subscript o i pos) (gSub to ti t) := by
  intro pins s σ H v u Q I r h
  rw [ha]
  refine wpAny_bind (wpAny_holding (thn (ho pins s σ H _ I h) fun ov s1 ⟨x, H1, I1, r1, q1⟩ => ?_))
  refine wpAny_bind (wpAny_holding (thn (hi pins s1 σ H1 _ I1 q1) fun iv s2 ⟨y, H2, I2, r2, q2⟩ => ?_))
  refine wpAny_bind (wpAny_standAt (wpAny_bind (wpAny_holding (thn (hs pins s2 σ H2 x y v ov iv u _ I2 r1 r2 r q2) fun _ s3 ⟨H3, I3, q3⟩ => ?_))))
  exact wpAny_release ⟨σ, H3, I3, q3⟩
/-- target = value -/
def tAsg (te : TE) (g : TG) : TS := fun D σ H => te σ H fun x H1 => g x σ H1 D.nx
theorem ps_asg {tg e : Expr} {te : TE} {g : TG} (he : PE X e te) (hg : PG X tg g) (hs : swapsWithSole [tg] e pos.line X.env = pure false := by rfl) (hw : swappedStores [tg] e X.env = pure none := by rfl)
    (h1 : (assignEach [tg] X.env).map (·.2) = [assign tg X.env] := by rfl) : PS X (.Assign [tg] e pos) (tAsg te g) := by
  intro pins s σ H D I h
  refine wpAny_Assign_stores (thn (he pins s σ H _ I h) fun v s1 ⟨x, H1, I1, r1, q1⟩ => ?_) hs hw
  rw [h1]
  exact thn (hg pins s1 σ H1 x v _ I1 r1 q1) fun _ s2 q => q
/-- name = value -/
theorem ps_set {i : Nat} {x : Str} {e : Expr} {te : TE} {pos' : Pos} (hN : X.N.Nodup) (hi : X.N[i]? = some x) (hx : Loc X.env.scope x) (he : PE X e te) (hs : swapsWith e (some (.Name x pos')) pos.line X.env = pure false := by rfl) (hf : X.fn x = true ∨ X.env.scope.names.lookup x = some .local := by first | exact .inl rfl | exact .inr rfl | assumption) :
    PS X (.Assign [.Name x pos'] e pos) (tAsg te (gName i)) := by
  intro pins s σ H D I h
  refine wpAny_Assign_Name (thn (he pins s σ H _ I h) fun v s1 ⟨y, H1, I1, r1, q1⟩ => ?_) hs
  exact store_ok I1 hN hi hx r1 (fun s2 I2 => ⟨_, H1, I2, q1⟩) hf
/-- a, b = x, y with plain local names: stored from the right; the pair itself is not tracked (the opening rows as in PyProof/Rows/TupAssign.lean:23) -/
def tPar (i j : Nat) (ta : TA) : TS := fun D σ H => ta σ H fun vs H1 => ∃ v w, vs = [v, w] ∧ D.nx ((σ.set i (some v)).set j (some w)) H1
/-- name op= e -/
def tAug (i : Nat) (te : TE) (ti : TIp) : TS := fun D σ H => ∃ x, σ[i]? = some (some x) ∧ te σ H fun y H1 => ti x y H1 fun z H2 => D.nx (σ.set i (some z)) H2
/-- o[i] op= e -/
def tAugS (to ti te : TE) (tget : V → V → Hp → VK → Prop) (tip : TIp) (tset : TSet) : TS := fun D σ H => to σ H fun o H1 => ti σ H1 fun i H2 => tget o i H2 fun x H3 => te σ H3 fun y H4 => tip x y H4 fun z H5 => tset o i z H5 fun H6 => D.nx σ H6
/-- o[i], by values -/
def PGet (X : Cx) (t : V → V → Hp → VK → Prop) : Prop :=
  ∀ (pins : List (Addr × Obj)) (s : Shared) (σ : St) (H : Hp) (o i : V) (ov iv : Value) (Q : VK), Inv X pins σ H s → RelV o ov → RelV i iv → t o i H Q →
    wpAny (model X.prog X.w) X.A (getItem ov iv) (EP X pins σ Q) X.xe s
/-- ints -/
def ipI (f : Int → Int → Int) : TIp := fun x y H Q => ∃ i j, x = .int i ∧ y = .int j ∧ Q (.int (f i j)) H
end

/-! ### while -/
section
variable {X : Cx} {pos : Pos}
/-- the invariant W with its measure -/
def tWhile (c : TT) (tb : TS) : TS := fun D σ H => ∃ W : Nat → St → Hp → Prop, (∃ m, W m σ H) ∧ ∀ m σ H, W m σ H →
  c σ H fun b H1 => if b = true then ∃ N : St → Hp → Prop, (∀ σ' H', N σ' H' → ∃ m', m' < m ∧ W m' σ' H') ∧ tb { D with nx := N, ct := N, bk := D.nx } σ H1 else D.nx σ H1
theorem ps_while {c : Expr} {body : List Stmt} {tc : TT} {tb : TS} (hp : PassesOwn (model X.prog X.w) X.A X.env X.xe) (hc : PT X c tc) (hb : PSs X body tb) : PS X (.While c body [] pos) (tWhile tc tb) := by
  intro pins s σ H D I h
  obtain ⟨W, ⟨m0, w0⟩, turn⟩ := h
  refine wpAny_While (codeAny_whileLoop (fun n s' => ∃ σ' H', Inv X pins σ' H' s' ∧ W n σ' H') ?_ m0 ⟨σ, H, I, w0⟩)
  rintro n s1 ⟨σ1, H1, I1, w1⟩
  refine wpAny_passesOwn hp (thn (hc pins s1 σ1 H1 _ I1 (turn n σ1 H1 w1)) fun b s2 ⟨H2, I2, q2⟩ => ?_)
  cases b with
  | true =>
    obtain ⟨N, hN, q2⟩ := q2
    rw [if_pos rfl]
    refine wpAny_passesOwn hp (thn (hb pins s2 σ1 H2 _ I2 q2) fun f s3 q3 => ?_)
    cases f with
    | next =>
      obtain ⟨σ3, H3, I3, n3⟩ := q3
      obtain ⟨m', hm, w3⟩ := hN σ3 H3 n3
      exact ⟨m', hm, σ3, H3, I3, w3⟩
    | cont =>
      obtain ⟨σ3, H3, I3, n3⟩ := q3
      obtain ⟨m', hm, w3⟩ := hN σ3 H3 n3
      exact ⟨m', hm, σ3, H3, I3, w3⟩
    | brk => exact q3
    | ret v => exact q3
  | false =>
    rw [if_neg Bool.false_ne_true]
    exact wpAny_execs_nil ⟨σ1, H2, I2, q2⟩
end

/-! ### what a loop or a comprehension walks -/
/-- at turn i: it yields x (the heap may grow), or it stops -/
structure It where
  go : Nat → Hp → Prop
  yld : Nat → Hp → V → Hp → Prop
  stop : Nat → Hp → Prop
/-- the iterator's own objects may turn: they are not the frame's, not pinned, younger than the entry (or a comprehension's own) -/
def FpOk (X : Cx) (pins : List (Addr × Obj)) (H : Hp) (b : Addr) : Prop :=
  H b = none ∧ b ≠ X.env.locals ∧ b ∉ X.fs ∧ (b ∈ X.ex ∨ X.s₀.heap.objs.size ≤ b) ∧ (∀ x c, X.env.cells.lookup x = some c → c ≠ b) ∧ ∀ p ∈ X.pn ++ pins, p.1 ≠ b
theorem Inv.fpOk {X : Cx} {pins : List (Addr × Obj)} {σ : St} {H H' : Hp} {s : Shared} {b : Addr} (I : Inv X pins σ H s) (hb : s.heap.objs.size ≤ b) (hn : H' b = none) : FpOk X pins H' b := by
  refine ⟨hn, Nat.ne_of_gt (Nat.lt_of_lt_of_le I.lt hb), I.nofs hb, .inr (Nat.le_trans I.sz hb), fun x c e z => ?_, fun p hp z => ?_⟩
  · obtain ⟨v, q⟩ := I.cell x c e
    exact absurd (Nat.lt_of_lt_of_le q.lt (by rw [z]; exact hb)) (Nat.lt_irrefl _)
  · exact absurd (Nat.lt_of_lt_of_le (Heap.lt_size (I.pin p hp).1) (by rw [z]; exact hb)) (Nat.lt_irrefl _)
structure Turn (P : Program) (w : World) (K : PySem.W.Frag) (tg : Expr) (J : It) (fp : List Addr) (it : Addr) (tn : Nat → Heap → Prop) : Prop where
  mem : it ∈ fp
  obj : ∀ i h, tn i h → ∀ b ∈ fp, ∃ o, h.get? b = some o ∧ ∀ v, o.data ≠ .cell v
  keep : ∀ i h h', tn i h → (∀ b ∈ fp, ∀ o, h.get? b = some o → h'.get? b = some o) → tn i h'
  item : ∀ (X : Cx), X.prog = P → X.w = w → X.K = K → X.calm = true → ∀ (i : Nat) (pins : List (Addr × Obj)) (s : Shared) (σ : St) (H : Hp) (E : Value → Shared → Prop), Inv X pins σ H s → (∀ b ∈ fp, FpOk X pins H b) → tn i s.heap → J.go i H →
    wpAny (model P w) X.A (pyNext (.ref it)) (fun r s1 => ∃ u, r = some u ∧
      wpAny (model P w) X.A (letOwnedTupleGo tg (.ref it) u) (fun _ s2 => ∃ x H', Inv X pins σ H' s2 ∧ RelV x u ∧ J.yld i H x H' ∧ tn (i + 1) s2.heap ∧ ∀ b ∈ fp, H' b = none) E s1) E s
  done : ∀ (X : Cx), X.prog = P → X.w = w → X.K = K → X.calm = true → ∀ (i : Nat) (pins : List (Addr × Obj)) (s : Shared) (σ : St) (H : Hp) (E : Value → Shared → Prop), Inv X pins σ H s → (∀ b ∈ fp, FpOk X pins H b) → tn i s.heap → J.stop i H →
    wpAny (model P w) X.A (pyNext (.ref it)) (fun r s1 => r = none ∧ Inv X pins σ H s1) E s
  self : ∀ (A : Around) (i : Nat) (s : Shared) (Q : Value → Shared → Prop) (E : Value → Shared → Prop), tn i s.heap → Q (.ref it) s → wpAny (model P w) A (pyIter (.ref it)) Q E s
abbrev TI := St → Hp → (It → Hp → Prop) → Prop
/-- an iterator has come -/
def PIE (X : Cx) (pins : List (Addr × Obj)) (σ : St) (tg : Expr) (R : It → Hp → Prop) (itv : Value) (s2 : Shared) : Prop :=
  ∃ (it : Addr) (fp : List Addr) (tn : Nat → Heap → Prop) (J : It) (H' : Hp), itv = .ref it ∧ Inv X pins σ H' s2 ∧ Turn X.prog X.w X.K tg J fp it tn ∧ tn 0 s2.heap ∧ (∀ b ∈ fp, FpOk X pins H' b) ∧ R J H'
def PI (X : Cx) (tg iter : Expr) (wi : TI) : Prop :=
  ∀ (pins : List (Addr × Obj)) (s : Shared) (σ : St) (H : Hp) (R : It → Hp → Prop), Inv X pins σ H s → wi σ H R →
    wpAny (model X.prog X.w) X.A (eval iter X.env) (fun v s1 => wpAny (model X.prog X.w) X.A (pyIter v) (PIE X pins σ tg R) X.xe s1) X.xe s

/-- the step ahead of the store is nothing for an iterator that keeps no tuple -/
theorem go_of {M : Model} {A : Around} {E : Value → Shared → Prop} {s : Shared} {tg : Expr} {it : Addr} {u : Value} {o : Obj} {n : String} {vs : Array Value} {Q : Unit → Shared → Prop} (ho : s.heap.get? it = some o) (hc : o.cls = .type n) (hd : o.data = .fields vs)
    (hn : ["enumerate", "zip", "dict_itemiterator", "dict_reverseitemiterator", "odict_iterator", "itertools.zip_longest", "itertools.pairwise"].contains n = false) (hQ : Q () s) : wpAny M A (letOwnedTupleGo tg (.ref it) u) Q E s := by
  unfold letOwnedTupleGo
  cases tg <;> first
    | exact wpAny_pure hQ
    | (cases u <;> first
        | exact wpAny_pure hQ
        | (refine wpAny_bind (wpAny_load ho ?_)
           rw [hc, hd]
           show wpAny M A (if (["enumerate", "zip", "dict_itemiterator", "dict_reverseitemiterator", "odict_iterator", "itertools.zip_longest", "itertools.pairwise"].contains n && vs[0]? == some (rawInt _)) = true then _ else _) Q E s
           rw [if_neg (by intro h; rw [hn, Bool.false_and] at h; cases h)]
           exact wpAny_pure hQ))

/-- the list at a, as it stands at each turn (a loop may append to it) -/
def Itl (K : PySem.W.Frag) (a : Addr) : It :=
  ⟨fun i H => ∃ xs x, SqL K H a xs ∧ xs[i]? = some x, fun i H x H' => H' = H ∧ ∀ xs, SqL K H a xs → xs[i]? = some x, fun i H => ∃ xs, SqL K H a xs ∧ xs.length ≤ i⟩
def Itt (K : PySem.W.Frag) (a : Addr) : It :=
  ⟨fun i H => ∃ xs x, SqT K H a xs ∧ xs[i]? = some x, fun i H x H' => H' = H ∧ ∀ xs, SqT K H a xs → xs[i]? = some x, fun i H => ∃ xs, SqT K H a xs ∧ xs.length ≤ i⟩
/-- lo, lo + 1, .. (n of them) -/
def Itr (lo : Int) (n : Nat) : It := ⟨fun i _ => i < n, fun i H x H' => H' = H ∧ x = .int (lo + i), fun i _ => n ≤ i⟩
theorem turn_list {P : Program} {w : World} {K : PySem.W.Frag} {tg : Expr} (a it : Addr) : Turn P w K tg (Itl K a) [it] it (fun i h => h.IsListIter it a i) where
  mem := by simp
  obj := fun i h st b hb => by
    have e : b = it := by simpa using hb
    subst e
    obtain ⟨o, e, c, d⟩ := st
    exact ⟨o, e, fun v z => by rw [d] at z; cases z⟩
  keep := fun i h h' st k => st.at fun o e => k it (by simp) o e
  item := by
    intro X hP hw hK hc i pins s σ H E I hf st hg
    subst hP hw hK
    obtain ⟨xs, x, hq, hx⟩ := hg
    obtain ⟨its, rv, p, hz⟩ := I.list hq
    obtain ⟨u, hu, ru⟩ := rv.get hx
    obtain ⟨f0, f1, f2, f3, f4, f5⟩ := hf it (by simp)
    refine wpAny_pyNext_list_item st p.isList (x := u) (by simpa using hu) fun h' st' sb => ?_
    have I1 : Inv X pins σ H { s with heap := h' } := I.turned (t' := s.toks) (fun b o hb e => (sb.2 b hb).trans e) f0 f1 f3 f4 f5
    obtain ⟨o, e, c, d⟩ := id st'
    exact ⟨u, rfl, go_of (s := { s with heap := h' }) e c d (by decide) ⟨x, H, I1, ru, ⟨rfl, fun ys hy => by rw [I.list_inj hy hq]; exact hx⟩, st', fun b hb => (hf b hb).1⟩⟩
  done := by
    intro X hP hw hK hc i pins s σ H E I hf st hg
    subst hP hw hK
    obtain ⟨xs, hq, hx⟩ := hg
    obtain ⟨its, rv, p, hz⟩ := I.list hq
    obtain ⟨f0, f1, f2, f3, f4, f5⟩ := hf it (by simp)
    have hl := rv.length
    exact wpAny_pyNext_list_end (I.ok.hd hc) st p.isList (by simp; omega) fun h' eb => ⟨rfl, I.turned (t' := s.toks) (fun b o hb e => eb b o hb e) f0 f1 f3 f4 f5⟩
  self := fun _ _ _ _ _ st h => wpAny_pyIter_listiter st h
theorem turn_tuple {P : Program} {w : World} {K : PySem.W.Frag} {tg : Expr} (a it : Addr) : Turn P w K tg (Itt K a) [it] it (fun i h => h.IsTupleIter it a i) where
  mem := by simp
  obj := fun i h st b hb => by
    have e : b = it := by simpa using hb
    subst e
    obtain ⟨o, e, c, d⟩ := st
    exact ⟨o, e, fun v z => by rw [d] at z; cases z⟩
  keep := fun i h h' st k => st.at fun o e => k it (by simp) o e
  item := by
    intro X hP hw hK hc i pins s σ H E I hf st hg
    subst hP hw hK
    obtain ⟨xs, x, hq, hx⟩ := hg
    obtain ⟨its, rv, p, hz⟩ := I.tuple hq
    obtain ⟨u, hu, ru⟩ := rv.get hx
    obtain ⟨f0, f1, f2, f3, f4, f5⟩ := hf it (by simp)
    refine wpAny_pyNext_tuple_item st (show s.heap.IsTuple a its.toArray from p) (x := u) (by simpa using hu) fun h' st' sb => ?_
    have I1 : Inv X pins σ H { s with heap := h' } := I.turned (t' := s.toks) (fun b o hb e => (sb.2 b hb).trans e) f0 f1 f3 f4 f5
    obtain ⟨o, e, c, d⟩ := id st'
    exact ⟨u, rfl, go_of (s := { s with heap := h' }) e c d (by decide) ⟨x, H, I1, ru, ⟨rfl, fun ys hy => by rw [I.tuple_inj hy hq]; exact hx⟩, st', fun b hb => (hf b hb).1⟩⟩
  done := by
    intro X hP hw hK hc i pins s σ H E I hf st hg
    subst hP hw hK
    obtain ⟨xs, hq, hx⟩ := hg
    obtain ⟨its, rv, p, hz⟩ := I.tuple hq
    obtain ⟨f0, f1, f2, f3, f4, f5⟩ := hf it (by simp)
    have hl := rv.length
    exact wpAny_pyNext_tuple_end (I.ok.hd hc) st (show s.heap.IsTuple a its.toArray from p) (by simp; omega) fun h' eb => ⟨rfl, I.turned (t' := s.toks) (fun b o hb e => eb b o hb e) f0 f1 f3 f4 f5⟩
  self := fun _ _ _ _ _ st h => wpAny_pyIter_tupleiter st h
theorem turn_range {P : Program} {w : World} {K : PySem.W.Frag} {tg : Expr} (it : Addr) (lo : Int) (n : Nat) : Turn P w K tg (Itr lo n) [it] it (fun i h => IsRangeIter h it (lo + (i : Nat) * 1) ((n : Int) - (i : Nat)) 1) where
  mem := by simp
  obj := fun i h st b hb => by
    have e : b = it := by simpa using hb
    subst e
    exact ⟨_, st, fun v z => by
      have z' : Data.fields _ = Data.cell v := z
      cases z'⟩
  keep := fun i h h' st k => k it (by simp) _ st
  item := by
    intro X hP hw hK hc i pins s σ H E I hf st hg
    subst hP hw hK
    obtain ⟨f0, f1, f2, f3, f4, f5⟩ := hf it (by simp)
    have W := Walks.range (prog := X.prog) (w := X.w) (I.ok.hd hc) it lo 1 n
    refine W.item i s _ _ hg st fun v h' tk hv st' kk => ?_
    obtain ⟨t, rfl⟩ := hv
    have I1 : Inv X pins σ H { s with heap := h', toks := tk } := I.turned (fun b o hb e => kk b o (by simpa using hb) e) f0 f1 f3 f4 f5
    refine ⟨_, rfl, go_of (s := { s with heap := h', toks := tk }) (n := "range_iterator") st' rfl rfl (by decide) ⟨.int (lo + i), H, I1, ⟨t, ?_⟩, ⟨rfl, rfl⟩, st', fun b hb => (hf b hb).1⟩⟩
    rw [Int.mul_one]
  done := by
    intro X hP hw hK hc i pins s σ H E I hf st hg
    subst hP hw hK
    obtain ⟨f0, f1, f2, f3, f4, f5⟩ := hf it (by simp)
    exact wpAny_pyNext_range_end (I.ok.hd hc) st (by have : n ≤ i := hg; omega) fun h' eb => ⟨rfl, I.turned (t' := s.toks) (fun b o hb e => eb b o hb e) f0 f1 f3 f4 f5⟩
  self := fun _ _ _ _ _ st h => wpAny_pyIter_rangeiter st h
end L2

namespace L2
open PySem PySem.Spec PyProof.Rows
section
variable {X : Cx} {tg : Expr}
def iList (K : PySem.W.Frag) (tl : TE) : TI := fun σ H R => tl σ H fun x H1 => ∃ a, x = .ref a ∧ (∃ xs, SqL K H1 a xs) ∧ R (Itl K a) H1
def iTup (K : PySem.W.Frag) (tl : TE) : TI := fun σ H R => tl σ H fun x H1 => ∃ a, x = .ref a ∧ (∃ xs, SqT K H1 a xs) ∧ R (Itt K a) H1
theorem pi_list {l : Expr} {tl : TE} (hl : PE X l tl) : PI X tg l (iList X.K tl) := by
  intro pins s σ H R I h
  refine thn (hl pins s σ H _ I h) fun v s1 ⟨x, H1, I1, r1, q1⟩ => ?_
  obtain ⟨a, e, ⟨xs, hq⟩, q⟩ := q1
  subst e
  cases r1
  obtain ⟨its, rv, p, hz⟩ := I1.list hq
  refine wpAny_pyIter_list p.isList ?_
  refine ⟨s1.heap.objs.size, [s1.heap.objs.size], _, _, H1, rfl, I1.kept (t' := s1.toks) fun b o e => Heap.get?_push_of_some _ e, turn_list a _, ⟨_, Heap.get?_push_size _ rfl, rfl, rfl⟩, fun b hb => ?_, q⟩
  have e : b = s1.heap.objs.size := by simpa using hb
  subst e
  exact I1.fpOk (Nat.le_refl _) (I1.hok.fresh (Nat.le_refl _))
theorem pi_tup {l : Expr} {tl : TE} (hl : PE X l tl) : PI X tg l (iTup X.K tl) := by
  intro pins s σ H R I h
  refine thn (hl pins s σ H _ I h) fun v s1 ⟨x, H1, I1, r1, q1⟩ => ?_
  obtain ⟨a, e, ⟨xs, hq⟩, q⟩ := q1
  subst e
  cases r1
  obtain ⟨its, rv, p, hz⟩ := I1.tuple hq
  refine wpAny_pyIter_tuple (show s1.heap.IsTuple a its.toArray from p) ?_
  refine ⟨s1.heap.objs.size, [s1.heap.objs.size], _, _, H1, rfl, I1.kept (t' := s1.toks) fun b o e => Heap.get?_push_of_some _ e, turn_tuple a _, ⟨_, Heap.get?_push_size _ rfl, rfl, rfl⟩, fun b hb => ?_, q⟩
  have e : b = s1.heap.objs.size := by simpa using hb
  subst e
  exact I1.fpOk (Nat.le_refl _) (I1.hok.fresh (Nat.le_refl _))
/-- a range object just made, walked -/
theorem range_it {pins : List (Addr × Obj)} {σ : St} {H : Hp} {s : Shared} {R : It → Hp → Prop} {E : Value → Shared → Prop} {lo hi : Int} {t u v : Tok} {tk : Nat} (I : Inv X pins σ H s) (h1 : -(2 ^ 62) ≤ lo) (h2 : lo < 2 ^ 62) (h3 : -(2 ^ 62) ≤ hi) (h4 : hi < 2 ^ 62)
    (q : R (Itr lo (hi - lo).toNat) H) : wpAny (model X.prog X.w) X.A (pyIter (.ref s.heap.objs.size)) (PIE X pins σ tg R) E { s with heap := s.heap.push { cls := .type "range", data := .fields #[.int lo t, .int hi u, .int 1 v] }, toks := tk } := by
  refine wpAny_pyIter_range (IsRange.new ..) (small_one h1 h2 h3 h4) ?_
  have I1 : Inv X pins σ H { s with heap := s.heap.push { cls := .type "range", data := .fields #[.int lo t, .int hi u, .int 1 v] }, toks := tk } := I.kept fun b o e => Heap.get?_push_of_some _ e
  refine ⟨(s.heap.push { cls := .type "range", data := .fields #[.int lo t, .int hi u, .int 1 v] }).objs.size, [(s.heap.push { cls := .type "range", data := .fields #[.int lo t, .int hi u, .int 1 v] }).objs.size], _, _, H, rfl,
    I1.kept (t' := tk) fun b o e => Heap.get?_push_of_some _ e, turn_range _ lo (hi - lo).toNat, ?_, fun b hb => ?_, q⟩
  · have e1 : lo + ((0 : Nat) : Int) * 1 = lo := by simp
    have e2 : (((hi - lo).toNat : Nat) : Int) - ((0 : Nat) : Int) = Builtin.Range.rangeSize lo hi 1 := by rw [rangeSize_one]; split <;> omega
    show IsRangeIter _ _ (lo + ((0 : Nat) : Int) * 1) ((((hi - lo).toNat : Nat) : Int) - ((0 : Nat) : Int)) 1
    rw [e1, e2]
    exact Heap.get?_push_size _ rfl
  · have e : b = (s.heap.push { cls := .type "range", data := .fields #[.int lo t, .int hi u, .int 1 v] }).objs.size := by simpa using hb
    subst e
    exact I1.fpOk (Nat.le_refl _) (I1.hok.fresh (Nat.le_refl _))
def iRng1 (ta : TA) : TI := fun σ H R => ta σ H fun vs H1 => ∃ j : Int, vs = [.int j] ∧ -(2 ^ 62) ≤ j ∧ j < 2 ^ 62 ∧ R (Itr 0 j.toNat) H1
def iRng2 (ta : TA) : TI := fun σ H R => ta σ H fun vs H1 => ∃ i j : Int, vs = [.int i, .int j] ∧ (-(2 ^ 62) ≤ i ∧ i < 2 ^ 62 ∧ -(2 ^ 62) ≤ j ∧ j < 2 ^ 62) ∧ R (Itr i (j - i).toNat) H1
theorem pi_range1 {a : Expr} {ta : TA} {p pos : Pos} (hg : Gl X "range") (hm : X.mg "range" = none) (ha : PA X [a] ta) (hs : starEach [a] X.env = [(false, eval a X.env)] := by rfl) : PI X tg (.Call (.Name "range" p) [a] [] pos) (iRng1 ta) := by
  intro pins s σ H R I h
  refine Call_ (ld_blt I hg hm boot_range (PyProof.Rows.callWith_type1 (thn (ha pos pins s σ H _ I h) fun us s1 ⟨vs, H1, I1, r1, q1⟩ => ?_) hs rfl))
  obtain ⟨j, e, q1, q2, q⟩ := q1
  subst e
  cases r1 with
  | cons r rr =>
    cases rr
    obtain ⟨t, rfl⟩ := r
    exact call_range_1 (range_it I1 (by omega) (by omega) q1 q2 (by simpa using q))
theorem pi_range2 {a b : Expr} {ta : TA} {p pos : Pos} (hg : Gl X "range") (hm : X.mg "range" = none) (ha : PA X [a, b] ta) (hs : starEach [a, b] X.env = [(false, eval a X.env), (false, eval b X.env)] := by rfl) (hs2 : starEach [b] X.env = [(false, eval b X.env)] := by rfl) :
    PI X tg (.Call (.Name "range" p) [a, b] [] pos) (iRng2 ta) := by
  intro pins s σ H R I h
  refine Call_ (ld_blt I hg hm boot_range (PyProof.Rows.callWith_type1 (thn (ha pos pins s σ H _ I h) fun us s1 ⟨vs, H1, I1, r1, q1⟩ => ?_) (by rw [hs, hs2]) (by rw [hs2]; rfl)))
  obtain ⟨i, j, e, ⟨q1, q2, q3, q4⟩, q⟩ := q1
  subst e
  cases r1 with
  | cons r rr =>
    cases rr with
    | cons r' rr =>
      cases rr
      obtain ⟨t, rfl⟩ := r
      obtain ⟨t', rfl⟩ := r'
      exact call_range_2 (range_it I1 q1 q2 q3 q4 q)

/-! ### for -/
/-- W: the invariant by the turn and a measure; N: what the body is to reach -/
def tFor (wi : TI) (g : TG) (tb : TS) : TS := fun D σ H => wi σ H fun J H1 => ∃ W : Nat → Nat → St → Hp → Prop, (∃ m, W 0 m σ H1) ∧ ∀ i m σ H, W i m σ H →
  (J.stop i H ∧ D.nx σ H) ∨ (J.go i H ∧ ∃ N : St → Hp → Prop, (∀ σ' H', N σ' H' → ∃ m', m' < m ∧ W (i + 1) m' σ' H') ∧ ∀ x H', J.yld i H x H' → g x σ H' fun σ2 H2 => tb { D with nx := N, ct := N, bk := D.nx } σ2 H2)
/-- the records at fp as they stand -/
def pinsAt (fp : List Addr) (h : Heap) : List (Addr × Obj) := fp.filterMap fun b => (h.get? b).map fun o => (b, o)
theorem mem_pinsAt {fp : List Addr} {h : Heap} {b : Addr} {o : Obj} (hb : b ∈ fp) (e : h.get? b = some o) : (b, o) ∈ pinsAt fp h := List.mem_filterMap.mpr ⟨b, hb, by rw [e]; rfl⟩
theorem of_pinsAt {fp : List Addr} {h : Heap} {p : Addr × Obj} (hp : p ∈ pinsAt fp h) : p.1 ∈ fp ∧ h.get? p.1 = some p.2 := by
  obtain ⟨b, hb, e⟩ := List.mem_filterMap.mp hp
  cases q : h.get? b with
  | none => rw [q] at e; cases e
  | some o =>
    rw [q] at e
    have e' : (b, o) = p := Option.some.inj e
    subst e'
    exact ⟨hb, q⟩
theorem Inv.pinned {pins : List (Addr × Obj)} {σ : St} {H : Hp} {s : Shared} {fp : List Addr} (I : Inv X pins σ H s) (hf : ∀ b ∈ fp, FpOk X pins H b) (ho : ∀ b ∈ fp, ∃ o, s.heap.get? b = some o ∧ ∀ v, o.data ≠ .cell v) : Inv X (pins ++ pinsAt fp s.heap) σ H s :=
  I.pins_of fun p hp => (List.mem_append.mp hp).elim (fun z => I.pin p (List.mem_append_right _ z)) fun z => by
    obtain ⟨hb, e⟩ := of_pinsAt z
    obtain ⟨f0, f1, f2, _⟩ := hf p.1 hb
    obtain ⟨o, e', d⟩ := ho p.1 hb
    rw [e] at e'; cases e'
    exact ⟨e, f0, f1, f2, d⟩
theorem Inv.unpinned {pins pl : List (Addr × Obj)} {σ : St} {H : Hp} {s : Shared} (I : Inv X (pins ++ pl) σ H s) : Inv X pins σ H s := I.pins_of fun p hp => I.pin p (List.mem_append_right _ (List.mem_append_left _ hp))
theorem ps_for {iter : Expr} {body : List Stmt} {wi : TI} {g : TG} {tb : TS} {pos : Pos} (hp : PassesOwn (model X.prog X.w) X.A X.env X.xe) (hc : X.calm = true) (hi : PI X tg iter wi) (hg : PG X tg g) (hb : PSs X body tb)
    (hs : ∀ x, foldedSetIterable iter X.env x = pure x := by intro _; rfl) : PS X (.For tg iter body [] pos) (tFor wi g tb) := by
  intro pins s σ H D I h
  refine wpAny_For (thn (hi pins s σ H _ I h) fun v s1 h1 => thn h1 fun itv s2 h2 => ?_) hs
  obtain ⟨it, fp, tn, J, H2, e, I2, T, st2, f2, W, ⟨m0, w0⟩, turn⟩ := h2
  subst e
  -- what stays true of the iterator's objects through the loop
  have stat : ∀ {H' : Hp}, (∀ b ∈ fp, H' b = none) → ∀ b ∈ fp, FpOk X pins H' b := fun hn b hb => ⟨hn b hb, (f2 b hb).2⟩
  refine codeAny_forLoop_any (fun n s' => ∃ i σ' H', Inv X pins σ' H' s' ∧ tn i s'.heap ∧ (∀ b ∈ fp, H' b = none) ∧ W i n σ' H') ?_ m0 ⟨0, σ, H2, I2, st2, fun b hb => (f2 b hb).1, w0⟩
  rintro n s3 ⟨i, σ3, H3, I3, st3, fr3, w3⟩
  rcases turn i n σ3 H3 w3 with ⟨stop, qn⟩ | ⟨go, N, hN, step⟩
  · refine wpAny_passesOwn hp (thn (T.done X rfl rfl rfl hc i pins s3 σ3 H3 X.xe I3 (stat fr3) st3 stop) fun r s4 ⟨hr, I4⟩ => ?_)
    subst hr
    exact wpAny_execs_nil ⟨σ3, H3, I4, qn⟩
  · refine wpAny_passesOwn hp (thn (T.item X rfl rfl rfl hc i pins s3 σ3 H3 X.xe I3 (stat fr3) st3 go) fun r s4 ⟨u, hr, h4⟩ => ?_)
    subst hr
    refine wpAny_passesOwn hp (thn h4 fun _ s5 ⟨x, H5, I5, r5, y5, st5, fr5⟩ => ?_)
    have I5' := I5.pinned (stat fr5) (T.obj _ _ st5)
    refine wpAny_passesOwn hp (thn (hg _ s5 σ3 H5 x u _ I5' r5 (step x H5 y5)) fun _ s6 ⟨σ6, H6, I6, q6⟩ => ?_)
    refine wpAny_passesOwn hp (thn (hb _ s6 σ6 H6 _ I6 q6) fun f s7 q7 => ?_)
    have again : ∀ {σ7 : St} {H7 : Hp}, Inv X (pins ++ pinsAt fp s5.heap) σ7 H7 s7 → N σ7 H7 → ∃ m, m < n ∧ ∃ i σ' H', Inv X pins σ' H' s7 ∧ tn i s7.heap ∧ (∀ b ∈ fp, H' b = none) ∧ W i m σ' H' := fun {σ7 H7} I7 n7 => by
      obtain ⟨m', hm, w7⟩ := hN σ7 H7 n7
      refine ⟨m', hm, i + 1, σ7, H7, I7.unpinned, T.keep _ _ _ st5 fun b hb o e => (I7.pin (b, o) (List.mem_append_right _ (List.mem_append_right _ (mem_pinsAt hb e)))).1, fun b hb => ?_, w7⟩
      obtain ⟨o, e, d⟩ := T.obj _ _ st5 b hb
      exact (I7.pin (b, o) (List.mem_append_right _ (List.mem_append_right _ (mem_pinsAt hb e)))).2.1
    cases f with
    | next => obtain ⟨σ7, H7, I7, n7⟩ := q7; exact again I7 n7
    | cont => obtain ⟨σ7, H7, I7, n7⟩ := q7; exact again I7 n7
    | brk => obtain ⟨σ7, H7, I7, q7⟩ := q7; exact ⟨σ7, H7, I7.unpinned, q7⟩
    | ret v => obtain ⟨x7, σ7, H7, I7, r7, q7⟩ := q7; exact ⟨x7, σ7, H7, I7.unpinned, r7, q7⟩
end

/-! ### the forms one uses -/
end L2

namespace L2
open PySem PySem.Spec PyProof.Rows

abbrev R2 := V → V → Hp → VK → Prop
/-- a two-place operation on values: f is binaryOp op, inplaceOp op or compareOp op -/
def OpR (X : Cx) (f : Value → Value → Sem Value) (r : R2) : Prop :=
  ∀ (pins : List (Addr × Obj)) (s : Shared) (σ : St) (H : Hp) (x y : V) (v u : Value) (Q : VK), Inv X pins σ H s → RelV x v → RelV y u → r x y H Q →
    wpAny (model X.prog X.w) X.A (f v u) (EP X pins σ Q) X.xe s
/-- a one-place operation -/
def UnR (X : Cx) (f : Value → Sem Value) (r : V → Hp → VK → Prop) : Prop :=
  ∀ (pins : List (Addr × Obj)) (s : Shared) (σ : St) (H : Hp) (x : V) (v : Value) (Q : VK), Inv X pins σ H s → RelV x v → r x H Q →
    wpAny (model X.prog X.w) X.A (f v) (EP X pins σ Q) X.xe s
/-- a call of a value that is known (a builtin, a type) with values -/
def CallR (X : Cx) (f : Value) (r : List V → Hp → VK → Prop) : Prop :=
  ∀ (pins : List (Addr × Obj)) (s : Shared) (σ : St) (H : Hp) (xs : List V) (us : List Value) (Q : VK), Inv X pins σ H s → Vals xs us → r xs H Q →
    wpAny (model X.prog X.w) X.A (call f us) (EP X pins σ Q) X.xe s
/-- a value's truth -/
def TruR (X : Cx) (r : V → Hp → (Bool → Hp → Prop) → Prop) : Prop :=
  ∀ (pins : List (Addr × Obj)) (s : Shared) (σ : St) (H : Hp) (x : V) (v : Value) (Q : Bool → Hp → Prop), Inv X pins σ H s → RelV x v → r x H Q →
    wpAny (model X.prog X.w) X.A (truthy v) (TP X pins σ Q) X.xe s

def tOp (r : R2) (ta tb : TE) : TE := fun σ H Q => ta σ H fun x H1 => tb σ H1 fun y H2 => r x y H2 Q
def tUn (r : V → Hp → VK → Prop) (ta : TE) : TE := fun σ H Q => ta σ H fun x H1 => r x H1 Q
/-- ints in, under C, and a value out -/
def rI (C : Int → Int → Prop) (g : Int → Int → V) : R2 := fun x y H Q => ∃ i j, x = .int i ∧ y = .int j ∧ C i j ∧ Q (g i j) H
def rI0 (g : Int → Int → V) : R2 := fun x y H Q => ∃ i j, x = .int i ∧ y = .int j ∧ Q (g i j) H
def rU (g : Int → V) : V → Hp → VK → Prop := fun x H Q => ∃ i, x = .int i ∧ Q (g i) H

section
variable {X : Cx} {a b c : Expr} {ta tb tc : TE} {pos : Pos}

theorem binT (ha : PE X a ta) (hb : PE X b tb) {pins : List (Addr × Obj)} {s : Shared} {σ : St} {H : Hp} {R : V → V → Hp → Prop} (I : Inv X pins σ H s)
    (h : ta σ H fun x H1 => tb σ H1 fun y H2 => R x y H2) {Q : Value → Shared → Prop} {f : Value → Value → Sem Value}
    (hf : ∀ v u s2 x y H2, Inv X pins σ H2 s2 → RelV x v → RelV y u → R x y H2 → wpAny (model X.prog X.w) X.A (f v u) Q X.xe s2) :
    wpAny (model X.prog X.w) X.A (eval a X.env) (fun v s₁ => wpAny (model X.prog X.w) X.A (eval b X.env) (fun u s₂ => wpAny (model X.prog X.w) X.A (f v u) Q X.xe s₂) X.xe s₁) X.xe s := by
  refine thn (ha pins s σ H _ I h) fun v s1 ⟨x, H1, I1, r1, q1⟩ => ?_
  refine thn (hb pins s1 σ H1 _ I1 q1) fun u s2 ⟨y, H2, I2, r2, q2⟩ => ?_
  exact hf v u s2 x y H2 I2 r1 r2 q2

theorem pe_op {op : Operator} {r : R2} (ho : OpR X (binaryOp op) r) (ha : PE X a ta) (hb : PE X b tb) : PE X (.BinOp a op b pos) (tOp r ta tb) := by
  intro pins s σ H Q I h
  exact wpAny_BinOp (binT ha hb I h fun v u s2 x y H2 I2 rx ry q => ho pins s2 σ H2 x y v u Q I2 rx ry q)
theorem pe_un {op : UnaryOp} {r : V → Hp → VK → Prop} (ho : UnR X (unaryOp op) r) (ha : PE X a ta) : PE X (.UnaryOp op a pos) (tUn r ta) := by
  intro pins s σ H Q I h
  exact UnaryOp_ (thn (ha pins s σ H _ I h) fun v s1 ⟨x, H1, I1, r1, q1⟩ => ho pins s1 σ H1 x v Q I1 r1 q1)
/-! ### ints -/
theorem opI {f : Value → Value → Sem Value} {C : Int → Int → Prop} {g : Int → Int → Int}
    (rule : ∀ (i j : Int) (t u : Tok) (s : Shared) (Q : Value → Shared → Prop) (E : Value → Shared → Prop), C i j → Q (.int (g i j) s.toks) { s with toks := s.toks + 1 } → wpAny (model X.prog X.w) X.A (f (.int i t) (.int j u)) Q E s) :
    OpR X f (rI C fun i j => .int (g i j)) := by
  intro pins s σ H x y v u Q I rx ry h
  obtain ⟨i, j, rfl, rfl, hc, q⟩ := h
  obtain ⟨t, rfl⟩ := rx
  obtain ⟨t', rfl⟩ := ry
  exact rule i j t t' s _ _ hc ⟨.int (g i j), H, I.tok _, ⟨_, rfl⟩, q⟩
theorem opI0 {f : Value → Value → Sem Value} {g : Int → Int → Int}
    (rule : ∀ (i j : Int) (t u : Tok) (s : Shared) (Q : Value → Shared → Prop) (E : Value → Shared → Prop), Q (.int (g i j) s.toks) { s with toks := s.toks + 1 } → wpAny (model X.prog X.w) X.A (f (.int i t) (.int j u)) Q E s) :
    OpR X f (rI0 fun i j => .int (g i j)) := by
  intro pins s σ H x y v u Q I rx ry h
  obtain ⟨i, j, rfl, rfl, q⟩ := h
  obtain ⟨t, rfl⟩ := rx
  obtain ⟨t', rfl⟩ := ry
  exact rule i j t t' s _ _ ⟨.int (g i j), H, I.tok _, ⟨_, rfl⟩, q⟩
theorem opB0 {f : Value → Value → Sem Value} {g : Int → Int → Bool}
    (rule : ∀ (i j : Int) (t u : Tok) (s : Shared) (Q : Value → Shared → Prop) (E : Value → Shared → Prop), Q (.bool (g i j)) s → wpAny (model X.prog X.w) X.A (f (.int i t) (.int j u)) Q E s) :
    OpR X f (rI0 fun i j => .bl (g i j)) := by
  intro pins s σ H x y v u Q I rx ry h
  obtain ⟨i, j, rfl, rfl, q⟩ := h
  obtain ⟨t, rfl⟩ := rx
  obtain ⟨t', rfl⟩ := ry
  exact rule i j t t' s _ _ ⟨.bl (g i j), H, I, rfl, q⟩

def CDiv (i j : Int) : Prop := 0 < j ∧ j < 1073741824
def CDivN (i j : Int) : Prop := j ≠ 0 ∧ j.natAbs < 1073741824
def CPow (i j : Int) : Prop := 0 ≤ j ∧ j ≤ 1000000 ∧ i.natAbs < 2 ^ 64
def CMul (i j : Int) : Prop := (-(2 ^ 64) < i ∧ i < 2 ^ 64) ∨ (-(2 ^ 64) < j ∧ j < 2 ^ 64)
theorem CMul.ok {i j : Int} (h : CMul i j) : IntMulOk i j := by
  rcases h with ⟨h1, h2⟩ | ⟨h1, h2⟩
  · exact .of_left (intBits_le_64 h1 h2)
  · exact .of_right (intBits_le_64 h1 h2)
theorem two_pow_nn (k : Nat) : (0 : Int) ≤ 2 ^ k := by
  rw [two_pow_cast]
  exact Int.natCast_nonneg _

theorem op_add : OpR X (binaryOp .Add) (rI0 fun i j => .int (i + j)) := opI0 fun _ _ _ _ _ _ _ q => add_int q
theorem op_sub : OpR X (binaryOp .Sub) (rI0 fun i j => .int (i - j)) := opI0 fun _ _ _ _ _ _ _ q => sub_int q
theorem op_mul : OpR X (binaryOp .Mult) (rI CMul fun i j => .int (i * j)) := opI fun _ _ _ _ _ _ _ hc q => mul_int q hc.ok
/-- // by a positive divisor -/
theorem op_fdiv : OpR X (binaryOp .FloorDiv) (rI CDiv fun i j => .int (i / j)) := opI fun i j _ _ _ _ _ hc q => by
  have h1 : (0 : Int) < j := hc.1
  have h2 : j < 1073741824 := hc.2
  exact floordiv_int (by omega) (by rw [Int.fdiv_eq_ediv_of_nonneg i (by omega)]; exact q) (.inl (PyProof.noPylong_small (by omega)))
/-- % by a positive divisor of any size -/
theorem op_mod : OpR X (binaryOp .Mod) (rI (fun _ j => 0 < j) fun i j => .int (i % j)) := opI fun i j _ _ _ _ _ hc q => by
  have h1 : (0 : Int) < j := hc
  exact mod_int' (by omega) (by rw [Int.fmod_eq_emod_of_nonneg i (by omega)]; exact q)
theorem op_shl : OpR X (binaryOp .LShift) (rI CPow fun i j => .int (i * 2 ^ j.toNat)) := opI fun _ _ _ _ _ _ _ hc q => lshift_int_small hc.1 hc.2.1 hc.2.2 q
theorem op_shr : OpR X (binaryOp .RShift) (rI (fun _ j => 0 ≤ j) fun i j => .int (i / 2 ^ j.toNat)) := opI fun i j _ _ _ _ _ hc q =>
  rshift_int hc (by rw [Int.fdiv_eq_ediv_of_nonneg i (two_pow_nn _)]; exact q)
theorem op_and : OpR X (binaryOp .BitAnd) (rI0 fun i j => .int (Builtin.bitAnd i j)) := opI0 fun _ _ _ _ _ _ _ q => and_int q
theorem op_or : OpR X (binaryOp .BitOr) (rI0 fun i j => .int (Builtin.bitOr i j)) := opI0 fun _ _ _ _ _ _ _ q => or_int q
theorem op_xor : OpR X (binaryOp .BitXor) (rI0 fun i j => .int (Builtin.bitXor i j)) := opI0 fun _ _ _ _ _ _ _ q => xor_int q

theorem unI {f : Value → Sem Value} {g : Int → Int}
    (rule : ∀ (i : Int) (t : Tok) (s : Shared) (Q : Value → Shared → Prop) (E : Value → Shared → Prop), Q (.int (g i) s.toks) { s with toks := s.toks + 1 } → wpAny (model X.prog X.w) X.A (f (.int i t)) Q E s) :
    UnR X f (rU fun i => .int (g i)) := by
  intro pins s σ H x v Q I rx h
  obtain ⟨i, rfl, q⟩ := h
  obtain ⟨t, rfl⟩ := rx
  exact rule i t s _ _ ⟨.int (g i), H, I.tok _, ⟨_, rfl⟩, q⟩
theorem un_neg : UnR X (unaryOp .USub) (rU fun i => .int (-i)) := unI fun _ _ _ _ _ q => neg_int q
theorem un_inv : UnR X (unaryOp .Invert) (rU fun i => .int (Builtin.bitNot i)) := unI fun _ _ _ _ _ q => invert_int q

/-! ### bools among ints: n += (a < b) -/
end

/-! ### comparisons -/
/-- the scalars that == tells apart as data does -/
def scal : V → V → Bool
  | .non, .non => true | .non, .int _ => true | .int _, .non => true | .non, .bl _ => true | .bl _, .non => true | .non, .str _ => true | .str _, .non => true
  | .int _, .int _ => true | .bl _, .bl _ => true | .str _, .str _ => true | .byt _, .byt _ => true
  | .int _, .str _ => true | .str _, .int _ => true | .bl _, .str _ => true | .str _, .bl _ => true
  | _, _ => false
def rEq : R2 := fun x y H Q => scal x y = true ∧ Q (.bl (decide (x = y))) H
def rNe : R2 := fun x y H Q => scal x y = true ∧ Q (.bl (!decide (x = y))) H

section
variable {X : Cx} {a b c : Expr} {ta tb tc : TE} {pos : Pos}
theorem fin_bl {pins : List (Addr × Obj)} {σ : St} {H : Hp} {s : Shared} {Q : VK} {k k' : Bool} (I : Inv X pins σ H s) (q : Q (.bl k) H) (e : k = k') : EP X pins σ Q (.bool k') s := by
  subst e
  exact ⟨.bl k, H, I, rfl, q⟩
theorem op_lt : OpR X (compareOp .Lt) (rI0 fun i j => .bl (decide (i < j))) := opB0 fun _ _ _ _ _ _ _ q => lt_int q
theorem op_le : OpR X (compareOp .LtE) (rI0 fun i j => .bl (decide (i ≤ j))) := opB0 fun _ _ _ _ _ _ _ q => le_int q
theorem op_gt : OpR X (compareOp .Gt) (rI0 fun i j => .bl (decide (j < i))) := opB0 fun _ _ _ _ _ _ _ q => gt_int q
theorem op_ge : OpR X (compareOp .GtE) (rI0 fun i j => .bl (decide (j ≤ i))) := opB0 fun _ _ _ _ _ _ _ q => ge_int q
/-- is None, is not None: the right side a value none -/
theorem op_isN : OpR X (compareOp .Is) (fun x y H Q => y = .non ∧ Q (.bl (decide (x = .non))) H) := by
  intro pins s σ H x y v u Q I rx ry h
  obtain ⟨rfl, q⟩ := h
  cases ry
  refine is_none_gen (fin_bl I q ?_)
  cases x <;> first
    | (cases rx; rfl)
    | (obtain ⟨t, rfl⟩ := rx; rfl)
theorem op_notN : OpR X (compareOp .IsNot) (fun x y H Q => y = .non ∧ Q (.bl (!decide (x = .non))) H) := by
  intro pins s σ H x y v u Q I rx ry h
  obtain ⟨rfl, q⟩ := h
  cases ry
  refine isnot_none_gen (fin_bl I q ?_)
  cases x <;> first
    | (cases rx; rfl)
    | (obtain ⟨t, rfl⟩ := rx; rfl)

/-- is, is not of two objects that are tracked lists or instances -/
def isObj : HO → Bool
  | .lst _ => true
  | .ins _ _ _ => true
  | _ => false
/-- two rules for one operation: by cases -/
theorem OpR.or {f : Value → Value → Sem Value} {r r' : R2} (h : OpR X f r) (h' : OpR X f r') : OpR X f (fun x y H Q => r x y H Q ∨ r' x y H Q) := by
  intro pins s σ H x y v u Q I rx ry q
  rcases q with q | q
  · exact h pins s σ H x y v u Q I rx ry q
  · exact h' pins s σ H x y v u Q I rx ry q

theorem nomark (b : Expr) {op : CmpOp} (h : op ≠ .In := by decide) (h2 : op ≠ .NotIn := by decide) : behindInMarks op b = false := by
  have e1 : (op == CmpOp.In) = false := by cases op <;> first | rfl | exact absurd rfl h
  have e2 : (op == CmpOp.NotIn) = false := by cases op <;> first | rfl | exact absurd rfl h2
  cases b <;> simp [behindInMarks, e1, e2]
/-- a comparison as a value; hm: nomark b, or (for in, not in) by with_unfolding_all rfl -/
theorem pe_cmpR {op : CmpOp} {r : R2} (ho : OpR X (compareOp op) r) (ha : PE X a ta) (hb : PE X b tb) (hm : behindInMarks op b = false) : PE X (.Compare a [op] [b] pos) (tOp r ta tb) := by
  intro pins s σ H Q I h
  exact wpAny_Compare1 (binT ha hb I h fun v u s2 x y H2 I2 rx ry q => ho pins s2 σ H2 x y v u Q I2 rx ry q) hm
/-- a reading of a value as a test -/
def tTest (t : TE) : TT := fun σ H Q => t σ H fun x H' => ∃ k, x = .bl k ∧ Q k H'
theorem pt_cmpR {op : CmpOp} {r : R2} (ho : OpR X (compareOp op) r) (ha : PE X a ta) (hb : PE X b tb) (hm : behindInMarks op b = false) : PT X (.Compare a [op] [b] pos) (tTest (tOp r ta tb)) := by
  intro pins s σ H Q I h
  refine wpAny_isTrue_Compare1 (thn (ha pins s σ H _ I h) fun v s1 ⟨x, H1, I1, r1, q1⟩ => thn (hb pins s1 σ H1 _ I1 q1) fun u s2 ⟨y, H2, I2, r2, q2⟩ =>
    thn (ho pins s2 σ H2 x y v u _ I2 r1 r2 q2) fun c s3 ⟨z, H3, I3, r3, k, e, q3⟩ => ?_) hm
  subst e
  cases r3
  exact wpAny_truthy_bool ⟨H3, I3, q3⟩
/-- a op1 b op2 c -/
def tChain (r r' : R2) (ta tb tc : TE) : TE := fun σ H Q => ta σ H fun x H1 => tb σ H1 fun y H2 => r x y H2 fun z H3 => ∃ k, z = .bl k ∧
  (if k = true then tc σ H3 fun w' H4 => r' y w' H4 Q else Q (.bl false) H3)
theorem pe_chain {op op' : CmpOp} {r r' : R2} (ho : OpR X (compareOp op) r) (ho' : OpR X (compareOp op') r') (ha : PE X a ta) (hb : PE X b tb) (hc : PE X c tc)
    (hm : lastMarks [op, op'] [b, c] = false := by with_unfolding_all rfl) : PE X (.Compare a [op, op'] [b, c] pos) (tChain r r' ta tb tc) := by
  intro pins s σ H Q I h
  refine Compare_chain (thn (ha pins s σ H _ I h) fun v s1 ⟨x, H1, I1, r1, q1⟩ => chain_link (thn (hb pins s1 σ H1 _ I1 q1) fun u s2 ⟨y, H2, I2, r2, q2⟩ =>
    thn (ho pins s2 σ H2 x y v u _ I2 r1 r2 q2) fun d s3 ⟨z, H3, I3, r3, k, e, q3⟩ => ?_)) hm
  subst e
  cases r3
  refine wpAny_truthy_bool ?_
  cases k with
  | false => exact ite_ff ⟨.bl false, H3, I3, rfl, q3⟩
  | true => exact ite_tt (chain_last (thn (hc pins s3 σ H3 _ I3 q3) fun w' s4 ⟨z', H4, I4, r4, q4⟩ => ho' pins s4 σ H4 y z' u w' Q I4 r2 r4 q4))
theorem pt_chain {op op' : CmpOp} {r r' : R2} (ho : OpR X (compareOp op) r) (ho' : OpR X (compareOp op') r') (ha : PE X a ta) (hb : PE X b tb) (hc : PE X c tc)
    (hm : lastMarks [op, op'] [b, c] = false := by with_unfolding_all rfl) : PT X (.Compare a [op, op'] [b, c] pos) (tTest (tChain r r' ta tb tc)) := by
  intro pins s σ H Q I h
  refine isTrue_chain (thn (ha pins s σ H _ I h) fun v s1 ⟨x, H1, I1, r1, q1⟩ => test_link (thn (hb pins s1 σ H1 _ I1 q1) fun u s2 ⟨y, H2, I2, r2, q2⟩ =>
    thn (ho pins s2 σ H2 x y v u _ I2 r1 r2 q2) fun d s3 ⟨z, H3, I3, r3, k, e, q3⟩ => ?_)) hm
  subst e
  cases r3
  refine wpAny_truthy_bool ?_
  cases k with
  | false =>
    obtain ⟨k', e', q'⟩ := q3
    cases e'
    exact ite_ff ⟨H3, I3, q'⟩
  | true =>
    refine ite_tt (test_last (thn (hc pins s3 σ H3 _ I3 q3) fun w' s4 ⟨z', H4, I4, r4, q4⟩ => thn (ho' pins s4 σ H4 y z' u w' _ I4 r2 r4 q4) fun d' s5 ⟨z2, H5, I5, r5, k2, e2, q5⟩ => ?_))
    subst e2
    cases r5
    exact wpAny_truthy_bool ⟨H5, I5, q5⟩

/-! ### truth -/
/-- a value's truth by the abstract heap -/
def TruV (K : PySem.W.Frag) (x : V) (H : Hp) (k : Bool) : Prop :=
  match x with
  | .non => k = false
  | .bl b => k = b
  | .int i => k = (i != 0)
  | .str y => y.length ≤ sizeLine ∧ k = ((y.length : Int) != 0)
  | .byt y => y.size ≤ sizeLine ∧ k = ((y.size : Int) != 0)
  | .ref p => (∃ xs, SqL K H p xs ∧ k = !xs.isEmpty) ∨ (∃ xs, SqT K H p xs ∧ k = !xs.isEmpty) ∨ ∃ kvs, H p = some (.dK kvs) ∧ k = !kvs.isEmpty
  | _ => False
theorem isEmpty_kv {κ : Type} {kvs : List (κ × V)} {vs : List (κ × Value)} (r : KV kvs vs) : (!vs.isEmpty) = !kvs.isEmpty := by
  cases r <;> rfl
theorem isEmpty_of {xs : List V} {its : List Value} (r : Vals xs its) : (!its.toArray.isEmpty) = !xs.isEmpty := by
  cases r <;> simp
theorem line63 : (sizeLine : Nat) < 2 ^ 63 := by rw [sizeLine_eq]; decide
theorem tru_ok : TruR X (fun x H Q => ∃ k, TruV X.K x H k ∧ Q k H) := by
  intro pins s σ H x v Q I rx h
  obtain ⟨k, e, q⟩ := h
  have hl := line63
  have hs : sizeLine = 16777216 := sizeLine_eq
  cases x with
  | non =>
    cases rx
    have e' : k = false := e
    subst e'
    exact truthy_none ⟨H, I, q⟩
  | bl b =>
    cases rx
    have e' : k = b := e
    subst e'
    exact wpAny_truthy_bool ⟨H, I, q⟩
  | int i =>
    obtain ⟨t, rfl⟩ := rx
    have e' : k = (i != 0) := e
    subst e'
    exact PySem.P.truthy_int ⟨H, I, q⟩
  | str y =>
    obtain ⟨t, rfl⟩ := rx
    obtain ⟨hy, e'⟩ : y.length ≤ sizeLine ∧ k = ((y.length : Int) != 0) := e
    subst e'
    exact PySem.P.truthy_str (by omega) ⟨H, I.tok _, q⟩
  | byt y =>
    obtain ⟨t, rfl⟩ := rx
    obtain ⟨hy, e'⟩ : y.size ≤ sizeLine ∧ k = ((y.size : Int) != 0) := e
    subst e'
    exact PySem.W.truthy_bytes (by omega) ⟨H, I.tok _, q⟩
  | ref p =>
    cases rx
    have e' : (∃ xs, SqL X.K H p xs ∧ k = !xs.isEmpty) ∨ (∃ xs, SqT X.K H p xs ∧ k = !xs.isEmpty) ∨ ∃ kvs, H p = some (.dK kvs) ∧ k = !kvs.isEmpty := e
    rcases e' with ⟨xs, hx, e'⟩ | ⟨xs, hx, e'⟩ | ⟨kvs, hx, e'⟩
    · subst e'
      obtain ⟨its, r, pl, hz⟩ := I.list hx
      have hlen := r.length
      exact wpAny_truthy_list pl.isList (by simp only [List.size_toArray]; omega) ⟨H, I.tok _, by rw [isEmpty_of r]; exact q⟩
    · subst e'
      obtain ⟨its, r, pl, hz⟩ := I.tuple hx
      have hlen := r.length
      exact truthy_tuple pl (by simp only [List.size_toArray]; omega) ⟨H, I.tok _, by rw [isEmpty_of r]; exact q⟩
    · subst e'
      obtain ⟨hz, hS, vs, r, m⟩ : kvs.length ≤ sizeLine ∧ (p == sysModules) = false ∧ ∃ vs, KV kvs vs ∧ s.heap.DictOf (mixKind X.prog X.w) p vs := I.hok p _ hx
      have hlen : kvs.length = vs.length := Paired.length r
      exact wpAny_truthy_dict hS m (by omega) ⟨H, I.tok _, by rw [isEmpty_kv r]; exact q⟩
  | _ => exact (show False from e).elim
/-- any expression whose test is its value's truth (a name, a call, a subscript, a field ..: he by fun _ => rfl) -/
theorem pt_truth (ha : PE X a ta) (he : ∀ whole, isTrue a X.env whole = (do let v ← whole; standAt a.pos; holding [v] (truthy v))) :
    PT X a (fun σ H Q => ta σ H fun x H' => ∃ k, TruV X.K x H' k ∧ Q k H') := by
  intro pins s σ H Q I h
  exact isTrue_plain (thn (ha pins s σ H _ I h) fun v s1 ⟨x, H1, I1, r1, q1⟩ => tru_ok pins s1 σ H1 x v Q I1 r1 q1) (he _)

/-! ### strs and bytes -/
def PlainIxT (b : Expr) : Prop := ∀ o i, subscripted b false o i = operate [o, i] (getItem o i)
/-! ### scalar builtins, by CallR -/
theorem vals1 {x : V} {us : List Value} (r : Vals [x] us) : ∃ u, us = [u] ∧ RelV x u := by
  cases r with
  | cons r1 r2 => cases r2; exact ⟨_, rfl, r1⟩
theorem vals2 {x y : V} {us : List Value} (r : Vals [x, y] us) : ∃ u w', us = [u, w'] ∧ RelV x u ∧ RelV y w' := by
  cases r with
  | cons r1 r2 =>
    cases r2 with
    | cons r3 r4 => cases r4; exact ⟨_, _, rfl, r1, r3⟩
theorem call_abs : CallR X (.builtin "abs") (fun xs H Q => ∃ i, xs = [.int i] ∧ Q (.int (if i < 0 then -i else i)) H) := by
  intro pins s σ H xs us Q I r h
  obtain ⟨i, rfl, q⟩ := h
  obtain ⟨u, rfl, t, rfl⟩ := vals1 r
  exact call_abs_int fun u tk => ⟨.int (if i < 0 then -i else i), H, I.tok _, ⟨_, rfl⟩, q⟩
theorem call_max2 (hc : X.calm = true) : CallR X (.builtin "max") (fun xs H Q => ∃ i j, xs = [.int i, .int j] ∧ Q (.int (if j > i then j else i)) H) := by
  intro pins s σ H xs us Q I r h
  obtain ⟨i, j, rfl, q⟩ := h
  obtain ⟨u, w', rfl, ⟨t, rfl⟩, ⟨t', rfl⟩⟩ := vals2 r
  refine max_two_ints (I.ok.hd hc) fun h' tk k => ⟨_, H, I.kept k, ?_, q⟩
  by_cases hj : j > i
  · rw [if_pos hj, if_pos hj]; exact ⟨_, rfl⟩
  · rw [if_neg hj, if_neg hj]; exact ⟨_, rfl⟩
theorem call_min2 (hc : X.calm = true) : CallR X (.builtin "min") (fun xs H Q => ∃ i j, xs = [.int i, .int j] ∧ Q (.int (if j < i then j else i)) H) := by
  intro pins s σ H xs us Q I r h
  obtain ⟨i, j, rfl, q⟩ := h
  obtain ⟨u, w', rfl, ⟨t, rfl⟩, ⟨t', rfl⟩⟩ := vals2 r
  refine min_two_ints (I.ok.hd hc) fun h' tk k => ⟨_, H, I.kept k, ?_, q⟩
  by_cases hj : j < i
  · rw [if_pos hj, if_pos hj]; exact ⟨_, rfl⟩
  · rw [if_neg hj, if_neg hj]; exact ⟨_, rfl⟩
theorem call_int1 : CallR X (.type "int") (fun xs H Q => (∃ i, xs = [.int i] ∧ Q (.int i) H) ∨ ∃ k, xs = [.bl k] ∧ Q (.int (if k then 1 else 0)) H) := by
  intro pins s σ H xs us Q I r h
  rcases h with ⟨i, rfl, q⟩ | ⟨k, rfl, q⟩
  · obtain ⟨u, rfl, t, rfl⟩ := vals1 r
    exact call_int_int ⟨.int i, H, I, ⟨_, rfl⟩, q⟩
  · obtain ⟨u, rfl, r1⟩ := vals1 r
    cases r1
    exact call_int_bool ⟨.int (if k then 1 else 0), H, I.tok _, ⟨_, rfl⟩, q⟩
/-- len of a str, a bytes, a list, a tuple -/
def LenV (K : PySem.W.Frag) (x : V) (H : Hp) (n : Nat) : Prop :=
  match x with
  | .str y => y.length ≤ sizeLine ∧ n = y.length
  | .byt y => y.size ≤ sizeLine ∧ n = y.size
  | .ref p => (∃ xs, SqL K H p xs ∧ n = xs.length) ∨ ∃ xs, SqT K H p xs ∧ n = xs.length
  | _ => False
end
end L2

namespace L2
open PySem PySem.Spec PyProof.Rows

/-! ### an instance, its attributes a map -/
structure ObjM (h : Heap) (x dx C : Addr) (mA : Str → Option Value) : Prop where
  obj : h.get? x = some (PySem.W.instObj C dx)
  ns : h.Ns1 dx mA
  ne : dx ≠ x

theorem lookIn_ns {h : Heap} {dx : Addr} {mA : Str → Option Value} (n : h.Ns1 dx mA) : ∃ od, h.get? dx = some od ∧ ∀ name, PySem.W.lookIn name od = some (mA name) := by
  obtain ⟨o, es, ep, ho, hd, hk, _, hm⟩ := n
  refine ⟨o, ho, fun name => ?_⟩
  have e := hm name
  unfold nsFind findBy at e
  rw [← Array.find?_toList] at e
  unfold PySem.W.lookIn
  rw [hd]
  dsimp only
  split
  · rename_i y q
    rw [q] at e
    exact congrArg some e
  · rename_i q
    rw [q] at e
    have a : es.toList.any (·.refKey) = false := by
      rw [List.any_eq_false]
      intro y hy
      obtain ⟨z, t, hkey⟩ := hk y (Array.mem_toList_iff.mp hy)
      simp [DictEntry.refKey, hkey]
    have a' : ¬ es.toList.any (·.refKey) = true := by rw [a]; exact Bool.false_ne_true
    rw [if_neg a']
    exact congrArg some e

theorem ObjM.look {h : Heap} {x dx C : Addr} {mA : Str → Option Value} (I : ObjM h x dx C mA) : ∃ od, PySem.W.InstAt h x (PySem.W.instObj C dx) C (some od) ∧ ∀ name, PySem.W.lookIn name od = some (mA name) :=
  let ⟨od, ho, hl⟩ := lookIn_ns I.ns
  ⟨od, ⟨I.obj, rfl, rfl, ho⟩, hl⟩

section
variable {prog : Program} {w : World} {A : Around} {E : Value → Shared → Prop} {s : Shared} {K : PySem.W.Frag} {x dx C f : Addr} {mA : Str → Option Value} {name : Str} {v : Value}

end

/-! ### the attributes as a list of pairs -/
def putF (f : Str) (v : V) : List (Str × V) → List (Str × V)
  | [] => [(f, v)]
  | (g, x) :: r => if g = f then (g, v) :: r else (g, x) :: putF f v r
section
variable {P : Program} {w : World} {H H' : Hp} {h h' : Heap} {a C dx : Addr} {fs fs' : List (Str × V)}
end

/-! ### what of the text a class must have -/
structure Cls (K : PySem.W.Frag) (C : Addr) : Prop where
  pg : PySem.W.plainGet K C Str.empty = true
  hd : PySem.W.hasDictIn K C = true
  po : PySem.W.plainOver K C = true
  sa : PySem.W.findIn K (.ref C) "__setattr__" = some (some (.builtin "object.__setattr__"))
theorem Cls.get {K : PySem.W.Frag} {C : Addr} (c : Cls K C) (f : Str) : PySem.W.plainGet K C f = true := c.pg
/-- no class of it has the name -/
def NoAttr (K : PySem.W.Frag) (C : Addr) (f : Str) : Prop := PySem.W.findIn K (.ref C) f = some none
/-- a constant of the class -/
structure Con (K : PySem.W.Frag) (C : Addr) (f : Str) (v : V) (u : Value) : Prop where
  at_ : PySem.W.findIn K (.ref C) f = some (some u)
  rel : RelV v u
  get : PySem.W.specialIn K u "__get__" = some none
  cp : PySem.W.copiedNames.contains f = false
/-- a method: a plain def of the class or of one above it -/
structure Meth (K : PySem.W.Frag) (C : Addr) (m : Str) (f : Addr) : Prop where
  at_ : PySem.W.findIn K (.ref C) m = some (some (.ref f))
  fn : PySem.W.isFn K (.ref f) = true
  kp : PySem.W.keepIn K (.ref f) = true

section
variable {X : Cx} {pins : List (Addr × Obj)} {σ : St} {H : Hp} {s : Shared} {a C dx : Addr} {fs : List (Str × V)} {f : Str} {v : V} {A : Around} {E : Value → Shared → Prop}

/-- a new instance, tracked, without attributes -/
theorem Inv.made (I : Inv X pins σ H s) : Inv X pins σ (upd (upd H s.heap.objs.size (.own (s.heap.objs.size + 1))) (s.heap.objs.size + 1) (.ins C s.heap.objs.size []))
    { s with heap := (s.heap.push PySem.W.emptyDict).push (PySem.W.instObj C s.heap.objs.size) } := by
  have e1 : (s.heap.push PySem.W.emptyDict).get? s.heap.objs.size = some PySem.W.emptyDict := Heap.get?_push_size s.heap rfl
  have e2 : ((s.heap.push PySem.W.emptyDict).push (PySem.W.instObj C s.heap.objs.size)).get? (s.heap.objs.size + 1) = some (PySem.W.instObj C s.heap.objs.size) := by
    have := Heap.get?_push_size (s.heap.push PySem.W.emptyDict) (o := PySem.W.instObj C s.heap.objs.size) rfl
    rwa [Heap.size_push] at this
  have e3 : (s.heap.push PySem.W.emptyDict).Ns s.heap.objs.size (fun _ => none) := ⟨PySem.W.emptyDict, #[], _, e1, rfl, (fun e he => absurd he (by simp)), fun _ => rfl⟩
  have I1 := I.laid (a := s.heap.objs.size) (o := .own (s.heap.objs.size + 1)) (h' := s.heap.push PySem.W.emptyDict) (t' := s.toks) (fun b u q => Heap.get?_push_of_some _ q) (Nat.le_refl _) ⟨_, e1⟩
  refine I1.laid (a := s.heap.objs.size + 1) (o := .ins C s.heap.objs.size []) (t' := s.toks) (fun b u q => Heap.get?_push_of_some _ q) (Nat.le_of_eq (Heap.size_push _ _)) ?_
  have ne : s.heap.objs.size ≠ s.heap.objs.size + 1 := Nat.ne_of_lt (Nat.lt_succ_self _)
  refine ⟨by rw [upd_ne ne, upd_same], Nat.zero_le _, ne, e2, fun _ => none, (Heap.Ns1.of_empty e3).at fun o q => Heap.get?_push_of_some _ q, fun _ => True.intro, fun y hy => absurd rfl hy⟩

end

/-! ### readings and rules -/
/-- e.f, an attribute of the instance -/
def tFld (K : PySem.W.Frag) (ta : TE) (f : Str) : TE := fun σ H Q => ta σ H fun x H1 => ∃ a C dx fs v, x = .ref a ∧ H1 a = some (.ins C dx fs) ∧ Cls K C ∧ NoAttr K C f ∧ fs.lookup f = some v ∧ Q v H1
/-- e.f, a constant of the class -/
def tCon (K : PySem.W.Frag) (ta : TE) (f : Str) : TE := fun σ H Q => ta σ H fun x H1 => ∃ a C dx fs v u, x = .ref a ∧ H1 a = some (.ins C dx fs) ∧ Cls K C ∧ Con K C f v u ∧ fs.lookup f = none ∧ Q v H1
/-- e.f = value -/
def sFld (K : PySem.W.Frag) (ta tv : TE) (f : Str) : TS := fun D σ H => tv σ H fun y H1 => ta σ H1 fun x H2 => ∃ a C dx fs, x = .ref a ∧ H2 a = some (.ins C dx fs) ∧ Cls K C ∧ NoAttr K C f ∧ fs.length < 1000 ∧
  D.nx σ (upd H2 a (.ins C dx (putF f y fs)))
/-- an augmented operator on two values -/
def InOp (X : Cx) (op : Operator) (rd : V → V → Hp → VK → Prop) : Prop :=
  ∀ (pins : List (Addr × Obj)) (s : Shared) (σ : St) (H : Hp) (x y : V) (u v : Value) (Q : VK), Inv X pins σ H s → RelV x u → RelV y v → rd x y H Q → wpAny (model X.prog X.w) X.A (inplaceOp op u v) (EP X pins σ Q) X.xe s
/-- e.f op= value -/
def sFldAug (K : PySem.W.Frag) (ta tv : TE) (rd : V → V → Hp → VK → Prop) (f : Str) : TS := fun D σ H => ta σ H fun x H1 => ∃ a C dx fs v, x = .ref a ∧ H1 a = some (.ins C dx fs) ∧ Cls K C ∧ NoAttr K C f ∧ fs.lookup f = some v ∧
  tv σ H1 fun y H2 => rd v y H2 fun z H3 => ∃ dx' fs', H3 a = some (.ins C dx' fs') ∧ fs'.length < 1000 ∧ D.nx σ (upd H3 a (.ins C dx' (putF f z fs')))

section
variable {X : Cx} {o e value : Expr} {f : Str} {pos pos' tpos : Pos} {ta tv : TE}
def rAdd : V → V → Hp → VK → Prop := fun x y H Q => ∃ i j, x = .int i ∧ y = .int j ∧ Q (.int (i + j)) H
def rSub : V → V → Hp → VK → Prop := fun x y H Q => ∃ i j, x = .int i ∧ y = .int j ∧ Q (.int (i - j)) H
end

/-! ### isinstance -/
section
variable {X : Cx} {pins : List (Addr × Obj)} {σ : St} {H : Hp} {s : Shared} {A : Around} {E : Value → Shared → Prop} {Q : Value → Shared → Prop} {c : Value} {b : Bool}
/-- the type of a value, as the fragment's deciders take it; for an instance its class -/
inductive TyOf (K : PySem.W.Frag) (H : Hp) : V → Value → Prop where
  | non : TyOf K H .non (.type "NoneType")
  | bl (x : Bool) : TyOf K H (.bl x) (.type "bool")
  | int (i : Int) : TyOf K H (.int i) (.type "int")
  | str (x : Str) : TyOf K H (.str x) (.type "str")
  | flt (x : UInt64) : TyOf K H (.flt x) (.type "float")
  | lst {a : Addr} {xs : List V} (e : H a = some (.lst xs)) : TyOf K H (.ref a) (.type "list")
  | frz {a : Addr} {o : Obj} {xs : List V} (e : H a = some (.frz o (.lst xs))) : TyOf K H (.ref a) (.type "list")
  | tup {a : Addr} {xs : List V} (e : H a = some (.tup xs)) : TyOf K H (.ref a) (.type "tuple")
  | dK {a : Addr} {kvs : List (Key × V)} (e : H a = some (.dK kvs)) : TyOf K H (.ref a) (.type "dict")
  | dT {a : Addr} {kvs : List (List Key × V)} (e : H a = some (.dT kvs)) : TyOf K H (.ref a) (.type "dict")
  | ins {a C dx : Addr} {fs : List (Str × V)} (e : H a = some (.ins C dx fs)) (cl : Cls K C) (ha : PySem.W.findIn K (.ref C) "__class__" = some (some (.builtin "object.__class__")))
      (hn : PySem.W.specialIn K (.builtin "object.__class__") "__get__" = some (some (.builtin "getset_descriptor.__get__"))) (htk : PySem.W.takesIn K (.builtin "object.__class__") = some true)
      (hm : PySem.W.mroIn K C (.type "object") = some true) : TyOf K H (.ref a) (.ref C)
end
end L2

namespace L2
open PySem PySem.Spec PyProof.Rows

/-! ### room -/
structure Room (k : Nat) (A : Around) : Prop where
  hd : A.handled = none
  dp : A.depth + 3 * k + 5 < recursionLimit
  un : A.units + 16 * k + 200 < cLine
theorem Room.mono {j k : Nat} {A : Around} (r : Room k A) (h : j ≤ k) : Room j A := ⟨r.hd, by have := r.dp; omega, by have := r.un; omega⟩
theorem Room.deeper {k : Nat} {A : Around} (r : Room (k + 1) A) (env : Env) : Room k (A.deeper env) :=
  ⟨r.hd, by have := r.dp; show A.depth + 1 + 3 * k + 5 < _; omega, by have := r.un; show A.units + 3 + 16 * k + 200 < _; omega⟩
theorem Room.in1 {k : Nat} {A : Around} (r : Room (k + 1) A) : Room k A.in1 :=
  ⟨r.hd, by have := r.dp; show A.depth + 3 * k + 5 < _; omega, by have := r.un; show A.units + 1 + 16 * k + 200 < _; omega⟩
theorem Room.depth {k : Nat} {A : Around} (r : Room k A) : A.depth < recursionLimit := by have := r.dp; omega
theorem Room.units {k : Nat} {A : Around} (r : Room k A) : A.units + 64 < cLine := by have := r.un; omega
/-! ### argument lists and displays -/
def tNil : TA := fun _ H Q => Q [] H
def tCons (ta : TE) (tr : TA) : TA := fun σ H Q => ta σ H fun x H1 => tr σ H1 fun xs H2 => Q (x :: xs) H2
section
variable {X : Cx} {e : Expr} {es : List Expr} {te : TE} {t : TA} {pos : Pos}
theorem pa_nil : PA X [] tNil := fun _ _ _ _ H Q I h => Calls.spliced_nil ⟨[], H, I, .nil, h⟩
theorem pa_cons (ha : PE X e te) (hr : PA X es t) (hs : starEach (e :: es) X.env = (false, eval e X.env) :: starEach es X.env := by rfl) : PA X (e :: es) (tCons te t) := by
  intro pos pins s σ H Q I h
  rw [hs]
  show wpAny _ _ (spliced ((false, eval e X.env) :: backTo pos (starEach es X.env))) _ _ s
  refine Calls.spliced_cons (thn (ha pins s σ H _ I h) fun u s1 ⟨x, H1, I1, r1, q1⟩ => ?_)
  exact thn (hr pos pins s1 σ H1 _ I1 q1) fun us s2 ⟨xs, H2, I2, r2, q2⟩ => ⟨x :: xs, H2, I2, .cons r1 r2, q2⟩

/-- a tuple, a list of written items -/
def tTup (t : TA) : TE := fun σ H Q => t σ H fun xs H1 => xs.length ≤ sizeLine ∧ ∀ p, H1 p = none → Q (.ref p) (upd H1 p (.tup xs))
def tLst (t : TA) : TE := fun σ H Q => t σ H fun xs H1 => xs.length ≤ sizeLine ∧ ∀ p, H1 p = none → Q (.ref p) (upd H1 p (.lst xs))
theorem pe_tup {x1} (h : PA X es t) : PE X (.Tuple es x1 pos) (tTup t) := by
  intro pins s σ H Q I hq
  refine wpAny_Tuple_spliced (thn (h pos pins s σ H _ I hq) fun us s1 ⟨xs, H1, I1, r, z, q⟩ => ⟨by rw [← r.length]; exact z, ?_⟩)
  have hf : H1 s1.heap.objs.size = none := I1.hok.fresh (Nat.le_refl _)
  refine ⟨.ref s1.heap.objs.size, upd H1 s1.heap.objs.size (.tup xs), I1.laid (t' := s1.toks) (fun b u e => Heap.get?_push_of_some _ e) (Nat.le_refl _) ?_, rfl, q _ hf⟩
  exact ⟨z, us, r, ⟨_, Heap.get?_push_size _ rfl, rfl, _, rfl⟩⟩
theorem pe_lst (h : PA X es t) : PE X (.List es pos) (tLst t) := by
  intro pins s σ H Q I hq
  refine wpAny_List_spliced (thn (h pos pins s σ H _ I hq) fun us s1 ⟨xs, H1, I1, r, z, q⟩ => ⟨by rw [← r.length]; exact z, ?_⟩)
  have hf : H1 s1.heap.objs.size = none := I1.hok.fresh (Nat.le_refl _)
  refine ⟨.ref s1.heap.objs.size, upd H1 s1.heap.objs.size (.lst xs), I1.laid (t' := s1.toks) (fun b u e => Heap.get?_push_of_some _ e) (Nat.le_refl _) ?_, rfl, q _ hf⟩
  exact ⟨z, us, 0, r, Heap.get?_push_size _ rfl⟩
end

/-! ### what a def promises -/
/-- a def's promise: the bound arguments in the parameters' order, the heap, the wanted end, the wanted exception -/
abbrev Sp := List V → Hp → VK → XK → Prop
/-- how an exception lies behind a call (file 08 gives it): the callers' frames, abstract heap and state ahead of the call, the wish, the exception, the state -/
abbrev CXT := List Env → Hp → Shared → XK → Value → Shared → Prop

/-- the state at a call -/
structure Env0 (P : Program) (w : World) (K : PySem.W.Frag) (mg : Str → Option Value) (base : Heap) (A : Around) (outer : List Env) (s : Shared) (H : Hp) : Prop where
  frames : A.frames = some outer
  mod : Mod K mg base
  bs : ∀ b o, base.get? b = some o → s.heap.get? b = some o ∧ H b = none
  bsz : base.objs.size ≤ s.heap.objs.size
  funs : s.heap.FunFrames base outer
  frf : ∀ b ∈ frs outer, H b = none
  hok : HOk P w H s.heap
  bare : AllBare s.gens
/-- a call's end -/
def CE (outer : List Env) (P : Program) (w : World) (H : Hp) (s : Shared) (Q : VK) (u : Value) (s' : Shared) : Prop :=
  ∃ v H', s'.os = s.os ∧ AllBare s'.gens ∧ Un (frs outer) [] H H' s.heap s'.heap ∧ HOk P w H' s'.heap ∧ RelV v u ∧ Q v H'
def CR (CX : CXT) (outer : List Env) (P : Program) (w : World) (H : Hp) (s : Shared) (Q : VK) (E : XK) (r : Result) (s' : Shared) : Prop :=
  match r with
  | .ok (.ret u) => CE outer P w H s Q u s'
  | .ok _ => False
  | .error e => CX outer H s E e s'
structure FnOk (P : Program) (w : World) (K : PySem.W.Frag) (mg : Str → Option Value) (base : Heap) (CX : CXT) (k : Nat) (f : Addr) (fd : FuncData) (ps : List Str) (sp : Sp) : Prop where
  len : ∀ vs H Q E, sp vs H Q E → vs.length = ps.length
  run : ∀ (A : Around) (outer : List Env) (s : Shared) (H : Hp) (args : Args) (us : List Value) (vs : List V) (Q : VK) (E : XK), Room k A → Env0 P w K mg base A outer s H → BindsTo s fd args (ps.zip us) → Vals vs us → sp vs H Q E →
    codeAny (model P w) A (.call (.ref f) args) (CR CX outer P w H s Q E) s
theorem FnOk.mono {P : Program} {w : World} {K : PySem.W.Frag} {mg : Str → Option Value} {base : Heap} {CX : CXT} {j k : Nat} {f : Addr} {fd : FuncData} {ps : List Str} {sp : Sp} (F : FnOk P w K mg base CX j f fd ps sp) (h : j ≤ k) :
    FnOk P w K mg base CX k f fd ps sp := ⟨F.len, fun A outer s H args us vs Q E hr => F.run A outer s H args us vs Q E (hr.mono h)⟩
/-- a weaker promise -/
theorem FnOk.imp {P : Program} {w : World} {K : PySem.W.Frag} {mg : Str → Option Value} {base : Heap} {CX : CXT} {k : Nat} {f : Addr} {fd : FuncData} {ps : List Str} {sp sp' : Sp} (F : FnOk P w K mg base CX k f fd ps sp)
    (h : ∀ vs H Q E, sp' vs H Q E → sp vs H Q E) : FnOk P w K mg base CX k f fd ps sp' :=
  ⟨fun vs H Q E q => F.len vs H Q E (h _ _ _ _ q), fun A outer s H args us vs Q E hr he hb hv hs => F.run A outer s H args us vs Q E hr he hb hv (h _ _ _ _ hs)⟩

theorem Env0.in1 {P : Program} {w : World} {K : PySem.W.Frag} {mg : Str → Option Value} {base : Heap} {A : Around} {outer : List Env} {s : Shared} {H : Hp} (e : Env0 P w K mg base A outer s H) :
    Env0 P w K mg base A.in1 outer s H := ⟨e.frames, e.mod, e.bs, e.bsz, e.funs, e.frf, e.hok, e.bare⟩

section
variable {X : Cx} {pins : List (Addr × Obj)} {σ : St} {H : Hp} {s s' : Shared}
/-- from a body: what a callee wants -/
theorem Inv.env0 (I : Inv X pins σ H s) : Env0 X.prog X.w X.K X.mg X.base X.A X.stack s H :=
  ⟨I.ok.frames, I.ok.mod, I.bs, Nat.le_trans I.ok.bsz I.sz, I.stack, I.stkFree, I.hok, I.bare⟩
/-- behind a call -/
theorem Inv.after {Q : VK} {u : Value} (I : Inv X pins σ H s) (h : CE X.stack X.prog X.w H s Q u s') : EP X pins σ Q u s' := by
  obtain ⟨v, H', os, bare, un, hok, r, q⟩ := h
  obtain ⟨hh, g, d, t, os'⟩ := s'
  obtain rfl : os' = s.os := os
  exact ⟨v, H', I.call (h' := hh) (g' := g) (d' := d) (t' := t) (ch := []) un hok bare (fun b z => absurd z (by simp)), r, q⟩
end

/-! ### calls -/
/-- f(..): the written arguments, then the defaults dvs; E: what is wanted of an exception -/
def tCall (sp : Sp) (dvs : List V) (E : XK) (t : TA) : TE := fun σ H Q => t σ H fun vs H1 => sp (vs ++ dvs) H1 Q E
/-- o.m(..) of an instance of the class at C -/
def tMeth (C : Addr) (m : Str) (sp : Sp) (dvs : List V) (E : XK) (ta : TE) (t : TA) : TE := fun σ H Q => ta σ H fun x H1 => ∃ a dx fs, x = .ref a ∧ H1 a = some (.ins C dx fs) ∧ fs.lookup m = none ∧
  t σ H1 fun vs H2 => sp (x :: (vs ++ dvs)) H2 Q E
/-- C(..): a new instance and its dict, then __init__ -/
def tMake (C : Addr) (sp : Sp) (dvs : List V) (E : XK) (t : TA) : TE := fun σ H Q => t σ H fun vs H1 => ∀ x dx, H1 x = none → H1 dx = none → dx ≠ x →
  sp (.ref x :: (vs ++ dvs)) (upd (upd H1 dx (.own x)) x (.ins C dx [])) (fun v H2 => v = .non ∧ Q (.ref x) H2) E

/-- how the parameters are bound: us the positional arguments, kw the keywords' values by name, ds the defaults that fill up -/
def Binds (K : PySem.W.Frag) (fd : FuncData) (ps : List Str) (ds : List Value) : Prop :=
  ∀ (s : Shared) (us : List Value), K.In s.heap → (us ++ ds).length = ps.length → BindsTo s fd ⟨us, []⟩ (ps.zip (us ++ ds))
/-- every parameter is given -/
theorem Binds.all {K : PySem.W.Frag} {fd : FuncData} {ps : List Str} (h : ∀ us : List Value, us.length = ps.length → bindArgs fd ⟨us, []⟩ = pure (ps.zip us)) : Binds K fd ps [] := fun s us _ hl => by
  rw [List.append_nil] at hl ⊢
  exact .of_eq (h us hl)

/-- an exception of a callee reaches what this body wants of exceptions -/
def Passes (CX : CXT) (X : Cx) (E : XK) : Prop := ∀ (pins : List (Addr × Obj)) (σ : St) (H : Hp) (s : Shared) (e : Value) (s' : Shared), Inv X pins σ H s → CX X.stack H s E e s' → X.xe e s'

section
variable {X : Cx} {CX : CXT} {k : Nat} {f C : Addr} {fd : FuncData} {ps : List Str} {sp : Sp} {dvs : List V} {ds : List Value} {E : XK} {x m : Str} {p pos apos : Pos} {e o : Expr} {es : List Expr} {ta : TE} {t : TA}

/-- what a class must have to be made -/
structure Mk (K : PySem.W.Frag) (C f : Addr) : Prop where
  makes : PySem.W.makesIn K C = true
  init : PySem.W.findIn K (.ref C) "__init__" = some (some (.ref f))
  fn : PySem.W.isFn K (.ref f) = true
  kp : PySem.W.keepIn K (.ref C) = true

end

/-! ### keywords -/
/-- the values of the keywords, from the left -/
def PK (X : Cx) (kws : List Keyword) (t : TA) : Prop :=
  ∀ (pos : Pos) (pins : List (Addr × Obj)) (s : Shared) (σ : St) (H : Hp) (Q : List V → Hp → Prop), Inv X pins σ H s → t σ H Q → wpAny (model X.prog X.w) X.A (evalAll ((backToKw pos (keywordEach kws X.env)).map (·.2))) (AP X pins σ Q) X.xe s
section
variable {X : Cx} {CX : CXT} {k : Nat} {f C : Addr} {fd : FuncData} {ps ks : List Str} {sp : Sp} {E : XK} {x m : Str} {p pos apos kpos : Pos} {e o : Expr} {es : List Expr} {kws : List Keyword} {te ta : TE} {t tk : TA} {nm : Option Str}
/-- how a call with keywords binds: g puts the positional values us and the keywords' values ws (names ks) in the parameters' order, defaults among them -/
structure KBinds (K : PySem.W.Frag) (fd : FuncData) (ps ks : List Str) (g : List Value → List Value → List Value) (gV : List V → List V → List V) : Prop where
  to : ∀ (s : Shared) (us ws : List Value), K.In s.heap → (g us ws).length = ps.length → BindsTo s fd ⟨us, ks.zip ws⟩ (ps.zip (g us ws))
  rel : ∀ {vs : List V} {us : List Value} {zs : List V} {ws : List Value}, Vals vs us → Vals zs ws → Vals (gV vs zs) (g us ws)
def tCallK (sp : Sp) (gV : List V → List V → List V) (E : XK) (t tk : TA) : TE := fun σ H Q => t σ H fun vs H1 => tk σ H1 fun zs H2 => sp (gV vs zs) H2 Q E
variable {g : List Value → List Value → List Value} {gV : List V → List V → List V}
end

/-! ### a def's body keeps its promise -/
/-- names: the parameters first -/
structure FnScope (N P : List Str) (sc : Scope) : Prop where
  kind : sc.kind = .function
  co : sc.isCoroutine = false
  gen : sc.isGenerator = false
  nd : N.Nodup
  pre : N.take P.length = P
  par : ∀ x ∈ P, sc.names.lookup x = some .local ∨ sc.names.lookup x = some .cell
  nofree : ∀ y ∈ sc.names, y.2 ≠ .free

theorem bindL_out {kindOf : Str → Option NameKind} {x : Str} : ∀ {binds : List (Str × Value)} {m : Str → Option Value}, (∀ v, (x, v) ∉ binds) → bindL kindOf binds m x = m x
  | [], _, _ => rfl
  | (n, v) :: r, m, h => by
    unfold bindL
    rw [bindL_out fun w hw => h w (List.mem_cons_of_mem _ hw)]
    split
    · have : x ≠ n := by rintro rfl; exact h v List.mem_cons_self
      simp [this]
    · rfl
theorem bindC_out {kindOf : Str → Option NameKind} {x : Str} : ∀ {binds : List (Str × Value)} {m : Str → Option Value}, (∀ v, (x, v) ∉ binds) → bindC kindOf binds m x = m x
  | [], _, _ => rfl
  | (n, v) :: r, m, h => by
    unfold bindC
    rw [bindC_out fun w hw => h w (List.mem_cons_of_mem _ hw)]
    split
    · rfl
    · have : x ≠ n := by rintro rfl; exact h v List.mem_cons_self
      simp [this]
theorem bindL_get {kindOf : Str → Option NameKind} {x : Str} {v : Value} : ∀ {P : List Str} {vs : List Value} {i : Nat} {m : Str → Option Value}, P.Nodup → P[i]? = some x → vs[i]? = some v → kindOf x = some .local →
    bindL kindOf (P.zip vs) m x = some v
  | [], _, _, _, _, h, _, _ => by simp at h
  | _ :: _, [], _, _, _, _, h, _ => by simp at h
  | p :: P, w :: vs, 0, m, nd, h1, h2, hk => by
    simp at h1 h2; subst h1; subst h2
    show bindL kindOf ((p, w) :: P.zip vs) m p = _
    unfold bindL
    rw [bindL_out fun v hv => (List.nodup_cons.mp nd).1 (List.of_mem_zip hv).1, if_pos hk]
    simp
  | p :: P, w :: vs, i + 1, m, nd, h1, h2, hk => by
    show bindL kindOf ((p, w) :: P.zip vs) m x = _
    unfold bindL
    exact bindL_get (i := i) (List.nodup_cons.mp nd).2 (by simpa using h1) (by simpa using h2) hk
theorem bindC_get {kindOf : Str → Option NameKind} {x : Str} {v : Value} : ∀ {P : List Str} {vs : List Value} {i : Nat} {m : Str → Option Value}, P.Nodup → P[i]? = some x → vs[i]? = some v → kindOf x ≠ some .local →
    bindC kindOf (P.zip vs) m x = some v
  | [], _, _, _, _, h, _, _ => by simp at h
  | _ :: _, [], _, _, _, _, h, _ => by simp at h
  | p :: P, w :: vs, 0, m, nd, h1, h2, hk => by
    simp at h1 h2; subst h1; subst h2
    show bindC kindOf ((p, w) :: P.zip vs) m p = _
    unfold bindC
    rw [bindC_out fun v hv => (List.nodup_cons.mp nd).1 (List.of_mem_zip hv).1, if_neg hk]
    simp
  | p :: P, w :: vs, i + 1, m, nd, h1, h2, hk => by
    show bindC kindOf ((p, w) :: P.zip vs) m x = _
    unfold bindC
    exact bindC_get (i := i) (List.nodup_cons.mp nd).2 (by simpa using h1) (by simpa using h2) hk

/-- the names' values at the entry -/
def start (N : List Str) (vs : List V) : St := vs.map some ++ List.replicate (N.length - vs.length) none

/-- the context of a def's body, at its entry; an exception leaves the frame, then lies as CX says -/
def cxOf (CX : CXT) (P : Program) (w : World) (K : PySem.W.Frag) (mg : Str → Option Value) (base : Heap) (N : List Str) (qual : Str) (scope : Scope) (f : Addr) (cd : Value) (A : Around) (outer : List Env) (s : Shared) (H : Hp) (E : XK) : Cx where
  prog := P
  w := w
  K := K
  mg := mg
  base := base
  A := A.deeper (envOfC qual scope s.heap.objs.size f cd)
  N := N
  s₀ := s
  H₀ := H
  env := envOfC qual scope s.heap.objs.size f cd
  outer := outer
  stack := envOfC qual scope s.heap.objs.size f cd :: outer
  ex := []
  calm := true
  fn := fun _ => true
  pn := []
  xe := fun e s' => wpAny (model P w) (A.deeper (envOfC qual scope s.heap.objs.size f cd)) (leaving (envOfC qual scope s.heap.objs.size f cd) e) (fun _ s'' => CX outer H s E e s'') (fun e' s'' => CX outer H s E e' s'') s'

theorem cell_has {sc : Scope} {n : Nat} {x : Str} (h : sc.names.lookup x = some .cell) : ∃ c, (cellsFrom n sc.names []).lookup x = some c := by
  have q := PySem.W.cellsFrom_some sc.names n [] (.inl h)
  exact Option.isSome_iff_exists.mp q

theorem inv_start {CX : CXT} {P : Program} {w : World} {K : PySem.W.Frag} {mg : Str → Option Value} {base : Heap} {N ps : List Str} {qual : Str} {scope : Scope} {f : Addr} {cd : Value} {A : Around} {outer : List Env} {s s1 : Shared} {H : Hp} {E : XK} {us : List Value} {vs : List V}
    (S : FnScope N ps scope) (hd : A.handled = none) (e0 : Env0 P w K mg base A outer s H) (hl : vs.length = ps.length) (r : Vals vs us)
    (x : InCallC s s.heap.objs.size (bindL (envOfC qual scope s.heap.objs.size f cd).kindOf (ps.zip us) fun _ => none) (cellsFrom (s.heap.objs.size + 1) scope.names []) (bindC (envOfC qual scope s.heap.objs.size f cd).kindOf (ps.zip us) fun _ => none) s1) :
    Inv (cxOf CX P w K mg base N qual scope f cd A outer s H E) [] (start N vs) H s1 := by
  have hpl : ps.length ≤ N.length := by have := congrArg List.length S.pre; rw [List.length_take] at this; omega
  obtain ⟨h1, tk, rfl, hk⟩ := x.done
  have noA : ∀ b : Addr, b ∉ (cxOf CX P w K mg base N qual scope f cd A outer s H E).ex := fun b z => absurd (show b ∈ ([] : List Addr) from z) (by simp)
  refine ⟨⟨e0.mod, S.kind, rfl, rfl, Nat.le_refl _, fun y z c h1 h2 => ?_, fun y hy => ?_, fun y c _ h => ?_, fun _ => hd, Around.frames_deeper e0.frames, .inr ⟨rfl, rfl⟩, fun b z => absurd z (noA b), e0.bs, e0.bsz, fun b _ _ => noA b, fun b z => absurd z (noA b), e0.funs, e0.frf⟩,
    rfl, e0.bare, Un.kept hk, ⟨_, x.toInCall.ns, fun i y v h1 h2 h3 => ?_⟩, fun y c h => ⟨_, x.cell y c h⟩, e0.hok.fresh (Nat.le_refl _), fun y c h => ?_, fun p hp => absurd (show p ∈ ([] : List (Addr × Obj)) from hp) (by simp), e0.hok.kept hk, ?_⟩
  · exact name_of_addr x.apart (PySem.mem_of_lookup h1) (PySem.mem_of_lookup h2)
  · have hy : scope.names.lookup y = some .cell ∨ scope.names.lookup y = some .free := hy
    rcases hy with hy | hy
    · exact cell_has hy
    · exact absurd rfl (S.nofree _ (PySem.mem_of_lookup hy))
  · exact Nat.le_of_lt (x.above y c (PySem.mem_of_lookup h))
  · have hi : i < vs.length := by
      unfold start at h2
      by_cases hi : i < vs.length
      · exact hi
      · rw [List.getElem?_append_right (by simpa using hi)] at h2
        rw [List.getElem?_replicate] at h2
        split at h2 <;> cases h2
    have ha : vs[i]? = some v := by
      unfold start at h2
      rw [List.getElem?_append_left (by simpa using hi), List.getElem?_map] at h2
      cases e : vs[i]? with
      | none => rw [e] at h2; cases h2
      | some a => rw [e] at h2; cases h2; rfl
    obtain ⟨u, hu, rv⟩ := r.get ha
    have hp : ps[i]? = some y := by
      rw [← S.pre, List.getElem?_take_of_lt (by omega)]; exact h1
    have ndP : ps.Nodup := by rw [← S.pre]; exact S.nd.sublist (List.take_sublist _ _)
    refine ⟨u, rv, ?_⟩
    rcases S.par y (List.mem_of_getElem? hp) with k | k
    · exact .inl ⟨k, bindL_get ndP hp hu k⟩
    · obtain ⟨c, e⟩ := cell_has (n := s.heap.objs.size + 1) k
      refine .inr ⟨.inl k, c, e, ?_⟩
      have q := x.cell y c e
      rw [bindC_get ndP hp hu (by show scope.names.lookup y ≠ _; rw [k]; decide)] at q
      exact q
  · exact e0.hok.fresh (Nat.le_of_lt (x.above y c (PySem.mem_of_lookup h)))
  · unfold start
    show _ = N.length
    rw [List.length_append, List.length_map, List.length_replicate]
    omega

/-- THE RULE: a def (or a method) of the text, by its body. The body's reading t is chosen for each entry; it is run at the parameters' values -/
theorem fn_of {CX : CXT} {P : Program} {w : World} {K : PySem.W.Frag} {mg : Str → Option Value} {base : Heap} {k : Nat} {f : Addr} {name qual : Str} {params : Arguments} {body : List Stmt} {scope : Scope} {dV kV doc pm cdv ct oc : Value} {an od : Option Addr}
    {osl : Array (Option Value)} {N ps : List Str} {sp : Sp} (lk : K.lookup f = some ⟨oc, od, .func (PySem.W.fnOf name qual params body scope dV kV doc pm an cdv ct), osl⟩) (hcd : PySem.W.codeIn K cdv qual = true) (S : FnScope N ps scope)
    (len : ∀ vs H Q E, sp vs H Q E → vs.length = ps.length)
    (hbody : ∀ (A : Around) (outer : List Env) (s : Shared) (H : Hp) (vs : List V) (Q : VK) (E : XK), Room k (A.deeper (envOfC qual scope s.heap.objs.size f cdv)) → sp vs H Q E →
      ∃ t, PSs (cxOf CX P w K mg base N qual scope f cdv A outer s H E) body t ∧ t { nx := fun _ H' => Q .non H', rt := Q } (start N vs) H) :
    FnOk P w K mg base CX (k + 1) f (PySem.W.fnOf name qual params body scope dV kV doc pm an cdv ct) ps sp := by
  refine ⟨len, fun A outer s H args us vs Q E hr e0 hb r hsp => ?_⟩
  have hl := len _ _ _ _ hsp
  have KX : K.In s.heap := e0.mod.kin.keeps fun b o e => (e0.bs b o e).1
  have lim : s.heap.NoLimit := e0.mod.nolimit.keeps fun b o e => (e0.bs b o e).1
  have hkind : ∀ y ∈ ps.zip us, scope.names.lookup y.1 = some .local ∨ (scope.names.lookup y.1 = some .cell ∧ ((cellsFrom (s.heap.objs.size + 1) scope.names []).lookup y.1).isSome = true) := fun ⟨n, v⟩ hy => by
    rcases S.par n (List.of_mem_zip hy).1 with q | q
    · exact .inl q
    · exact .inr ⟨q, PySem.W.cellsFrom_some _ _ _ (.inl q)⟩
  refine codeAny_call_function hr.depth (KX _ _ lk) rfl S.co S.gen rfl (PySem.W.codeRec_of KX hcd) (hb _ _ _ _ ?_)
  refine wpAny_newFunctionEnv_cells S.kind hkind fun env he s1 x => ?_
  subst he
  refine ⟨lim.keeps x.toInCall.keep, codeAny_func ?_⟩
  obtain ⟨t, ht, hq⟩ := hbody A outer s H vs Q E (hr.deeper _) hsp
  have I : Inv (cxOf CX P w K mg base N qual scope f cdv A outer s H E) [] (start N vs) H s1 := inv_start S hr.hd e0 hl r x
  refine wpAny_mono (ht [] s1 (start N vs) H _ I hq) (fun fl s' hs => ?_) fun e s' hs => hs
  have fin : ∀ {σ' : St} {H' : Hp} {v : V} {u : Value}, Inv (cxOf CX P w K mg base N qual scope f cdv A outer s H E) [] σ' H' s' → RelV v u → Q v H' → CE outer P w H s Q u s' :=
    fun {σ' H' v u} J rv q => ⟨v, H', J.os, J.bare, J.base, J.hok, rv, q⟩
  cases fl with
  | ret u =>
    obtain ⟨v, σ', H', J, rv, q⟩ := hs
    exact fin J rv q
  | next =>
    obtain ⟨σ', H', J, q⟩ := hs
    exact fin (v := V.non) (u := Value.none) J rfl q
  | brk =>
    obtain ⟨_, _, _, q⟩ := hs
    exact False.elim q
  | cont =>
    obtain ⟨_, _, _, q⟩ := hs
    exact False.elim q
end L2

namespace L2
open PySem PySem.Spec PyProof.Rows
section
variable {X : Cx} {x : Str} {p pos : Pos} {e : Expr} {es : List Expr} {t : TA} {id T : String} {r : List V → Hp → VK → Prop}

def tCB (r : List V → Hp → VK → Prop) (t : TA) : TE := fun σ H Q => t σ H fun vs H1 => r vs H1 Q
/-- f(e, ..), f a built-in function -/
theorem pe_callB (hc : CallR X (.builtin id) r) (hg : Gl X x) (hm : X.mg x = none) (hv : bootBuiltins x = some (.builtin id)) (ha : PA X (e :: es) t) (hn : x ≠ "__name__" := by decide) (hdb : (x == ("__debug__" : Str)) = false := by decide)
    (he : starEach (e :: es) X.env = (false, eval e X.env) :: starEach es X.env := by rfl) (hpl : (backTo pos (starEach es X.env)).any (·.1) = false := by rfl) : PE X (.Call (.Name x p) (e :: es) [] pos) (tCB r t) := by
  intro pins s σ H Q I h
  refine wpAny_Call_Name_kw (ld_blt I hg hm hv ?_ hn hdb)
  exact PyProof.Rows.callWith_builtin1 (thn (ha pos pins s σ H _ I h) fun us s1 ⟨vs, H1, I1, r1, q1⟩ => hc pins s1 σ H1 vs us Q I1 r1 q1) he hpl
/-- T(e, ..), T a built-in type -/
theorem pe_callTy (hc : CallR X (.type T) r) (hg : Gl X x) (hm : X.mg x = none) (hv : bootBuiltins x = some (.type T)) (ha : PA X (e :: es) t) (hn : x ≠ "__name__" := by decide) (hdb : (x == ("__debug__" : Str)) = false := by decide)
    (he : starEach (e :: es) X.env = (false, eval e X.env) :: starEach es X.env := by rfl) (hpl : (backTo pos (starEach es X.env)).any (·.1) = false := by rfl) : PE X (.Call (.Name x p) (e :: es) [] pos) (tCB r t) := by
  intro pins s σ H Q I h
  refine wpAny_Call_Name_kw (ld_blt I hg hm hv ?_ hn hdb)
  exact PyProof.Rows.callWith_type1 (thn (ha pos pins s σ H _ I h) fun us s1 ⟨vs, H1, I1, r1, q1⟩ => hc pins s1 σ H1 vs us Q I1 r1 q1) he hpl
end
end L2

namespace HT
open PySem PyProof.Rows

/-- t < u of tuples of ints -/
def lexLt : List Int → List Int → Bool
  | [], [] => false
  | [], _ :: _ => true
  | _ :: _, [] => false
  | x :: xs, y :: ys => if x = y then lexLt xs ys else decide (x < y)
section
open PySem.SeqAt
open PySem.AutoSeq1 (wpAny_loadPart')
open PySem.MeetsSeq PySem.MeetsSeq2 PySem.MeetsSeq3

end

section
variable {prog : Program} {w : World} {A : Around} {E : Value → Shared → Prop} {s : Shared}

/-- t + u, t not empty -/
theorem cat_tup {t b : Addr} {vs ws : List Value} {Q : Value → Shared → Prop} (ht : IsTup s.heap t vs.toArray) (hb : IsTup s.heap b ws.toArray) (hv : vs ≠ [])
    (h1 : ws = [] → Q (.ref t) s) (h2 : ws ≠ [] → Q (.ref s.heap.objs.size) { s with heap := s.heap.push { cls := .type "tuple", data := .seq (vs ++ ws).toArray } })
    (hsz : vs.length + ws.length ≤ sizeLine) : wpAny (model prog w) A (binaryOp .Add (.ref t) (.ref b)) Q E s := by
  obtain ⟨⟨cls, dd, data, sl⟩, ho, hc, n, hd⟩ := id ht
  obtain ⟨⟨cls2, dd2, data2, sl2⟩, ho2, hc2, n2, hd2⟩ := id hb
  simp only at hc hd hc2 hd2
  subst hc hd hc2 hd2
  have e : vs.toArray ++ ws.toArray = (vs ++ ws).toArray := by simp
  by_cases hw : ws = []
  · exact concat_meets ⟨_, ho, rfl⟩ ⟨_, ho2, rfl⟩ noFill_tuple_add seq_tuple_add PySem.F.slot_tuple_add PySem.F.entry_tuple_add (PySem.F.args_tuple_add_2 _ _)
      (tuple_addW1 t b vs.toArray ws.toArray n n2 dd dd2 sl sl2 (by simpa using hv) (by simp [hw])) ⟨ho, ho2, h1 hw⟩
  · refine concat_meets ⟨_, ho, rfl⟩ ⟨_, ho2, rfl⟩ noFill_tuple_add seq_tuple_add PySem.F.slot_tuple_add PySem.F.entry_tuple_add (PySem.F.args_tuple_add_2 _ _)
      (tuple_addW2 t b vs.toArray ws.toArray n n2 dd dd2 sl sl2 (by simpa using hv) (by simpa using hw) (by rw [List.size_toArray, List.size_toArray]; exact hsz)) ⟨ho, ho2, ?_⟩
    rw [e]
    exact h2 hw

/-! ### t[a:b], not the whole -/
/-- a slice's bound as a place among n (d where it is left out) -/
def sIx (n d : Nat) : Option Int → Nat
  | none => d
  | some v => if v < 0 then (v + (n : Int)).toNat else min v.toNat n
theorem sIx_le (n d : Nat) (hd : d ≤ n) (o : Option Int) : sIx n d o ≤ n := by
  cases o with
  | none => exact hd
  | some v =>
    show (if v < 0 then (v + (n : Int)).toNat else min v.toNat n) ≤ n
    by_cases hv : v < 0
    · rw [if_pos hv]; omega
    · rw [if_neg hv]; exact Nat.min_le_right _ _
theorem clip_eq (v : Int) (n d : Nat) : (if v < 0 then max (v + (n : Int)) 0 else min v (n : Int)) = ((sIx n d (some v) : Nat) : Int) := by
  show (if v < 0 then max (v + (n : Int)) 0 else min v (n : Int)) = (((if v < 0 then (v + (n : Int)).toNat else min v.toNat n) : Nat) : Int)
  by_cases hv : v < 0
  · simp only [if_pos hv]; omega
  · simp only [if_neg hv]; omega
theorem adjust_gen (lo hi : Option Int) (n : Nat) : Builtin.Slice.sliceAdjust lo hi 1 (n : Int) = (((sIx n 0 lo : Nat) : Int), ((sIx n n hi : Nat) : Int)) := by
  have h1 : ¬ ((1 : Int) < 0) := by omega
  unfold Builtin.Slice.sliceAdjust
  simp only [h1, if_false]
  refine Prod.ext ?_ ?_
  · cases lo with
    | none => rfl
    | some v => exact clip_eq v n 0
  · cases hi with
    | none => rfl
    | some v => exact clip_eq v n n
theorem places_gen (i j : Nat) : Builtin.Slice.slicePlaces (i : Int) (j : Int) 1 = j - i := by
  unfold Builtin.Slice.slicePlaces
  have h1 : (1 : Int) > 0 := by omega
  simp only [h1, if_true, Int.ediv_one]
  split <;> omega
theorem slicePart_ {v : Value} {o : Option Int} {Q : Option Int → Shared → Prop} (p : IsPart v o) (h : Q o s) : wpAny (model prog w) A (Builtin.Slice.slicePartIndex v) Q E s := by
  cases p with
  | none => exact slicePart_none h
  | int i t => exact slicePart_int h
theorem sliceApplied_gen {sl : Addr} {vl vu : Value} {lo hi : Option Int} {n : Nat} {Q : Int × Int × Nat → Shared → Prop} (hs : s.heap.IsSliceOf sl vl vu .none) (pl : IsPart vl lo) (pu : IsPart vu hi)
    (h : Q (((sIx n 0 lo : Nat) : Int), 1, sIx n n hi - sIx n 0 lo) s) : wpAny (model prog w) A (Builtin.Slice.sliceApplied (.ref sl) (pure (n : Int))) Q E s := by
  obtain ⟨os, hos, hcs, hds⟩ := id hs
  unfold Builtin.Slice.sliceApplied Builtin.Slice.sliceFields
  refine wpAny_bind (wpAny_bind (wpAny_field hos hds (x := vl) rfl (wpAny_bind (wpAny_field hos hds (x := vu) rfl (wpAny_bind (wpAny_field hos hds (x := .none) rfl (wpAny_pure ?_)))))))
  refine wpAny_bind (slicePart_none ?_)
  show wpAny _ _ (if ((1 : Int) == 0) = true then _ else _) _ _ s
  rw [if_neg (by decide)]
  refine wpAny_bind (slicePart_ pl (wpAny_bind (slicePart_ pu (wpAny_bind (wpAny_pure ?_)))))
  show wpAny _ _ (match Builtin.Slice.sliceAdjust lo hi 1 (n : Int) with | (lo, hi) => pure (lo, (1 : Int), Builtin.Slice.slicePlaces lo hi 1)) _ _ s
  rw [adjust_gen lo hi n]
  show wpAny _ _ (pure (((sIx n 0 lo : Nat) : Int), (1 : Int), Builtin.Slice.slicePlaces ((sIx n 0 lo : Nat) : Int) ((sIx n n hi : Nat) : Int) 1)) _ _ s
  rw [places_gen]
  exact wpAny_pure h
theorem pick_gen (xs : Array Value) (i k : Nat) : ((List.range k).filterMap fun (m : Nat) => xs[((i : Int) + (m : Int) * 1).toNat]?).toArray = ((xs.toList.drop i).take k).toArray := by
  have e : (fun (m : Nat) => xs[((i : Int) + (m : Int) * 1).toNat]?) = fun m => xs[i + m]? := by
    funext m
    have : ((i : Int) + (m : Int) * 1).toNat = i + m := by omega
    rw [this]
  rw [e]
  have := pick_run xs i k
  rw [List.filterMap_map] at this
  have e2 : ((fun x => xs[x]?) ∘ fun x => i + x) = fun m => xs[i + m]? := rfl
  rw [e2] at this
  rw [this]

theorem getItem_tuple_cut {t sl : Addr} {items : Array Value} {vl vu : Value} {lo hi : Option Int} {Q : Value → Shared → Prop} (ht : IsTup s.heap t items) (hs : s.heap.IsSliceOf sl vl vu .none) (pl : IsPart vl lo) (pu : IsPart vu hi)
    (hw : ¬ (sIx items.size 0 lo = 0 ∧ sIx items.size items.size hi = items.size))
    (h : Q (.ref s.heap.objs.size) { s with heap := s.heap.push { cls := .type "tuple", data := .seq ((items.toList.drop (sIx items.size 0 lo)).take (sIx items.size items.size hi - sIx items.size 0 lo)).toArray } })
    (hsz : items.size ≤ sizeLine) : wpAny (model prog w) A (getItem (.ref t) (.ref sl)) Q E s := by
  have htake : sizeOk (.seq ((items.toList.drop (sIx items.size 0 lo)).take (sIx items.size items.size hi - sIx items.size 0 lo)).toArray) := by
    show ((items.toList.drop (sIx items.size 0 lo)).take (sIx items.size items.size hi - sIx items.size 0 lo)).toArray.size ≤ sizeLine
    rw [List.size_toArray, List.length_take, List.length_drop, Array.length_toList]
    omega
  have hj : sIx items.size items.size hi ≤ items.size := sIx_le _ _ (Nat.le_refl _) hi
  obtain ⟨os, hos, hcs, hds⟩ := id hs
  have hTs : s.TypeIs (.ref sl) "slice" := ⟨os, hos, hcs⟩
  unfold getItem
  try with_reducible refine wpAny_holding ?_
  first | refine wpAny_bind (wpAny_pure ?_) | skip
  refine wpAny_bind (wpAny_sequenceKey ht.typeIs (by decide) ?_)
  refine wpAny_bind (wpAny_callSpecial?_slot (name := Str.ofString "__getitem__") ht.typeIs PyProof.Rows.slot_tuple_getitem
    (wpAny_call_entry PyProof.Rows.slot_tuple_getitem ht.typeIs entry_tuple_getitem ?_ (args_tuple_getitem _ _)))
  show wpAny _ _ (Builtin.Tuple.tupleItemsOf (.ref t) >>= _) _ _ s
  refine wpAny_bind (tupleItemsOf_ ht ?_)
  refine wpAny_bind (wpAny_typeOf hTs ?_)
  rw [if_pos (by decide)]
  refine wpAny_bind (sliceApplied_gen hs pl pu ?_)
  have hno : ¬ ((((sIx items.size 0 lo : Nat) : Int) == 0 && (1 : Int) == 1 && (sIx items.size items.size hi - sIx items.size 0 lo) == items.size) = true) := by
    intro q
    rw [Bool.and_eq_true, Bool.and_eq_true] at q
    have q1 : ((sIx items.size 0 lo : Nat) : Int) = 0 := eq_of_beq q.1.1
    have q2 : sIx items.size items.size hi - sIx items.size 0 lo = items.size := eq_of_beq q.2
    exact hw ⟨by omega, by omega⟩
  show wpAny _ _ (if (((sIx items.size 0 lo : Nat) : Int) == 0 && (1 : Int) == 1 && (sIx items.size items.size hi - sIx items.size 0 lo) == items.size) = true then _ else _) _ _ s
  rw [if_neg hno, pick_gen]
  first
    | exact wpAny_bind (m := Builtin.Tuple.tupleExact _) (wpAny_newObj_type (wpAny_pure ⟨_, rfl, wpAny_pure h⟩) htake)
    | exact wpAny_bind (m := Builtin.Tuple.tupleExact _) (wpAny_newObj_type (wpAny_bind (wpAny_pure (wpAny_pure ⟨_, rfl, wpAny_pure h⟩))) htake)
    | exact wpAny_bind (wpAny_bind (m := Builtin.Tuple.tupleExact _) (wpAny_newObj_type (wpAny_pure (wpAny_pure ⟨_, rfl, wpAny_pure h⟩)) htake))
    | exact wpAny_bind (wpAny_bind (m := Builtin.Tuple.tupleExact _) (wpAny_newObj_type (wpAny_pure ⟨_, rfl, wpAny_pure h⟩) htake))
end
end HT

namespace L2
open PySem PySem.Spec PyProof.Rows

/-! ### the parts of a slice -/
abbrev TO := St → Hp → (Option Int → Hp → Prop) → Prop
/-- a slice's part (left out, or an int) -/
def PO (X : Cx) (e : Option Expr) (t : TO) : Prop :=
  ∀ (pins : List (Addr × Obj)) (s : Shared) (σ : St) (H : Hp) (Q : Option Int → Hp → Prop), Inv X pins σ H s → t σ H Q →
    wpAny (model X.prog X.w) X.A (evalPart e X.env) (fun u s' => ∃ o H', Inv X pins σ H' s' ∧ IsPart u o ∧ Q o H') X.xe s
def tNoPart : TO := fun _ H Q => Q none H
def tPart (t : TE) : TO := fun σ H Q => t σ H fun x H1 => ∃ i, x = .int i ∧ Q (some i) H1

section
variable {X : Cx} {e : Expr} {te : TE} {lo hi : Option Expr} {tl th : TO} {pos p2 : Pos}

theorem po_none : PO X none tNoPart := by
  intro pins s σ H Q I h
  rw [evalPart_none]
  exact wpAny_pure ⟨none, H, I, .none, h⟩
theorem po_some (h : PE X e te) : PO X (some e) (tPart te) := by
  intro pins s σ H Q I hw
  rw [evalPart_some]
  refine thn (h pins s σ H _ I hw) fun u s1 ⟨x, H1, I1, r1, q1⟩ => ?_
  obtain ⟨i, rfl, q⟩ := q1
  obtain ⟨t, rfl⟩ := r1
  exact ⟨some i, H1, I1, .int i t, q⟩

/-- what a slice of a value is, by values: the slice object stands at sl -/
def SlR (X : Cx) (r : V → Option Int → Option Int → Hp → VK → Prop) : Prop :=
  ∀ (pins : List (Addr × Obj)) (s : Shared) (σ : St) (H : Hp) (x : V) (v vl vu : Value) (lo hi : Option Int) (sl : Addr) (Q : VK), Inv X pins σ H s → RelV x v → s.heap.IsSliceOf sl vl vu .none → IsPart vl lo → IsPart vu hi → r x lo hi H Q →
    ∃ T id, typeLookup (.type T) "__getitem__" = pure (some (.builtin id)) ∧ s.TypeIs v T ∧ wpAny (model X.prog X.w) X.A (getItem v (.ref sl)) (EP X pins σ Q) X.xe s
theorem SlR.or {r r' : V → Option Int → Option Int → Hp → VK → Prop} (h : SlR X r) (h' : SlR X r') : SlR X (fun x lo hi H Q => r x lo hi H Q ∨ r' x lo hi H Q) := by
  intro pins s σ H x v vl vu lo hi sl Q I rx hs pl pu q
  rcases q with q | q
  · exact h pins s σ H x v vl vu lo hi sl Q I rx hs pl pu q
  · exact h' pins s σ H x v vl vu lo hi sl Q I rx hs pl pu q
def tSl (r : V → Option Int → Option Int → Hp → VK → Prop) (te : TE) (tl th : TO) : TE := fun σ H Q => te σ H fun x H1 => tl σ H1 fun l H2 => th σ H2 fun u H3 => r x l u H3 Q
/-- a[lo:hi], any a -/
theorem pe_slice {r : V → Option Int → Option Int → Hp → VK → Prop} (hr : SlR X r) (he : PE X e te) (hl : PO X lo tl) (hu : PO X hi th) : PE X (.Subscript e (.Slice lo hi none p2) pos) (tSl r te tl th) := by
  intro pins s σ H Q I h
  refine Subscript_ (thn (he pins s σ H _ I h) fun v s1 ⟨x, H1, I1, r1, q1⟩ => ?_)
  refine wpAny_Slice (thn (hl pins s1 σ H1 _ I1 q1) fun vl s2 ⟨l, H2, I2, pl, q2⟩ => thn (hu pins s2 σ H2 _ I2 q2) fun vu s3 ⟨u, H3, I3, pu, q3⟩ => ?_)
  rw [evalPart_none]
  refine wpAny_pure ?_
  have I4 : Inv X pins σ H3 { s3 with heap := s3.heap.push { cls := .type "slice", data := .fields #[vl, vu, .none] } } := I3.kept (t' := s3.toks) fun b ob q => Heap.get?_push_of_some _ q
  obtain ⟨T, id, hT, ht, hg⟩ := hr pins { s3 with heap := s3.heap.push { cls := .type "slice", data := .fields #[vl, vu, .none] } } σ H3 x v vl vu l u s3.heap.objs.size Q I4 r1 (Heap.IsSliceOf.new ..) pl pu q3
  show wpAny (model X.prog X.w) X.A (subscriptTail e (.Slice lo hi none p2) v (.ref s3.heap.objs.size)) (EP X pins σ Q) X.xe { s3 with heap := s3.heap.push { cls := .type "slice", data := .fields #[vl, vu, .none] } }
  exact tail_any (ops := [.ref s3.heap.objs.size, v]) ht hT hg (by with_unfolding_all rfl)

/-- the items of xs[lo:hi] -/
def cutV (xs : List V) (lo hi : Option Int) : List V := (xs.drop (HT.sIx xs.length 0 lo)).take (HT.sIx xs.length xs.length hi - HT.sIx xs.length 0 lo)
theorem cutV_length (xs : List V) (lo hi : Option Int) : (cutV xs lo hi).length ≤ xs.length := by
  unfold cutV
  rw [List.length_take, List.length_drop]
  omega
/-- t[lo:hi], not the whole of it (the whole would be t itself) -/
def rSlT (K : PySem.W.Frag) : V → Option Int → Option Int → Hp → VK → Prop := fun x lo hi H Q => ∃ a xs, x = .ref a ∧ SqT K H a xs ∧
  ¬ (HT.sIx xs.length 0 lo = 0 ∧ HT.sIx xs.length xs.length hi = xs.length) ∧ ∀ p, H p = none → Q (.ref p) (upd H p (.tup (cutV xs lo hi)))
theorem sl_tup : SlR X (rSlT X.K) := by
  intro pins s σ H x v vl vu lo hi sl Q I rx hs pl pu h
  obtain ⟨a, xs, rfl, hx, hw, q⟩ := h
  cases rx
  obtain ⟨its, r, ht, hz⟩ := I.tuple hx
  have hlen : its.toArray.size = xs.length := by rw [List.size_toArray]; exact r.length.symm
  refine ⟨"tuple", _, PyProof.Rows.slot_tuple_getitem.lookup, ht.typeIs, ?_⟩
  refine HT.getItem_tuple_cut ht hs pl pu (by rw [hlen]; exact hw) ?_ (by rw [hlen]; exact hz)
  rw [hlen]
  refine ⟨.ref s.heap.objs.size, _, I.laid (t' := s.toks) (o := .tup (cutV xs lo hi)) (fun b ob q => Heap.get?_push_of_some _ q) (Nat.le_refl _) ?_, rfl, q _ (I.hok.fresh (Nat.le_refl _))⟩
  exact ⟨Nat.le_trans (cutV_length xs lo hi) hz, _, (r.drop (HT.sIx xs.length 0 lo)).take (HT.sIx xs.length xs.length hi - HT.sIx xs.length 0 lo), IsTup.new _ _⟩

/-! ### t < u, t + u -/
def rLtT (K : PySem.W.Frag) : R2 := fun x y H Q => ∃ a b ns ms, x = .ref a ∧ y = .ref b ∧ SqT K H a (ns.map V.int) ∧ SqT K H b (ms.map V.int) ∧ Q (.bl (HT.lexLt ns ms)) H
/-- t + u, t not empty: u empty gives t itself -/
def rCatT (K : PySem.W.Frag) : R2 := fun x y H Q => ∃ a b xs ys, x = .ref a ∧ y = .ref b ∧ SqT K H a xs ∧ SqT K H b ys ∧ xs ≠ [] ∧ xs.length + ys.length ≤ sizeLine ∧
  (ys = [] → Q (.ref a) H) ∧ (ys ≠ [] → ∀ p, H p = none → Q (.ref p) (upd H p (.tup (xs ++ ys))))
theorem Vals.nil_iff {xs : List V} {us : List Value} (r : Vals xs us) : us = [] ↔ xs = [] := by
  cases r with
  | nil => simp
  | cons _ _ => simp
theorem op_catT : OpR X (binaryOp .Add) (rCatT X.K) := by
  intro pins s σ H x y v u Q I rx ry h
  obtain ⟨a, b, xs, ys, rfl, rfl, ha, hb, hx, hz, q1, q2⟩ := h
  cases rx
  cases ry
  obtain ⟨its, r1, p1, _⟩ := I.tuple ha
  obtain ⟨its2, r2, p2, _⟩ := I.tuple hb
  refine HT.cat_tup p1 p2 (fun z => hx (r1.nil_iff.mp z)) (fun z => ⟨.ref a, H, I, rfl, q1 (r2.nil_iff.mp z)⟩) (fun z => ?_) (by rw [← r1.length, ← r2.length]; exact hz)
  refine ⟨.ref s.heap.objs.size, _, I.laid (t' := s.toks) (o := .tup (xs ++ ys)) (fun b ob q => Heap.get?_push_of_some _ q) (Nat.le_refl _) ?_, rfl, q2 (fun w => z (r2.nil_iff.mpr w)) _ (I.hok.fresh (Nat.le_refl _))⟩
  exact ⟨by rw [List.length_append]; exact hz, _, r1.append r2, IsTup.new _ _⟩
end
end L2

namespace L2
open PySem PySem.Spec PyProof.Rows

/-! ### places -/
/-- the place that an index of any sign means -/
def ixN (n : Nat) (i : Int) : Option Nat := if 0 ≤ i then (if i < n then some i.toNat else none) else if -(n : Int) ≤ i then some (i + n).toNat else none
def atI {α : Type} (xs : List α) (i : Int) : Option α := (ixN xs.length i).bind fun j => xs[j]?
theorem ixN_seq {n : Nat} {i : Int} {j : Nat} (h : ixN n i = some j) : seqIndex? i n = some j ∧ j < n ∧ -(n : Int) ≤ i ∧ i < n := by
  unfold ixN at h
  by_cases h0 : 0 ≤ i
  · rw [if_pos h0] at h
    by_cases h1 : i < n
    · rw [if_pos h1] at h
      have e : i.toNat = j := Option.some.inj h
      exact ⟨by rw [seqIndex_of h0 h1, e], by omega, by omega, h1⟩
    · rw [if_neg h1] at h; cases h
  · rw [if_neg h0] at h
    by_cases h1 : -(n : Int) ≤ i
    · rw [if_pos h1] at h
      have e : (i + n).toNat = j := Option.some.inj h
      exact ⟨by rw [seqIndex_neg (by omega) h1, e], by omega, h1, by omega⟩
    · rw [if_neg h1] at h; cases h
theorem atI_get {α : Type} {xs : List α} {i : Int} {v : α} (h : atI xs i = some v) : ∃ j, seqIndex? i xs.length = some j ∧ xs[j]? = some v ∧ j < xs.length ∧ -(xs.length : Int) ≤ i ∧ i < xs.length := by
  unfold atI at h
  cases e : ixN xs.length i with
  | none => rw [e] at h; cases h
  | some j =>
    rw [e] at h
    obtain ⟨h1, h2, h3, h4⟩ := ixN_seq e
    exact ⟨j, h1, h, h2, h3, h4⟩
/-! ### what may be subscripted -/
/-- what stands as an index of a plain subscript -/
def PlainIx (b : Expr) : Prop := ∀ o i, subscripted b false o i = operate [o, i] (getItem o i)
/-- a subscript by values -/
def IxR (X : Cx) (r : R2) : Prop :=
  ∀ (value slice : Expr) (pins : List (Addr × Obj)) (s : Shared) (σ : St) (H : Hp) (x y : V) (v u : Value) (Q : VK), Inv X pins σ H s → RelV x v → RelV y u → r x y H Q →
    subscripted slice false v u = operate [v, u] (getItem v u) → wpAny (model X.prog X.w) X.A (subscriptTail value slice v u) (EP X pins σ Q) X.xe s
/-- a call of a builtin's method by values: the receiver, the arguments -/
def MtR (X : Cx) (id : String) (r : V → List V → Hp → VK → Prop) : Prop :=
  ∀ (pins : List (Addr × Obj)) (s : Shared) (σ : St) (H : Hp) (x : V) (xs : List V) (v : Value) (us : List Value) (Q : VK), Inv X pins σ H s → RelV x v → Vals xs us → r x xs H Q →
    wpAny (model X.prog X.w) X.A (call (.builtin id) (v :: us)) (EP X pins σ Q) X.xe s
section
variable {X : Cx} {a b : Expr} {ta tb : TE} {pos : Pos}
theorem IxR.or {r r' : R2} (h : IxR X r) (h' : IxR X r') : IxR X (fun x y H Q => r x y H Q ∨ r' x y H Q) := by
  intro value slice pins s σ H x y v u Q I rx ry q hs
  rcases q with q | q
  · exact h value slice pins s σ H x y v u Q I rx ry q hs
  · exact h' value slice pins s σ H x y v u Q I rx ry q hs
theorem MtR.or {id : String} {r r' : V → List V → Hp → VK → Prop} (h : MtR X id r) (h' : MtR X id r') : MtR X id (fun x xs H Q => r x xs H Q ∨ r' x xs H Q) := by
  intro pins s σ H x xs v us Q I rx rs q
  rcases q with q | q
  · exact h pins s σ H x xs v us Q I rx rs q
  · exact h' pins s σ H x xs v us Q I rx rs q
/-- a[b] -/
theorem pe_ix {r : R2} (hr : IxR X r) (ha : PE X a ta) (hb : PE X b tb) (hs : PlainIx b) : PE X (.Subscript a b pos) (tOp r ta tb) := by
  intro pins s σ H Q I h
  exact Subscript_ (binT ha hb I h fun v u s2 x y H2 I2 rx ry q => hr a b pins s2 σ H2 x y v u Q I2 rx ry q (hs _ _))

def rIxL (K : PySem.W.Frag) : R2 := fun x y H Q => ∃ p xs i v, x = .ref p ∧ y = .int i ∧ SqL K H p xs ∧ atI xs i = some v ∧ Q v H
def rIxT (K : PySem.W.Frag) : R2 := fun x y H Q => ∃ p xs i v, x = .ref p ∧ y = .int i ∧ SqT K H p xs ∧ atI xs i = some v ∧ Q v H
def rIxS : R2 := fun x y H Q => ∃ z i c, x = .str z ∧ y = .int i ∧ z.length ≤ sizeLine ∧ atI z.cps.toList i = some c ∧ Q (.str ⟨#[c]⟩) H
theorem ix_list : IxR X (rIxL X.K) := by
  intro value slice pins s σ H x y v u Q I rx ry h hs
  obtain ⟨p, xs, i, z, rfl, rfl, hq, he, q⟩ := h
  cases rx
  obtain ⟨t, rfl⟩ := ry
  obtain ⟨its, r, pl, hz⟩ := I.list hq
  obtain ⟨j, h1, h2, h3, h4, h5⟩ := atI_get he
  obtain ⟨w, ew, rw'⟩ := r.get h2
  have hl := r.length
  have hn := line63
  have fin : EP X pins σ Q w s := ⟨z, H, I, rw', q⟩
  by_cases h0 : 0 ≤ i
  · have hj : i.toNat = j := by
      rw [seqIndex_of h0 h5] at h1
      exact Option.some.inj h1
    exact item_listR pl.isList h0 (by omega) (by rw [hj]; simpa using ew) fin hs
  · have hj : (i + (its.toArray.size : Int)).toNat = j := by
      rw [seqIndex_neg (by omega) h4] at h1
      rw [List.size_toArray, ← hl]
      exact Option.some.inj h1
    exact subscriptTail_builtinR (x := w) pl.isList.typeIs slot_list_getitem.lookup
      (wpAny_getItem_list_neg (Q := fun r s' => r = w ∧ EP X pins σ Q r s') pl.isList (by omega) (by rw [List.size_toArray] <;> omega) (by omega) (by rw [hj]; simpa using ew) ⟨rfl, fin⟩) hs
theorem ix_tup : IxR X (rIxT X.K) := by
  intro value slice pins s σ H x y v u Q I rx ry h hs
  obtain ⟨p, xs, i, z, rfl, rfl, hq, he, q⟩ := h
  cases rx
  obtain ⟨t, rfl⟩ := ry
  obtain ⟨its, r, pl, hz⟩ := I.tuple hq
  obtain ⟨j, h1, h2, h3, h4, h5⟩ := atI_get he
  obtain ⟨w, ew, rw'⟩ := r.get h2
  have hl := r.length
  have hn := line63
  have fin : EP X pins σ Q w s := ⟨z, H, I, rw', q⟩
  exact subscriptTail_builtinR (x := w) pl.typeIs slot_tuple_getitem.lookup
    (getItem_tuple (j := j) (Q := fun r s' => r = w ∧ EP X pins σ Q r s') pl (by omega) (by omega) (by rw [List.size_toArray, ← hl]; exact h1) (by simpa using ew) ⟨rfl, fin⟩) hs
theorem ix_str : IxR X rIxS := by
  intro value slice pins s σ H x y v u Q I rx ry h hs
  obtain ⟨z, i, c, rfl, rfl, hz, he, q⟩ := h
  obtain ⟨t, rfl⟩ := rx
  obtain ⟨t', rfl⟩ := ry
  obtain ⟨j, h1, h2, h3, h4, h5⟩ := atI_get he
  have hl : z.cps.toList.length = z.length := by simp [Str.length]
  rw [hl] at h1 h4 h5
  have hn := line63
  exact tail_any (typeIs_str s z t) slot_str_getitem.lookup (getItem_str (c := c) (by
    have e1 : decide (i < -(2 ^ 63 : Int)) = false := decide_eq_false (by omega)
    have e2 : decide (i ≥ 2 ^ 63) = false := decide_eq_false (by omega)
    rw [e1, e2, Bool.or_false]) (by rw [h1]; simpa using h2) ⟨.str ⟨#[c]⟩, H, I.tok _, ⟨_, rfl⟩, q⟩) hs
/-- list, tuple or str -/
def rIx (K : PySem.W.Frag) : R2 := fun x y H Q => rIxL K x y H Q ∨ rIxT K x y H Q ∨ rIxS x y H Q
theorem ix_seq : IxR X (rIx X.K) := ix_list.or (ix_tup.or ix_str)

/-! ### xs[i] = v, any sign -/
/-- the list's object behind a store -/
theorem mapSeq_set (its : List Value) (n j : Nat) (u : Value) : Obj.mapSeq (·.setIfInBounds j u) { cls := .type "list", data := .seq its.toArray n } = { cls := .type "list", data := .seq (its.set j u).toArray n } := by
  simp [Obj.mapSeq]
theorem Inv.lst {pins : List (Addr × Obj)} {σ : St} {H : Hp} {s : Shared} {p : Addr} {xs : List V} (I : Inv X pins σ H s) (h : H p = some (.lst xs)) :
    ∃ (its : List Value) (n : Nat), Vals xs its ∧ s.heap.get? p = some { cls := .type "list", data := .seq its.toArray n } ∧ xs.length ≤ sizeLine := by
  obtain ⟨z, its, n, r, e⟩ := I.hok p _ h
  exact ⟨its, n, r, e, z⟩
/-- the list at p is written by an update of its object -/
theorem Inv.lstUpd {pins : List (Addr × Obj)} {σ : St} {H : Hp} {s : Shared} {p : Addr} {xs ys : List V} {its its' : List Value} {n n' : Nat} {f : Obj → Obj} (I : Inv X pins σ H s) (h : H p = some (.lst xs))
    (ho : s.heap.get? p = some { cls := .type "list", data := .seq its.toArray n }) (hf : f { cls := .type "list", data := .seq its.toArray n } = { cls := .type "list", data := .seq its'.toArray n' }) (r : Vals ys its') (hz : ys.length ≤ sizeLine) (t : Nat) :
    Inv X pins σ (upd H p (.lst ys)) { s with heap := s.heap.update p f, toks := t } := by
  have e : (s.heap.update p f).get? p = some { cls := .type "list", data := .seq its'.toArray n' } := by
    rw [Heap.get?_update_self f ho (by rw [hf] <;> rfl), hf]
  refine I.write (x := p) (e := p) (by rw [h]; trivial) (.inl rfl) (fun b u hb q => (Heap.get?_update_other _ _ (Ne.symm hb)).trans q) ⟨_, e⟩ ?_
  exact ⟨hz, its', n', r, e⟩
def rSetL : V → V → V → Hp → (Hp → Prop) → Prop := fun o i v H Q => ∃ p xs k j, o = .ref p ∧ i = .int k ∧ H p = some (.lst xs) ∧ ixN xs.length k = some j ∧ Q (upd H p (.lst (xs.set j v)))
theorem set_list : PSet X rSetL := by
  intro pins s σ H o i v ov iv u Q I ro ri rv h
  obtain ⟨p, xs, k, j, rfl, rfl, hp, hj, q⟩ := h
  cases ro
  obtain ⟨t, rfl⟩ := ri
  obtain ⟨its, n, r, ho, hz⟩ := I.lst hp
  obtain ⟨h1, h2, h3, h4⟩ := ixN_seq hj
  have hl := r.length
  have hn := line63
  have I' : Inv X pins σ (upd H p (.lst (xs.set j v))) { s with heap := s.heap.update p (Obj.mapSeq (·.setIfInBounds j u)) } :=
    I.lstUpd hp ho (mapSeq_set its n j u) (r.set rv j) (by rw [List.length_set]; exact hz) s.toks
  by_cases h0 : 0 ≤ k
  · have hk : k.toNat = j := by
      rw [seqIndex_of h0 h4] at h1
      exact Option.some.inj h1
    exact PySem.W.ki_setAt ho h0 (by omega) (by rw [List.size_toArray, ← hl]; exact h4) (by rw [hk]; exact ⟨_, I', q⟩)
  · have hk : (k + (its.toArray.size : Int)).toNat = j := by
      rw [seqIndex_neg (by omega) h3] at h1
      rw [List.size_toArray, ← hl]
      exact Option.some.inj h1
    exact PySem.W.ki_setBack ho (by omega) (by rw [List.size_toArray, ← hl]; exact h3) (by omega) (by rw [hk]; exact ⟨_, I', q⟩)

/-! ### slices -/
theorem slice_bounds (lo hi : Option Int) (n : Nat) : (sliceBounds lo hi none n).1 = ((HT.sIx n 0 lo : Nat) : Int) ∧ (sliceBounds lo hi none n).2.1 = ((HT.sIx n n hi : Nat) : Int) ∧ (sliceBounds lo hi none n).2.2 = 1 := by
  refine ⟨?_, ?_, rfl⟩
  · cases lo with
    | none => simp [sliceBounds, HT.sIx]
    | some i =>
      simp only [sliceBounds, HT.sIx, Option.getD_none, show (1 : Int) > 0 by decide, if_true]
      by_cases h : i < 0
      · simp only [h, if_true] <;> omega
      · simp only [h, if_false] <;> omega
  · cases hi with
    | none => simp [sliceBounds, HT.sIx]
    | some i =>
      simp only [sliceBounds, HT.sIx, Option.getD_none, show (1 : Int) > 0 by decide, if_true]
      by_cases h : i < 0
      · simp only [h, if_true] <;> omega
      · simp only [h, if_false] <;> omega
theorem slicePick_cut (its : List Value) (lo hi : Option Int) : slicePick its.toArray lo hi none = ((its.drop (HT.sIx its.length 0 lo)).take (HT.sIx its.length its.length hi - HT.sIx its.length 0 lo)).toArray := by
  obtain ⟨h1, h2, h3⟩ := slice_bounds lo hi its.toArray.size
  unfold slicePick
  rw [h1, h2, h3]
  simp only [sliceRange_one, pick_run, List.size_toArray] <;> rfl
/-- xs[lo:hi] of a list: a new list -/
def rSlL (K : PySem.W.Frag) : V → Option Int → Option Int → Hp → VK → Prop := fun x lo hi H Q => ∃ a xs, x = .ref a ∧ SqL K H a xs ∧ ∀ p, H p = none → Q (.ref p) (upd H p (.lst (cutV xs lo hi)))
theorem sl_list : SlR X (rSlL X.K) := by
  intro pins s σ H x v vl vu lo hi sl Q I rx hs pl pu h
  obtain ⟨a, xs, rfl, hx, q⟩ := h
  cases rx
  obtain ⟨its, r, ht, hz⟩ := I.list hx
  have hlen := r.length
  refine ⟨"list", _, slot_list_getitem.lookup, ht.isList.typeIs, ?_⟩
  refine wpAny_getItem_list_slice ht.isList hs pl pu .none (by simp) ?_ (by rw [List.size_toArray] <;> omega)
  rw [slicePick_cut, ← hlen]
  refine ⟨.ref s.heap.objs.size, _, I.laid (t' := s.toks) (o := .lst (cutV xs lo hi)) (fun b ob q => Heap.get?_push_of_some _ q) (Nat.le_refl _) ?_, rfl, q _ (I.hok.fresh (Nat.le_refl _))⟩
  exact ⟨Nat.le_trans (cutV_length xs lo hi) hz, _, 0, (r.drop (HT.sIx xs.length 0 lo)).take (HT.sIx xs.length xs.length hi - HT.sIx xs.length 0 lo), Heap.get?_push_size _ rfl⟩

/-! ### in, not in: flat items -/
def flatV : V → Bool
  | .non => true
  | .bl _ => true
  | .int _ => true
  | .str _ => true
  | _ => false
/-- == of flat values -/
def eqV : V → V → Bool
  | .non, .non => true
  | .bl a, .bl b => a == b
  | .bl a, .int b => (if a then 1 else 0) == b
  | .int a, .bl b => a == (if b then 1 else 0)
  | .int a, .int b => a == b
  | .str a, .str b => a == b
  | _, _ => false
/-- the items' answers, read off the values (a value's own answer does not lean on its token) -/
def eqU (x : V) (u : Value) : Bool := match u with
  | .none => eqV .non x
  | .bool b => eqV (.bl b) x
  | .int i _ => eqV (.int i) x
  | .str z _ => eqV (.str z) x
  | _ => false
def inV (x : V) (xs : List V) : Bool := xs.any fun y => eqV y x
/-- x in a list or tuple of flat items -/
def rIn (K : PySem.W.Frag) (neg : Bool) : R2 := fun x y H Q => ∃ p xs, y = .ref p ∧ (SqL K H p xs ∨ SqT K H p xs) ∧ flatV x = true ∧ xs.all flatV = true ∧ Q (.bl (if neg then !inV x xs else inV x xs)) H
/-! ### len, list(x), tuple(x) of any list or tuple that is read -/
theorem call_len_seq : CallR X (.builtin "len") (fun xs H Q => ∃ p ys, xs = [.ref p] ∧ (SqL X.K H p ys ∨ SqT X.K H p ys) ∧ Q (.int ys.length) H) := by
  intro pins s σ H xs us Q I r h
  obtain ⟨p, ys, rfl, hq, q⟩ := h
  obtain ⟨u, rfl, rx⟩ := vals1 r
  cases rx
  have hn := line63
  rcases hq with hq | hq
  · obtain ⟨its, r', pl, hz⟩ := I.list hq
    have hlen := r'.length
    exact Calls.call_len_list pl.isList (by simp only [List.size_toArray] <;> omega) ⟨.int ys.length, H, I.tok _, ⟨s.toks + 1, by rw [List.size_toArray, hlen]⟩, q⟩
  · obtain ⟨its, r', pl, hz⟩ := I.tuple hq
    have hlen := r'.length
    exact len_tuple pl (by simp only [List.size_toArray] <;> omega) ⟨.int ys.length, H, I.tok _, ⟨s.toks + 1, by rw [List.size_toArray, hlen]⟩, q⟩
theorem call_len_str : CallR X (.builtin "len") (fun xs H Q => ∃ z, xs = [.str z] ∧ z.length ≤ sizeLine ∧ Q (.int z.length) H) := by
  intro pins s σ H xs us Q I r h
  obtain ⟨z, rfl, hz, q⟩ := h
  obtain ⟨u, rfl, t, rfl⟩ := vals1 r
  have hn := line63
  exact len_str (by omega) ⟨.int z.length, H, I.tok _, ⟨_, rfl⟩, q⟩
theorem CallR.or {f : Value} {r r' : List V → Hp → VK → Prop} (h : CallR X f r) (h' : CallR X f r') : CallR X f (fun xs H Q => r xs H Q ∨ r' xs H Q) := by
  intro pins s σ H xs us Q I rs q
  rcases q with q | q
  · exact h pins s σ H xs us Q I rs q
  · exact h' pins s σ H xs us Q I rs q
theorem call_list_of : CallR X (.type "list") (fun xs H Q => ∃ p ys, xs = [.ref p] ∧ (SqL X.K H p ys ∨ SqT X.K H p ys) ∧ ∀ l, H l = none → Q (.ref l) (upd H l (.lst ys))) := by
  intro pins s σ H xs us Q I r h
  obtain ⟨p, ys, rfl, hq, q⟩ := h
  obtain ⟨u, rfl, rx⟩ := vals1 r
  cases rx
  have fin : ∀ (its : List Value), Vals ys its → ys.length ≤ sizeLine → ∀ (h' : Heap) (c' : Nat), (∀ b o', s.heap.get? b = some o' → h'.get? b = some o') →
      h'.get? s.heap.objs.size = some { cls := .type "list", dict := none, data := .seq its.toArray c', slots := #[] } → EP X pins σ Q (.ref s.heap.objs.size) { s with heap := h' } := fun its r' hz h' c' kp e =>
    ⟨.ref s.heap.objs.size, _, I.laid (t' := s.toks) kp (Nat.le_refl _) (show ObjOk X.prog X.w _ h' _ (.lst ys) from ⟨hz, its, c', r', e⟩), rfl, q _ (I.hok.fresh (Nat.le_refl _))⟩
  rcases hq with hq | hq
  · obtain ⟨its, r', pl, hz⟩ := I.list hq
    have hlen := r'.length
    obtain ⟨o, ho, hc, n, hd⟩ := pl.isList
    exact call_list_seq p (.inl rfl) ho hc hd (fun h' c' kp e => fin its r' hz h' c' kp e) (by simp only [List.size_toArray] <;> omega)
  · obtain ⟨its, r', pl, hz⟩ := I.tuple hq
    have hlen := r'.length
    obtain ⟨o, ho, hc, n, hd⟩ := pl
    exact call_list_seq p (.inr rfl) ho hc hd (fun h' c' kp e => fin its r' hz h' c' kp e) (by simp only [List.size_toArray] <;> omega)
theorem call_tuple_of : CallR X (.type "tuple") (fun xs H Q => ∃ p ys, xs = [.ref p] ∧ ((SqL X.K H p ys ∧ ∀ l, H l = none → Q (.ref l) (upd H l (.tup ys))) ∨ (SqT X.K H p ys ∧ Q (.ref p) H))) := by
  intro pins s σ H xs us Q I r h
  obtain ⟨p, ys, rfl, h⟩ := h
  obtain ⟨u, rfl, rx⟩ := vals1 r
  cases rx
  rcases h with ⟨hq, q⟩ | ⟨hq, q⟩
  · obtain ⟨its, r', pl, hz⟩ := I.list hq
    have hlen := r'.length
    refine call_tuple_list pl.isList (fun h' kp => ?_) (by simp only [List.size_toArray] <;> omega)
    have I1 : Inv X pins σ H { s with heap := h' } := I.kept (t' := s.toks) kp
    have I2 : Inv X pins σ (upd H h'.objs.size (.tup ys)) { s with heap := h'.push { cls := .type "tuple", data := .seq its.toArray } } :=
      I1.laid (t' := s.toks) (fun b o e => Heap.get?_push_of_some _ e) (Nat.le_refl _) (show ObjOk X.prog X.w _ _ _ (.tup ys) from ⟨hz, its, r', IsTup.new _ _⟩)
    exact ⟨.ref h'.objs.size, _, I2, rfl, q _ (I1.hok.fresh (Nat.le_refl _))⟩
  · obtain ⟨its, r', pl, hz⟩ := I.tuple hq
    exact call_tuple_same pl ⟨.ref p, H, I, rfl, q⟩

/-! ### the call of a builtin's method: o.m(..) -/
/-- the value is of that builtin type -/
def tyV (K : PySem.W.Frag) (T : String) (x : V) (H : Hp) : Prop := match x with
  | .str _ => T = "str"
  | .int _ => T = "int"
  | .ref p => (T = "list" ∧ ∃ xs, SqL K H p xs) ∨ (T = "tuple" ∧ ∃ o, K.lookup p = some o ∧ o.cls = .type "tuple" ∧ o.dict = none) ∨
      (T = "dict" ∧ ((∃ kvs, H p = some (.dK kvs)) ∨ ∃ kvs, H p = some (.dT kvs))) ∨ (T = "set" ∧ ∃ S n, H p = some (.set S n))
  | _ => False
theorem tyV_is {pins : List (Addr × Obj)} {σ : St} {H : Hp} {s : Shared} {T : String} {x : V} {v : Value} (I : Inv X pins σ H s) (r : RelV x v) (ty : tyV X.K T x H) :
    s.TypeIs v T ∧ ∀ a, v = .ref a → ∃ ob, s.heap.get? a = some ob ∧ ob.dict = none := by
  cases x with
  | str z =>
    obtain ⟨t, rfl⟩ := r
    cases (show T = "str" from ty)
    exact ⟨typeIs_str s z t, fun _ e => nomatch e⟩
  | int i =>
    obtain ⟨t, rfl⟩ := r
    cases (show T = "int" from ty)
    exact ⟨typeIs_int s i t, fun _ e => nomatch e⟩
  | ref p =>
    cases r
    rcases ty with ⟨rfl, xs, hq⟩ | ⟨rfl, o, hk, hc, hd⟩ | ⟨rfl, hk⟩ | ⟨rfl, S, n, hk⟩
    · obtain ⟨its, _, pl, _⟩ := I.list hq
      refine ⟨pl.isList.typeIs, fun a e => ?_⟩
      cases e
      obtain ⟨o, n, e, c, hd, _⟩ := pl
      exact ⟨o, e, hd⟩
    · refine ⟨⟨o, I.kIn p o hk, hc⟩, fun a e => ?_⟩
      cases e
      exact ⟨o, I.kIn _ o hk, hd⟩
    · have z : ∃ o, s.heap.get? p = some o ∧ o.ExactDict := by
        rcases hk with ⟨kvs, hk⟩ | ⟨kvs, hk⟩
        · obtain ⟨_, _, _, _, o, _, _, e, ex, _⟩ := I.hok p _ hk
          exact ⟨o, e, ex⟩
        · obtain ⟨_, _, _, _, o, _, _, e, ex, _⟩ := I.hok p _ hk
          exact ⟨o, e, ex⟩
      obtain ⟨o, e, ex⟩ := z
      refine ⟨⟨o, e, ex.1⟩, fun a e2 => ?_⟩
      cases e2
      exact ⟨o, e, ex.2.1⟩
    · obtain ⟨o, _, _, _, e, ex, _⟩ := I.hok p _ hk
      refine ⟨⟨o, e, ex.1⟩, fun a e2 => ?_⟩
      cases e2
      exact ⟨o, e, ex.2.1⟩
  | _ => exact False.elim ty
def tBM0 (K : PySem.W.Frag) (T : String) (r : V → List V → Hp → VK → Prop) (to : TE) : TE := fun σ H Q => to σ H fun x H1 => tyV K T x H1 ∧ r x [] H1 Q
def tBM (K : PySem.W.Frag) (T : String) (r : V → List V → Hp → VK → Prop) (to : TE) (t : TA) : TE := fun σ H Q => to σ H fun x H1 => tyV K T x H1 ∧ t σ H1 fun xs H2 => r x xs H2 Q
variable {o e : Expr} {es : List Expr} {to : TE} {t : TA} {name : Str} {apos cpos : Pos} {T id : String} {r : V → List V → Hp → VK → Prop}
theorem pe_bm0 (pa : PlainAttrs T) (slot : Slot T name id) (hty : typeOf (.builtin id) = pure (.type "method_descriptor")) (hm : MtR X id r) (ho : PE X o to)
    (hbase : attributeBase o name X.env (eval o X.env) = eval o X.env := by rfl) (hline : (apos.endLine == cpos.line) = true := by rfl) : PE X (.Call (.Attribute o name apos) [] [] cpos) (tBM0 X.K T r to) := by
  intro pins s σ H Q I h
  refine wpAny_Call_method0_late hbase hline (thn (ho pins s σ H _ I h) fun v s1 ⟨x, H1, I1, r1, ty, q1⟩ => ?_)
  obtain ⟨h1, h2⟩ := tyV_is I1 r1 ty
  exact ⟨T, id, pa, slot, hty, h1, h2, Calls.callWith_builtin rfl (PySem.evalArgs_none (hm pins s1 σ H1 x [] v [] Q I1 r1 .nil q1))⟩
theorem pe_bm (pa : PlainAttrs T) (slot : Slot T name id) (hty : typeOf (.builtin id) = pure (.type "method_descriptor")) (hm : MtR X id r) (ho : PE X o to) (ha : PA X (e :: es) t)
    (hbase : attributeBase o name X.env (eval o X.env) = eval o X.env := by rfl)
    (hfew : ((backTo cpos (starEach (e :: es) X.env)).all (fun x => !x.1) && (backToKw cpos (keywordEach [] X.env)).all (fun x => x.1.isSome)
      && decide ((e :: es).length + ([] : List Keyword).length + (if ([] : List Keyword).isEmpty then 0 else 1) < 30)) = true := by rfl)
    (hline : (apos.endLine == cpos.line) = true := by rfl) (hs : starEach (e :: es) X.env = (false, eval e X.env) :: starEach es X.env := by rfl) (hplain : (backTo cpos (starEach es X.env)).any (·.1) = false := by rfl) :
    PE X (.Call (.Attribute o name apos) (e :: es) [] cpos) (tBM X.K T r to t) := by
  intro pins s σ H Q I h
  refine wpAny_Call_method_late hbase hfew hline rfl (thn (ho pins s σ H _ I h) fun v s1 ⟨x, H1, I1, r1, ty, q1⟩ => ?_)
  obtain ⟨h1, h2⟩ := tyV_is I1 r1 ty
  refine ⟨T, id, pa, slot, hty, h1, h2, ?_⟩
  have hA := ha cpos pins s1 σ H1 _ I1 q1
  rw [hs] at hA ⊢
  refine Calls.callWith_builtin (by show (false || (backTo cpos (starEach es X.env)).any (·.1)) = false; rw [hplain] <;> rfl) (Calls.evalArgs_plain ?_)
  exact thn hA fun us s2 ⟨vs, H2, I2, r2, q2⟩ => hm pins s2 σ H2 x vs v us Q I2 r1 r2 q2
/- xs.append(e), list.index on a module's tuple .. are MtR facts of 06m -/
end
end L2

namespace L2
open PySem PySem.Spec PyProof.Rows

def MtM (X : Cx) (id : String) (r : V → List V → Hp → VK → Prop) : Prop :=
  ∀ (pins : List (Addr × Obj)) (s : Shared) (σ : St) (H : Hp) (x : V) (xs : List V) (v : Value) (us : List Value) (Q : VK), Inv X pins σ H s → RelV x v → Vals xs us → r x xs H Q →
    wpAny (model X.prog X.w) X.A (call (.builtin id) (v :: us)) (EP X pins σ Q) X.xe s

/-! ### lists of values -/
theorem Vals.one : ∀ {x : V} {us : List Value}, Vals [x] us → ∃ u, us = [u] ∧ RelV x u
  | _, _, .cons r .nil => ⟨_, rfl, r⟩
theorem Vals.two : ∀ {x y : V} {us : List Value}, Vals [x, y] us → ∃ u v, us = [u, v] ∧ RelV x u ∧ RelV y v
  | _, _, _, .cons r (.cons q .nil) => ⟨_, _, rfl, r, q⟩
theorem Vals.zero : ∀ {us : List Value}, Vals [] us → us = []
  | _, .nil => rfl
theorem Vals.dropLast {xs : List V} {us : List Value} (h : Vals xs us) : Vals xs.dropLast us.dropLast := by
  induction h with
  | nil => exact .nil
  | cons r t ih =>
    cases t with
    | nil => exact .nil
    | cons q t' => exact .cons r ih
theorem Vals.eraseIdx : ∀ {xs : List V} {us : List Value} (i : Nat), Vals xs us → Vals (xs.eraseIdx i) (us.eraseIdx i)
  | _, _, _, .nil => .nil
  | _, _, 0, .cons _ t => t
  | _, _, i + 1, .cons r t => .cons r (Vals.eraseIdx i t)
theorem Vals.reverse {xs : List V} {us : List Value} (h : Vals xs us) : Vals xs.reverse us.reverse := by
  induction h with
  | nil => exact .nil
  | cons r t ih => rw [List.reverse_cons, List.reverse_cons]; exact Vals.append ih (.cons r .nil)
theorem Vals.rep {xs : List V} {us : List Value} (h : Vals xs us) : ∀ k : Nat, Vals (List.replicate k xs).flatten (List.replicate k us).flatten
  | 0 => .nil
  | k + 1 => by
    rw [List.replicate_succ, List.replicate_succ, List.flatten_cons, List.flatten_cons]
    exact Vals.append h (Vals.rep h k)
theorem foldl_rep (its : List Value) : ∀ (k : Nat) (acc : List Value),
    List.foldl (fun x1 x2 => x1 ++ x2) acc.toArray (List.replicate k its.toArray) = (acc ++ (List.replicate k its).flatten).toArray
  | 0, acc => by simp
  | k + 1, acc => by
    have e : acc.toArray ++ its.toArray = (acc ++ its).toArray := by simp
    have e2 : (acc ++ its) ++ (List.replicate k its).flatten = acc ++ (List.replicate (k + 1) its).flatten := by
      rw [List.replicate_succ, List.flatten_cons, List.append_assoc]
    rw [← e2, ← foldl_rep its k (acc ++ its), ← e, List.replicate_succ, List.foldl_cons]

section
variable {X : Cx} {pins : List (Addr × Obj)} {σ : St} {H : Hp} {s : Shared} {l b : Addr} {xs ys zs : List V}

/-! ### the two steps: a tracked list is rewritten, a new list is laid -/
theorem Inv.lset {its its' : List Value} {n : Nat} {f : Array Value → Array Value} {t' : Nat} (I : Inv X pins σ H s) (hH : H l = some (.lst xs))
    (e : s.heap.get? l = some { cls := .type "list", data := .seq its.toArray n }) (hf : f its.toArray = its'.toArray) (hv : Vals ys its') (hz : ys.length ≤ sizeLine) :
    Inv X pins σ (upd H l (.lst ys)) { s with heap := s.heap.update l (Obj.mapSeq f), toks := t' } := by
  have q := PySem.IsL.update e f
  rw [hf] at q
  refine I.write (x := l) (e := l) (by rw [hH]; exact trivial) (.inl rfl) (fun b' u hb hu => (Heap.get?_update_other s.heap (Obj.mapSeq f) (Ne.symm hb)).trans hu) ⟨_, q⟩ ?_
  exact ⟨hz, its', _, hv, q⟩
theorem Inv.lnew {its : List Value} {t' : Nat} (I : Inv X pins σ H s) (hv : Vals ys its) (hz : ys.length ≤ sizeLine) :
    Inv X pins σ (upd H s.heap.objs.size (.lst ys)) { s with heap := s.heap.push { cls := .type "list", data := .seq its.toArray }, toks := t' } :=
  I.laid (fun _ _ q => Heap.get?_push_of_some _ q) (Nat.le_refl _) ⟨hz, its, 0, hv, Heap.get?_push_size _ rfl⟩
theorem Inv.fresh (I : Inv X pins σ H s) : H s.heap.objs.size = none := I.hok.fresh (Nat.le_refl _)
theorem Inv.lstM (I : Inv X pins σ H s) (hH : H l = some (.lst xs)) : xs.length ≤ sizeLine ∧ ∃ (its : List Value) (n : Nat), Vals xs its ∧ xs.length = its.length ∧ s.heap.get? l = some { cls := .type "list", data := .seq its.toArray n } := by
  obtain ⟨z, its, n, r, e⟩ := I.hok l _ hH
  exact ⟨z, its, n, r, r.length, e⟩

theorem notLongL {n : Nat} (h : n ≤ sizeLine) : Builtin.List.listTooLong n = false := by
  unfold Builtin.List.listTooLong
  exact decide_eq_false (by omega)
end

section
variable {X : Cx}

/-! ### methods -/
def rAppend : V → List V → Hp → VK → Prop := fun x vs H Q => ∃ l xs y, x = .ref l ∧ vs = [y] ∧ H l = some (.lst xs) ∧ xs.length < sizeLine ∧ Q .non (upd H l (.lst (xs ++ [y])))
theorem mt_append : MtM X "list.append" rAppend := by
  intro pins s σ H x vs v us Q I rx rv h
  obtain ⟨l, xs, y, rfl, rfl, hH, hz, q⟩ := h
  cases rx
  obtain ⟨u, rfl, ru⟩ := rv.one
  obtain ⟨z, its, n, r, hl, e⟩ := I.lstM hH
  refine call_meets F.slot_list_append ⟨_, e, rfl⟩ F.entry_list_append (F.args_list_append_2 _ _) (PySem.list_append l its.toArray n u (by rw [List.size_toArray]; omega)) ⟨e, ?_⟩
  refine ⟨.non, _, I.lset (its' := its ++ [u]) hH e (by simp) (r.append (.cons ru .nil)) ?_, rfl, q⟩
  rw [List.length_append, List.length_singleton]
  omega

def rExtend : V → List V → Hp → VK → Prop := fun x vs H Q => ∃ l b xs zs, x = .ref l ∧ vs = [.ref b] ∧ H l = some (.lst xs) ∧ H b = some (.lst zs) ∧ xs.length + zs.length ≤ sizeLine ∧ Q .non (upd H l (.lst (xs ++ zs)))
def rPop : V → List V → Hp → VK → Prop := fun x vs H Q => ∃ l xs y, x = .ref l ∧ vs = [] ∧ H l = some (.lst xs) ∧ xs[xs.length - 1]? = some y ∧ Q y (upd H l (.lst xs.dropLast))
def rPopAt : V → List V → Hp → VK → Prop := fun x vs H Q => ∃ l xs i k y, x = .ref l ∧ vs = [.int i] ∧ H l = some (.lst xs) ∧ -(2 ^ 63) ≤ i ∧ i < 2 ^ 63 ∧ seqIndex? i xs.length = some k ∧ xs[k]? = some y ∧ Q y (upd H l (.lst (xs.eraseIdx k)))
def rReverse : V → List V → Hp → VK → Prop := fun x vs H Q => ∃ l xs, x = .ref l ∧ vs = [] ∧ H l = some (.lst xs) ∧ Q .non (upd H l (.lst xs.reverse))
def rClear : V → List V → Hp → VK → Prop := fun x vs H Q => ∃ l xs, x = .ref l ∧ vs = [] ∧ H l = some (.lst xs) ∧ Q .non (upd H l (.lst []))
/-! ### list + list, list += list, list * int -/
def rCat : R2 := fun x y H Q => ∃ l b xs zs, x = .ref l ∧ y = .ref b ∧ H l = some (.lst xs) ∧ H b = some (.lst zs) ∧ xs.length + zs.length ≤ sizeLine ∧ ∀ p, H p = none → Q (.ref p) (upd H p (.lst (xs ++ zs)))
theorem op_cat : OpR X (binaryOp .Add) rCat := by
  intro pins s σ H x y v u Q I rx ry h
  obtain ⟨l, b, xs, zs, rfl, rfl, hH, hB, hz, q⟩ := h
  cases rx
  cases ry
  obtain ⟨z, its, n, r, hl, e⟩ := I.lstM hH
  obtain ⟨z2, its2, n2, r2, hl2, e2⟩ := I.lstM hB
  refine PySem.P.add_list e e2 ?_ (by rw [List.size_toArray, List.size_toArray]; omega)
  have ea : its.toArray ++ its2.toArray = (its ++ its2).toArray := by simp
  rw [ea]
  exact ⟨.ref _, _, I.lnew (t' := s.toks) (r.append r2) (by rw [List.length_append]; omega), rfl, q _ I.fresh⟩
/-- a list times an int (a negative one is nothing) -/
def rRep : R2 := fun x y H Q => ∃ l k xs, x = .ref l ∧ y = .int k ∧ H l = some (.lst xs) ∧ -(2 ^ 63) ≤ k ∧ k < 2 ^ 63 ∧ xs.length * k.toNat ≤ sizeLine ∧
  ∀ p, H p = none → Q (.ref p) (upd H p (.lst (List.replicate k.toNat xs).flatten))
theorem len_rep {α : Type} (xs : List α) (k : Nat) : (List.replicate k xs).flatten.length = k * xs.length := by
  induction k with
  | zero => simp
  | succ k ih => rw [List.replicate_succ, List.flatten_cons, List.length_append, ih, Nat.succ_mul, Nat.add_comm]
theorem op_rep : OpR X (binaryOp .Mult) rRep := by
  intro pins s σ H x y v u Q I rx ry h
  obtain ⟨l, k, xs, rfl, rfl, hH, h1, h2, hz, q⟩ := h
  cases rx
  obtain ⟨t, rfl⟩ := ry
  obtain ⟨z, its, n, r, hl, e⟩ := I.lstM hH
  have hlen : its.toArray.size * k.toNat ≤ sizeLine := by rw [List.size_toArray, ← hl]; exact hz
  have hcap : ¬ its.toArray.size * k.toNat > (2 ^ 63 - 1) / 8 := by
    have : (sizeLine : Nat) ≤ (2 ^ 63 - 1) / 8 := by decide
    omega
  have hfit : ¬ (!Builtin.List.listFitsIndex k) = true := by
    rw [fitsIndex_both h1 h2]
    exact Bool.false_ne_true
  have hlong : ¬ Builtin.List.listTooLong (its.toArray.size * k.toNat) = true := by
    rw [notLongL hlen]
    exact Bool.false_ne_true
  have hnew : List.foldl (fun x1 x2 => x1 ++ x2) #[] (List.replicate (if its.toArray.isEmpty = true then 0 else k.toNat) its.toArray) = (List.replicate k.toNat its).flatten.toArray := by
    have f0 : ∀ m : Nat, List.foldl (fun x1 x2 => x1 ++ x2) #[] (List.replicate m its.toArray) = (List.replicate m its).flatten.toArray := fun m => by
      have := foldl_rep its m []
      rw [List.nil_append] at this
      exact this
    rw [f0]
    cases its with
    | nil => simp
    | cons a r' => rw [if_neg (by simp)]
  refine wpAny_binaryOp_repeat_ref (T := "list") (U := "int") (by decide) ⟨_, e, rfl⟩ (fun s' => typeIs_int s' k t) noFill_list_mul F.fills_int_mul F.slot_int_rmul repeat_list F.slot_int_index.lookup
    (call_meets F.slot_int_rmul (typeIs_int s k t) F.entry_int_rmul (F.args_int_rmul_2 _ _) (int___rmul___int_list k t l its.toArray n)
      ⟨e, rfl, ⟨_, e, rfl⟩, call_meets F.slot_list_mul ⟨_, e, rfl⟩ F.entry_list_mul (F.args_list_mul_2 _ _) (AutoListH.list___mul___list_int_3 l its.toArray n k t hfit hcap hlong) ⟨e, ?_⟩⟩)
  rw [hnew]
  exact ⟨.ref _, _, I.lnew (t' := s.toks) (r.rep k.toNat) (by rw [len_rep, Nat.mul_comm]; exact hz), rfl, q _ I.fresh⟩

/-! ### del xs[i] -/
end

/-! ### xs[a:b] = ys -/
section
variable {prog : Program} {w : World} {A : Around} {E : Value → Shared → Prop} {s : Shared}
end

section
variable {X : Cx}
end
end L2

namespace Att
open PySem PySem.W PySem.Calls PyProof.Rows

/-! ### the script -/
theorem ints_of_wellAll {P : Params} {h : Heap} : ∀ (ns : List Int) (vs : List Value), WellAll P h vs (ns.map WData.int) → IntsAre vs ns := by
  intro ns
  induction ns with
  | nil =>
    intro vs w
    rw [List.map_nil] at w
    cases w
    exact .nil
  | cons n ns ih =>
    intro vs w
    rw [List.map_cons] at w
    cases w with
    | cons a b =>
      cases a
      exact .cons _ _ (ih _ b)

theorem script_of {l : OpenLaw} {n : Nat} (hn : l.most = some n) {P : Params} {h : Heap} {args : List WData} {vals : List Value}
    (hpre : l.row.toRowW.claim.pre args = true) (hwl : WellAll P h vals args) :
    ∃ a vs ns, vals = [Value.ref a] ∧ args = [WData.list (ns.map WData.int)] ∧ h.get? a = some { cls := .type "list", data := .seq vs.toArray } ∧ IntsAre vs ns ∧ ns.length ≤ n := by
  have hsh : WShape.hasAll [] args [.list .int] = true := (pre_splitW hpre).1
  have hc : l.pre.holds [] { args := args } = true := (pre_splitW hpre).2
  obtain ⟨d, r, rfl, h1, h2⟩ := hasAllW_cons hsh
  obtain rfl := hasAllW_nil h2
  obtain ⟨xs, rfl, h3⟩ := hasW_list h1
  obtain ⟨ns, rfl⟩ := items_int h3
  have hlen : ns.length ≤ n := by
    unfold OpenLaw.pre at hc
    have h4 : (WTm.not (.lt (.lit (.int (n : Int))) (.len (.arg 0)))).holds [] { args := [.list (ns.map .int)] } = true := by
      have h4 := (holds_andW hc).1
      rw [hn] at h4
      exact h4
    have h5 := condW_of h4 (w_not (w_lt w_lit (w_len_list (w_arg rfl))))
    rw [List.length_map] at h5
    refine Nat.le_of_not_lt fun q => ?_
    have q' : (n : Int) < ((ns.length : Nat) : Int) := by omega
    first
      | (rw [decide_eq_true q'] at h5; exact absurd h5 (by decide))
      | (simp at h5; omega)
  cases hwl with
  | cons w1 w2 =>
    cases w2
    cases w1 with
    | list ho hall => exact ⟨_, _, ns, rfl, rfl, ho, ints_of_wellAll ns _ hall, hlen⟩

theorem post_true (l : OpenLaw) (args : List WData) : l.row.toRowW.claim.post args (.bool true) args = true :=
  postW_of (r := l.row.toRowW) (X := (true == true))
    (show WShape.has [] (.bool true) .bool = true by first | rfl | decide | simp [WShape.has, WShape.arms, WShape.armsAll])
    (show (WTm.eq .res (.lit (.bool true))).value [] { args := args, res := some (.bool true), after := args } = some (.bool (true == true)) from w_eq_bool (w_res rfl) w_lit) rfl

/-! ### the attachment: holds_open's last premise (the goal 'hc' behind k_head) from a wpAny of the law's body -/
/-- the same from a codeAny of the CALL (for a layer whose function contracts speak of calls) -/
theorem attach_call {l : OpenLaw} {n : Nat} {q : Program} {loose : List Str} {XP : (Str → Option Value) → Heap → Prop} {YP : World → Heap → Prop} {d : DefRec}
    (hn : l.most = some n) (hdf : d.params.defaults = [])
    (call : ∀ (w : World) (s₀ s₁ : Shared) (mg mb : Str → Option Value) (fa : Addr) (o : Obj) (pm cd doc : Value) (a : Addr) (vs : List Value) (ns : List Int),
      Ground q loose [] XP w s₀ mg mb s₁.heap → YP w s₁.heap →
      s₁.heap.get? fa = some o → o.data = .func (docDef d.name d.params d.body d.scope pm cd doc) → s₁.heap.CodeRec cd d.name → mg d.name = some (.ref fa) →
      s₁.heap.get? a = some { cls := .type "list", data := .seq vs.toArray } → IntsAre vs ns → ns.length ≤ n → s₁.gens = #[] →
      codeAny (model l.prog w) callerA (.call (.ref fa) ⟨[.ref a], []⟩) (fun r s' => r = .ok (.ret (.bool true)) ∧ OldK s₁.heap s'.heap ∧ s'.os = s₁.os ∧ AllBare s'.gens) s₁) :
    WalkO q loose XP YP l.row.toRowW d [] (fun f vs => PySem.call f vs) := by
  intro w s₀ s₁ mg mb G Y fa o pm cd doc dV kV ho hd hcd hD hmg hg args vals as hpre hlay hrd hwl hlo
  obtain rfl : dV = .none := Dflts.none hD hdf
  obtain rfl : kV = .none := Dflts.noKw hD
  obtain ⟨a, vs, ns, rfl, rfl, hobj, hints, hlen⟩ := script_of hn hpre hwl
  refine enter_call (codeAny_mono (call w s₀ s₁ mg mb fa o pm cd doc a vs ns G Y ho (fd_plain hd) hcd hmg hobj hints hlen hg) fun r s' hq => ?_)
  obtain ⟨rfl, h2, h3, h4⟩ := hq
  exact ⟨.inl ⟨.bool true, .bool true, [], rfl, fun _ => rfl, .bool true, post_true l _, fun _ => ⟨List.Pairwise.nil, fun _ hm => (nomatch hm)⟩⟩, h2, h3, h4⟩

/-! ### rules over ANY heap (no ledger) from facts about the written part K: the library's own take a ledger (News) for what they write -/
section
variable {prog : Program} {w : World} {A : Around} {E : Value → Shared → Prop} {s : Shared} {K : Frag}

/-! the whole heap as the ledger: makes every rule that writes through a ledger a rule over any heap -/
def noObjs (h : Heap) : Heap := { h with objs := #[] }
def ledger (h : Heap) (L d : Addr) : List (Addr × Obj) := (List.range h.objs.size).filterMap fun a => if a = L ∨ a = d then none else (h.get? a).map fun o => (a, o)
end
end Att

namespace L2
open PySem PySem.Spec PyProof.Rows

theorem vals_ints : ∀ {vs : List Value} {ns : List Int}, IntsAre vs ns → Vals (ns.map V.int) vs
  | _, _, .nil => .nil
  | _, _, .cons n t h => .cons ⟨t, rfl⟩ (vals_ints h)

/-- nothing is tracked but the script, known to the object (or it is an object of the module) -/
def Only (H : Hp) : Prop := ∀ b, H b = none ∨ ∃ o xs, H b = some (.frz o (.lst xs))

/-- THE HEAD: the law's promise, at the heap behind the top. F, the promise of the law's def, may use that base is part of the heap (so K.In base, base.Ns mainGlobals mg stand in Mod) -/
theorem law_call {P : Program} {w : World} {K : PySem.W.Frag} {mg mb : Str → Option Value} {CX : CXT} {k : Nat} {fa a : Addr} {fd : FuncData} {x : Str} {sp : Sp} {s₁ : Shared} {vs : List Value} {ns : List Int}
    (KX : K.In s₁.heap) (hns : s₁.heap.Ns mainGlobals mg) (hb : s₁.heap.Ns builtinsNs mb) (hbb : ∀ x : Str, x ≠ "__name__" → mb x = bootBuiltins x) (hlim : s₁.heap.NoLimit) (hg : s₁.gens = #[])
    (ha : s₁.heap.get? a = some { cls := .type "list", data := .seq vs.toArray }) (hi : IntsAre vs ns) (hl : ns.length ≤ sizeLine) (hr : Room k callerA)
    (F : ∀ base : Heap, K.In base → base.Ns mainGlobals mg → FnOk P w K mg base CX k fa fd [x] sp) (hbind : ∀ (s : Shared) (u : Value), BindsTo s fd ⟨[u], []⟩ [(x, u)])
    (hsp : ∀ H : Hp, Only H → SqL K H a (ns.map V.int) → sp [.ref a] H (fun v _ => v = .bl true) fun _ _ _ => False)
    (hCX : ∀ H e s', CX [] H s₁ (fun _ _ _ => False) e s' → False) :
    codeAny (model P w) callerA (.call (.ref fa) ⟨[.ref a], []⟩) (fun r s' => r = .ok (.ret (.bool true)) ∧ OldK s₁.heap s'.heap ∧ s'.os = s₁.os ∧ AllBare s'.gens) s₁ := by
  have rv := vals_ints hi
  have lenV := hi.length
  -- from an abstract heap in which nothing but the script may be tracked
  have core : ∀ H : Hp, Only H → SqL K H a (ns.map V.int) → HOk P w H s₁.heap → (∀ b, H b ≠ none → b = a) → (H a ≠ none → K.lookup a = none) →
      codeAny (model P w) callerA (.call (.ref fa) ⟨[.ref a], []⟩) (fun r s' => r = .ok (.ret (.bool true)) ∧ OldK s₁.heap s'.heap ∧ s'.os = s₁.os ∧ AllBare s'.gens) s₁ := by
    intro H hO hS hok hA hK
    have base_of : ∀ {b : Addr} {o : Obj}, s₁.heap.get? b = some o → H b = none → (hidT s₁.heap H).get? b = some o := fun e n => hidT_get e n
    have noA : ∀ {b : Addr} {o : Obj} {es : Array DictEntry} {ep : Nat}, s₁.heap.get? b = some o → o.data = .dict es ep → H b = none := fun {b o es ep} e d => by
      cases q : H b with
      | none => rfl
      | some u =>
        have e' : b = a := hA b (by rw [q]; simp)
        subst e'
        rw [ha] at e; cases e
        have d' : Data.seq vs.toArray _ = Data.dict es ep := d
        cases d'
    have nsK : ∀ {b : Addr} {m : Str → Option Value}, s₁.heap.Ns b m → (hidT s₁.heap H).Ns b m := fun {b m} ⟨o, es, ep, e, d, r⟩ => ⟨o, es, ep, base_of e (noA e d), d, r⟩
    have hKb : K.In (hidT s₁.heap H) := fun b o e => base_of (KX b o e) (by
      cases q : H b with
      | none => rfl
      | some u =>
        have e' : b = a := hA b (by rw [q]; simp)
        subst e'
        rw [hK (by rw [q]; simp)] at e; cases e)
    have hM : Mod K mg (hidT s₁.heap H) := ⟨hKb, nsK hns, ⟨mb, nsK hb, hbb⟩, let ⟨mc, h1, h2⟩ := hlim; ⟨mc, nsK h1, h2⟩⟩
    have e0 : Env0 P w K mg (hidT s₁.heap H) callerA [] s₁ H := ⟨rfl, hM, fun b o e => of_hidT e, Nat.le_of_eq (hidT_size _ _), trivial, fun b hb => absurd (show b ∈ ([] : List Addr) from hb) (by simp), hok, .of_eq hg⟩
    refine codeAny_mono ((F _ hKb (nsK hns)).run callerA [] s₁ H ⟨[.ref a], []⟩ [.ref a] [.ref a] _ _ hr e0 (hbind s₁ (.ref a)) (.cons rfl .nil) (hsp H hO hS)) fun r s' h => ?_
    cases r with
    | error e => exact (hCX H e s' h).elim
    | ok fl =>
      cases fl with
      | next => exact False.elim h
      | brk => exact False.elim h
      | cont => exact False.elim h
      | ret u =>
        obtain ⟨v, H', os, bare, un, hok', r', q⟩ := h
        have q' : v = .bl true := q
        subst q'
        obtain rfl : u = Value.bool true := r'
        refine ⟨rfl, OldK.of_keep fun b o e => ?_, os, bare⟩
        cases q : H b with
        | none => exact un.keep b o e q (by intro z; exact absurd (show b ∈ ([] : List Addr) from z) (by simp)) (by simp)
        | some u =>
          rcases hO b with z | ⟨ob, xs, z⟩
          · rw [q] at z; cases z
          · have z2 := un.frzs b ob _ z
            obtain ⟨e1, _⟩ := hok b _ z
            obtain ⟨e2, _⟩ := hok' b _ z2
            rw [e] at e1; cases e1
            exact e2
  cases hk : K.lookup a with
  | some o =>
    -- the script is one of the module's own objects
    have e := KX a o hk
    rw [ha] at e
    cases e
    refine core (fun _ => none) (fun _ => .inl rfl) (.inr ⟨_, vs.toArray, _, hk, rfl, rfl, rfl, by rw [List.size_toArray, lenV]; exact hl, by simpa using rv⟩) (fun b u z => by have z' : (none : Option HO) = some u := z; cases z') (fun b z => absurd rfl z) fun z => absurd rfl z
  | none =>
    refine core (fun b => if b = a then some (.frz { cls := .type "list", data := .seq vs.toArray } (.lst (ns.map V.int))) else none) (fun b => ?_) (.inl (.inr ⟨{ cls := .type "list", data := .seq vs.toArray }, if_pos rfl⟩)) (fun b u z => ?_) (fun b z => ?_) fun _ => hk
    · by_cases hb : b = a
      · exact .inr ⟨_, _, if_pos hb⟩
      · exact .inl (if_neg hb)
    · by_cases hb : b = a
      · have z' := (if_pos hb).symm.trans z
        cases z'
        subst hb
        exact ⟨ha, by rw [List.length_map]; exact hl, vs, _, rv, ha⟩
      · have z' := (if_neg hb).symm.trans z
        cases z'
    · by_cases hb : b = a
      · exact hb
      · exact absurd (if_neg hb) z
end L2

namespace L2
open PySem PySem.Spec PyProof.Rows

abbrev KOf {K : PySem.W.Frag} {h : Heap} (_ : K.In h) : PySem.W.Frag := K

/-- the goal that k_head leaves (case hc), from the law's promise. F gives the function object fd (K's own) once, then the promise over every base -/
theorem walk_of {l : PySem.W.OpenLaw} {n k : Nat} {q : Program} {loose : List Str} {XP : (Str → Option Value) → Heap → Prop} {YP : World → Heap → Prop} {d : DefRec} {K : Params → PySem.W.Frag} {CX : World → CXT} {sp : World → Sp} {x : Str}
    (hn : l.most = some n) (hn2 : n ≤ sizeLine) (hdf : d.params.defaults = []) (hr : Room k callerA)
    (hY : ∀ (w : World) (h : Heap), YP w h → (K w.params).In h)
    (F : ∀ (w : World) (mg : Str → Option Value) (fa : Addr) (h : Heap), (K w.params).In h → h.Ns mainGlobals mg → mg d.name = some (.ref fa) →
      ∃ fd : FuncData, (∀ (s : Shared) (u : Value), BindsTo s fd ⟨[u], []⟩ [(x, u)]) ∧
        ∀ base : Heap, (K w.params).In base → base.Ns mainGlobals mg → FnOk l.prog w (K w.params) mg base (CX w) k fa fd [x] (sp w))
    (hsp : ∀ (w : World) (H : Hp) (a : Addr) (ns : List Int), ns.length ≤ n → Only H → SqL (K w.params) H a (ns.map V.int) → sp w [.ref a] H (fun v _ => v = .bl true) fun _ _ _ => False)
    (hCX : ∀ (w : World) (H : Hp) (s : Shared) (e : Value) (s' : Shared), CX w [] H s (fun _ _ _ => False) e s' → False) :
    PySem.W.WalkO q loose XP YP l.row.toRowW d [] (fun f vs => PySem.call f vs) := by
  refine Att.attach_call hn hdf fun w s₀ s₁ mg mb fa o pm cd doc a vs ns G Y ho hd hcd hmg hobj hints hlen hg => ?_
  have KX := hY w _ Y
  obtain ⟨fd, hb, hF⟩ := F w mg fa _ KX G.T.g hmg
  exact law_call KX G.T.g G.T.b G.T.builtins G.T.nolimit hg hobj hints (Nat.le_trans hlen hn2) hr hF hb (fun H hO hS => hsp w H a ns hlen hO hS) fun H e s' => hCX w H s₁ e s'
end L2

/- THE LAST THEOREM (shape; LID, My.* are yours):
   My.Adr: a structure of the addresses that your layer names (classes, functions); My.Txt K t: a structure (Prop) of the equations over K;
   My.txt_mk : {K} {implicit addresses ..} (e1 : nsIn K mainGlobals "law" = some (some (.ref f))) (e2 : K.lookup f = some ⟨oc, od, .func (fnOf "law" "law" params body scope dV kV doc pm an cdv ct), sl⟩) (e3 : codeIn K cdv "law" = true) .. : ∃ t, My.Txt K t

set_option maxRecDepth 100000 in
set_option maxHeartbeats 0 in
theorem PySem.Challenge.cw_LID_holds : PySem.Challenge.rw_LID.Holds := by
  w_on; o_law; k_head; (case hw => w_witness2)
  k_fill
  refine L2.walk_of (l := PySem.Challenge.rw_LID) (n := 63) (k := 40) (x := "script") (CX := fun w => ..) (sp := fun _ => My.sp_law) rfl (by decide) rfl ⟨rfl, by decide, by decide⟩ (fun w h Y => PySem.W.kIn_of Y) ?F ?S ?C
  case F =>
    intro w mg fa h KX G hmg
    have T : ∃ t, My.Txt (L2.KOf KX) t := by
      dsimp only [L2.KOf]                          -- K must stand as «<heap const> w.params» for k_is
      refine' My.txt_mk ?e1 ?e2 ?e3 ..
      (case e1 => PySem.W.k_is)                    -- in the order: a name -> its address -> its object -> its parts
      (case e2 => PySem.W.k_is)
      ..
    obtain ⟨t, T⟩ := T
    have e0 := hmg.symm.trans (PySem.W.mg_of KX G T.law)
    cases e0                                       -- fa is the law's own address
    exact ⟨_, fun s u => .of_eq rfl, fun base kb nb => My.law_fn T kb nb⟩     -- if «.of_eq rfl» comes too early: refine' ⟨_, ?b, fun base kb nb => My.law_fn T kb nb⟩; exact fun s u => .of_eq rfl
  case S => exact fun w H a ns hl hO hS => ..
  case C => exact ..
(the tactic k_is has no namespace: write k_is) -/

/-! SHORT WORDS over the layer: a def of the text, its body, what a loop and a test want. -/
namespace L2
open PySem PySem.Spec PyProof.Rows

/-! ### the text by places -/
/-- the j-th statement of a class's body -/
def inClass (s : Stmt) (j : Nat) : Stmt := match s with
  | .ClassDef _ _ _ body _ _ _ _ _ _ _ => body.getD j (.Pass ⟨0, 0, 0, 0⟩)
  | _ => .Pass ⟨0, 0, 0, 0⟩
def defArgs (s : Stmt) : Arguments := match s with
  | .FunctionDef _ a _ _ _ _ _ _ _ _ => a
  | _ => { posonlyargs := [], args := [], vararg := none, kwonlyargs := [], kw_defaults := [], kwarg := none, defaults := [] }
def defBody (s : Stmt) : List Stmt := match s with
  | .FunctionDef _ _ b _ _ _ _ _ _ _ => b
  | _ => []
def defScope (s : Stmt) : Scope := match s with
  | .FunctionDef _ _ _ _ _ _ sc _ _ _ => sc
  | _ => { kind := .function, names := [], isGenerator := false, isCoroutine := false }

/-! ### no exception leaves a def -/
abbrev CX0 : CXT := fun _ _ _ _ _ _ => False
abbrev E0 : XK := fun _ _ _ => False
/-! ### a def (or method) of the text as it stands behind the top -/
structure Fun (K : PySem.W.Frag) (x qual : Str) (st : Stmt) (f : Addr) (fd : FuncData) : Prop where
  ex : ∃ (oc : Value) (od : Option Addr) (kV doc pm : Value) (an : Option Addr) (cdv ct : Value) (osl : Array (Option Value)),
    fd = PySem.W.fnOf x qual (defArgs st) (defBody st) (defScope st) .none kV doc pm an cdv ct ∧ K.lookup f = some ⟨oc, od, .func fd, osl⟩ ∧ PySem.W.codeIn K cdv qual = true
  kp : PySem.W.keepIn K (.ref f) = true
section
variable {P : Program} {w : World} {K : PySem.W.Frag} {mg : Str → Option Value} {base : Heap}
/-- THE RULE for a def: its body as a term of rules, and the reading of that term -/
theorem Fun.ok {x qual : Str} {st : Stmt} {f : Addr} {fd : FuncData} {N ps : List Str} {k : Nat} {sp : Sp} (F : Fun K x qual st f fd) (S : FnScope N ps (defScope st)) (len : ∀ vs H Q E, sp vs H Q E → vs.length = ps.length)
    (hbody : ∀ (cdv : Value) (A : Around) (outer : List Env) (s : Shared) (H : Hp) (vs : List V) (Q : VK) (E : XK), Room k (A.deeper (envOfC qual (defScope st) s.heap.objs.size f cdv)) → sp vs H Q E →
      ∃ t, PSs (cxOf CX0 P w K mg base N qual (defScope st) f cdv A outer s H E).nox (defBody st) t ∧ t { nx := fun _ H' => Q .non H', rt := Q } (start N vs) H) : FnOk P w K mg base CX0 (k + 1) f fd ps sp := by
  obtain ⟨oc, od, kV, doc, pm, an, cdv, ct, osl, rfl, lk, hcd⟩ := F.ex
  refine fn_of lk hcd S len fun A outer s H vs Q E hr hsp => ?_
  obtain ⟨t, h, q⟩ := hbody cdv A outer s H vs Q E hr hsp
  exact ⟨t, h.nox, q⟩
/-- how its arguments bind (no defaults): h is «fun _ _ _ _ _ _ us hl => match us, hl with | [_, _], _ => rfl», one _ a parameter -/
theorem Fun.binds {x qual : Str} {st : Stmt} {f : Addr} {fd : FuncData} {ps : List Str} (F : Fun K x qual st f fd)
    (h : ∀ (kV doc pm : Value) (an : Option Addr) (cdv ct : Value) (us : List Value), us.length = ps.length → bindArgs (PySem.W.fnOf x qual (defArgs st) (defBody st) (defScope st) .none kV doc pm an cdv ct) ⟨us, []⟩ = pure (ps.zip us)) : Binds K fd ps [] := by
  obtain ⟨oc, od, kV, doc, pm, an, cdv, ct, osl, rfl, lk, hcd⟩ := F.ex
  exact .all (h kV doc pm an cdv ct)
theorem fun_mk {x qual : Str} {st : Stmt} {f : Addr} {oc : Value} {od an : Option Addr} {osl : Array (Option Value)} {kV doc pm cdv ct : Value} (l : K.lookup f = some ⟨oc, od, .func (PySem.W.fnOf x qual (defArgs st) (defBody st) (defScope st) .none kV doc pm an cdv ct), osl⟩)
    (c : PySem.W.codeIn K cdv qual = true) (k : PySem.W.keepIn K (.ref f) = true) : Fun K x qual st f (PySem.W.fnOf x qual (defArgs st) (defBody st) (defScope st) .none kV doc pm an cdv ct) := ⟨⟨oc, od, kV, doc, pm, an, cdv, ct, osl, rfl, l, c⟩, k⟩
end
/-! ### expressions in short: the name that stands in the i-th slot -/
section
variable {X : Cx}
end

/-! ### tests -/
theorem iteF {A B : Prop} (h : B) : if false = true then A else B := by
  rw [if_neg Bool.false_ne_true]
  exact h
theorem iteT {A B : Prop} (h : A) : if true = true then A else B := by
  rw [if_pos rfl]
  exact h
/-! ### heaps -/
/-- all that was tracked is as it was -/
def Same (H H' : Hp) : Prop := ∀ b o, H b = some o → H' b = some o
theorem Same.refl (H : Hp) : Same H H := fun _ _ h => h
theorem Same.trans {H H1 H2 : Hp} (a : Same H H1) (b : Same H1 H2) : Same H H2 := fun c o h => b c o (a c o h)
theorem Same.free {H H' : Hp} (e : Same H H') {l : Addr} (h : H' l = Option.none) : H l = Option.none := by
  cases q : H l with
  | none => rfl
  | some o =>
    rw [e l o q] at h
    cases h
theorem Same.seq {K : PySem.W.Frag} {H H' : Hp} {a : Addr} {xs : List V} (e : Same H H') (h : SqL K H a xs) : SqL K H' a xs := by
  rcases h with (h | ⟨o, h⟩) | h
  · exact .inl (.inl (e _ _ h))
  · exact .inl (.inr ⟨o, e _ _ h⟩)
  · exact .inr h

end L2

end
section

set_option Elab.async false
set_option linter.all false
set_option maxRecDepth 100000
set_option maxHeartbeats 4000000

/-! A list comprehension of one clause, over the hand layer. -/
namespace L2
open PySem PySem.Spec PyProof.Rows

/-! ### the closure's cells -/
def freeCells (cells : List (Str × Addr)) : List (Str × NameKind) → List (Str × Addr) → List (Str × Addr)
  | [], acc => acc
  | (n, k) :: r, acc => if (k == NameKind.free) = true then freeCells cells r ((n, (cells.lookup n).getD 0) :: acc) else freeCells cells r acc

theorem freeCells_loop {env : Env} : ∀ (names : List (Str × NameKind)) (acc : List (Str × Addr)), (∀ y ∈ names, y.2 = NameKind.free → ∃ c, env.cells.lookup y.1 = some c) →
    (forIn names acc (fun (x : Str × NameKind) (cs : List (Str × Addr)) => (match x with | (name, kind) => if (kind == NameKind.free) = true then (do let a ← cellOf env name; pure (ForInStep.yield ((name, a) :: cs))) else pure (ForInStep.yield cs) : Sem (ForInStep (List (Str × Addr))))) : Sem (List (Str × Addr))) = pure (freeCells env.cells names acc)
  | [], acc, _ => rfl
  | (n, k) :: r, acc, h => by
    have hr : ∀ y ∈ r, y.2 = NameKind.free → ∃ c, env.cells.lookup y.1 = some c := fun y hy => h y (List.mem_cons_of_mem _ hy)
    rw [List.forIn_cons]
    by_cases hk : (k == NameKind.free) = true
    · obtain ⟨c, hc⟩ := h (n, k) List.mem_cons_self (beq_iff_eq.mp hk)
      have e1 : cellOf env n = pure c := by unfold cellOf; rw [hc]
      have e2 : freeCells env.cells ((n, k) :: r) acc = freeCells env.cells r ((n, c) :: acc) := by
        show (if (k == NameKind.free) = true then freeCells env.cells r ((n, (env.cells.lookup n).getD 0) :: acc) else freeCells env.cells r acc) = _
        rw [if_pos hk, hc]; rfl
      rw [e2, ← freeCells_loop r ((n, c) :: acc) hr]
      simp only [hk, if_true, e1]
      rfl
    · have e2 : freeCells env.cells ((n, k) :: r) acc = freeCells env.cells r acc := by
        show (if (k == NameKind.free) = true then freeCells env.cells r ((n, (env.cells.lookup n).getD 0) :: acc) else freeCells env.cells r acc) = _
        rw [if_neg hk]
      rw [e2, ← freeCells_loop r acc hr]
      simp only [hk, if_false]
      rfl
theorem closureFor_free {scope : Scope} {env : Env} (h : ∀ y ∈ scope.names, y.2 = NameKind.free → ∃ c, env.cells.lookup y.1 = some c) : closureFor scope env = pure (freeCells env.cells scope.names []) := by
  have q := freeCells_loop (env := env) scope.names [] h
  unfold closureFor
  first
    | exact (congrArg (fun t => (t >>= fun cs => pure cs)) q).trans rfl
    | (simp only [q]; rfl)

theorem mem_freeCells {cells : List (Str × Addr)} : ∀ {names : List (Str × NameKind)} {acc : List (Str × Addr)} {x : Str} {c : Addr}, (∀ y ∈ names, y.2 = NameKind.free → ∃ c, cells.lookup y.1 = some c) →
    (x, c) ∈ freeCells cells names acc → (x, c) ∈ acc ∨ (cells.lookup x = some c ∧ (x, NameKind.free) ∈ names)
  | [], acc, x, c, _, h => .inl h
  | (n, k) :: r, acc, x, c, hh, h => by
    have hr : ∀ y ∈ r, y.2 = NameKind.free → ∃ c, cells.lookup y.1 = some c := fun y hy => hh y (List.mem_cons_of_mem _ hy)
    unfold freeCells at h
    by_cases hk : (k == NameKind.free) = true
    · rw [if_pos hk] at h
      obtain ⟨c', hc⟩ := hh (n, k) List.mem_cons_self (beq_iff_eq.mp hk)
      rcases mem_freeCells hr h with z | ⟨z1, z2⟩
      · rcases List.mem_cons.mp z with z | z
        · cases z
          exact .inr ⟨by rw [hc]; rfl, by rw [← beq_iff_eq.mp hk]; exact List.mem_cons_self⟩
        · exact .inl z
      · exact .inr ⟨z1, List.mem_cons_of_mem _ z2⟩
    · rw [if_neg hk] at h
      rcases mem_freeCells hr h with z | ⟨z1, z2⟩
      · exact .inl z
      · exact .inr ⟨z1, List.mem_cons_of_mem _ z2⟩
theorem freeCells_acc {cells : List (Str × Addr)} : ∀ {names : List (Str × NameKind)} {acc : List (Str × Addr)} {y : Str × Addr}, y ∈ acc → y ∈ freeCells cells names acc
  | [], _, _, h => h
  | (n, k) :: r, acc, y, h => by
    unfold freeCells
    split
    · exact freeCells_acc (List.mem_cons_of_mem _ h)
    · exact freeCells_acc h
theorem freeCells_has {cells : List (Str × Addr)} : ∀ {names : List (Str × NameKind)} {acc : List (Str × Addr)} {x : Str} {c : Addr}, (x, NameKind.free) ∈ names → cells.lookup x = some c → (x, c) ∈ freeCells cells names acc
  | (n, k) :: r, acc, x, c, h, hc => by
    unfold freeCells
    rcases List.mem_cons.mp h with z | z
    · cases z
      rw [if_pos (show (NameKind.free == NameKind.free) = true from rfl), hc]
      exact freeCells_acc List.mem_cons_self
    · split
      · exact freeCells_has z hc
      · exact freeCells_has z hc

theorem cellsFrom_app : ∀ (names : List (Str × NameKind)) (n : Nat) (acc : List (Str × Addr)), cellsFrom n names acc = cellsFrom n names [] ++ acc
  | [], _, _ => rfl
  | (x, k) :: r, n, acc => by
    unfold cellsFrom
    split
    · rw [cellsFrom_app r (n + 1) ((x, n) :: acc), cellsFrom_app r (n + 1) [(x, n)], List.append_assoc]; rfl
    · exact cellsFrom_app r n acc
theorem mem_cellsFrom : ∀ {names : List (Str × NameKind)} {n : Nat} {x : Str} {c : Addr}, (x, c) ∈ cellsFrom n names [] → (x, NameKind.cell) ∈ names
  | [], _, _, _, h => nomatch h
  | (y, k) :: r, n, x, c, h => by
    unfold cellsFrom at h
    by_cases hk : (k == NameKind.cell) = true
    · rw [if_pos hk, cellsFrom_app] at h
      rcases List.mem_append.mp h with z | z
      · exact List.mem_cons_of_mem _ (mem_cellsFrom z)
      · have z' : (x, c) = (y, n) := by simpa using z
        cases z'
        rw [beq_iff_eq.mp hk]; exact List.mem_cons_self
    · rw [if_neg hk] at h
      exact List.mem_cons_of_mem _ (mem_cellsFrom h)
theorem lookup_app {α : Type} {x : Str} : ∀ {l r : List (Str × α)}, (l ++ r).lookup x = (l.lookup x).or (r.lookup x)
  | [], r => by simp
  | (y, v) :: l, r => by
    rw [List.cons_append, List.lookup_cons, List.lookup_cons]
    cases hb : x == y with
    | true => rfl
    | false => exact lookup_app
theorem lookup_none_of {α : Type} {x : Str} : ∀ {l : List (Str × α)}, (∀ c, (x, c) ∉ l) → l.lookup x = none
  | [], _ => rfl
  | (y, v) :: l, h => by
    rw [List.lookup_cons]
    cases hb : x == y with
    | true => exact absurd (by rw [beq_iff_eq.mp hb]; exact List.mem_cons_self) (h v)
    | false => exact lookup_none_of fun c hc => h c (List.mem_cons_of_mem _ hc)
theorem lookup_some_of {α : Type} {x : Str} : ∀ {l : List (Str × α)} {c : α}, (x, c) ∈ l → ∃ c', l.lookup x = some c'
  | (y, v) :: l, c, h => by
    rw [List.lookup_cons]
    cases hb : x == y with
    | true => exact ⟨v, rfl⟩
    | false =>
      rcases List.mem_cons.mp h with z | z
      · cases z; rw [beq_self_eq_true] at hb; cases hb
      · exact lookup_some_of z
theorem lookup_of_nodup {α : Type} {x : Str} : ∀ {l : List (Str × α)} {c : α}, (l.map (·.1)).Nodup → (x, c) ∈ l → l.lookup x = some c
  | (y, v) :: l, c, nd, h => by
    rw [List.lookup_cons]
    rw [List.map_cons] at nd
    have nd' := List.nodup_cons.mp nd
    rcases List.mem_cons.mp h with z | z
    · cases z; rw [beq_self_eq_true]
    · have : x ≠ y := fun e => nd'.1 (by rw [← e]; exact List.mem_map.mpr ⟨_, z, rfl⟩)
      rw [beq_eq_false_iff_ne.mpr this]
      exact lookup_of_nodup nd'.2 z

theorem lookup_relabel {scope : Scope} {env : Env} {x : Str} : (relabel scope env).names.lookup x = (scope.names.lookup x).map fun k => if (k == NameKind.free && env.scope.kind == .function && env.kindOf x == some .cell) = true then NameKind.cell else k := by
  unfold relabel
  show (scope.names.map _).lookup x = _
  generalize scope.names = l
  induction l with
  | nil => rfl
  | cons y r ih =>
    obtain ⟨n, k⟩ := y
    rw [List.map_cons]
    show List.lookup x ((if (k == NameKind.free && env.scope.kind == .function && env.kindOf n == some .cell) = true then (n, NameKind.cell) else (n, k)) :: _) = _
    have e : (if (k == NameKind.free && env.scope.kind == .function && env.kindOf n == some .cell) = true then (n, NameKind.cell) else (n, k)) = (n, if (k == NameKind.free && env.scope.kind == .function && env.kindOf n == some .cell) = true then NameKind.cell else k) := by split <;> rfl
    rw [e, List.lookup_cons, List.lookup_cons]
    cases hb : x == n with
    | true => rw [beq_iff_eq.mp hb]; rfl
    | false => exact ih

/-! ### the block's own environment -/
theorem newEnv_comp {M : Model} {A : Around} {E : Value → Shared → Prop} {s : Shared} {scope : Scope} {g : Addr} {cl : List (Str × Addr)} {q : Str} {env : Env} {Q : Env → Shared → Prop}
    (hQ : Q (newEnv scope s.heap.objs.size g (cellsFrom (s.heap.objs.size + 1) scope.names cl) q none .none (some env) builtinsNs) { s with heap := pushCells (s.heap.push { cls := .type "dict", data := .dict #[] }) scope.names }) :
    wpAny M A (newFunctionEnv scope g cl [] q none .none (some env)) Q E s := by
  simp only [newFunctionEnv, Option.isSome_some, if_true]
  refine wpAny_bind (wpAny_alloc ?_)
  refine wpAny_bind (wpAny_layCells _ (fun name kind cells => by cases hkc : kind == NameKind.cell <;> simp [hkc]) _ _ _ _ ?_)
  rw [show ({ s with heap := s.heap.push { cls := .type "dict", data := .dict #[] } } : Shared).heap.objs.size = s.heap.objs.size + 1 from Heap.size_push ..]
  exact wpAny_bind (wpAny_pure (wpAny_pure hQ))

/-- the loop's turns, whatever the target -/
theorem compLoop_any {prog : Program} {w : World} {A : Around} {R : Result → Shared → Prop} {s : Shared} {elt target iter : Expr} {ifs : List Expr} {scope : Scope} {pos : Pos} {it acc : Value} {env : Env} (I : Nat → Shared → Prop)
    (turn : ∀ n s, I n s → wpAny (model prog w) A (pyNext it) (fun r s₁ => match r with
      | none => R (.ok .next) s₁
      | some v => wpAny (model prog w) A (letOwnedTupleGo target it v) (fun _ s₁' => wpAny (model prog w) A (assign target env v) (fun _ s₂ =>
          wpAny (model prog w) A (forIn ifs true fun c r => if r = true then do let ok ← isTrue c env (eval c env); pure (ForInStep.yield ok) else pure (ForInStep.yield r)) (fun ok s₃ =>
            if ok = true then wpAny (model prog w) A (eval elt env) (fun x s₄ =>
              wpAny (model prog w) A (call (.builtin "list.append") [acc, x]) (fun _ s₅ => ∃ m, m < n ∧ I m s₅) (notedBy (model prog w) A env fun e s' => R (.error e) s') s₄) (notedBy (model prog w) A env fun e s' => R (.error e) s') s₃
            else ∃ m, m < n ∧ I m s₃) (notedBy (model prog w) A env fun e s' => R (.error e) s') s₂) (notedBy (model prog w) A env fun e s' => R (.error e) s') s₁') (notedBy (model prog w) A env fun e s' => R (.error e) s') s₁) (notedBy (model prog w) A env fun e s' => R (.error e) s') s)
    (n : Nat) (h : I n s) :
    codeAny (model prog w) A (.compLoop (.ListComp elt [⟨target, iter, ifs, 0⟩] scope pos) 0 it acc env) R s := by
  refine codeAny_loop rfl I (fun n s hI => ?_) n h
  show wpAny _ A ((compTurn (.ListComp elt [⟨target, iter, ifs, 0⟩] scope pos) 0 it acc env).onRaise (fun x => do noteFrame x env; theTreesLotGoes x)) _ _ s
  refine wpAny_noted ?_
  rw [compTurn_list]
  refine wpAny_bind (wpAny_standAt (wpAny_bind (wpAny_mono (turn n s hI) (fun r s₁ h₁ => ?_) fun _ _ h' => h')))
  cases r with
  | none => exact wpAny_pure h₁
  | some v =>
    refine wpAny_bind (wpAny_mono h₁ (fun _ s₁' h₁' => ?_) fun _ _ h' => h')
    refine wpAny_bind (wpAny_mono h₁' (fun _ s₂ h₂ => wpAny_bind (wpAny_mono h₂ (fun ok s₃ h₃ => ?_) fun _ _ h' => h')) fun _ _ h' => h')
    cases ok with
    | false => exact wpAny_pure ⟨rfl, h₃⟩
    | true =>
      exact wpAny_bind (wpAny_bind (wpAny_mono h₃ (fun x s₄ h₄ => wpAny_bind (wpAny_mono h₄ (fun _ s₅ h₅ => wpAny_pure (wpAny_pure ⟨rfl, h₅⟩)) fun _ _ h' => h')) fun _ _ h' => h'))

/-! ### tracking what was hidden -/
theorem HOk.track {P : Program} {w : World} {H : Hp} {h : Heap} {a : Addr} {o : HO} (x : HOk P w H h) (hn : H a = none) (new : ObjOk P w (upd H a o) h a o) : HOk P w (upd H a o) h := fun b u e => by
  by_cases hb : b = a
  · subst hb; rw [upd_same] at e; cases e; exact new
  · rw [upd_ne hb] at e
    exact (x b u e).stay (fun c v _ q => q) (fun c q => by rw [upd_ne (ne_of_none q hn)]; exact q) fun c xs q => by rw [upd_ne (ne_of_none q hn)]; exact q
theorem Un.track {fs ex : List Addr} {H H' : Hp} {h h' : Heap} {a : Addr} {o : HO} (u : Un fs ex H H' h h') (hn : H' a = none) (hh : h.get? a = none) : Un fs ex H (upd H' a o) h h' where
  keep := u.keep
  slot := u.slot
  free := fun b ob q n hx => by
    have : b ≠ a := fun z => by rw [z, hh] at q; cases q
    rw [upd_ne this]; exact u.free b ob q n hx
  there := u.there
  tups := fun b xs q => by have z := u.tups b xs q; rw [upd_ne (ne_of_none z hn)]; exact z
  frzs := fun b ob xs q => by have z := u.frzs b ob xs q; rw [upd_ne (ne_of_none z hn)]; exact z
  tbls := fun b ps q => by
    obtain ⟨m, z⟩ := u.tbls b ps q
    exact ⟨m, by rw [upd_ne (ne_of_none z hn)]; exact z⟩

/-! ### the block's context -/
/-- the block's names N', where the free ones stand in the def's own slots -/
structure CompScope (N N' : List Str) (sc osc : Scope) (fr : List (Option Nat)) : Prop where
  kind : sc.kind = .function
  nd : N'.Nodup
  snd : (sc.names.map (·.1)).Nodup
  len : fr.length = N'.length
  fre : ∀ (j i : Nat), fr[j]? = some (some i) → ∃ x, N'[j]? = some x ∧ N[i]? = some x ∧ (x, NameKind.free) ∈ sc.names
  out : ∀ y ∈ sc.names, y.2 = NameKind.free → osc.names.lookup y.1 = some .cell ∨ osc.names.lookup y.1 = some .free
/-- the values of the free names at the block's entry -/
def inner (fr : List (Option Nat)) (σ : St) : St := fr.map fun o => o.bind fun i => (σ[i]?).join

def cxComp (X : Cx) (scope : Scope) (N' : List Str) (C : Addr) (cells : List (Str × Addr)) (s₂ : Shared) (H₂ : Hp) (fp : List Addr) : Cx :=
  { X with N := N', s₀ := s₂, H₀ := H₂, env := compEnvC scope cells C X.env, outer := X.stack, stack := X.stack, ex := fp, fn := fun x => scope.names.lookup x == some .cell, pn := [], xe := fun _ _ => False }


section
variable {X : Cx} {pins : List (Addr × Obj)} {σ : St} {H : Hp} {s₂ : Shared} {N' : List Str} {scope : Scope} {fr : List (Option Nat)} {fp : List Addr}
abbrev emptyL : Obj := { cls := .type "list", dict := none, data := .seq ([] : List Value).toArray }
abbrev emptyD : Obj := { cls := .type "dict", data := .dict #[] }
theorem inv_comp (S : CompScope X.N N' scope X.env.scope fr) (I : Inv X pins σ H s₂) (f : ∀ b ∈ fp, FpOk X pins H b) (ho : ∀ b ∈ fp, @LT.lt Nat _ b s₂.heap.objs.size) {C : Nat} (hC : C = s₂.heap.objs.size + 1) {h4 : Heap} (h4e : h4 = pushCells ((s₂.heap.push emptyL).push emptyD) scope.names) :
    Inv (cxComp X scope N' C (cellsFrom (C + 1) scope.names (freeCells X.env.cells scope.names [])) s₂ H fp) [] (inner fr σ) H { s₂ with heap := h4 } ∧ h4.get? s₂.heap.objs.size = some emptyL ∧ (∀ b o, s₂.heap.get? b = some o → h4.get? b = some o) := by
  have hsz1 : (s₂.heap.push emptyL).objs.size = s₂.heap.objs.size + 1 := Heap.size_push ..
  have hsz2 : ((s₂.heap.push emptyL).push emptyD).objs.size = C + 1 := by rw [Heap.size_push, hsz1, hC]
  have keep : ∀ b o, s₂.heap.get? b = some o → h4.get? b = some o := fun b o e => by rw [h4e]; exact pushCells_keeps _ _ b o (Heap.get?_push_of_some _ (Heap.get?_push_of_some _ e))
  have hD : h4.get? s₂.heap.objs.size = some emptyL := by rw [h4e]; exact pushCells_keeps _ _ _ _ (Heap.get?_push_of_some _ (Heap.get?_push_size _ rfl))
  have hns : h4.Ns C fun _ => none := by
    have q := (Heap.Ns.new (s₂.heap.push emptyL) (.type "dict")).keeps (pushCells_keeps scope.names _)
    rw [hsz1, ← hC] at q
    rw [h4e]; exact q
  have ok := cellsFrom_ok scope.names ((s₂.heap.push emptyL).push emptyD) (C + 1) [] ⟨fun _ _ hm => (nomatch hm), List.Pairwise.nil⟩ (by rw [hsz2]; exact Nat.le_refl _)
  rw [hsz2, ← h4e] at ok
  have hfree : ∀ y ∈ scope.names, y.2 = NameKind.free → ∃ c, X.env.cells.lookup y.1 = some c := fun y hy hk => I.ok.has y.1 (S.out y hy hk)
  generalize hcl : freeCells X.env.cells scope.names [] = cl
  have memcl : ∀ {x : Str} {c : Addr}, (x, c) ∈ cl → X.env.cells.lookup x = some c ∧ (x, NameKind.free) ∈ scope.names := fun {x c} hm => by
    rw [← hcl] at hm
    rcases mem_freeCells hfree hm with z | z
    · exact nomatch z
    · exact z
  generalize hown : cellsFrom (C + 1) scope.names [] = own at ok
  have app : cellsFrom (C + 1) scope.names cl = own ++ cl := by rw [cellsFrom_app, hown]
  rw [app]
  have memown : ∀ {x : Str} {c : Addr}, (x, c) ∈ own → (x, NameKind.cell) ∈ scope.names := fun {x c} hm => by rw [← hown] at hm; exact mem_cellsFrom hm
  have L1 : ∀ x c, (own ++ cl).lookup x = some c → ((x, c) ∈ own) ∨ (X.env.cells.lookup x = some c ∧ (x, NameKind.free) ∈ scope.names ∧ own.lookup x = none) := fun x c e => by
    rw [lookup_app] at e
    cases q : own.lookup x with
    | some c' => rw [q] at e; cases e; exact .inl (PySem.mem_of_lookup q)
    | none => rw [q] at e; have z := memcl (PySem.mem_of_lookup (show cl.lookup x = some c from e)); exact .inr ⟨z.1, z.2, rfl⟩
  have own_ge : ∀ {x : Str} {c : Nat}, (x, c) ∈ own → @LE.le Nat _ (C + 1) c := fun {x c} hm => (ok.empty x c hm).2
  have cell_lt : ∀ {x : Str} {c : Nat}, X.env.cells.lookup x = some c → @LT.lt Nat _ c s₂.heap.objs.size := fun {x c} e => by
    obtain ⟨v, z⟩ := I.cell x c e
    exact z.lt
  have free_no : ∀ {x : Str}, (x, NameKind.free) ∈ scope.names → own.lookup x = none := fun {x} hm => by
    refine lookup_none_of fun c hc => ?_
    have a := lookup_of_nodup S.snd hm
    have b := lookup_of_nodup S.snd (memown hc)
    rw [a] at b; cases b
  have cl_get : ∀ {x : Str} {c : Addr}, (x, NameKind.free) ∈ scope.names → X.env.cells.lookup x = some c → (own ++ cl).lookup x = some c := fun {x c} hm hc => by
    rw [lookup_app, free_no hm]
    obtain ⟨c', e⟩ := lookup_some_of (l := cl) (by rw [← hcl]; exact freeCells_has hm hc)
    have z := (memcl (PySem.mem_of_lookup e)).1
    rw [hc] at z; cases z
    exact e
  have hX : (cxComp X scope N' C (own ++ cl) s₂ H fp).Ok := by
    refine ⟨I.ok.mod, S.kind, I.ok.glob, I.ok.blt, ?_, fun x y c h1 h2 => ?_, fun x hx => ?_, fun x c hf hc => ?_, I.ok.hd, I.ok.frames, .inl rfl, fun b hb => ⟨?_, fun x c e => ?_⟩, I.bs, Nat.le_trans I.ok.bsz I.sz, fun b o e hb => ?_, fun b hb hs => ?_, I.stack, I.stkFree⟩
    · show s₂.heap.objs.size ≤ C
      rw [hC]; exact Nat.le_succ _
    · have h1 : (own ++ cl).lookup x = some c := h1
      have h2 : (own ++ cl).lookup y = some c := h2
      rcases L1 x c h1 with a | ⟨a, _⟩ <;> rcases L1 y c h2 with b | ⟨b, _⟩
      · exact name_of_addr ok.apart a b
      · exfalso; have q1 := own_ge a; have q2 := cell_lt b; omega
      · exfalso; have q1 := own_ge b; have q2 := cell_lt a; omega
      · exact I.ok.inj x y c a b
    · have hx' : (relabel scope X.env).names.lookup x = some .cell ∨ (relabel scope X.env).names.lookup x = some .free := hx
      show ∃ c, (own ++ cl).lookup x = some c
      rw [lookup_relabel] at hx'
      cases q : scope.names.lookup x with
      | none => rw [q] at hx'; rcases hx' with z | z <;> cases z
      | some k =>
        have km := PySem.mem_of_lookup q
        by_cases k1 : k = .cell
        · subst k1
          have z := PySem.W.cellsFrom_some scope.names (C + 1) [] (.inl q)
          rw [hown] at z
          obtain ⟨c, z⟩ := Option.isSome_iff_exists.mp z
          exact ⟨c, by rw [lookup_app, z]; rfl⟩
        · by_cases k2 : k = .free
          · subst k2
            obtain ⟨c, e⟩ := hfree _ km rfl
            exact ⟨c, cl_get km e⟩
          · exfalso
            rw [q] at hx'
            have e0 : (k == NameKind.free) = false := beq_eq_false_iff_ne.mpr k2
            simp only [Option.map_some, e0, Bool.false_and] at hx'
            rcases hx' with z | z
            · exact k1 (by simpa using z)
            · exact k2 (by simpa using z)
    · have hf' : (scope.names.lookup x == some .cell) = true := hf
      have q : scope.names.lookup x = some .cell := by simpa using hf'
      have z := PySem.W.cellsFrom_some scope.names (C + 1) [] (.inl q)
      rw [hown] at z
      obtain ⟨c', z⟩ := Option.isSome_iff_exists.mp z
      have hc' : (own ++ cl).lookup x = some c := hc
      rw [lookup_app, z] at hc'
      have e : c' = c := Option.some.inj hc'
      subst e
      have := own_ge (PySem.mem_of_lookup z)
      show @LE.le Nat _ s₂.heap.objs.size c'
      omega
    · have := ho b hb
      show @Ne Nat b C
      omega
    · rcases L1 x c e with a | ⟨a, _⟩
      · have := own_ge a; have := ho b hb; show @Ne Nat c b; omega
      · exact (f b hb).2.2.2.2.1 x c a
    · rcases (f b hb).2.2.2.1 with z | z
      · exact I.ok.noex b o e z
      · exact absurd (Nat.lt_of_lt_of_le (Heap.lt_size e) (Nat.le_trans I.ok.bsz z)) (Nat.lt_irrefl _)
    · rcases List.mem_cons.mp (I.stkSub b hs) with z | z
      · exact (f b hb).2.1 z
      · exact (f b hb).2.2.1 z
  refine ⟨⟨hX, rfl, I.bare, Un.kept keep, ⟨_, hns, fun i x v e1 e2 e3 => ?_⟩, fun x c e => ?_, I.hok.fresh (by show @LE.le Nat _ s₂.heap.objs.size C; omega), fun x c e => ?_, fun p hp => absurd (show p ∈ ([] : List (Addr × Obj)) from hp) (by simp), I.hok.kept keep, ?_⟩, hD, keep⟩
  · have e1 : N'[i]? = some x := e1
    unfold inner at e2
    rw [List.getElem?_map] at e2
    cases q : fr[i]? with
    | none => rw [q] at e2; cases e2
    | some o =>
      rw [q] at e2
      cases o with
      | none => cases e2
      | some j =>
        have e2' : (σ[j]?).join = some v := Option.some.inj e2
        have hv : σ[j]? = some (some v) := by
          cases z : σ[j]? with
          | none => rw [z] at e2'; cases e2'
          | some o => rw [z] at e2'; rw [show o = some v from e2']
        obtain ⟨x', a1, a2, a3⟩ := S.fre i j q
        rw [e1] at a1; cases a1
        obtain ⟨m, hn, hl⟩ := I.loc
        have ko := S.out _ a3 rfl
        obtain ⟨u, r, l⟩ := hl j x v a2 hv (ko.elim (fun z => .inr (.inl z)) fun z => .inr (.inr z))
        rcases l with ⟨k, _⟩ | ⟨k, c, e, z⟩
        · have k' : X.env.scope.names.lookup x = some .local := k
          rcases ko with w | w <;> (rw [show X.env.scope.names.lookup x = _ from w] at k'; cases k')
        · refine ⟨u, r, .inr ⟨?_, c, cl_get a3 e, z.keeps keep⟩⟩
          show (relabel scope X.env).names.lookup x = some .cell ∨ (relabel scope X.env).names.lookup x = some .free
          rw [lookup_relabel, lookup_of_nodup S.snd a3]
          simp only [Option.map_some]
          split
          · exact .inl rfl
          · exact .inr rfl
  · rcases L1 x c e with a | ⟨a, _⟩
    · exact ⟨none, (ok.empty x c a).1⟩
    · obtain ⟨v, z⟩ := I.cell x c a
      exact ⟨v, z.keeps keep⟩
  · rcases L1 x c e with a | ⟨a, _⟩
    · exact I.hok.fresh (by have := own_ge a; show @LE.le Nat _ s₂.heap.objs.size c; omega)
    · exact I.freeC x c a
  · show (inner fr σ).length = N'.length
    unfold inner
    rw [List.length_map, S.len]
end

/-! ### the block's tests -/
def PTs (X : Cx) (ifs : List Expr) (t : TT) : Prop :=
  ∀ (pins : List (Addr × Obj)) (s : Shared) (σ : St) (H : Hp) (Q : Bool → Hp → Prop), Inv X pins σ H s → t σ H Q →
    wpAny (model X.prog X.w) X.A (forIn ifs true fun c r => if r = true then do let ok ← isTrue c X.env (eval c X.env); pure (ForInStep.yield ok) else pure (ForInStep.yield r)) (TP X pins σ Q) X.xe s
def tYes : TT := fun _ H Q => Q true H
theorem pts_nil {X : Cx} : PTs X [] tYes := fun _ _ _ H _ I h => wpAny_tests_nil ⟨H, I, h⟩
theorem pts_one {X : Cx} {c : Expr} {t : TT} (h : PT X c t) : PTs X [c] t := fun pins s σ H Q I hq => wpAny_tests_one (h pins s σ H Q I hq)

/-- the block's turns: ys what it has so far -/
def CompW (J : It) (g : TG) (tc : TT) (te : TE) (Fin : List V → Hp → Prop) (σ : St) (H : Hp) : Prop :=
  ∃ W : Nat → Nat → List V → St → Hp → Prop, (∃ m, W 0 m [] σ H) ∧ ∀ i m ys σ H, W i m ys σ H →
    (J.stop i H ∧ Fin ys H) ∨ (J.go i H ∧ ys.length < sizeLine ∧ ∀ x H', J.yld i H x H' → g x σ H' fun σ2 H2 => tc σ2 H2 fun b H3 =>
      if b = true then te σ2 H3 fun y H4 => ∃ m', m' < m ∧ W (i + 1) m' (ys ++ [y]) σ2 H4 else ∃ m', m' < m ∧ W (i + 1) m' ys σ2 H3)

theorem Vals.snoc {xs : List V} {us : List Value} {x : V} {u : Value} (r : Vals xs us) (q : RelV x u) : Vals (xs ++ [x]) (us ++ [u]) := r.append (.cons q .nil)

theorem comp_run {X : Cx} {pins : List (Addr × Obj)} {σ : St} {H : Hp} {s₂ : Shared} {N' : List Str} {scope : Scope} {fr : List (Option Nat)} {fp : List Addr} {iter elt tg : Expr} {ifs : List Expr} {pos : Pos} {g : TG} {te : TE} {tc : TT} {it : Addr} {tn : Nat → Heap → Prop} {J : It}
    {E : Value → Shared → Prop} {Fin : List V → Hp → Prop} {RR : Value → Addr → Result → Shared → Prop}
    (S : CompScope X.N N' scope X.env.scope fr) (hc : X.calm = true)
    (hg : ∀ C cells s₂ H₂ fp, PG (cxComp X scope N' C cells s₂ H₂ fp) tg g) (ht : ∀ C cells s₂ H₂ fp, PTs (cxComp X scope N' C cells s₂ H₂ fp) ifs tc) (he : ∀ C cells s₂ H₂ fp, PE (cxComp X scope N' C cells s₂ H₂ fp) elt te)
    (I : Inv X pins σ H s₂) (T : Turn X.prog X.w X.K tg J fp it tn) (st : tn 0 s₂.heap) (f : ∀ b ∈ fp, FpOk X pins H b) (h : CompW J g tc te Fin (inner fr σ) H)
    (hRR : ∀ D C H' s' m ys, Inv X pins σ (upd H' D (.lst ys)) s' → H' D = none → s'.heap.Ns C m → upd H' D (.lst ys) C = none → C ≠ X.env.locals → X.s₀.heap.objs.size ≤ C → (∀ x c, X.env.cells.lookup x = some c → c ≠ C) → (∀ p ∈ X.pn ++ pins, p.1 ≠ C) → Fin ys H' → RR (.ref D) C (.ok .next) s') :
    wpAny (model X.prog X.w) X.A (newList []) (fun acc s₃ => wpAny (model X.prog X.w) X.A (newFunctionEnv scope X.env.globals (freeCells X.env.cells scope.names []) [] X.env.qual none .none (some X.env)) (fun cenv s₄ =>
      codeAny (model X.prog X.w) X.A (.compStart (.ListComp elt [⟨tg, iter, ifs, 0⟩] scope pos) 0 (.ref it) acc { cenv with scope := relabel scope X.env }) (RR acc cenv.locals) s₄) E s₃) E s₂ := by
  have ho : ∀ b ∈ fp, b < s₂.heap.objs.size := fun b hb => by
    obtain ⟨o, e, _⟩ := T.obj _ _ st b hb
    exact Heap.lt_size e
  refine wpAny_newObj_type (newEnv_comp ?_)
  have hsz1 : (s₂.heap.push emptyL).objs.size = s₂.heap.objs.size + 1 := Heap.size_push ..
  obtain ⟨I4, hD4, keep⟩ := inv_comp (C := s₂.heap.objs.size + 1) S I f ho rfl rfl
  show codeAny _ _ (.compStart _ 0 (.ref it) (.ref s₂.heap.objs.size) (compEnvC scope (cellsFrom ((s₂.heap.push emptyL).objs.size + 1) scope.names (freeCells X.env.cells scope.names [])) (s₂.heap.push emptyL).objs.size X.env)) (RR (.ref s₂.heap.objs.size) (s₂.heap.push emptyL).objs.size) { s₂ with heap := pushCells ((s₂.heap.push emptyL).push emptyD) scope.names }
  rw [hsz1]
  generalize hDe : s₂.heap.objs.size = D at *
  generalize cellsFrom (D + 1 + 1) scope.names (freeCells X.env.cells scope.names []) = cells at *
  generalize pushCells ((s₂.heap.push emptyL).push emptyD) scope.names = h4 at *
  have hfp : ∀ {pins' : List (Addr × Obj)} {H' : Hp}, (∀ b ∈ fp, H' b = none) → (∀ p ∈ pins', p.1 = D) → ∀ b ∈ fp, FpOk (cxComp X scope N' (D + 1) cells s₂ H fp) pins' H' b := fun {pins' H'} hn hp b hb =>
    ⟨hn b hb, (I4.ok.exf b hb).1, I4.ok.exfs b hb, .inl hb, (I4.ok.exf b hb).2, fun p hp' z => by
      have hp' : p ∈ ([] : List (Addr × Obj)) ++ pins' := hp'
      rw [List.nil_append] at hp'
      have := ho b hb
      rw [← z, hp p hp'] at this
      exact Nat.lt_irrefl _ this⟩
  obtain ⟨W, ⟨m0, w0⟩, turn⟩ := h
  have hDC : D ≠ (cxComp X scope N' (D + 1) cells s₂ H fp).env.locals := by show D ≠ D + 1; omega
  have hDcell : ∀ x c, (cxComp X scope N' (D + 1) cells s₂ H fp).env.cells.lookup x = some c → c ≠ D := fun x c e z => by
    obtain ⟨v, o, hoc, hd⟩ := I4.cell x c e
    have q : h4.get? D = some o := by rw [← z]; exact hoc
    rw [hD4] at q; cases q; cases hd
  have hDfs : D ∉ (cxComp X scope N' (D + 1) cells s₂ H fp).fs := fun z => by
    obtain ⟨_, o, ho', _⟩ := I4.ok.funs.mem z
    have := Heap.lt_size ho'
    have e : s₂.heap.objs.size = D := hDe
    exact absurd this (by show ¬ D < s₂.heap.objs.size; omega)
  have loop : codeAny (model X.prog X.w) X.A (.compLoop (.ListComp elt [⟨tg, iter, ifs, 0⟩] scope pos) 0 (.ref it) (.ref D) (compEnvC scope cells (D + 1) X.env)) (RR (.ref D) (D + 1)) { s₂ with heap := h4 } := by
    refine compLoop_any (fun n s' => ∃ i ys its k σ' H', Inv (cxComp X scope N' (D + 1) cells s₂ H fp) [] σ' H' s' ∧ tn i s'.heap ∧ (∀ b ∈ fp, H' b = none) ∧ H' D = none ∧
      s'.heap.get? D = some { cls := .type "list", data := .seq (its : List Value).toArray k } ∧ Vals ys its ∧ ys.length ≤ sizeLine ∧ W i n ys σ' H') ?_ m0
      ⟨0, [], [], _, _, H, I4, T.keep _ _ _ st fun b _ o e => keep b o e, fun b hb => (f b hb).1, I.hok.fresh (by omega), hD4, .nil, Nat.zero_le _, w0⟩
    rintro n s3 ⟨i, ys, its, k, σ3, H3, I3, st3, fr3, hD3, oD3, rv, hl, w3⟩
    have I3p : Inv (cxComp X scope N' (D + 1) cells s₂ H fp) [(D, { cls := .type "list", data := .seq its.toArray k })] σ3 H3 s3 := I3.pins_of fun p hp => by
      have e : p = (D, { cls := .type "list", data := .seq its.toArray k }) := by simpa using hp
      subst e
      exact ⟨oD3, hD3, hDC, hDfs, fun v z => by cases z⟩
    have pinD : ∀ p ∈ [((D : Addr), ({ cls := .type "list", data := .seq its.toArray k } : Obj))], p.1 = D := fun p hp => by
      have e : p = (D, { cls := .type "list", data := .seq its.toArray k }) := by simpa using hp
      subst e; rfl
    rcases turn i n ys σ3 H3 w3 with ⟨stop, fin⟩ | ⟨go, hlt, step⟩
    · refine thn (T.done (cxComp X scope N' (D + 1) cells s₂ H fp) rfl rfl rfl hc i _ s3 σ3 H3 _ I3p (hfp fr3 pinD) st3 stop) fun r s4 ⟨hr, I4'⟩ => ?_
      subst hr
      have oD := (I4'.pin (D, _) (List.mem_append_right _ List.mem_cons_self)).1
      have un : Un (frs X.stack) fp H H3 s₂.heap s4.heap := I4'.base
      have hn : s₂.heap.get? D = none := Heap.get?_none_of_le (by rw [hDe]; exact Nat.le_refl _)
      obtain ⟨mC, hnC, _⟩ := I4'.loc
      refine hRR D (D + 1) H3 s4 mC ys (I.call' I4'.os (un.track hD3 hn) (I4'.hok.track hD3 ⟨hl, its, k, rv, oD⟩) I4'.bare fun b hb => ?_) hD3 hnC ?_ ?_ ?_ (fun x c e => ?_) (fun p hp => ?_) fin
      · obtain ⟨_, f1, f2, f3, f4, f5⟩ := f b hb
        exact ⟨f3, f1, f4, f5⟩
      · rw [upd_ne (show @Ne Nat (D + 1) D by omega)]; exact I4'.free
      · have q : @LT.lt Nat _ X.env.locals s₂.heap.objs.size := I.lt
        show @Ne Nat (D + 1) X.env.locals
        omega
      · have q : @LE.le Nat _ X.s₀.heap.objs.size s₂.heap.objs.size := I.sz
        show @LE.le Nat _ X.s₀.heap.objs.size (D + 1)
        omega
      · obtain ⟨v, z⟩ := I.cell x c e
        have q : @LT.lt Nat _ c s₂.heap.objs.size := z.lt
        show @Ne Nat c (D + 1)
        omega
      · have q : @LT.lt Nat _ p.1 s₂.heap.objs.size := Heap.lt_size (I.pin p hp).1
        show @Ne Nat p.1 (D + 1)
        omega
    · refine thn (T.item (cxComp X scope N' (D + 1) cells s₂ H fp) rfl rfl rfl hc i _ s3 σ3 H3 _ I3p (hfp fr3 pinD) st3 go) fun r s4 ⟨u, hr, h4'⟩ => ?_
      subst hr
      refine thn h4' fun _ s5 ⟨x, H5, I5, r5, y5, st5, fr5⟩ => ?_
      have I5' := I5.pinned (hfp fr5 pinD) (T.obj _ _ st5)
      refine wpAny_mono (hg (D + 1) cells s₂ H fp _ s5 σ3 H5 x u _ I5' r5 (step x H5 y5)) (fun _ s6 ⟨σ6, H6, I6, q6⟩ => ?_) fun _ _ z => z.elim
      refine wpAny_mono (ht (D + 1) cells s₂ H fp _ s6 σ6 H6 _ I6 q6) (fun b s7 ⟨H7, I7, q7⟩ => ?_) fun _ _ z => z.elim
      have fpK : ∀ {H' : Hp} {s' : Shared}, Inv (cxComp X scope N' (D + 1) cells s₂ H fp) ([(D, { cls := .type "list", data := .seq its.toArray k })] ++ pinsAt fp s5.heap) σ6 H' s' → tn (i + 1) s'.heap ∧ (∀ b ∈ fp, H' b = none) ∧ s'.heap.get? D = some { cls := .type "list", data := .seq its.toArray k } ∧ H' D = none := fun {H' s'} J' => by
        refine ⟨T.keep _ _ _ st5 fun b hb o e => (J'.pin (b, o) (List.mem_append_right _ (List.mem_append_right _ (mem_pinsAt hb e)))).1, fun b hb => ?_, ?_, ?_⟩
        · obtain ⟨o, e, d⟩ := T.obj _ _ st5 b hb
          exact (J'.pin (b, o) (List.mem_append_right _ (List.mem_append_right _ (mem_pinsAt hb e)))).2.1
        · exact (J'.pin (D, _) (List.mem_append_right _ (List.mem_append_left _ List.mem_cons_self))).1
        · exact (J'.pin (D, _) (List.mem_append_right _ (List.mem_append_left _ List.mem_cons_self))).2.1
      cases b with
      | false =>
        rw [if_neg Bool.false_ne_true] at q7 ⊢
        obtain ⟨m', hm, w7⟩ := q7
        obtain ⟨k1, k2, k3, k4⟩ := fpK I7
        exact ⟨m', hm, i + 1, ys, its, k, σ6, H7, I7.pins_of (fun p hp => (nomatch hp)), k1, k2, k4, k3, rv, hl, w7⟩
      | true =>
        rw [if_pos rfl] at q7 ⊢
        refine wpAny_mono (he (D + 1) cells s₂ H fp _ s7 σ6 H7 _ I7 q7) (fun y s8 ⟨v8, H8, I8, r8, q8⟩ => ?_) fun _ _ z => z.elim
        obtain ⟨m', hm, w8⟩ := q8
        obtain ⟨k1, k2, k3, k4⟩ := fpK I8
        have hits : its.length ≤ sizeLine := by rw [← rv.length]; exact hl
        refine append_at k3 (fun h9 hs9 hD9 => ?_) (by rw [List.size_toArray]; exact hits)
        have I9 : Inv (cxComp X scope N' (D + 1) cells s₂ H fp) [] σ6 H8 s8 := I8.pins_of fun p hp => (nomatch hp)
        refine ⟨m', hm, i + 1, ys ++ [v8], its ++ [y], k + 1, σ6, H8, I9.turned (it := D) (t' := s8.toks) (fun b o hb e => (hs9.2 b hb).trans e) k4 hDC (.inr (by show s₂.heap.objs.size ≤ D; omega)) hDcell (fun p hp => (nomatch hp)), ?_, k2, k4, ?_, rv.snoc r8, ?_, w8⟩
        · exact T.keep _ _ _ k1 fun b hb o e => (hs9.2 b (by have q : @LT.lt Nat _ b D := ho b hb; show @Ne Nat b D; omega)).trans e
        · rw [hD9, List.push_toArray]
        · rw [List.length_append, List.length_singleton]; omega
  exact codeAny_compStart_list loop (T.self X.A 0 _ _ _ (T.keep _ _ _ st fun b _ o e => keep b o e) loop)

/-- [e for t in i if c] -/
def tComp (fr : List (Option Nat)) (wi : TI) (g : TG) (tc : TT) (te : TE) : TE := fun σ H Q => wi σ H fun J H1 => CompW J g tc te (fun ys H' => ∀ p, H' p = none → Q (.ref p) (upd H' p (.lst ys))) (inner fr σ) H1
theorem pe_comp {X : Cx} {N' : List Str} {scope : Scope} {fr : List (Option Nat)} {iter elt tg : Expr} {ifs : List Expr} {pos : Pos} {wi : TI} {g : TG} {te : TE} {tc : TT} (S : CompScope X.N N' scope X.env.scope fr) (hc : X.calm = true) (hi : PI X tg iter wi)
    (hg : ∀ C cells s₂ H₂ fp, PG (cxComp X scope N' C cells s₂ H₂ fp) tg g) (ht : ∀ C cells s₂ H₂ fp, PTs (cxComp X scope N' C cells s₂ H₂ fp) ifs tc) (he : ∀ C cells s₂ H₂ fp, PE (cxComp X scope N' C cells s₂ H₂ fp) elt te)
    (hs : ∀ x, foldedSetIterable iter X.env x = pure x := by intro _; rfl) : PE X (.ListComp elt [⟨tg, iter, ifs, 0⟩] scope pos) (tComp fr wi g tc te) := by
  intro pins s σ H Q I h
  rw [eval_ListComp]
  have hfree : ∀ y ∈ scope.names, y.2 = NameKind.free → ∃ c, X.env.cells.lookup y.1 = some c := fun y hy hk => I.ok.has y.1 (S.out y hy hk)
  refine wpAny_comprehension_free (use := none) rfl hs (closureFor_free hfree) S.kind (fun x hx hl => lookup_of_nodup S.snd (by rw [← hl]; exact hx)) (thn (hi pins s σ H _ I h) fun v s1 h1 => thn h1 fun itv s2 h2 => ?_)
  obtain ⟨it, fp, tn, J, H2, e, I2, T, st2, f2, w⟩ := h2
  subst e
  refine comp_run (RR := fun acc C => compPost (model X.prog X.w) X.A X.xe none (EP X pins σ Q) acc C) S hc hg ht he I2 T st2 f2 w ?_
  intro D C H' s' m ys I' hD hnC hCn hCL hCs hCc hCp fin
  exact ⟨m, hnC, fun h' hs' => ⟨.ref D, _, I'.turned (it := C) (t' := s'.toks) (fun b o hb e => (hs'.2 b hb).trans e) hCn hCL (.inr hCs) hCc hCp, rfl, fin D hD⟩⟩

/-- x = [e for t in i if c], on one row -/
theorem ps_setcomp {X : Cx} {N' : List Str} {scope : Scope} {fr : List (Option Nat)} {iter elt tg : Expr} {ifs : List Expr} {pos spos py : Pos} {y : Str} {i : Nat} {wi : TI} {g : TG} {te : TE} {tc : TT} (S : CompScope X.N N' scope X.env.scope fr) (hc : X.calm = true) (hN : X.N.Nodup) (hiN : X.N[i]? = some y)
    (hy : X.env.scope.names.lookup y = some .local) (hi : PI X tg iter wi)
    (hg : ∀ C cells s₂ H₂ fp, PG (cxComp X scope N' C cells s₂ H₂ fp) tg g) (ht : ∀ C cells s₂ H₂ fp, PTs (cxComp X scope N' C cells s₂ H₂ fp) ifs tc) (he : ∀ C cells s₂ H₂ fp, PE (cxComp X scope N' C cells s₂ H₂ fp) elt te)
    (hsw : swapsWith (.ListComp elt [⟨tg, iter, ifs, 0⟩] scope pos) (some (.Name y py)) spos.line X.env = pure true := by rfl)
    (hs : ∀ x, foldedSetIterable iter X.env x = pure x := by intro _; rfl) : PS X (.Assign [.Name y py] (.ListComp elt [⟨tg, iter, ifs, 0⟩] scope pos) spos) (tAsg (tComp fr wi g tc te) (gName i)) := by
  intro pins s σ H Dn I h
  rw [exec_Assign_Name_used _ _ _ _ hsw]
  refine wpAny_bind (wpAny_standAt (wpAny_bind ?_))
  show wpAny _ _ (do let _ ← comprehension (.ListComp elt [⟨tg, iter, ifs, 0⟩] scope pos) scope X.env _ (newList []) false (eval iter X.env) (some (assign (.Name y py) X.env))) _ _ s
  have hfree : ∀ y ∈ scope.names, y.2 = NameKind.free → ∃ c, X.env.cells.lookup y.1 = some c := fun y hy hk => I.ok.has y.1 (S.out y hy hk)
  refine wpAny_bind (wpAny_mono (wpAny_comprehension_free (use := some (assign (.Name y py) X.env)) (Q := fun _ s' => SP X pins Dn .next s') rfl hs (closureFor_free hfree) S.kind (fun x hx hl => lookup_of_nodup S.snd (by rw [← hl]; exact hx))
    (thn (hi pins s σ H _ I h) fun v s1 h1 => thn h1 fun itv s2 h2 => ?_)) (fun _ s' hq => wpAny_pure (wpAny_pure hq)) fun _ _ e => e)
  obtain ⟨it, fp, tn, J, H2, e, I2, T, st2, f2, w⟩ := h2
  subst e
  refine comp_run (RR := fun acc C => compPost (model X.prog X.w) X.A X.xe (some (assign (.Name y py) X.env)) (fun _ s' => SP X pins Dn .next s') acc C) S hc hg ht he I2 T st2 f2 w ?_
  intro D C H' s' m ys I' hD hnC hCn hCL hCs hCc hCp fin
  refine wpAny_assign_Name (store_ok2 (v := .ref D) I' hN hiN (Or.inl hy) rfl (fun s'' I'' ⟨a, hsb, ha⟩ => ⟨m, hnC.sameBut hsb ?_, fun h' hs' => ⟨_, _, I''.turned (it := C) (t' := s''.toks) (fun b o hb e => (hs'.2 b hb).trans e) hCn hCL (.inr hCs) hCc hCp, fin D hD⟩⟩) (.inr hy))
  rcases ha with z | z
  · rw [z]; exact hCL
  · exact Ne.symm (hCc y a z)
end L2

end
section

set_option Elab.async false
set_option linter.all false
set_option maxRecDepth 100000
set_option maxHeartbeats 4000000

/-! Exceptions of the text's own classes, raised in a def and taken in a caller's try, over the hand layer. -/
namespace L2
open PySem PySem.Spec PyProof.Rows

theorem ObjOk.there {P : Program} {w : World} {H : Hp} {h : Heap} {a : Addr} {o : HO} (x : ObjOk P w H h a o) : ∃ ob, h.get? a = some ob := by
  cases o with
  | lst xs => obtain ⟨_, _, _, _, e⟩ := x; exact ⟨_, e⟩
  | tup xs => obtain ⟨_, _, _, ob, e, _⟩ := x; exact ⟨_, e⟩
  | dK kvs => obtain ⟨_, _, _, _, o, _, _, e, _⟩ := x; exact ⟨_, e⟩
  | dT kvs => obtain ⟨_, _, _, _, o, _, _, e, _⟩ := x; exact ⟨_, e⟩
  | set S n => obtain ⟨o, _, _, _, e, _⟩ := x; exact ⟨_, e⟩
  | ins C dx fs => obtain ⟨_, _, _, e, _⟩ := x; exact ⟨_, e⟩
  | own y => obtain ⟨_, e⟩ := x; exact ⟨_, e⟩
  | xd fs => obtain ⟨_, ⟨_, _, _, e, _⟩, _⟩ := x; exact ⟨_, e⟩
  | rng lo hi => obtain ⟨_, _, _, e⟩ := x; exact ⟨_, e⟩
  | frz ob u => obtain ⟨e, _⟩ := x; exact ⟨_, e⟩
  | tbl ps => exact ⟨_, (show h.get? a = some _ from x)⟩
  | met f y => exact ⟨_, (show h.get? a = some _ from x)⟩
  | ext φ => obtain ⟨_, ⟨_, e⟩, _⟩ := x; exact ⟨_, e⟩

/-- an exception at ea, of class C, flies over the frames l; B: what stood at the raise, but for the frames -/
structure Fly (P : Program) (w : World) (base : Heap) (l : List Env) (ea : Addr) (C : Value) (H : Hp) (B h : Heap) : Prop where
  fly : ∃ a0, Heap.FlyingW B l ea C a0 h
  bas : ∀ b o, base.get? b = some o → B.get? b = some o
  hok : HOk P w H B
theorem Fly.stays {P : Program} {w : World} {base : Heap} {l : List Env} {ea : Addr} {C : Value} {H : Hp} {B h : Heap} (F : Fly P w base l ea C H B h) : ∀ b o, B.get? b = some o → h.get? b = some o := by
  obtain ⟨a0, f⟩ := F.fly
  exact f.1
theorem Fly.newE {P : Program} {w : World} {base : Heap} {l : List Env} {ea : Addr} {C : Value} {H : Hp} {B h : Heap} (F : Fly P w base l ea C H B h) : B.get? ea = none := by
  obtain ⟨a0, f⟩ := F.fly
  exact f.2.1
theorem Fly.untr {P : Program} {w : World} {base : Heap} {l : List Env} {ea : Addr} {C : Value} {H : Hp} {B h : Heap} (F : Fly P w base l ea C H B h) : H ea = none := by
  cases q : H ea with
  | none => rfl
  | some o =>
    obtain ⟨ob, e⟩ := (F.hok ea o q).there
    rw [F.newE] at e; cases e

/-- how an exception lies behind a call -/
def CXx (P : Program) (w : World) (base : Heap) : CXT := fun outer H s E e s' => ∃ (ea : Addr) (C : Value) (H' : Hp) (B : Heap), e = .ref ea ∧ s'.os = s.os ∧ AllBare s'.gens ∧ Un (frs outer) [] H H' s.heap s'.heap ∧
  Fly P w base outer ea C H' B s'.heap ∧ (∀ b o, s.heap.get? b = some o → b ∉ frs outer → ∃ o', B.get? b = some o') ∧ E C none H'

/-- the untracked objects of an elder heap, when the exception takes a step -/
theorem Un.flown {fs ex : List Addr} {H H' : Hp} {h0 h1 h2 B : Heap} (u : Un fs ex H H' h0 h1) (cov : ∀ b o, h0.get? b = some o → b ∉ fs → b ∉ ex → ∃ o', B.get? b = some o') (s1 : ∀ b o, B.get? b = some o → h1.get? b = some o) (s2 : ∀ b o, B.get? b = some o → h2.get? b = some o)
    (up : h1.UpToSlots h2) (fd : ∀ b ∈ fs, b ∉ ex ∧ H b = none ∧ ∀ o, h0.get? b = some o → ∀ vs, o.data ≠ .fields vs) : Un fs ex H H' h0 h2 := by
  have keep : ∀ b o, h0.get? b = some o → H b = none → b ∉ fs → b ∉ ex → h2.get? b = some o := fun b o e n hb hx => by
    have e1 := u.keep b o e n hb hx
    obtain ⟨o', q⟩ := cov b o e hb hx
    have q1 := s1 b o' q
    rw [e1] at q1; cases q1
    exact s2 b o q
  have slot : ∀ b o, h0.get? b = some o → H b = none → b ∈ fs → b ∉ ex → ∃ sl, h2.get? b = some { o with slots := sl } := fun b o e n hb hx => by
    obtain ⟨sl, e1⟩ := u.slot b o e n hb hx
    obtain ⟨sl', e2⟩ := up b _ e1 ((fd b hb).2.2 o e)
    exact ⟨sl', e2⟩
  refine ⟨keep, slot, u.free, fun b o e hx => ?_, u.tups, u.frzs, u.tbls⟩
  by_cases hb : b ∈ fs
  · obtain ⟨sl, q⟩ := slot b o e (fd b hb).2.1 hb hx
    exact ⟨_, q⟩
  · obtain ⟨o', q⟩ := cov b o e hb hx
    exact ⟨o', s2 b o' q⟩

section
variable {X : Cx} {pins : List (Addr × Obj)} {σ : St} {H : Hp} {s : Shared}
theorem Inv.frameData (I : Inv X pins σ H s) : ∀ b ∈ X.fs, b ∉ X.ex ∧ X.H₀ b = none ∧ ∀ o, X.s₀.heap.get? b = some o → ∀ vs, o.data ≠ .fields vs := fun b hb => by
  refine ⟨fun z => I.ok.exfs b z hb, I.ok.frf b hb, fun o e => ?_⟩
  obtain ⟨_, o', e', d⟩ := I.ok.funs.mem hb
  rw [e] at e'; cases e'
  exact d
theorem Inv.notStk (I : Inv X pins σ H s) {b : Addr} {o : Obj} (e : X.s₀.heap.get? b = some o) (hb : b ∉ X.fs) : b ∉ frs X.stack := fun z => by
  rcases List.mem_cons.mp (I.stkSub b z) with q | q
  · exact absurd (Nat.lt_of_lt_of_le (Heap.lt_size e) I.ok.above) (by rw [q]; exact Nat.lt_irrefl _)
  · exact hb q
/-- the state of a body, when the exception takes a step in its frame -/
theorem Inv.flown {h' : Heap} {t' : Nat} {l : List Env} {ea : Addr} {C : Value} {B : Heap} (I : Inv X pins σ H s) (F : Fly X.prog X.w X.base l ea C H B s.heap) (cov : ∀ b o, X.s₀.heap.get? b = some o → b ∉ frs X.stack → b ∉ X.ex → ∃ o', B.get? b = some o')
    (pc : ∀ p ∈ X.pn ++ pins, ∃ o', B.get? p.1 = some o') (st : ∀ b o, B.get? b = some o → h'.get? b = some o) (up : s.heap.UpToSlots h') : Inv X pins σ H { s with heap := h', toks := t' } := by
  have cellK : ∀ c v, s.heap.IsCell c v → h'.IsCell c v := fun c v ⟨o, ho, hd⟩ => by
    obtain ⟨sl, q⟩ := up c o ho (fun vs z => by rw [hd] at z; cases z)
    exact ⟨_, q, hd⟩
  refine ⟨I.ok, I.os, I.bare, I.base.flown (fun b o e hb hx => cov b o e (I.notStk e hb) hx) F.stays st up I.frameData, ?_, fun x c e => ?_, I.free, I.freeC, fun p hp => ?_, F.hok.kept st, I.len⟩
  · obtain ⟨m, hn, hl⟩ := I.loc
    refine ⟨m, up.ns hn, fun i x v e1 e2 e3 => ?_⟩
    obtain ⟨u, r, l⟩ := hl i x v e1 e2 e3
    refine ⟨u, r, ?_⟩
    rcases l with l | ⟨k, c, e, z⟩
    · exact .inl l
    · exact .inr ⟨k, c, e, cellK c _ z⟩
  · obtain ⟨v, z⟩ := I.cell x c e
    exact ⟨v, cellK c v z⟩
  · obtain ⟨e, n, ne, nf, d⟩ := I.pin p hp
    obtain ⟨o', q⟩ := pc p hp
    have q1 := F.stays _ _ q
    rw [e] at q1; cases q1
    exact ⟨st _ _ q, n, ne, nf, d⟩
end

/-! ### in a def's body: raise, and an exception that passes -/
section
variable {P : Program} {w : World} {K : PySem.W.Frag} {mg : Str → Option Value} {base : Heap} {N : List Str} {qual : Str} {scope : Scope} {f : Addr} {cd : Value} {A : Around} {outer : List Env} {s : Shared} {H : Hp} {E : XK}
abbrev cxD (P : Program) (w : World) (K : PySem.W.Frag) (mg : Str → Option Value) (base : Heap) (N : List Str) (qual : Str) (scope : Scope) (f : Addr) (cd : Value) (A : Around) (outer : List Env) (s : Shared) (H : Hp) (E : XK) : Cx :=
  cxOf (CXx P w base) P w K mg base N qual scope f cd A outer s H E

theorem raise_fresh {pins : List (Addr × Obj)} {σ : St} {H1 : Hp} {s1 : Shared} {h' : Heap} {ea : Addr} {C : Value} {vs : List Value} (I : Inv (cxD P w K mg base N qual scope f cd A outer s H E) pins σ H1 s1) (hx : Heap.MadeExcOf s1.heap h' ea C vs) (hE : E C none H1) :
    (cxD P w K mg base N qual scope f cd A outer s H E).xe (.ref ea) { s1 with heap := h' } := by
  have hstk := I.stack
  have hin : ∀ env ∈ (cxD P w K mg base N qual scope f cd A outer s H E).stack, ∀ a, env.frame = some a → a ∈ frs (cxD P w K mg base N qual scope f cd A outer s H E).stack := fun env he b hb => List.mem_filterMap.mpr ⟨env, he, hb⟩
  have hB1 : ∀ b o, (PySem.W.hideAll s1.heap (frs (cxD P w K mg base N qual scope f cd A outer s H E).stack)).get? b = some o → s1.heap.get? b = some o := fun b o q => PySem.W.of_hideAll _ q
  have hHid : ∀ b u, H1 b ≠ none → s1.heap.get? b = some u → (PySem.W.hideAll s1.heap (frs (cxD P w K mg base N qual scope f cd A outer s H E).stack)).get? b = some u := fun b u hb q => PySem.W.hideAll_get _ q fun z => hb (I.stkFree b z)
  refine wpAny_leaves_madeW (base := PySem.W.hideAll s1.heap (frs (cxD P w K mg base N qual scope f cd A outer s H E).stack)) (h := s1.heap) I.ok.frames rfl hB1 (PySem.W.funFrames_hide hstk hin) hx fun h2 t fl tup nt up => ?_
  have hcov : ∀ b o, s.heap.get? b = some o → b ∉ frs outer → ∃ o', (PySem.W.hideAll s1.heap (frs (cxD P w K mg base N qual scope f cd A outer s H E).stack)).get? b = some o' := fun b o e hb => by
    obtain ⟨o1, e1⟩ := I.base.there b o e (by intro z; exact nomatch z)
    exact ⟨o1, PySem.W.hideAll_get _ e1 (I.notStk e hb)⟩
  refine ⟨ea, C, H1, _, rfl, I.os, I.bare, I.base.flown (fun b o e hb _ => hcov b o e hb) hB1 fl.1 ((Heap.UpToSlots.of_keeps hx.keeps).trans up) I.frameData, ⟨⟨_, fl⟩, fun b o e => ?_, fun a o q => ?_⟩, hcov, hE⟩
  · refine PySem.W.hideAll_get _ (I.bk b o e) fun z => ?_
    have q : base.get? b = none := (hstk.mem z).1
    rw [q] at e; cases e
  · refine (I.hok a o q).stay (fun b u hc e => hHid b u ?_ e) (fun _ z => z) fun _ _ z => z
    rcases hc with z | z
    · subst z; rw [q]; intro z; cases z
    · rw [z]; intro z; cases z

theorem pass_def {pins : List (Addr × Obj)} {σ : St} {H1 : Hp} {s1 : Shared} {ea : Addr} {C : Value} {B : Heap} (I : Inv (cxD P w K mg base N qual scope f cd A outer s H E) pins σ H1 s1) (F : Fly P w base (cxD P w K mg base N qual scope f cd A outer s H E).stack ea C H1 B s1.heap)
    (cov : ∀ b o, s.heap.get? b = some o → b ∉ frs (cxD P w K mg base N qual scope f cd A outer s H E).stack → ∃ o', B.get? b = some o') (hE : E C none H1) : (cxD P w K mg base N qual scope f cd A outer s H E).xe (.ref ea) s1 := by
  obtain ⟨a0, fl⟩ := F.fly
  refine wpAny_leaves_onW I.ok.frames rfl fl fun h2 fl2 up => ?_
  have hcov : ∀ b o, s.heap.get? b = some o → b ∉ frs outer → ∃ o', B.get? b = some o' := fun b o e hb => cov b o e (I.notStk e hb)
  exact ⟨ea, C, H1, B, rfl, I.os, I.bare, I.base.flown (fun b o e hb _ => hcov b o e hb) F.stays fl2.1 up I.frameData, ⟨⟨_, fl2⟩, F.bas, F.hok⟩, hcov, hE⟩

theorem passes_def : Passes (CXx P w base) (cxD P w K mg base N qual scope f cd A outer s H E) E := by
  intro pins σ H0 s0 e s' I hcx
  obtain ⟨ea, C, H', B, rfl, os, bare, un, F, cov, hE⟩ := hcx
  have I' : Inv (cxD P w K mg base N qual scope f cd A outer s H E) pins σ H' s' := I.call' os un (F.hok.kept F.stays) bare fun b hb => nomatch hb
  refine pass_def I' F (fun b o e hb => ?_) hE
  obtain ⟨o1, e1⟩ := I.base.there b o e (by intro z; exact nomatch z)
  exact cov b o1 e1 hb
end

/-! ### a try -/
/-- an exception object of class C -/
def excO (ea : Addr) (C : Value) : HO := .ext fun h => ∃ oe vs, h.get? ea = some oe ∧ oe.cls = C ∧ oe.data = .fields vs
theorem excO_ok {P : Program} {w : World} {H : Hp} {h : Heap} {ea : Addr} {C : Value} (x : ∃ oe vs, h.get? ea = some oe ∧ oe.cls = C ∧ oe.data = .fields vs) : ObjOk P w H h ea (excO ea C) := by
  refine ⟨x, ?_, fun h1 h2 p k => ?_⟩
  · obtain ⟨oe, _, e, _⟩ := x; exact ⟨oe, e⟩
  · obtain ⟨oe, vs, e, c, d⟩ := p
    exact ⟨oe, vs, k oe e, c, d⟩

def XP (X : Cx) (pins : List (Addr × Obj)) (E : St → Value → Hp → Prop) (e : Value) (s' : Shared) : Prop := ∃ (ea : Addr) (C : Value) (σ' : St) (H' : Hp) (B : Heap), e = .ref ea ∧ Inv X pins σ' H' s' ∧ Fly X.prog X.w X.base X.stack ea C H' B s'.heap ∧
  (∀ b o, X.s₀.heap.get? b = some o → b ∉ frs X.stack → b ∉ X.ex → ∃ o', B.get? b = some o') ∧ (∀ p ∈ X.pn ++ pins, ∃ o', B.get? p.1 = some o') ∧ E σ' C H'
abbrev Cx.tryIn (X : Cx) (pins : List (Addr × Obj)) (E : St → Value → Hp → Prop) : Cx := { X with pn := X.pn ++ pins, xe := XP X pins E }
abbrev Cx.inExc (X : Cx) (ea : Addr) : Cx := { X with A := X.A.mark (some (.ref ea)), calm := false, xe := fun _ _ => False }

section
variable {X : Cx} {pins pins' : List (Addr × Obj)} {σ : St} {H : Hp} {s : Shared} {E : St → Value → Hp → Prop} {ea : Addr}
theorem Cx.Ok.tryIn (k : X.Ok) : (X.tryIn pins E).Ok := ⟨k.mod, k.kind, k.glob, k.blt, k.above, k.inj, k.has, k.cab, k.hd, k.frames, k.stk, k.exf, k.bs, k.bsz, k.noex, k.exfs, k.funs, k.frf⟩
theorem Cx.Ok.untry (k : (X.tryIn pins E).Ok) : X.Ok := ⟨k.mod, k.kind, k.glob, k.blt, k.above, k.inj, k.has, k.cab, k.hd, k.frames, k.stk, k.exf, k.bs, k.bsz, k.noex, k.exfs, k.funs, k.frf⟩
theorem Cx.Ok.inExc (k : X.Ok) : (X.inExc ea).Ok := ⟨k.mod, k.kind, k.glob, k.blt, k.above, k.inj, k.has, k.cab, (fun z => (nomatch z)), k.frames, k.stk, k.exf, k.bs, k.bsz, k.noex, k.exfs, k.funs, k.frf⟩
theorem Inv.tryIn (I : Inv X (pins ++ pins') σ H s) : Inv (X.tryIn pins E) pins' σ H s :=
  ⟨I.ok.tryIn, I.os, I.bare, I.base, I.loc, I.cell, I.free, I.freeC, fun p hp => I.pin p (by have hp : p ∈ (X.pn ++ pins) ++ pins' := hp; rw [List.append_assoc] at hp; exact hp), I.hok, I.len⟩
theorem Inv.untry (I : Inv (X.tryIn pins E) pins' σ H s) : Inv X (pins ++ pins') σ H s :=
  ⟨I.ok.untry, I.os, I.bare, I.base, I.loc, I.cell, I.free, I.freeC, fun p hp => I.pin p (by show p ∈ (X.pn ++ pins) ++ pins'; rw [List.append_assoc]; exact hp), I.hok, I.len⟩
theorem Inv.inExc (I : Inv X pins σ H s) : Inv (X.inExc ea) pins σ H s := ⟨I.ok.inExc, I.os, I.bare, I.base, I.loc, I.cell, I.free, I.freeC, I.pin, I.hok, I.len⟩
theorem Inv.unExc (I : Inv (X.inExc ea) pins σ H s) (k : X.Ok) : Inv X pins σ H s := ⟨k, I.os, I.bare, I.base, I.loc, I.cell, I.free, I.freeC, I.pin, I.hok, I.len⟩

/-- an object of ours that was not tracked is -/
theorem Inv.track {a : Addr} {o : HO} (I : Inv X pins σ H s) (hn : H a = none) (h0 : X.s₀.heap.get? a = none) (hL : a ≠ X.env.locals) (hc : ∀ x c, X.env.cells.lookup x = some c → c ≠ a) (hp : ∀ p ∈ X.pn ++ pins, p.1 ≠ a) (new : ObjOk X.prog X.w (upd H a o) s.heap a o) :
    Inv X pins σ (upd H a o) s :=
  ⟨I.ok, I.os, I.bare, I.base.track hn h0, I.loc, I.cell, by rw [upd_ne (Ne.symm hL)]; exact I.free, fun x c e => by rw [upd_ne (hc x c e)]; exact I.freeC x c e, fun p hq => by
    obtain ⟨e, n, ne, nf, d⟩ := I.pin p hq
    exact ⟨e, by rw [upd_ne (hp p hq)]; exact n, ne, nf, d⟩, I.hok.track hn new, I.len⟩

/-- behind an except suite its name is gone -/
theorem name_gone {M : Model} {A : Around} {EE : Value → Shared → Prop} {i : Nat} {x : Str} {pos : Pos} {Q : Unit → Shared → Prop} (I : Inv X pins σ H s) (hN : X.N.Nodup) (hi : X.N[i]? = some x) (hx : X.env.scope.names.lookup x = some .local)
    (h : ∀ s', Inv X pins (σ.set i none) H s' → Q () s') : wpAny M A (do bindName X.env x .none; unbindBehindTheSuite X.env x pos) Q EE s := by
  obtain ⟨m, hn, hl⟩ := id I.loc
  have hcls : (X.env.scope.kind == .class || (X.env.scope.kind == .module && X.env.locals != X.env.globals)) = false := by rw [I.ok.kind]; rfl
  have hiσ : i < σ.length := by rw [I.len]; exact (List.getElem?_eq_some_iff.mp hi).1
  have cne := I.cne
  have tracked : ∀ {h' : Heap}, Heap.SameBut X.env.locals s.heap h' → HOk X.prog X.w H h' := fun {h'} hs b ob e => by
    refine (I.hok b ob e).stay (fun c w' hc q => (hs.2 c ?_).trans q) (fun _ q => q) fun _ _ q => q
    rintro rfl
    rcases hc with rfl | hc
    · rw [I.free] at e; cases e
    · rw [I.free] at hc; cases hc
  refine wpAny_nameGoes_keeps hx hn hcls fun h' v hn' hs => ?_
  refine h _ ⟨I.ok, I.os, I.bare, ⟨fun b o e n hb hx => ?_, fun b o e n hb hx => ?_, I.base.free, fun b o e hx => ?_, I.base.tups, I.base.frzs, I.base.tbls⟩, ⟨_, hn', fun j y v' e1 e2 e3 => ?_⟩, fun y c e => ?_, I.free, I.freeC, fun p hp => ?_, tracked hs, by simpa using I.len⟩
  · exact (hs.2 b (Nat.ne_of_lt (Nat.lt_of_lt_of_le (Heap.lt_size e) I.ok.above))).trans (I.base.keep b o e n hb hx)
  · obtain ⟨sl, e1⟩ := I.base.slot b o e n hb hx
    exact ⟨sl, (hs.2 b (Nat.ne_of_lt (Nat.lt_of_lt_of_le (Heap.lt_size e) I.ok.above))).trans e1⟩
  · obtain ⟨o', e1⟩ := I.base.there b o e hx
    exact ⟨o', (hs.2 b (Nat.ne_of_lt (Nat.lt_of_lt_of_le (Heap.lt_size e) I.ok.above))).trans e1⟩
  · by_cases hj : j = i
    · subst hj
      rw [List.getElem?_set_self hiσ] at e2
      cases e2
    · rw [List.getElem?_set_ne (Ne.symm hj)] at e2
      obtain ⟨u', r', q⟩ := hl j y v' e1 e2 e3
      refine ⟨u', r', ?_⟩
      rcases q with ⟨k, e⟩ | ⟨k, c, e, z⟩
      · refine .inl ⟨k, ?_⟩
        have : y ≠ x := fun e => hj (nodup_ix hN e1 (e ▸ hi))
        simp [this, e]
      · exact .inr ⟨k, c, e, z.sameBut hs (cne y c e)⟩
  · obtain ⟨w', z⟩ := I.cell y c e
    exact ⟨w', z.sameBut hs (cne y c e)⟩
  · obtain ⟨e, n, ne, nf, d⟩ := I.pin p hp
    exact ⟨(hs.2 p.1 ne).trans e, n, ne, nf, d⟩
end

/-! ### calls whose exceptions are wanted by the state at the call -/
def PassesS (CX : CXT) (X : Cx) (E : St → XK) : Prop := ∀ (pins : List (Addr × Obj)) (σ : St) (H : Hp) (s : Shared) (e : Value) (s' : Shared), Inv X pins σ H s → CX X.stack H s (E σ) e s' → X.xe e s'
theorem Passes.s {CX : CXT} {X : Cx} {E : XK} (h : Passes CX X E) : PassesS CX X fun _ => E := fun pins σ H s e s' I q => h pins σ H s e s' I q
theorem passes_try {X : Cx} {pins : List (Addr × Obj)} {E : St → Value → Hp → Prop} : PassesS (CXx X.prog X.w X.base) (X.tryIn pins E) (fun σ C _ H => E σ C H) := by
  intro pins' σ H0 s0 e s' I hcx
  obtain ⟨ea, C, H', B, rfl, os, bare, un, F, cov, hE⟩ := hcx
  have I' : Inv (X.tryIn pins E) pins' σ H' s' := I.call' os un (F.hok.kept F.stays) bare fun b hb => nomatch hb
  have J := I'.untry
  refine ⟨ea, C, σ, H', B, rfl, J.pins_of fun p hp => J.pin p (List.mem_append_right _ (List.mem_append_left _ hp)), F, fun b o e hb hx => ?_, fun p hp => ?_, hE⟩
  · obtain ⟨o1, e1⟩ := I.base.there b o e hx
    exact cov b o1 e1 hb
  · obtain ⟨e, n, ne, nf, d⟩ := I.pin p (List.mem_append_left _ hp)
    exact cov p.1 p.2 e fun z => (List.mem_cons.mp (I.stkSub _ z)).elim ne nf

section
variable {X : Cx} {CX : CXT} {k : Nat} {f C : Addr} {fd : FuncData} {ps : List Str} {sp : Sp} {dvs : List V} {ds : List Value} {E : St → XK} {x m : Str} {p pos apos : Pos} {e o : Expr} {es : List Expr} {ta : TE} {t : TA}
theorem run_fnS {pins : List (Addr × Obj)} {σ : St} {H : Hp} {s : Shared} {Q : VK} {us : List Value} {vs : List V} (F : FnOk X.prog X.w X.K X.mg X.base CX k f fd ps sp) (hr : Room k X.A) (hb : Binds X.K fd ps ds) (hd : Vals dvs ds) (hx : PassesS CX X E)
    (I : Inv X pins σ H s) (r : Vals vs us) (h : sp (vs ++ dvs) H Q (E σ)) : wpAny (model X.prog X.w) X.A (call (.ref f) us) (EP X pins σ Q) X.xe s := by
  have r2 : Vals (vs ++ dvs) (us ++ ds) := r.append hd
  have hl : (us ++ ds).length = ps.length := by rw [← r2.length]; exact F.len _ _ _ _ h
  refine wpAny_call (codeAny_mono (F.run X.A X.stack s H ⟨us, []⟩ (us ++ ds) (vs ++ dvs) Q (E σ) hr I.env0 (hb s us I.kIn hl) r2 h) fun r s' hq => ?_)
  cases r with
  | error e => exact hx pins σ H s e s' I hq
  | ok fl =>
    cases fl with
    | ret u => exact I.after hq
    | next => exact False.elim hq
    | brk => exact False.elim hq
    | cont => exact False.elim hq
def tCallS (sp : Sp) (dvs : List V) (E : St → XK) (t : TA) : TE := fun σ H Q => t σ H fun vs H1 => sp (vs ++ dvs) H1 Q (E σ)
theorem pe_callS (F : FnOk X.prog X.w X.K X.mg X.base CX k f fd ps sp) (hr : Room k X.A) (hg : Gl X x) (hm : X.mg x = some (.ref f)) (hk : PySem.W.keepIn X.K (.ref f) = true) (hb : Binds X.K fd ps ds) (hd : Vals dvs ds) (hx : PassesS CX X E)
    (ha : PA X (e :: es) t) (hdb : (x == ("__debug__" : Str)) = false := by decide) (he : starEach (e :: es) X.env = (false, eval e X.env) :: starEach es X.env := by rfl) (hpl : (backTo pos (starEach es X.env)).any (·.1) = false := by rfl) :
    PE X (.Call (.Name x p) (e :: es) [] pos) (tCallS sp dvs E t) := by
  intro pins s σ H Q I h
  refine wpAny_Call_Name_kw (ld_glob I hg hm ?_ hdb)
  refine PySem.W.callWith_K (h₀ := X.base) I.ok.mod.kin hk (thn (ha pos pins s σ H _ I h) fun us s1 ⟨vs, H1, I1, r, q⟩ => ⟨I1.kIn, ?_⟩) he hpl
  exact run_fnS F hr hb hd hx I1 r q
end

/-- try: body; except c as n: suite. E1 says what the suite's start wants -/
def tTry (K : PySem.W.Frag) (cv : Value) (i : Nat) (tb : (St → Value → Hp → Prop) → TS) (ts : TS) : TS := fun D σ H =>
  tb (fun σ' C H' => PySem.W.exmOne K C cv = some true ∧ ∀ ea, H' ea = none → ts { nx := fun σ2 H2 => D.nx (σ2.set i none) H2, rt := D.rt, bk := fun σ2 H2 => D.bk (σ2.set i none) H2, ct := fun σ2 H2 => D.ct (σ2.set i none) H2 } (σ'.set i (some (.ref ea))) (upd H' ea (excO ea C))) D σ H
theorem ps_try {X : Cx} {body suite : List Stmt} {b₀ : Stmt} {c n : Str} {np hpos pos : Pos} {i : Nat} {tb : (St → Value → Hp → Prop) → TS} {ts : TS} {cv : Value} (hst : X.stack = X.env :: X.outer) (hfr : X.env.frame = some X.env.locals) (hex : X.ex = []) (hgl : Gl X c) (hm : X.mg c = some cv)
    (hN : X.N.Nodup) (hi : X.N[i]? = some n) (hl : X.env.scope.names.lookup n = some .local) (hb : ∀ pins E, PSs (X.tryIn pins E) body (tb E)) (hs : ∀ ea, PSs (X.inExc ea) (b₀ :: suite) ts) (hd : (c == ("__debug__" : Str)) = false := by decide) :
    PS X (.Try body [.ExceptHandler (some (.Name c np)) (some n) (b₀ :: suite) hpos] [] [] pos) (tTry X.K cv i tb ts) := by
  intro pins s σ H D I h
  refine wpAny_Try_except ?_
  have un : ∀ {σ1 : St} {H1 : Hp} {s1 : Shared} {E : St → Value → Hp → Prop}, Inv (X.tryIn pins E) [] σ1 H1 s1 → Inv X pins σ1 H1 s1 := fun {σ1 H1 s1 E} J => by
    have q := J.untry
    rw [List.append_nil] at q
    exact q
  refine wpAny_mono (hb pins _ [] s σ H D (Inv.tryIn (pins' := []) (by rw [List.append_nil]; exact I)) h) (fun f s1 q => ?_) (fun e s1 q => ?_)
  · cases f with
    | next => obtain ⟨σ1, H1, I1, q1⟩ := q; exact wpAny_execs_nil ⟨σ1, H1, un I1, q1⟩
    | brk => obtain ⟨σ1, H1, I1, q1⟩ := q; exact ⟨σ1, H1, un I1, q1⟩
    | cont => obtain ⟨σ1, H1, I1, q1⟩ := q; exact ⟨σ1, H1, un I1, q1⟩
    | ret u => obtain ⟨v, σ1, H1, I1, r1, q1⟩ := q; exact ⟨v, σ1, H1, un I1, r1, q1⟩
  · obtain ⟨ea, C, σ1, H1, B, rfl, I1, F, cov, pc, hE, hsuite⟩ := q
    obtain ⟨a0, fl⟩ := F.fly
    have fl' : Heap.FlyingW B (X.env :: X.outer) ea C a0 s1.heap := by rw [← hst]; exact fl
    refine wpAny_looks_onW (by rw [← hst]; exact I1.ok.frames) hfr fl' fun h4 held up4 => ?_
    refine wpAny_landsW held fun h5 fl5 up5 => ?_
    have up := up4.trans up5
    have I5 : Inv X pins σ1 H1 { s1 with heap := h5 } := I1.flown (t' := s1.toks) F cov pc fl5.1 up
    have J5 : Inv (X.inExc ea) pins σ1 H1 { s1 with heap := h5 } := I5.inExc
    obtain ⟨oe, ws, hoe, hoec, hoed, hoe0⟩ := fl5.first
    refine wpAny_handleBy_cons (codeAny_handlers_test ?_) (by intro q; cases q)
    refine ld_glob J5 hgl hm ?_ hd
    have LT : PySem.W.Looks (model X.prog X.w) h5 (typeOf (.ref ea)) C := hoec ▸ (PySem.W.Looks.ld hoe).andThen .now
    refine (PySem.W.exm_one (M := model X.prog X.w) (K := X.K) (h := h5) J5.kIn LT hE).here ?_
    show codeAny _ _ (.handlers (.ref ea) [.ExceptHandler none (some n) (b₀ :: suite) hpos] X.env) _ _
    refine codeAny_handlers_suite_as ?_
    refine lands_againW fl5 fun h6 fl6 up6 => ?_
    have I6 : Inv X pins σ1 H1 { s1 with heap := h6 } := I1.flown (t' := s1.toks) F cov pc fl6.1 (up.trans up6)
    obtain ⟨oe6, ws6, hoe6, hoec6, hoed6, _⟩ := fl6.first
    have hn : H1 ea = none := F.untr
    have h0 : X.s₀.heap.get? ea = none := by
      cases q : X.s₀.heap.get? ea with
      | none => rfl
      | some o =>
        exfalso
        by_cases hf : ea ∈ frs X.stack
        · obtain ⟨_, o', e', d⟩ := I6.stack.mem hf
          have e'' : h6.get? ea = some o' := e'
          rw [hoe6] at e''; cases e''
          exact d _ hoed6
        · obtain ⟨o', z⟩ := cov ea o q hf (by rw [hex]; intro z; exact nomatch z)
          rw [F.newE] at z; cases z
    have hL : ea ≠ X.env.locals := fun z => by
      obtain ⟨m, ⟨o, es, ep, ho, hdd, _⟩, _⟩ := I6.loc
      have ho' : h6.get? ea = some o := by rw [z]; exact ho
      rw [hoe6] at ho'; cases ho'
      rw [hoed6] at hdd; cases hdd
    have hc : ∀ x c, X.env.cells.lookup x = some c → c ≠ ea := fun x c e z => by
      obtain ⟨v, o, ho, hdd⟩ := I6.cell x c e
      have ho' : h6.get? ea = some o := by rw [← z]; exact ho
      rw [hoe6] at ho'; cases ho'
      rw [hoed6] at hdd; cases hdd
    have hp : ∀ p ∈ X.pn ++ pins, p.1 ≠ ea := fun p hp z => by
      obtain ⟨o', q⟩ := pc p hp
      rw [z, F.newE] at q; cases q
    have J6 : Inv (X.inExc ea) pins σ1 (upd H1 ea (excO ea C)) { s1 with heap := h6 } := (I6.track hn h0 hL hc hp (excO_ok ⟨oe6, ws6, hoe6, hoec6, hoed6⟩)).inExc
    refine store_ok (X := X.inExc ea) (i := i) (v := .ref ea) J6 hN hi (Or.inl hl) rfl (fun s7 I7 => ?_) (.inr hl)
    refine wpAny_mono (hs ea pins s7 _ _ _ I7 (hsuite ea hn)) (fun f s8 q => ?_) fun _ _ z => z.elim
    cases f with
    | next => obtain ⟨σ8, H8, I8, q8⟩ := q; exact name_gone (I8.unExc I.ok) hN hi hl fun s9 I9 => ⟨_, H8, I9, q8⟩
    | brk => obtain ⟨σ8, H8, I8, q8⟩ := q; exact name_gone (I8.unExc I.ok) hN hi hl fun s9 I9 => ⟨_, H8, I9, q8⟩
    | cont => obtain ⟨σ8, H8, I8, q8⟩ := q; exact name_gone (I8.unExc I.ok) hN hi hl fun s9 I9 => ⟨_, H8, I9, q8⟩
    | ret u => obtain ⟨v, σ8, H8, I8, r8, q8⟩ := q; exact name_gone (I8.unExc I.ok) hN hi hl fun s9 I9 => ⟨v, _, H8, I9, r8, q8⟩

/-! ### raise C(..) -/
theorem own_base {K : PySem.W.Frag} {h₀ : Heap} {mg : Str → Option Value} {x : Str} {C : Addr} {bmB : List Value} {newId : String} (X : K.In h₀) (hm : mg x = some (.ref C)) (q : PySem.W.excIn K C bmB newId = true) : OwnCls x C bmB newId mg h₀ := by
  refine ⟨hm, ?_⟩
  unfold PySem.W.excIn at q
  split at q
  · rename_i dd cd sl ho
    split at q
    · rename_i C' bm k0 k1 k2 k3 n k5 hm hs
      simp only [Bool.and_eq_true, beq_iff_eq, Bool.not_eq_true'] at q
      obtain ⟨⟨⟨⟨⟨rfl, rfl⟩, hdel⟩, ht⟩, hok⟩, hni⟩ := q
      obtain ⟨nm, bs, mro, ns, qn, hd, sn, sub, ab, col, del⟩ := cd
      dsimp only at hm hdel hok hni
      subst hm hdel
      have hsl : sl = #[k0, k1, k2, k3, some (.builtin n), k5] := by
        obtain ⟨l⟩ := sl
        simp only at hs
        rw [hs]
      subst hsl
      exact ⟨bm, ns, nm, qn, bs, hd, sn, sub, ab, col, dd, k0, k1, k2, k3, k5, _, X _ _ ho, .of_isNs (PySem.W.isNs_of_in X hok), PySem.W.nsMap_none_of_in X hok hni, PySem.W.tail_of_in X ht⟩
    · cases q
  · cases q
/-- a new exception is what this body wants -/
def RaisesTo (X : Cx) (E : St → XK) : Prop := ∀ (pins : List (Addr × Obj)) (σ : St) (H : Hp) (s : Shared) (h' : Heap) (ea : Addr) (C : Value) (vs : List Value), Inv X pins σ H s → Heap.MadeExcOf s.heap h' ea C vs → E σ C none H → X.xe (.ref ea) { s with heap := h' }
theorem raises_def {P : Program} {w : World} {K : PySem.W.Frag} {mg : Str → Option Value} {base : Heap} {N : List Str} {qual : Str} {scope : Scope} {f : Addr} {cd : Value} {A : Around} {outer : List Env} {s : Shared} {H : Hp} {E : XK} :
    RaisesTo (cxD P w K mg base N qual scope f cd A outer s H E) fun _ => E := fun pins σ H1 s1 h' ea C vs I hx hE => raise_fresh I hx hE
def tRaise (C : Addr) (E : St → XK) (t : TA) : TS := fun _ σ H => t σ H fun vs H1 => vs.length ≤ sizeLine ∧ E σ (.ref C) none H1
theorem ps_raise {X : Cx} {x : Str} {C : Addr} {bmB : List Value} {B newId initId : String} {np cpos pos : Pos} {e₀ : Expr} {rest : List Expr} {t : TA} {E : St → XK} (FB : ExcBaseFacts B newId initId bmB) (hc : X.calm = true) (hg : Gl X x) (hm : X.mg x = some (.ref C)) (hx : PySem.W.excIn X.K C bmB newId = true)
    (hR : RaisesTo X E) (ha : PA X (e₀ :: rest) t) (hd : (x == ("__debug__" : Str)) = false := by decide) (he : starEach (e₀ :: rest) X.env = (false, eval e₀ X.env) :: starEach rest X.env := by rfl) (hpl : (backTo cpos (starEach rest X.env)).any (·.1) = false := by rfl) :
    PS X (.Raise (some (.Call (.Name x np) (e₀ :: rest) [] cpos)) none pos) (tRaise C E t) := by
  intro pins s σ H D I h
  obtain ⟨tl, N, nm, q, bs, hdct, sn, sub, ab, col, dd, k0, k1, k2, k3, k5, mN, hC, hN, hni, T⟩ := (own_base I.mod.kin hm hx).obj
  refine wpAny_Raise_call_subT (C := C) (nm := nm) (q := q) (N := N) (bs := bs) (bm := tl) (hdct := hdct) (sn := sn) (sub := sub) (ab := ab) (col := col) (dd := dd) (k0 := k0) (k1 := k1) (k2 := k2) (k3 := k3) (k5 := k5)
    FB (mN := mN) (T.hasType FB.hasBase) (I.ok.hd hc) (by rw [he]; show (false || (backTo cpos (starEach rest X.env)).any (·.1)) = false; rw [hpl]; rfl) hni (ld_glob I hg hm ⟨rfl, ?_⟩ hd)
  have hq := ha cpos pins s σ H _ I h
  rw [he] at hq ⊢
  exact Calls.evalArgs_plain (thn hq fun vs s₂ ⟨xs, H2, I2, r2, hl, hE⟩ => ⟨rfl, by show vs.length ≤ sizeLine; rw [← r2.length]; exact hl, I2.bk _ _ hC, hN.keeps I2.bk, T.keeps I2.bk, fun h' e hm' => hR pins σ H2 s₂ h' e _ _ I2 hm' hE⟩)

/-! ### a def whose exceptions are promised -/
theorem Fun.okX {P : Program} {w : World} {K : PySem.W.Frag} {mg : Str → Option Value} {base : Heap} {x qual : Str} {st : Stmt} {f : Addr} {fd : FuncData} {N ps : List Str} {k : Nat} {sp : Sp} (F : Fun K x qual st f fd) (S : FnScope N ps (defScope st)) (len : ∀ vs H Q E, sp vs H Q E → vs.length = ps.length)
    (hbody : ∀ (cdv : Value) (A : Around) (outer : List Env) (s : Shared) (H : Hp) (vs : List V) (Q : VK) (E : XK), Room k (A.deeper (envOfC qual (defScope st) s.heap.objs.size f cdv)) → sp vs H Q E →
      ∃ t, PSs (cxD P w K mg base N qual (defScope st) f cdv A outer s H E) (defBody st) t ∧ t { nx := fun _ H' => Q .non H', rt := Q } (start N vs) H) : FnOk P w K mg base (CXx P w base) (k + 1) f fd ps sp := by
  obtain ⟨oc, od, kV, doc, pm, an, cdv, ct, osl, rfl, lk, hcd⟩ := F.ex
  exact fn_of lk hcd S len fun A outer s H vs Q E hr hsp => hbody cdv A outer s H vs Q E hr hsp
end L2

end
section

set_option Elab.async false
set_option linter.all false
set_option maxRecDepth 100000
set_option maxHeartbeats 4000000

/-! isinstance of an exception of the text: nothing need be known of its dict. -/
namespace L2
open PySem PySem.W PySem.Spec PySem.Calls PyProof.Rows PySem.Builtin PySem.Builtin.ObjectAttr PySem.Builtin.Getset_descriptor

/-- x is an object of the class D -/
def OfCls (x D : Addr) (h : Heap) : Prop := ∃ o, h.get? x = some o ∧ o.cls = .ref D
section
variable {prog : Program} {w : World} {K : Frag} {x D : Addr} {M : Model} {h : Heap}
theorem OfCls.ty (p : OfCls x D h) : Looks M h (typeOf (.ref x)) (.ref D) := by
  obtain ⟨o, e, c⟩ := p
  exact c ▸ (Looks.ld e).andThen .now
theorem find_data {a g : Value} {n : Str} (X : K.In h) (h1 : findIn K (.ref D) n = some (some a)) (h2 : specialIn K a "__get__" = some (some g)) (h3 : takesIn K a = some true) : Looks M h (find (.ref x) (.ref D) n) (.bind g a) := by
  have T : Looks M h (dataDescriptor? (some a) (some g)) (some (g, a)) := (looks_takesIn X h3).andThen .now
  exact (looks_findIn X h1).andThen ((show Looks M h (getOf (some a)) (some g) from looks_specialIn X h2).andThen (T.andThen (Looks.tag .now)))
/-- what K must say of the class D -/
structure ClsK (K : Frag) (D : Addr) : Prop where
  ga : findIn K (.ref D) "__getattribute__" = some (some (.builtin "BaseException.__getattribute__"))
  gt : findIn K (.ref D) "__getattr__" = some none
  mb : mroIn K D (.type "BaseException") = some true
  hd : hasDictIn K D = true
  fc : findIn K (.ref D) "__class__" = some (some (.builtin "object.__class__"))
  sg : specialIn K (.builtin "object.__class__") "__get__" = some (some (.builtin "getset_descriptor.__get__"))
  tk : takesIn K (.builtin "object.__class__") = some true
  mo : mroIn K D (.type "object") = some true
variable {A : Around} {E : Value → Shared → Prop} {s : Shared}
theorem cls_get {tp : Value} {R : Result → Shared → Prop} (X : K.In s.heap) (p : OfCls x D s.heap) (hm : mroIn K D (.type "object") = some true) (q : R (.ok (.ret (.ref D))) s) :
    codeAny (model prog w) A (.call (.builtin "getset_descriptor.__get__") ⟨[.builtin "object.__class__", .ref x, tp], []⟩) R s := by
  obtain ⟨h0, g0, d0, t0, o0⟩ := s
  have T0 := p.ty (M := model prog w)
  have T1 := looks_mroIn (M := model prog w) X hm
  refine codeAny_call_builtin KF.slot_gs.plain KF.entry_gs (KF.slot_gs.check _ _ _ _ _ _ _ _ KF.type_class (KF.args_gs _ _ _) ?_)
  unfold Builtin.«getset_descriptor.__get__»
  unfold descrGet
  rw [dga_obj]
  refine wpAny_bind (wpAny_pure ?_)
  unfold descrGetter
  unfold descrCheckInstance
  unfold descrNameAndClass
  unfold isInstance
  simp only [KF.owner_class]
  repeat lk
  refine ⟨Code.quiet_builtin _ (by decide +kernel), codeAny_builtin KF.entry_class ?_⟩
  unfold Builtin.«object.__class__»
  unfold shownTypeOf
  repeat lk
  exact q
theorem ga_check {nm : Value} {Q : Unit → Shared → Prop} (C : ClsK K D) (X : K.In s.heap) (p : OfCls x D s.heap) (q : Q () s) : wpAny (model prog w) A (checkBuiltinCall "BaseException.__getattribute__" ⟨[.ref x, nm], []⟩) Q E s := by
  obtain ⟨h0, g0, d0, t0, o0⟩ := s
  have k1 : builtinKind "BaseException.__getattribute__" = some .slot := by decide +kernel
  have k2 : splitId "BaseException.__getattribute__" = some ("BaseException", "__getattribute__") := by decide +kernel
  have T0 := p.ty (M := model prog w)
  have T1 := looks_mroIn (M := model prog w) X C.mb
  have ha := F.args_bexc_ga (.ref x) nm
  simp only [checkBuiltinCall, k1, k2]
  refine wpAny_bind ((show Looks (model prog w) _ (isInstance (.ref x) (.type "BaseException")) true from T0.andThen T1).at ?_)
  repeat (any_goals (first | assumption | wp_step))
theorem cls_entry {tk : Tok} {Q : Fin → Shared → Prop} (C : ClsK K D) (X : K.In s.heap) (p : OfCls x D s.heap) (q : Q (.done (.ret (.ref D))) s) : wpAny (model prog w) A (Builtin.«object.__getattribute__» ⟨[.ref x, .str "__class__" tk], []⟩) Q E s := by
  obtain ⟨h0, g0, d0, t0, o0⟩ := s
  have T0 := p.ty (M := model prog w)
  have T3 := find_data (M := model prog w) (x := x) X C.fc C.sg C.tk
  unfold Builtin.«object.__getattribute__»
  repeat (any_goals (first | assumption | with_reducible refine T0.at ?_ | with_reducible refine T3.at ?_ | wp_step))
  refine cls_get X p C.mo ?_
  repeat (any_goals (first | assumption | wp_step))
theorem cls_attr {Q : Option Value → Shared → Prop} (C : ClsK K D) (X : K.In s.heap) (p : OfCls x D s.heap) (q : Q (some (.ref D)) { s with toks := s.toks + 1 }) : wpAny (model prog w) A (getAttr? (.ref x) "__class__") Q E s := by
  obtain ⟨h0, g0, d0, t0, o0⟩ := s
  have T0 := p.ty (M := model prog w)
  have T1 := looks_findIn (M := model prog w) X C.ga
  have T2 := looks_findIn (M := model prog w) X C.gt
  have f3 := F.attr_ValueError.ga.bind (.ref x)
  unfold getAttr?
  unfold getAttrBy?
  unfold getAttrBy
  refine wpAny_bind (wpAny_mkText (wpAny_bind (wpAny_attempt (wpAny_holding (wpAny_bind (T0.at (wpAny_bind (T1.at ?_))))))))
  dsimp only
  have ne : (onTheHeap (Value.ref D) && Value.builtin "BaseException.__getattribute__" == Value.builtin "object.__getattribute__") = false := by
    rw [show (Value.builtin "BaseException.__getattribute__" == Value.builtin "object.__getattribute__") = false by decide +kernel, Bool.and_false]
  rw [if_neg (by rw [ne]; exact Bool.false_ne_true)]
  unfold getAttrByItsOwn
  unfold hookBefore
  rw [if_pos (show onTheHeap (Value.ref D) = true from rfl)]
  refine wpAny_bind (T2.at ?_)
  refine wpAny_bind (wpAny_attempt (wpAny_holding ?_))
  unfold callGetattribute
  rw [if_neg (by decide)]
  repeat (any_goals (first | assumption | wp_step))
  refine codeAny_call_builtin F.attr_ValueError.ga.plain F.entry_bexc_ga (ga_check C X p (cls_entry C X p ?_))
  exact handed_on rfl (wpAny_pure q)
theorem kit_exc (C : ClsK K D) : KitX K (.ref x) (.ref D) (OfCls x D) where
  ty := fun _ _ _ p => p.ty
  it := fun M h X _ => by
    obtain ⟨cd, e, _⟩ := any_some C.hd
    unfold clsIn at e
    split at e
    · rename_i ho
      intro A1 Q1 E1 s1 k1 q1
      unfold isType
      unfold loadHead
      exact wpAny_bind (wpAny_loadPart (k1 _ _ (X _ _ ho)) (wpAny_pure q1))
    · cases e
  ne := fun h tp dd its n sl X e2 => by
    obtain ⟨cd, e, _⟩ := any_some C.hd
    rw [Bool.eq_false_iff]
    intro z
    have e1 : D = tp := Value.ref.inj (beq_iff_eq.mp z)
    subst e1
    unfold clsIn at e
    split at e
    · rename_i ho
      cases (X _ _ ho).symm.trans e2
    · cases e
  ca := fun X p k => cls_attr C X p k
/-- isinstance(x, c), x an exception -/
theorem isi_exc {c : Value} {b : Bool} {Q : Value → Shared → Prop} (C : ClsK K D) (X : K.In s.heap) (p : OfCls x D s.heap) (e : kitOne K (.ref D) c = some b) (q : ∀ tk, Q (.bool b) { s with toks := tk }) : wpAny (model prog w) A (call (.builtin "isinstance") [.ref x, c]) Q E s :=
  kia_one (kit_exc C) X p e (fun z => nomatch z) q
end
end L2

end
section

set_option Elab.async false
set_option linter.all false
set_option maxRecDepth 100000
set_option maxHeartbeats 4000000

/-! zip of two things, each a list or a tuple. -/
namespace L2
open PySem PySem.Spec PyProof.Rows

/-- an iterator ia over la, whose items are vs; S k: it stands at the k-th -/
structure Src (P : Program) (w : World) (ia la : Addr) (vs : Array Value) (S : Nat → Heap → Prop) : Prop where
  keep : ∀ k h h', S k h → (∀ o, h.get? ia = some o → h'.get? ia = some o) → (∀ o, h.get? la = some o → h'.get? la = some o) → S k h'
  there : ∀ k h, S k h → ∃ o xs, h.get? ia = some o ∧ o.data = .fields xs
  step : ∀ {A : Around} {E : Value → Shared → Prop} {s : Shared} {Q : Value → Shared → Prop} (k : Nat) (x : Value), S k s.heap → vs[k]? = some x → (∀ h', S (k + 1) h' → Heap.SameBut ia s.heap h' → Q x { s with heap := h' }) →
    wpAny (model P w) A (Builtin.SmallTypes.nextOf (.ref ia)) Q E s
  stop : ∀ {A : Around} {E : Value → Shared → Prop} {s : Shared} {Q : Value → Shared → Prop} (k : Nat), A.handled = none → S k s.heap → vs[k]? = none →
    (∀ h' e, Heap.ExtBut ia s.heap h' → (∃ o, h'.get? e = some o ∧ o.cls = .type "StopIteration") → E (.ref e) { s with heap := h' }) → wpAny (model P w) A (Builtin.SmallTypes.nextOf (.ref ia)) Q E s
def sL (ia la : Addr) (vs : Array Value) : Nat → Heap → Prop := fun k h => h.IsListIter ia la k ∧ h.IsList la vs
def sT (ia la : Addr) (vs : Array Value) : Nat → Heap → Prop := fun k h => h.IsTupleIter ia la k ∧ h.IsTuple la vs
theorem src_list {P : Program} {w : World} {ia la : Addr} {vs : Array Value} (ne : la ≠ ia) : Src P w ia la vs (sL ia la vs) where
  keep := fun k h h' ⟨p, q⟩ e1 e2 => ⟨p.at e1, q.at e2⟩
  there := fun k h ⟨p, q⟩ => by obtain ⟨o, e, _, d⟩ := p; exact ⟨o, _, e, d⟩
  step := fun k x ⟨p, q⟩ hx hq => wpAny_nextOf_list_item p q hx fun h' p' sb => hq h' ⟨p', q.extBut sb.extBut ne⟩ sb
  stop := fun k hh ⟨p, q⟩ hx hq => wpAny_nextOf_list_end hh p q hx hq
section
variable {P : Program} {w : World} {A : Around} {E : Value → Shared → Prop} {s : Shared}
theorem tup_step {ja ta : Addr} {k : Nat} {vs : Array Value} {x : Value} {Q : Value → Shared → Prop} (p : s.heap.IsTupleIter ja ta k) (q : s.heap.IsTuple ta vs) (hx : vs[k]? = some x) (hq : ∀ h', h'.IsTupleIter ja ta (k + 1) → Heap.SameBut ja s.heap h' → Q x { s with heap := h' }) :
    wpAny (model P w) A (Builtin.SmallTypes.nextOf (.ref ja)) Q E s := by
  obtain ⟨ob, e1, e2, e3⟩ := id p
  obtain ⟨ot, f1, _, nn, f3⟩ := q
  unfold Builtin.SmallTypes.nextOf
  refine wpAny_bind (wpAny_callSpecial?_slot (name := Str.ofString "__next__") p.typeIs F.slot_tuple_iterator_next (wpAny_call_entry F.slot_tuple_iterator_next p.typeIs F.entry_tuple_iterator_next ?_ (F.args_tuple_iterator_next_1 _)))
  show wpAny _ _ (field (.ref ja) 0 >>= _) _ _ s
  refine wpAny_bind (wpAny_field e1 e3 (x := .ref ta) rfl ?_)
  show wpAny _ _ (if (Value.ref ta == Value.none) = true then _ else _) _ _ s
  rw [if_neg (show ¬ ((Value.ref ta == Value.none) = true) from Bool.false_ne_true)]
  show wpAny _ _ (field (.ref ja) 1 >>= _) _ _ s
  refine wpAny_bind (wpAny_field e1 e3 (x := .int k 0) rfl ?_)
  show wpAny _ _ (seqItems? (.ref ta) >>= _) _ _ s
  refine wpAny_bind (wpAny_seqItems f1 f3 ?_)
  simp only [Int.toNat_natCast, hx]
  refine wpAny_bind (wpAny_setField e1 e3 (by simp) (wpAny_pure ⟨x, rfl, wpAny_pure (hq _ ?_ (Heap.SameBut.update ..))⟩))
  exact ⟨_, Heap.get?_update_self _ e1 (Obj.isFreed_of_fields (Obj.data_mapFields e3 _)), (Obj.cls_mapFields ..).trans e2, by rw [Obj.data_mapFields e3]; simp [rawInt]⟩
theorem tup_stop {ja ta : Addr} {k : Nat} {vs : Array Value} {Q : Value → Shared → Prop} (hh : A.handled = none) (p : s.heap.IsTupleIter ja ta k) (q : s.heap.IsTuple ta vs) (hx : vs[k]? = none) (hE : ∀ h' e, Heap.ExtBut ja s.heap h' → (∃ o, h'.get? e = some o ∧ o.cls = .type "StopIteration") → E (.ref e) { s with heap := h' }) :
    wpAny (model P w) A (Builtin.SmallTypes.nextOf (.ref ja)) Q E s := by
  obtain ⟨ob, e1, e2, e3⟩ := id p
  obtain ⟨ot, f1, _, nn, f3⟩ := q
  unfold Builtin.SmallTypes.nextOf
  refine wpAny_bind (wpAny_callSpecial?_slot (name := Str.ofString "__next__") p.typeIs F.slot_tuple_iterator_next (wpAny_call_entry F.slot_tuple_iterator_next p.typeIs F.entry_tuple_iterator_next ?_ (F.args_tuple_iterator_next_1 _)))
  show wpAny _ _ (field (.ref ja) 0 >>= _) _ _ s
  refine wpAny_bind (wpAny_field e1 e3 (x := .ref ta) rfl ?_)
  show wpAny _ _ (if (Value.ref ta == Value.none) = true then _ else _) _ _ s
  rw [if_neg (show ¬ ((Value.ref ta == Value.none) = true) from Bool.false_ne_true)]
  show wpAny _ _ (field (.ref ja) 1 >>= _) _ _ s
  refine wpAny_bind (wpAny_field e1 e3 (x := .int k 0) rfl ?_)
  show wpAny _ _ (seqItems? (.ref ta) >>= _) _ _ s
  refine wpAny_bind (wpAny_seqItems f1 f3 ?_)
  simp only [Int.toNat_natCast, hx]
  refine wpAny_bind (wpAny_rule (wpAny_bind (wpAny_setField e1 e3 (by simp) ?_)))
  show wpAny _ _ (newExc (.type "StopIteration") [] >>= fun y => raiseNew y) _ _ _
  refine wpAny_bind ?_
  simp only [newExc, newTuple]
  refine wpAny_bind (wpAny_newObj_type ?_ (by size_fits)); refine wpAny_bind (m := firstArgMember _ _) (wpAny_of_eq (a := Value.none) (by first | rfl | (simp only [firstArgMember]; rfl)) ?_)
  refine wpAny_newObj_type ?_ (by size_fits); simp only [raiseNew]; refine wpAny_bind (wpAny_handled ?_)
  first | rw [show A.in1.handled = none from hh] | rw [hh]
  refine wpAny_bind (wpAny_pure (wpAny_throw (hE _ _ (((Heap.SameBut.update ..).extBut.push _).push _) ⟨_, Heap.get?_push_size _ rfl, rfl⟩)))
theorem src_tup {ia la : Addr} {vs : Array Value} (ne : la ≠ ia) : Src P w ia la vs (sT ia la vs) where
  keep := fun k h h' ⟨p, q⟩ e1 e2 => ⟨by obtain ⟨o, e, r⟩ := p; exact ⟨o, e1 o e, r⟩, by obtain ⟨o, e, r⟩ := q; exact ⟨o, e2 o e, r⟩⟩
  there := fun k h ⟨p, q⟩ => by obtain ⟨o, e, _, d⟩ := p; exact ⟨o, _, e, d⟩
  step := fun k x ⟨p, q⟩ hx hq => tup_step p q hx fun h' p' sb => hq h' ⟨p', q.extBut sb.extBut ne⟩ sb
  stop := fun k hh ⟨p, q⟩ hx hq => tup_stop hh p q hx hq

variable {Z U W a b l1 l2 : Addr} {k : Nat} {vs1 vs2 : Array Value} {S1 S2 : Nat → Heap → Prop} {x y c d : Value}
theorem Src.ext {ia la : Addr} {vs : Array Value} {S : Nat → Heap → Prop} {h h' : Heap} {e : Addr} (R : Src P w ia la vs S) (q : S k h) (hs : Heap.ExtBut e h h') (n1 : ia ≠ e) (n2 : la ≠ e) : S k h' := R.keep k h h' q (fun o z => hs _ _ n1 z) (fun o z => hs _ _ n2 z)
theorem zip_item {Q : Value → Shared → Prop} (D : ZipApart Z U W a b l1 l2) (R1 : Src P w a l1 vs1 S1) (R2 : Src P w b l2 vs2 S2) (hz : IsZip s.heap Z U W .none) (hU : IsPair s.heap U (.ref a) (.ref b)) (hW : IsPair s.heap W c d) (h1 : S1 k s.heap) (h2 : S2 k s.heap) (hx : vs1[k]? = some x) (hy : vs2[k]? = some y)
    (hQ : ∀ h', IsZip h' Z U W (rawInt s.heap.objs.size) → IsPair h' W x y → S1 (k + 1) h' → S2 (k + 1) h' → IsPair h' s.heap.objs.size x y → h'.objs.size = s.heap.objs.size + 1 → (∀ e o, e ≠ Z → e ≠ W → e ≠ a → e ≠ b → s.heap.get? e = some o → h'.get? e = some o) → Q (.ref s.heap.objs.size) { s with heap := h' }) :
    wpAny (model P w) A (Builtin.«zip.__next__» ⟨[.ref Z], []⟩) (fun fin s' => ∃ v, fin = .done (.ret v) ∧ Q v s') E s := by
  show wpAny _ _ (field (.ref Z) 2 >>= _) _ _ _
  refine wpAny_bind (wpAny_field hz rfl (x := .bool false) rfl ?_)
  show wpAny _ _ (field (.ref Z) 3 >>= _) _ _ _
  refine wpAny_bind (wpAny_field hz rfl (x := .ref U) rfl (wpAny_bind (wpAny_seqItems hU rfl ?_)))
  show wpAny _ _ (Builtin.SmallTypes.ownedTupleIsFree (.ref Z) >>= _) _ _ _
  refine wpAny_bind ?_; unfold Builtin.SmallTypes.ownedTupleIsFree
  refine wpAny_bind (wpAny_field hz rfl (x := .none) rfl (wpAny_pure ?_)); simp only [if_true]
  refine wpAny_bind (wpAny_rule (wpAny_bind (wpAny_field hz rfl (x := .ref W) rfl ?_)))
  refine wpAny_bind (wpAny_setField_rec hz (by simp) fun g1 z1 t1 => ?_)
  replace z1 : IsZip g1 Z U W .ellipsis := z1
  refine wpAny_bind ?_; simp only [List.zipIdx_cons, List.zipIdx_nil, List.forIn_cons, List.forIn_nil]
  refine wpAny_bind (wpAny_bind (wpAny_onRaise ?_)); show wpAny _ _ (Builtin.SmallTypes.nextOf (.ref a) >>= _) _ _ _
  refine wpAny_bind (R1.step k x (R1.ext h1 t1.extBut D.i1z D.l1z) hx fun g2 r2 t2 => wpAny_pure ?_)
  have w2 : IsPair g2 W c d := t2.extBut _ _ D.TOi1 (t1.extBut _ _ D.TOz hW)
  refine wpAny_bind (wpAny_seqItems w2 rfl (wpAny_bind (wpAny_updateSeq_pair w2 fun g3 w3 t3 => ?_)))
  replace w3 : IsPair g3 W x d := w3
  refine wpAny_bind (wpAny_letGo (wpAny_pure ?_))
  refine wpAny_bind (wpAny_bind (wpAny_onRaise ?_)); show wpAny _ _ (Builtin.SmallTypes.nextOf (.ref b) >>= _) _ _ _
  refine wpAny_bind (R2.step k y (R2.ext (R2.ext (R2.ext h2 t1.extBut D.i2z D.l2z) t2.extBut D.i12.symm D.l2i1) t3.extBut D.TOi2.symm D.l2TO) hy fun g4 r4 t4 => wpAny_pure ?_)
  have w4 : IsPair g4 W x d := t4.extBut _ _ D.TOi2 w3
  refine wpAny_bind (wpAny_seqItems w4 rfl (wpAny_bind (wpAny_updateSeq_pair w4 fun g5 w5 t5 => ?_)))
  replace w5 : IsPair g5 W x y := w5
  refine wpAny_bind (wpAny_letGo (wpAny_pure (wpAny_pure (wpAny_bind (wpAny_seqItems w5 rfl (wpAny_bind (wpAny_newTuple ?_)))))))
  have sz : g5.objs.size = s.heap.objs.size := by rw [t5.1, t4.1, t3.1, t2.1, t1.1]
  have z5 : IsZip g5 Z U W .ellipsis := t5.extBut _ _ D.TOz.symm (t4.extBut _ _ D.i2z.symm (t3.extBut _ _ D.TOz.symm (t2.extBut _ _ D.i1z.symm z1)))
  have kk : ∀ e o, e ≠ Z → e ≠ W → e ≠ a → e ≠ b → s.heap.get? e = some o → g5.get? e = some o := fun e o n1 n2 n3 n4 z => t5.extBut _ _ n2 (t4.extBut _ _ n4 (t3.extBut _ _ n2 (t2.extBut _ _ n3 (t1.extBut _ _ n1 z))))
  have r15 : S1 (k + 1) g5 := R1.ext (R1.ext (R1.ext r2 t3.extBut D.TOi1.symm D.l1TO) t4.extBut D.i12 D.l1i2) t5.extBut D.TOi1.symm D.l1TO
  have r25 : S2 (k + 1) g5 := R2.ext r4 t5.extBut D.TOi2.symm D.l2TO
  have zlt : Z < g5.objs.size := Heap.lt_size z5
  show wpAny _ _ (Builtin.SmallTypes.ownedTupleHandOut (.ref Z) (.ref g5.objs.size) >>= _) _ _ _
  refine wpAny_bind ?_; unfold Builtin.SmallTypes.ownedTupleHandOut
  have z6 : IsZip (g5.push { cls := .type "tuple", data := .seq #[x, y] }) Z U W .ellipsis := Heap.get?_push_of_some _ z5
  refine wpAny_bind (wpAny_setField_rec z6 (by simp) fun g7 z7 t7 => ?_)
  replace z7 : IsZip g7 Z U W (rawInt g5.objs.size) := z7
  refine wpAny_setField_rec z7 (by simp) fun g8 z8 t8 => ?_
  replace z8 : IsZip g8 Z U W (rawInt g5.objs.size) := z8
  have up : ∀ e o, e ≠ Z → g5.get? e = some o → g8.get? e = some o := fun e o n z => t8.extBut _ _ n (t7.extBut _ _ n (Heap.get?_push_of_some _ z))
  have T8 : IsPair g8 g5.objs.size x y := t8.extBut _ _ (Nat.ne_of_gt zlt) (t7.extBut _ _ (Nat.ne_of_gt zlt) (Heap.get?_push_size _ rfl))
  have s8 : g8.objs.size = g5.objs.size + 1 := by rw [t8.1, t7.1, Heap.size_push]
  rw [sz] at z8 T8 s8
  refine wpAny_pure ⟨_, rfl, ?_⟩; show Q (.ref g5.objs.size) _
  rw [sz]
  exact hQ g8 z8 (up _ _ D.TOz w5) (R1.keep _ _ _ r15 (fun o z => up _ o D.i1z z) (fun o z => up _ o D.l1z z)) (R2.keep _ _ _ r25 (fun o z => up _ o D.i2z z) (fun o z => up _ o D.l2z z)) T8 s8 fun e o n1 n2 n3 n4 z => up e o n1 (kk e o n1 n2 n3 n4 z)
theorem zip_stop {Q : Fin → Shared → Prop} (hh : A.handled = none) (D : ZipApart Z U W a b l1 l2) (R1 : Src P w a l1 vs1 S1) (R2 : Src P w b l2 vs2 S2) (hz : IsZip s.heap Z U W .none) (hU : IsPair s.heap U (.ref a) (.ref b)) (hW : IsPair s.heap W c d) (h1 : S1 k s.heap) (h2 : S2 k s.heap) (hend : vs1[k]? = none ∨ vs2[k]? = none)
    (hE : ∀ h' e, (∀ f o, f ≠ Z → f ≠ W → f ≠ a → f ≠ b → s.heap.get? f = some o → h'.get? f = some o) → (∃ o, h'.get? e = some o ∧ o.cls = .type "StopIteration") → E (.ref e) { s with heap := h' }) :
    wpAny (model P w) A (Builtin.«zip.__next__» ⟨[.ref Z], []⟩) Q E s := by
  show wpAny _ _ (field (.ref Z) 2 >>= _) _ _ _
  refine wpAny_bind (wpAny_field hz rfl (x := .bool false) rfl ?_)
  show wpAny _ _ (field (.ref Z) 3 >>= _) _ _ _
  refine wpAny_bind (wpAny_field hz rfl (x := .ref U) rfl (wpAny_bind (wpAny_seqItems hU rfl ?_)))
  show wpAny _ _ (Builtin.SmallTypes.ownedTupleIsFree (.ref Z) >>= _) _ _ _
  refine wpAny_bind ?_; unfold Builtin.SmallTypes.ownedTupleIsFree
  refine wpAny_bind (wpAny_field hz rfl (x := .none) rfl (wpAny_pure ?_)); simp only [if_true]
  refine wpAny_bind (wpAny_rule (wpAny_bind (wpAny_field hz rfl (x := .ref W) rfl ?_)))
  refine wpAny_bind (wpAny_setField_rec hz (by simp) fun g1 z1 t1 => ?_)
  replace z1 : IsZip g1 Z U W .ellipsis := z1
  refine wpAny_bind ?_; simp only [List.zipIdx_cons, List.zipIdx_nil, List.forIn_cons, List.forIn_nil]
  refine wpAny_bind (wpAny_bind (wpAny_onRaise ?_)); show wpAny _ _ (Builtin.SmallTypes.nextOf (.ref a) >>= _) _ _ _
  cases hx : vs1[k]? with
  | none =>
    refine wpAny_bind (R1.stop k hh (R1.ext h1 t1.extBut D.i1z D.l1z) hx fun g2 e t2 he => ?_)
    obtain ⟨oe, q1, q2⟩ := he
    have z2 : IsZip g2 Z U W .ellipsis := t2 _ _ D.i1z.symm z1
    have ez : e ≠ Z := fun z => by subst z; rw [z2] at q1; cases q1; simp at q2
    exact wpAny_setField_rec z2 (by simp) fun g3 _ t3 => hE g3 e (fun f o n1 _ n3 _ z => t3.extBut _ _ n1 (t2 _ _ n3 (t1.extBut _ _ n1 z))) ⟨oe, t3.extBut _ _ ez q1, q2⟩
  | some x =>
    have hy : vs2[k]? = none := by rcases hend with h | h; rw [hx] at h; cases h; exact h
    refine wpAny_bind (R1.step k x (R1.ext h1 t1.extBut D.i1z D.l1z) hx fun g2 r2 t2 => wpAny_pure ?_)
    have w2 : IsPair g2 W c d := t2.extBut _ _ D.TOi1 (t1.extBut _ _ D.TOz hW)
    refine wpAny_bind (wpAny_seqItems w2 rfl (wpAny_bind (wpAny_updateSeq_pair w2 fun g3 w3 t3 => ?_)))
    refine wpAny_bind (wpAny_letGo (wpAny_pure ?_))
    refine wpAny_bind (wpAny_bind (wpAny_onRaise ?_)); show wpAny _ _ (Builtin.SmallTypes.nextOf (.ref b) >>= _) _ _ _
    refine wpAny_bind (R2.stop k hh (R2.ext (R2.ext (R2.ext h2 t1.extBut D.i2z D.l2z) t2.extBut D.i12.symm D.l2i1) t3.extBut D.TOi2.symm D.l2TO) hy fun g4 e t4 he => ?_)
    obtain ⟨oe, q1, q2⟩ := he
    have z4 : IsZip g4 Z U W .ellipsis := t4 _ _ D.i2z.symm (t3.extBut _ _ D.TOz.symm (t2.extBut _ _ D.i1z.symm z1))
    have ez : e ≠ Z := fun z => by subst z; rw [z4] at q1; cases q1; simp at q2
    exact wpAny_setField_rec z4 (by simp) fun g5 _ t5 => hE g5 e (fun f o n1 n2 n3 n4 z => t5.extBut _ _ n1 (t4 _ _ n4 (t3.extBut _ _ n2 (t2.extBut _ _ n3 (t1.extBut _ _ n1 z))))) ⟨oe, t5.extBut _ _ ez q1, q2⟩

theorem next_item {Q : Option Value → Shared → Prop} (D : ZipApart Z U W a b l1 l2) (R1 : Src P w a l1 vs1 S1) (R2 : Src P w b l2 vs2 S2) (hz : IsZip s.heap Z U W .none) (hU : IsPair s.heap U (.ref a) (.ref b)) (hW : IsPair s.heap W c d) (h1 : S1 k s.heap) (h2 : S2 k s.heap) (hx : vs1[k]? = some x) (hy : vs2[k]? = some y)
    (hQ : ∀ h', IsZip h' Z U W (rawInt s.heap.objs.size) → IsPair h' W x y → S1 (k + 1) h' → S2 (k + 1) h' → IsPair h' s.heap.objs.size x y → h'.objs.size = s.heap.objs.size + 1 → (∀ e o, e ≠ Z → e ≠ W → e ≠ a → e ≠ b → s.heap.get? e = some o → h'.get? e = some o) → Q (some (.ref s.heap.objs.size)) { s with heap := h' }) :
    wpAny (model P w) A (pyNext (.ref Z)) Q E s := by
  have T : s.TypeIs (.ref Z) "zip" := ⟨_, hz, rfl⟩
  unfold pyNext
  exact wpAny_bind (wpAny_attempt (wpAny_callSpecial?_slot (name := Str.ofString "__next__") T F.slot_zip_next (wpAny_call_entry F.slot_zip_next T F.entry_zip_next (zip_item D R1 R2 hz hU hW h1 h2 hx hy fun h' b1 b2 b3 b4 b5 b6 b7 => wpAny_pure (hQ h' b1 b2 b3 b4 b5 b6 b7)) (F.args_zip_next_1 _))))
theorem next_stop {Q : Option Value → Shared → Prop} (hh : A.handled = none) (D : ZipApart Z U W a b l1 l2) (R1 : Src P w a l1 vs1 S1) (R2 : Src P w b l2 vs2 S2) (hz : IsZip s.heap Z U W .none) (hU : IsPair s.heap U (.ref a) (.ref b)) (hW : IsPair s.heap W c d) (h1 : S1 k s.heap) (h2 : S2 k s.heap) (hend : vs1[k]? = none ∨ vs2[k]? = none)
    (hQ : ∀ h', (∀ f o, f ≠ Z → f ≠ W → f ≠ a → f ≠ b → s.heap.get? f = some o → h'.get? f = some o) → Q none { s with heap := h' }) : wpAny (model P w) A (pyNext (.ref Z)) Q E s := by
  have T : s.TypeIs (.ref Z) "zip" := ⟨_, hz, rfl⟩
  unfold pyNext
  refine wpAny_bind (wpAny_attempt (wpAny_callSpecial?_slot (name := Str.ofString "__next__") T F.slot_zip_next (wpAny_call_entry F.slot_zip_next T F.entry_zip_next (zip_stop hh D R1 R2 hz hU hW h1 h2 hend fun h' e hk he => ?_) (F.args_zip_next_1 _))))
  obtain ⟨o, q1, q2⟩ := he
  exact wpAny_bind (wpAny_isInstance (T := "StopIteration") (b := true) ⟨o, q1, q2⟩ isSubtype_stop (wpAny_pure (hQ _ hk)))
end
/-- a list, or a tuple (t) -/
def SqK (t : Bool) (h : Heap) (l : Addr) (vs : Array Value) : Prop := match t with | false => h.IsList l vs | true => h.IsTuple l vs
def sK (t : Bool) (ia la : Addr) (vs : Array Value) : Nat → Heap → Prop := match t with | false => sL ia la vs | true => sT ia la vs
theorem src_k {P : Program} {w : World} {ia la : Addr} {vs : Array Value} (t : Bool) (ne : la ≠ ia) : Src P w ia la vs (sK t ia la vs) := by
  cases t
  · exact src_list ne
  · exact src_tup ne
def itN : Bool → String | false => "list_iterator" | true => "tuple_iterator"
abbrev itO (t : Bool) (l : Addr) : Obj := { cls := .type (itN t), data := .fields #[.ref l, .int 0 0] }
abbrev zH1 (h : Heap) (t1 : Bool) (l1 : Addr) : Heap := h.push (itO t1 l1)
abbrev zH2 (h : Heap) (t1 t2 : Bool) (l1 l2 : Addr) : Heap := (zH1 h t1 l1).push (itO t2 l2)
abbrev zH3 (h : Heap) (t1 t2 : Bool) (l1 l2 : Addr) : Heap := (zH2 h t1 t2 l1 l2).push { cls := .type "tuple", data := .seq #[.ref h.objs.size, .ref (zH1 h t1 l1).objs.size] }
abbrev zH4 (h : Heap) (t1 t2 : Bool) (l1 l2 : Addr) : Heap := (zH3 h t1 t2 l1 l2).push { cls := .type "tuple", data := .seq #[.none, .none] }
abbrev zH5 (h : Heap) (t1 t2 : Bool) (l1 l2 : Addr) : Heap := (zH4 h t1 t2 l1 l2).push { cls := .type "zip", data := .fields #[.none, .bool false, .bool false, .ref (zH2 h t1 t2 l1 l2).objs.size, .ref (zH3 h t1 t2 l1 l2).objs.size] }
theorem zip_made (t1 t2 : Bool) (l1 l2 : Addr) (vs1 vs2 : Array Value) : Meets (Builtin.«zip.__new__» ⟨[.type "zip", .ref l1, .ref l2], []⟩) (fun _ R s => SqK t1 s.heap l1 vs1 ∧ SqK t2 s.heap l2 vs2 ∧ R (.ok (.ret (.ref (zH4 s.heap t1 t2 l1 l2).objs.size))) { s with heap := zH5 s.heap t1 t2 l1 l2 }) :=
  .of_wp fun P w A R s h => by
    obtain ⟨h0, g0, d0, k0, o0⟩ := s
    obtain ⟨q1, q2, h⟩ := h
    have hsub := sub_zip
    cases t1 <;> cases t2
    · have e1 : Heap.IsList (Shared.heap ⟨h0, g0, d0, k0, o0⟩) l1 vs1 := q1
      have e2 : Heap.IsList (Shared.heap ⟨h0.push { cls := .type "list_iterator", data := .fields #[.ref l1, .int 0 0] }, g0, d0, k0, o0⟩) l2 vs2 := Heap.IsList.push q2 _
      wp_walk using wpAny_pyIter_list e1, wpAny_pyIter_list e2
      exact ⟨_, rfl, h⟩
    · have e1 : Heap.IsList (Shared.heap ⟨h0, g0, d0, k0, o0⟩) l1 vs1 := q1
      have e2 : Heap.IsTuple (Shared.heap ⟨h0.push { cls := .type "list_iterator", data := .fields #[.ref l1, .int 0 0] }, g0, d0, k0, o0⟩) l2 vs2 := Heap.IsTuple.push q2 _
      wp_walk using wpAny_pyIter_list e1, wpAny_pyIter_tuple e2
      exact ⟨_, rfl, h⟩
    · have e1 : Heap.IsTuple (Shared.heap ⟨h0, g0, d0, k0, o0⟩) l1 vs1 := q1
      have e2 : Heap.IsList (Shared.heap ⟨h0.push { cls := .type "tuple_iterator", data := .fields #[.ref l1, .int 0 0] }, g0, d0, k0, o0⟩) l2 vs2 := Heap.IsList.push q2 _
      wp_walk using wpAny_pyIter_tuple e1, wpAny_pyIter_list e2
      exact ⟨_, rfl, h⟩
    · have e1 : Heap.IsTuple (Shared.heap ⟨h0, g0, d0, k0, o0⟩) l1 vs1 := q1
      have e2 : Heap.IsTuple (Shared.heap ⟨h0.push { cls := .type "tuple_iterator", data := .fields #[.ref l1, .int 0 0] }, g0, d0, k0, o0⟩) l2 vs2 := Heap.IsTuple.push q2 _
      wp_walk using wpAny_pyIter_tuple e1, wpAny_pyIter_tuple e2
      exact ⟨_, rfl, h⟩
theorem sK_new {t : Bool} {ia la : Addr} {vs : Array Value} {h h' : Heap} (e : h'.get? ia = some (itO t la)) (q : SqK t h la vs) (k : ∀ c o, h.get? c = some o → h'.get? c = some o) : sK t ia la vs 0 h' := by
  cases t
  · exact ⟨⟨_, e, rfl, rfl⟩, Heap.IsList.at q fun o z => k _ o z⟩
  · exact ⟨⟨_, e, rfl, rfl⟩, by obtain ⟨o, z, r⟩ := q; exact ⟨o, k _ o z, r⟩⟩
theorem call_zipK {P : Program} {w : World} {A : Around} {E : Value → Shared → Prop} {s : Shared} {l1 l2 : Addr} {vs1 vs2 : Array Value} {Q : Value → Shared → Prop} (t1 t2 : Bool) (q1 : SqK t1 s.heap l1 vs1) (q2 : SqK t2 s.heap l2 vs2)
    (h : ∀ h', IsZip h' (s.heap.objs.size + 4) (s.heap.objs.size + 2) (s.heap.objs.size + 3) .none → IsPair h' (s.heap.objs.size + 2) (.ref s.heap.objs.size) (.ref (s.heap.objs.size + 1)) → IsPair h' (s.heap.objs.size + 3) .none .none → sK t1 s.heap.objs.size l1 vs1 0 h' → sK t2 (s.heap.objs.size + 1) l2 vs2 0 h' → h'.objs.size = s.heap.objs.size + 5 →
      (∀ c o, s.heap.get? c = some o → h'.get? c = some o) → Q (.ref (s.heap.objs.size + 4)) { s with heap := h' }) : wpAny (model P w) A (call (.type "zip") [.ref l1, .ref l2]) Q E s := by
  refine callType_new F.called_zip (by decide) (F.typeCall_zip_2 _ _) (F.newCall_zip_2 _ _) (fun obj => F.args_object_init_3 obj _ _) F.entry_zip_new (zip_made t1 t2 l1 l2 vs1 vs2) ⟨q1, q2, ?_⟩
  have n1 : (zH1 s.heap t1 l1).objs.size = s.heap.objs.size + 1 := Heap.size_push ..
  have n2 : (zH2 s.heap t1 t2 l1 l2).objs.size = s.heap.objs.size + 2 := by rw [Heap.size_push, n1]
  have n3 : (zH3 s.heap t1 t2 l1 l2).objs.size = s.heap.objs.size + 3 := by rw [Heap.size_push, n2]
  have n4 : (zH4 s.heap t1 t2 l1 l2).objs.size = s.heap.objs.size + 4 := by rw [Heap.size_push, n3]
  have n5 : (zH5 s.heap t1 t2 l1 l2).objs.size = s.heap.objs.size + 5 := by rw [Heap.size_push, n4]
  have e5 : (zH5 s.heap t1 t2 l1 l2).get? (zH4 s.heap t1 t2 l1 l2).objs.size = some _ := Heap.get?_push_size _ rfl
  have e4 : (zH5 s.heap t1 t2 l1 l2).get? (zH3 s.heap t1 t2 l1 l2).objs.size = some _ := Heap.get?_push_of_some _ (Heap.get?_push_size _ rfl)
  have e3 : (zH5 s.heap t1 t2 l1 l2).get? (zH2 s.heap t1 t2 l1 l2).objs.size = some _ := Heap.get?_push_of_some _ (Heap.get?_push_of_some _ (Heap.get?_push_size _ rfl))
  have e2 : (zH5 s.heap t1 t2 l1 l2).get? (zH1 s.heap t1 l1).objs.size = some _ := Heap.get?_push_of_some _ (Heap.get?_push_of_some _ (Heap.get?_push_of_some _ (Heap.get?_push_size _ rfl)))
  have e1 : (zH5 s.heap t1 t2 l1 l2).get? s.heap.objs.size = some _ := Heap.get?_push_of_some _ (Heap.get?_push_of_some _ (Heap.get?_push_of_some _ (Heap.get?_push_of_some _ (Heap.get?_push_size _ rfl))))
  have kp : ∀ c o, s.heap.get? c = some o → (zH5 s.heap t1 t2 l1 l2).get? c = some o := fun c o z => Heap.get?_push_of_some _ (Heap.get?_push_of_some _ (Heap.get?_push_of_some _ (Heap.get?_push_of_some _ (Heap.get?_push_of_some _ z))))
  show _ ∧ _
  rw [n2, n3, n4] at e5
  rw [n1, n2] at e3
  rw [n3] at e4
  rw [n1] at e2
  rw [n4]
  exact ⟨⟨_, e5, rfl⟩, h _ e5 e3 e4 (sK_new e1 q1 kp) (sK_new e2 q2 kp) n5 kp⟩
end L2

end
section

set_option Elab.async false
set_option linter.all false
set_option maxRecDepth 100000

/-! The evaluator: what a def of the text is worth, over deep values, without a heap. -/
namespace L2
open PySem

inductive DKey where
  | i (n : Int) | s (x : Str) | t (l : List (Sum Int Str))
  deriving DecidableEq

/-- a deep value -/
inductive DV where
  | non | bl (b : Bool) | int (i : Int) | str (x : Str) | tup (ds : List DV) | lst (ds : List DV) | dct (ks : List DKey) (vs : List DV)
  /-- an exception of the text's class c; a def of the text -/
  | exc (c : Str) | fn (x : Str)
  /-- the script -/
  | scr (ns : List Int)

/-- how far a value hangs on the names' own lists: it may; only its outermost list does; not at all; it is a new list; it is a tuple whose first item is a new list -/
inductive Cl where
  | weak | top | strong | fresh | ft
  deriving DecidableEq
inductive Re where
  | ok (d : DV) (c : Cl) | ex (c : Str)
inductive Rs where
  | ok (l : List (DV × Cl)) | ex (c : Str)
inductive Rt where
  | ok (b : Bool) | ex (c : Str)
/-- a name: without a value; with one; with a list of its own; with a tuple whose first item is a list of its own -/
inductive Sv where
  | no | val (d : DV) | own (d : DV) | ot (d : DV)
/-- a def's end -/
inductive Ou where
  | v (d : DV) (fr : Bool) | x (c : Str) | t (d : DV)
/-- a statement's end -/
inductive Out where
  | nx (δ : List Sv) | rt (d : DV) (fr : Bool) | ex (c : Str) (δ : List Sv) | rtt (d : DV)

/-! ### the text's inner form -/
inductive Bi where
  | len | abs | min | max | sum | any | all | sorted | sset | lset | int | list | tuple | str
  deriving DecidableEq
inductive Mt where
  | bitLength | index | get
  deriving DecidableEq
inductive Tg where
  | one (i : Nat) | many (is : List Nat)
inductive ME where
  | var (i : Nat) | int (i : Int) | bl (b : Bool) | str (x : Str) | non | glb (x : Str)
  | bin (op : Operator) (a b : ME) | neg (a : ME) | inv (a : ME) | not (a : ME)
  | cmp (op : CmpOp) (a b : ME) | chain (op op' : CmpOp) (a b c : ME)
  | and (es : List ME) | or (es : List ME) | ite (c a b : ME)
  | lst (es : List ME) | tup (es : List ME) | dct (ks vs : List ME)
  | ix (a b : ME) | sl (a lo hi : ME) | slf (a lo : ME) | slt (a hi : ME)
  | call (f : Nat) (es : List ME) | bi (f : Bi) (es : List ME) | isi (a : ME) (ts : List Str) | isx (a : ME) (t : Str) | meth (m : Mt) (a : ME) (es : List ME)
  | comp (elt : ME) (tg : Tg) (it : ME) (fr : List (Option Nat)) | compi (elt : ME) (tg : Tg) (it c : ME) (fr : List (Option Nat))
  /-- an item of a dict of the text -/
  | gdx (x : Str) (b : ME)
  /-- walked on the spot -/
  | rng (es : List ME) | enu (a : ME) | zp (a b : ME) | itm (a : ME) | rvs (a : ME)
inductive MS where
  | set (i : Nat) (own : Bool) (e : ME) | sett (is : List Nat) (e : ME) | par (is : List Nat) (es : List ME) | aug (i : Nat) (e : ME)
  | app (i : Nat) (e : ME) | ext (i : Nat) (e : ME) | seti (i : Nat) (k e : ME) | clr (i : Nat) | pop (i : Nat) (e : ME)
  | exp (e : ME) | ret (e : ME) | retn | iff (c : ME) (a b : List MS) | fo (tg : Tg) (it : ME) (body : List MS) | wh (c : ME) (body : List MS)
  /-- return (x, ..), x a list of its own; x[0].append(e) -/
  | ret0 (es : List ME) | app0 (i : Nat) (e : ME)
  | rse (c : Str) (e : ME) | tryc (body : List MS) (c : Str) (ie ic : Nat) | pas
  /-- no statement: the name's own list is a value as any other from here on -/
  | frz (i : Nat)
structure FD where
  n : Nat
  np : Nat
  dfl : List DV := []
  body : List MS

/-! ### on values -/
def Re.thn (r : Option Re) (k : DV → Cl → Option Re) : Option Re := match r with
  | none => none
  | some (.ex c) => some (.ex c)
  | some (.ok d c) => k d c
def Rs.thn (r : Option Rs) (k : List (DV × Cl) → Option Re) : Option Re := match r with
  | none => none
  | some (.ex c) => some (.ex c)
  | some (.ok l) => k l
def Rt.thn (r : Option Rt) (k : Bool → Option Re) : Option Re := match r with
  | none => none
  | some (.ex c) => some (.ex c)
  | some (.ok b) => k b
def Rt.thnT (r : Option Rt) (k : Bool → Option Rt) : Option Rt := match r with
  | none => none
  | some (.ex c) => some (.ex c)
  | some (.ok b) => k b
def Re.thnT (r : Option Re) (k : DV → Cl → Option Rt) : Option Rt := match r with
  | none => none
  | some (.ex c) => some (.ex c)
  | some (.ok d c) => k d c

mutual
/-- nothing in it can be changed -/
def DV.immut : DV → Bool
  | .non => true | .bl _ => true | .int _ => true | .str _ => true | .exc _ => true | .fn _ => true | .scr _ => true
  | .tup ds => DV.immuts ds
  | .lst _ => false | .dct _ _ => false
def DV.immuts : List DV → Bool
  | [] => true
  | d :: r => d.immut && DV.immuts r
end
/-- what is stored in it does not hang on the names' own lists -/
def stro (d : DV) : Cl → Bool
  | .strong => true | .fresh => true | .ft => true | _ => d.immut
def stros (l : List (DV × Cl)) : Bool := l.all fun p => stro p.1 p.2
/-- of an item -/
def Cl.item : Cl → Cl
  | .weak => .weak | _ => .strong
/-- a new list of the items of such values -/
def Cl.anew : Cl → Cl → Cl
  | .weak, _ => .weak | _, .weak => .weak | _, _ => .fresh
def Cl.notF : Cl → Cl
  | .fresh => .strong | c => c
def mostLen : Nat := 1000000

mutual
/-- == of Python; true where both are the same number, too -/
def deq : DV → DV → Bool
  | .non, .non => true
  | .bl a, .bl b => a == b
  | .bl a, .int j => (if a then 1 else 0) == j
  | .int i, .bl b => i == (if b then 1 else 0)
  | .int i, .int j => i == j
  | .str a, .str b => decide (a = b)
  | .tup a, .tup b => deqs a b
  | .lst a, .lst b => deqs a b
  | _, _ => false
def deqs : List DV → List DV → Bool
  | [], [] => true
  | a :: r, b :: s => deq a b && deqs r s
  | _, _ => false
end
mutual
/-- == is served, so deep at most -/
def DV.plain : Nat → DV → Bool
  | _, .non => true | _, .bl _ => true | _, .int _ => true
  | _, .str x => x.cps.all (· < 0x110000)
  | 0, _ => false
  | n + 1, .tup ds => DV.plains n ds | n + 1, .lst ds => DV.plains n ds
  | _, _ => false
def DV.plains : Nat → List DV → Bool
  | _, [] => true
  | n, d :: r => d.plain n && DV.plains n r
end

def truth : DV → Option Bool
  | .non => some false
  | .bl b => some b
  | .int i => some (i != 0)
  | .str x => some (x.cps.size != 0)
  | .tup ds => some (!ds.isEmpty)
  | .lst ds => some (!ds.isEmpty)
  | .dct ks _ => some (!ks.isEmpty)
  | _ => none

def ixNat (n : Nat) (i : Int) : Option Nat := if 0 ≤ i then (if i < n then some i.toNat else none) else if -(n : Int) ≤ i then some (i + n).toNat else none
def atD (ds : List DV) (i : Int) : Option DV := (ixNat ds.length i).bind fun j => ds[j]?
def keyL : List DV → Option (List (Sum Int Str))
  | [] => some []
  | .int i :: r => (keyL r).map (Sum.inl i :: ·)
  | .str x :: r => (keyL r).map (Sum.inr x :: ·)
  | _ => none
def keyOf : DV → Option DKey
  | .int i => some (.i i)
  | .str x => some (.s x)
  | .tup ds => (keyL ds).map DKey.t
  | _ => none
def lookD (k : DKey) : List DKey → List DV → Option DV
  | k' :: ks, v :: vs => if k' = k then some v else lookD k ks vs
  | _, _ => none
def putD (k : DKey) (d : DV) : List DKey → List DV → List DKey × List DV
  | k' :: ks, v :: vs => if k' = k then (k' :: ks, d :: vs) else let r := putD k d ks vs; (k' :: r.1, v :: r.2)
  | _, _ => ([k], [d])
def ixD (a b : DV) : Option DV := match a, b with
  | .scr ns, .int i => ((ixNat ns.length i).bind fun j => ns[j]?).map DV.int
  | .lst ds, .int i => atD ds i
  | .tup ds, .int i => atD ds i
  | .str z, .int i => (ixNat z.cps.size i).bind fun j => (z.cps[j]?).map fun c => .str ⟨#[c]⟩
  | .dct ks vs, k => (keyOf k).bind fun k => lookD k ks vs
  | _, _ => none
def slIx (n d : Nat) : Option Int → Nat
  | none => d
  | some v => if v < 0 then (v + (n : Int)).toNat else min v.toNat n
def cutD (ds : List DV) (lo hi : Option Int) : List DV := (ds.drop (slIx ds.length 0 lo)).take (slIx ds.length ds.length hi - slIx ds.length 0 lo)
def slD (a : DV) (lo hi : Option Int) : Option DV := match a with
  | .scr ns => some (.lst (cutD (ns.map DV.int) lo hi))
  | .lst ds => some (.lst (cutD ds lo hi))
  | .tup ds => if slIx ds.length 0 lo = 0 ∧ slIx ds.length ds.length hi = ds.length then none else some (.tup (cutD ds lo hi))
  | _ => none
def slCl (a : DV) (c : Cl) : Cl := match a with
  | .scr _ => .fresh
  | .lst _ => Cl.anew c c
  | _ => c.item

def mulOk (i j : Int) : Bool := (decide (-(2 ^ 64) < i) && decide (i < 2 ^ 64)) || (decide (-(2 ^ 64) < j) && decide (j < 2 ^ 64))
def binD (op : Operator) (a b : DV) (ca cb : Cl) : Option Re := match op, a, b with
  | .Add, .int i, .int j => some (.ok (.int (i + j)) .strong)
  | .Sub, .int i, .int j => some (.ok (.int (i - j)) .strong)
  | .Mult, .int i, .int j => if mulOk i j then some (.ok (.int (i * j)) .strong) else none
  | .Mod, .int i, .int j => if 0 < j then some (.ok (.int (i % j)) .strong) else none
  | .FloorDiv, .int i, .int j => if 0 < j ∧ j < 1073741824 then some (.ok (.int (i / j)) .strong) else none
  | .LShift, .int i, .int j => if 0 ≤ j ∧ j ≤ 1000000 ∧ i.natAbs < 2 ^ 64 then some (.ok (.int (i * 2 ^ j.toNat)) .strong) else none
  | .RShift, .int i, .int j => if 0 ≤ j then some (.ok (.int (i / 2 ^ j.toNat)) .strong) else none
  | .BitAnd, .int i, .int j => some (.ok (.int (Builtin.bitAnd i j)) .strong)
  | .BitOr, .int i, .int j => some (.ok (.int (Builtin.bitOr i j)) .strong)
  | .BitXor, .int i, .int j => some (.ok (.int (Builtin.bitXor i j)) .strong)
  | .Add, .lst x, .lst y => if x.length + y.length ≤ mostLen then some (.ok (.lst (x ++ y)) (Cl.anew ca cb)) else none
  | .Add, .tup x, .tup y => if x.length + y.length ≤ mostLen ∧ x ≠ [] then some (.ok (.tup (x ++ y)) (Cl.anew ca cb).notF) else none
  | .Mult, .lst x, .int k => if x.length * k.toNat ≤ mostLen ∧ -(2 ^ 63) ≤ k ∧ k < 2 ^ 63 then some (.ok (.lst (List.replicate k.toNat x).flatten) (Cl.anew ca ca)) else none
  | _, _, _ => none

def isN : DV → Bool
  | .non => true
  | _ => false
def cmpD (op : CmpOp) (a b : DV) : Option Bool := match op, a, b with
  | .Lt, .int i, .int j => some (decide (i < j))
  | .LtE, .int i, .int j => some (decide (i ≤ j))
  | .Gt, .int i, .int j => some (decide (j < i))
  | .GtE, .int i, .int j => some (decide (j ≤ i))
  | .Eq, a, b => if a.plain 60 && b.plain 60 then some (deq a b) else none
  | .NotEq, a, b => if a.plain 60 && b.plain 60 then some (!deq a b) else none
  | .Is, a, .non => some (isN a)
  | .IsNot, a, .non => some (!isN a)
  | .In, a, .lst ds => if a.plain 60 && DV.plains 60 ds then some (ds.any fun d => deq d a) else none
  | .NotIn, a, .lst ds => if a.plain 60 && DV.plains 60 ds then some (!ds.any fun d => deq d a) else none
  | .In, a, .tup ds => if a.plain 60 && DV.plains 60 ds then some (ds.any fun d => deq d a) else none
  | .NotIn, a, .tup ds => if a.plain 60 && DV.plains 60 ds then some (!ds.any fun d => deq d a) else none
  | .In, a, .dct ks vs => (keyOf a).map fun k => (lookD k ks vs).isSome
  | .NotIn, a, .dct ks vs => (keyOf a).map fun k => !(lookD k ks vs).isSome
  | _, _, _ => none

def ints? : List DV → Option (List Int)
  | [] => some []
  | .int i :: r => (ints? r).map (i :: ·)
  | _ => none
def bools? : List DV → Option (List Bool)
  | [] => some []
  | .bl i :: r => (bools? r).map (i :: ·)
  | _ => none
def minI : Int → List Int → Int
  | m, [] => m
  | m, x :: r => minI (if x < m then x else m) r
def maxI : Int → List Int → Int
  | m, [] => m
  | m, x :: r => maxI (if m < x then x else m) r
/-- sorted, of ints -/
def insI (x : Int) : List Int → List Int
  | [] => [x]
  | y :: r => if x < y then x :: y :: r else y :: insI x r
def sortI : List Int → List Int
  | [] => []
  | x :: r => insI x (sortI r)
/-- met for the first time -/
def dk (σ : List Int) (k : Int) : List Int := if k ∈ σ then σ else σ ++ [k]
def firstAt (d : DV) (k : Nat) : List DV → Option Nat
  | [] => none
  | x :: r => if deq x d then some k else firstAt d (k + 1) r
def bitLen (i : Int) : Int := if i = 0 then 0 else (i.natAbs.log2 : Int) + 1

def lenD : List (DV × Cl) → Option Re
  | [(.lst ds, _)] => some (.ok (.int ds.length) .strong)
  | [(.tup ds, _)] => some (.ok (.int ds.length) .strong)
  | [(.scr ns, _)] => some (.ok (.int ns.length) .strong)
  | [(.str z, _)] => some (.ok (.int z.length) .strong)
  | _ => none
def absD : List (DV × Cl) → Option Re
  | [(.int i, _)] => some (.ok (.int (if i < 0 then -i else i)) .strong)
  | _ => none
def minD : List (DV × Cl) → Option Re
  | [(.int i, _), (.int j, _)] => some (.ok (.int (if j < i then j else i)) .strong)
  | [(.lst ds, _)] => match ints? ds with
    | some (n :: r) => some (.ok (.int (minI n r)) .strong)
    | _ => none
  | _ => none
def maxD : List (DV × Cl) → Option Re
  | [(.int i, _), (.int j, _)] => some (.ok (.int (if j > i then j else i)) .strong)
  | [(.lst ds, _)] => match ints? ds with
    | some (n :: r) => some (.ok (.int (maxI n r)) .strong)
    | _ => none
  | _ => none
/-- sorted(set(..)) -/
def ssetD : List (DV × Cl) → Option Re
  | [(.lst ds, _)] => match ints? ds with
    | some ns => if ns.length < 4000 ∧ (ns.foldl dk []).length < 64 then some (.ok (.lst ((sortI (ns.foldl dk [])).map DV.int)) .fresh) else none
    | none => none
  | _ => none
def intD : List (DV × Cl) → Option Re
  | [(.int i, _)] => some (.ok (.int i) .strong)
  | [(.bl b, _)] => some (.ok (.int (if b then 1 else 0)) .strong)
  | _ => none
def listD : List (DV × Cl) → Option Re
  | [(.scr ns, _)] => some (.ok (.lst (ns.map DV.int)) .fresh)
  | [(.lst ds, c)] => some (.ok (.lst ds) (Cl.anew c c))
  | [(.tup ds, c)] => some (.ok (.lst ds) (Cl.anew c c))
  | _ => none
def tupleD : List (DV × Cl) → Option Re
  | [(.lst ds, c)] => some (.ok (.tup ds) c.item)
  | [(.tup ds, c)] => some (.ok (.tup ds) c)
  | _ => none
def biD (f : Bi) (l : List (DV × Cl)) : Option Re := match f with
  | .len => lenD l
  | .abs => absD l
  | .min => minD l
  | .max => maxD l
  | .int => intD l
  | .list => listD l
  | .tuple => tupleD l
  | .sset => ssetD l
  | _ => none
/-- served so far -/
def biOk : Bi → Bool
  | .len => true | .abs => true | .min => true | .max => true | .int => true | .list => true | .tuple => true | .sset => true
  | _ => false
def mtD (m : Mt) (a : DV) : Option Re := match m, a with
  | .bitLength, .int i => some (.ok (.int (bitLen i)) .strong)
  | _, _ => none

/-- the text's classes: who stands above whom -/
structure Gs where
  /-- the text's dicts of texts -/
  dcs : List (Str × List (Str × Str)) := []
  /-- the text's names that hold a plain value -/
  con : List (Str × DV)
  /-- class, bases up to the first of Python's -/
  cls : List (Str × List Str)
/-- the class is the one, or stands below it -/
def catches (G : Gs) (c c' : Str) : Bool := c == c' || ((G.cls.lookup c).getD []).contains c'
def gdxD (G : Gs) (x : Str) (d : DV) : Option DV := match G.dcs.lookup x, d with
  | some kvs, .str k => (kvs.lookup k).map DV.str
  | _, _ => none
def isxD (G : Gs) (d : DV) (t : Str) : Option Bool := match d with
  | .exc c => if (G.cls.lookup c).isSome then some (catches G c t) else none
  | _ => none
def tyOf : DV → List Str
  | .non => ["NoneType"]
  | .bl _ => ["bool", "int"]
  | .int _ => ["int"]
  | .str _ => ["str"]
  | .tup _ => ["tuple"]
  | .lst _ => ["list"]
  | .dct _ _ => ["dict"]
  | _ => []
def pyTypes : List Str := ["int", "bool", "str", "list", "tuple", "dict"]
def isiD (G : Gs) (d : DV) (ts : List Str) : Option Bool := match d with
  | .scr _ => none
  | .exc _ => none
  | .dct _ _ => none
  | .fn _ => none
  | d => match ts with
    | [t] => if pyTypes.contains t then some ((tyOf d).contains t) else none
    | _ => none

def upTo (lo : Int) (n : Nat) : List DV := (List.range n).map fun (i : Nat) => DV.int (lo + i)
def downTo (lo : Int) (n : Nat) : List DV := (List.range n).map fun (i : Nat) => DV.int (lo - i)
def small62 (i : Int) : Bool := decide (-(2 ^ 62) ≤ i) && decide (i < 2 ^ 62)
def rngD (l : List (DV × Cl)) : Option (List DV) := match l with
  | [(.int j, _)] => if small62 j && decide (j ≤ mostLen) then some (upTo 0 j.toNat) else none
  | [(.int i, _), (.int j, _)] => if small62 i && small62 j && decide (j - i ≤ mostLen) then some (upTo i (j - i).toNat) else none
  | _ => none
def enuD : Nat → List DV → List DV
  | _, [] => []
  | k, d :: r => .tup [.int k, d] :: enuD (k + 1) r
def zpD : List DV → List DV → List DV
  | a :: r, b :: s => .tup [a, b] :: zpD r s
  | _, _ => []
def Cl.meet : Cl → Cl → Cl
  | .weak, _ => .weak | _, .weak => .weak | .top, _ => .top | _, .top => .top | _, _ => .strong
/-- a tuple (true), or a list, and its items -/
def kindD : DV → Option (Bool × List DV)
  | .lst ds => some (false, ds)
  | .tup ds => some (true, ds)
  | _ => none
def zipD (x y : DV) (c c' : Cl) : Option Re := match kindD x, kindD y with
  | some (_, xs), some (_, ys) => some (.ok (.lst (zpD xs ys)) (Cl.meet c c'))
  | _, _ => none
def keyD : DKey → DV
  | .i n => .int n
  | .s x => .str x
  | .t l => .tup (l.map fun k => match k with | .inl i => .int i | .inr x => .str x)
def itmD (ks : List DKey) (vs : List DV) : List DV := zpD (ks.map keyD) vs
def seqD : DV → Option (List DV)
  | .scr ns => some (ns.map DV.int)
  | .lst ds => some ds
  | .tup ds => some ds
  | _ => none

def setAll (δ : List Sv) : List Nat → List DV → Option (List Sv)
  | [], [] => some δ
  | i :: is, d :: ds => setAll (δ.set i (.val d)) is ds
  | _, _ => none
def Tg.bind (tg : Tg) (d : DV) (δ : List Sv) : Option (List Sv) := match tg with
  | .one i => some (δ.set i (.val d))
  | .many is => match d with
    | .tup ds => setAll δ is ds
    | _ => none
def Sv.plain : Sv → Sv
  | .ot _ => .no
  | s => s
def innerD (fr : List (Option Nat)) (δ : List Sv) : List Sv := fr.map fun o => match o with
  | some i => (δ.getD i .no).plain
  | none => .no

/-- one item of a comprehension: nothing, or a value -/
inductive Rc where
  | skip | item (d : DV)
def compGo (g : DV → Option Rc) : List DV → Option (List DV)
  | [] => some []
  | d :: r => match g d with
    | none => none
    | some .skip => compGo g r
    | some (.item x) => match compGo g r with
      | none => none
      | some xs => some (x :: xs)
def compEnd (r : Option (List DV)) : Option Re := match r with
  | none => none
  | some xs => some (.ok (.lst xs) .fresh)
def Rc.of (r : Option Re) : Option Rc := match r with
  | some (.ok d c) => if stro d c then some (.item d) else none
  | _ => none
def Rc.test (t : Option Rt) (r : Option Rc) : Option Rc := match t with
  | some (.ok true) => r
  | some (.ok false) => some .skip
  | _ => none

/-- a walk: its items; how the walked thing hangs on the names' own lists -/
inductive Ri where
  | ok (ds : List DV) (c : Cl) | ex (c : Str)
def Ri.thn (r : Option Ri) (k : List DV → Cl → Option Re) : Option Re := match r with
  | none => none
  | some (.ex c) => some (.ex c)
  | some (.ok ds c) => k ds c
def Re.thnI (r : Option Re) (k : DV → Cl → Option Ri) : Option Ri := match r with
  | none => none
  | some (.ex c) => some (.ex c)
  | some (.ok d c) => k d c
def Rs.thnI (r : Option Rs) (k : List (DV × Cl) → Option Ri) : Option Ri := match r with
  | none => none
  | some (.ex c) => some (.ex c)
  | some (.ok l) => k l
def iterD (d : DV) (c : Cl) : Option Ri := (seqD d).map fun ds => .ok ds c

def callD (F : Nat → List DV → Option Ou) (f : Nat) (l : List (DV × Cl)) : Option Re := match F f (l.map (·.1)) with
  | none => none
  | some (.x c) => some (.ex c)
  | some (.t d) => some (.ok d (if l.all fun p => p.2 == .strong || p.2 == .fresh then .ft else .weak))
  | some (.v d fr) => some (.ok d (if l.all fun p => p.2 == .strong || p.2 == .fresh then (if fr then .fresh else .strong) else .weak))

def andD (x : DV) (c : Cl) (r : Option Re) : Option Re := match truth x with
  | none => none
  | some true => r
  | some false => some (.ok x c)
def orD (x : DV) (c : Cl) (r : Option Re) : Option Re := match truth x with
  | none => none
  | some true => some (.ok x c)
  | some false => r
/-- what a test comes to -/
def tstD (r : Option Re) : Option Rt := Re.thnT r fun x _ => (truth x).map Rt.ok
/-- what is walked -/
def walkD (r : Option Re) : Option Ri := Re.thnI r fun x c => iterD x c
mutual
def evE (G : Gs) (F : Nat → List DV → Option Ou) : ME → List Sv → Option Re
  | .var i, δ => match δ[i]? with
    | some (.val d) => some (.ok d .strong)
    | some (.own d) => some (.ok d .top)
    | some (.ot d) => some (.ok d .weak)
    | _ => none
  | .int i, _ => some (.ok (.int i) .strong)
  | .bl i, _ => some (.ok (.bl i) .strong)
  | .str i, _ => some (.ok (.str i) .strong)
  | .non, _ => some (.ok .non .strong)
  | .glb x, _ => (G.con.lookup x).map fun d => .ok d .strong
  | .bin op a b, δ => Re.thn (evE G F a δ) fun x cx => Re.thn (evE G F b δ) fun y cy => binD op x y cx cy
  | .neg a, δ => Re.thn (evE G F a δ) fun x _ => match x with | .int i => some (.ok (.int (-i)) .strong) | _ => none
  | .inv a, δ => Re.thn (evE G F a δ) fun x _ => match x with | .int i => some (.ok (.int (Builtin.bitNot i)) .strong) | _ => none
  | .not a, δ => Re.thn (evE G F a δ) fun x _ => (truth x).map fun k => .ok (.bl (!k)) .strong
  | .cmp op a b, δ => Re.thn (evE G F a δ) fun x _ => Re.thn (evE G F b δ) fun y _ => (cmpD op x y).map fun k => .ok (.bl k) .strong
  | .chain op op' a b c, δ => Re.thn (evE G F a δ) fun x _ => Re.thn (evE G F b δ) fun y _ => match cmpD op x y with
    | none => none
    | some false => some (.ok (.bl false) .strong)
    | some true => Re.thn (evE G F c δ) fun z _ => (cmpD op' y z).map fun k => .ok (.bl k) .strong
  | .and es, δ => evAnd G F es δ
  | .or es, δ => evOr G F es δ
  | .ite c a b, δ => Rt.thn (tstD (evE G F c δ)) fun k => if k then evE G F a δ else evE G F b δ
  | .lst es, δ => Rs.thn (evEs G F es δ) fun l => if l.length ≤ mostLen then some (.ok (.lst (l.map (·.1))) (if stros l then .fresh else .weak)) else none
  | .tup es, δ => Rs.thn (evEs G F es δ) fun l => if l.length ≤ mostLen then some (.ok (.tup (l.map (·.1))) (if stros l then .strong else .weak)) else none
  | .dct _ _, _ => none
  | .ix a b, δ => Re.thn (evE G F a δ) fun x cx => Re.thn (evE G F b δ) fun y _ => (ixD x y).map fun d => .ok d cx.item
  | .sl a lo hi, δ => Re.thn (evE G F a δ) fun x cx => Re.thn (evE G F lo δ) fun l _ => match l with
    | .int l => Re.thn (evE G F hi δ) fun h _ => (match h with
      | .int h => (slD x (some l) (some h)).map fun d => .ok d (slCl x cx)
      | _ => none)
    | _ => none
  | .slf a lo, δ => Re.thn (evE G F a δ) fun x cx => Re.thn (evE G F lo δ) fun l _ => match l with
    | .int l => (slD x (some l) none).map fun d => .ok d (slCl x cx)
    | _ => none
  | .slt a hi, δ => Re.thn (evE G F a δ) fun x cx => Re.thn (evE G F hi δ) fun h _ => match h with
    | .int h => (slD x none (some h)).map fun d => .ok d (slCl x cx)
    | _ => none
  | .call f es, δ => Rs.thn (evEs G F es δ) fun l => callD F f l
  | .bi f es, δ => if biOk f then Rs.thn (evEs G F es δ) fun l => biD f l else none
  | .isi a ts, δ => Re.thn (evE G F a δ) fun x _ => (isiD G x ts).map fun k => .ok (.bl k) .strong
  | .isx a t, δ => Re.thn (evE G F a δ) fun x _ => (isxD G x t).map fun k => .ok (.bl k) .strong
  | .meth m a _, δ => if m = .bitLength then Re.thn (evE G F a δ) fun x _ => mtD m x else none
  | .comp elt tg it fr, δ => Ri.thn (walkD (evE G F it δ)) fun ds c => if c = .weak ∨ mostLen < ds.length then none else compEnd (compGo (fun d => (tg.bind d (innerD fr δ)).bind fun δ' => Rc.of (evE G F elt δ')) ds)
  | .compi elt tg it cd fr, δ => Ri.thn (walkD (evE G F it δ)) fun ds c => if c = .weak ∨ mostLen < ds.length then none else compEnd (compGo (fun d => (tg.bind d (innerD fr δ)).bind fun δ' => Rc.test (tstD (evE G F cd δ')) (Rc.of (evE G F elt δ'))) ds)
  | .gdx x b, δ => if (G.dcs.lookup x).isSome then Re.thn (evE G F b δ) fun y _ => (gdxD G x y).map fun d => .ok d .strong else none
  /- what is walked on the spot: the list of its items -/
  | .rng es, δ => Rs.thn (evEs G F es δ) fun l => (rngD l).map fun ds => .ok (.lst ds) .fresh
  | .zp a b, δ => Re.thn (evE G F a δ) fun x c => Re.thn (evE G F b δ) fun y c' => zipD x y c c'
  | .enu _, _ => none
  | .itm _, _ => none
  | .rvs _, _ => none
def evEs (G : Gs) (F : Nat → List DV → Option Ou) : List ME → List Sv → Option Rs
  | [], _ => some (.ok [])
  | e :: es, δ => match evE G F e δ with
    | none => none
    | some (.ex c) => some (.ex c)
    | some (.ok d c) => match evEs G F es δ with
      | none => none
      | some (.ex c) => some (.ex c)
      | some (.ok l) => some (.ok ((d, c) :: l))
def evAnd (G : Gs) (F : Nat → List DV → Option Ou) : List ME → List Sv → Option Re
  | [], _ => none
  | e :: es, δ => if es.isEmpty then evE G F e δ else Re.thn (evE G F e δ) fun x c => andD x c (evAnd G F es δ)
def evOr (G : Gs) (F : Nat → List DV → Option Ou) : List ME → List Sv → Option Re
  | [], _ => none
  | e :: es, δ => if es.isEmpty then evE G F e δ else Re.thn (evE G F e δ) fun x c => orD x c (evOr G F es δ)
end

/-! ### statements -/
def Re.thnS (δ : List Sv) (r : Option Re) (k : DV → Cl → Option Out) : Option Out := match r with
  | none => none
  | some (.ex c) => some (.ex c δ)
  | some (.ok d c) => k d c
def Rs.thnS (δ : List Sv) (r : Option Rs) (k : List (DV × Cl) → Option Out) : Option Out := match r with
  | none => none
  | some (.ex c) => some (.ex c δ)
  | some (.ok l) => k l
def Rt.thnS (δ : List Sv) (r : Option Rt) (k : Bool → Option Out) : Option Out := match r with
  | none => none
  | some (.ex c) => some (.ex c δ)
  | some (.ok b) => k b
def Ri.thnS (δ : List Sv) (r : Option Ri) (k : List DV → Cl → Option Out) : Option Out := match r with
  | none => none
  | some (.ex c) => some (.ex c δ)
  | some (.ok ds c) => k ds c
def forGo (tg : Tg) (body : List Sv → Option Out) : List DV → List Sv → Option Out
  | [], δ => some (.nx δ)
  | d :: r, δ => match tg.bind d δ with
    | none => none
    | some δ1 => match body δ1 with
      | some (.nx δ2) => forGo tg body r δ2
      | o => o
def whileGo (test : List Sv → Option Rt) (body : List Sv → Option Out) : Nat → List Sv → Option Out
  | 0, _ => none
  | n + 1, δ => match test δ with
    | none => none
    | some (.ex c) => some (.ex c δ)
    | some (.ok false) => some (.nx δ)
    | some (.ok true) => match body δ with
      | some (.nx δ2) => whileGo test body n δ2
      | o => o
def frD : DV → Cl → Bool
  | .lst _, .fresh => true | .lst _, .top => true | .dct _ _, .fresh => true | .dct _ _, .top => true
  | _, _ => false
def noOt (i : Nat) (δ : List Sv) : Bool := (List.range δ.length).all fun j => j == i || (match δ[j]? with | some (.ot _) => false | _ => true)
def setOwn (i : Nat) (δ : List Sv) (d : DV) (c : Cl) : Option Out := match c with
  | .fresh => some (.nx (δ.set i (.own d)))
  | .ft => if noOt i δ then some (.nx (δ.set i (.ot d))) else none
  | _ => none
def retD (d : DV) (c : Cl) : Out := match c with
  | .ft => .rtt d
  | _ => .rt d (frD d c)
def ret0D (l : List (DV × Cl)) : Option Out := match l with
  | (.lst ds, .top) :: l' => if l'.length < mostLen ∧ stros l' then some (.rtt (.tup (.lst ds :: l'.map (·.1)))) else none
  | _ => none
/-- try .. except c as e: x = e -/
def tryD (G : Gs) (c : Str) (ie ic : Nat) (r : Option Out) : Option Out := match r with
  | some (.ex c' δ') => if (G.cls.lookup c').isSome ∧ catches G c' c ∧ ie < δ'.length ∧ ie ≠ ic then some (.nx ((δ'.set ic (.val (.exc c'))).set ie .no)) else none
  | o => o
mutual
def evS (G : Gs) (F : Nat → List DV → Option Ou) (fu : Nat) : MS → List Sv → Option Out
  | .set i own e, δ => Re.thnS δ (evE G F e δ) fun d c => if own then setOwn i δ d c else (if stro d c then some (.nx (δ.set i (.val d))) else none)
  | .sett is e, δ => Re.thnS δ (evE G F e δ) fun d c => if c = .strong ∨ c = .fresh then (match kindD d with
    | some (_, ds) => (setAll δ is ds).map Out.nx
    | none => none) else none
  | .par _ _, _ => none
  | .aug _ _, _ => none
  | .app i e, δ => match δ[i]? with
    | some (.own (.lst ds)) => Re.thnS δ (evE G F e δ) fun d c => if stro d c ∧ ds.length < mostLen then some (.nx (δ.set i (.own (.lst (ds ++ [d]))))) else none
    | _ => none
  | .ext i e, δ => match δ[i]? with
    | some (.own (.lst ds)) => Re.thnS δ (evE G F e δ) fun d c => if c = .strong ∨ c = .fresh then (match kindD d with
      | some (_, ys) => if ds.length + ys.length ≤ mostLen then some (.nx (δ.set i (.own (.lst (ds ++ ys))))) else none
      | none => none) else none
    | _ => none
  | .seti i k e, δ => match δ[i]? with
    | some (.own (.lst ds)) => Re.thnS δ (evE G F e δ) fun d c => Re.thnS δ (evE G F k δ) fun k _ => (match k with
      | .int k => (match ixNat ds.length k with
        | some j => if stro d c then some (.nx (δ.set i (.own (.lst (ds.set j d))))) else none
        | none => none)
      | _ => none)
    | _ => none
  | .clr _, _ => none
  | .pop _ _, _ => none
  | .exp e, δ => Re.thnS δ (evE G F e δ) fun _ _ => some (.nx δ)
  | .ret e, δ => Re.thnS δ (evE G F e δ) fun d c => some (retD d c)
  | .ret0 es, δ => Rs.thnS δ (evEs G F es δ) fun l => ret0D l
  | .app0 i e, δ => match δ[i]? with
    | some (.ot (.tup (.lst ds :: _))) => Re.thnS δ (evE G F e δ) fun d c => if stro d c ∧ ds.length < mostLen then some (.nx (δ.set i .no)) else none
    | _ => none
  | .retn, _ => some (.rt .non false)
  | .iff c a b, δ => Rt.thnS δ (tstD (evE G F c δ)) fun k => if k then evSs G F fu a δ else evSs G F fu b δ
  | .fo tg it body, δ => Ri.thnS δ (walkD (evE G F it δ)) fun ds c => if c = .strong ∨ c = .fresh then forGo tg (fun δ' => evSs G F fu body δ') ds δ else none
  | .wh c body, δ => whileGo (fun δ' => tstD (evE G F c δ')) (fun δ' => evSs G F fu body δ') fu δ
  | .rse c e, δ => if (G.cls.lookup c).isSome then Re.thnS δ (evE G F e δ) fun _ _ => some (.ex c δ) else none
  | .tryc body c ie ic, δ => tryD G c ie ic (evSs G F fu body δ)
  | .pas, δ => some (.nx δ)
  | .frz i, δ => match δ[i]? with
    | some (.own d) => some (.nx (δ.set i (.val d)))
    | _ => some (.nx δ)
def evSs (G : Gs) (F : Nat → List DV → Option Ou) (fu : Nat) : List MS → List Sv → Option Out
  | [], δ => some (.nx δ)
  | s :: r, δ => match evS G F fu s δ with
    | some (.nx δ') => evSs G F fu r δ'
    | o => o
end

/-! ### defs -/
def startS (n : Nat) (ds : List DV) : List Sv := ds.map Sv.val ++ List.replicate (n - ds.length) .no
def Ou.of (o : Option Out) : Option Ou := match o with
  | some (.nx _) => some (.v .non false)
  | some (.rt d fr) => some (.v d fr)
  | some (.rtt d) => some (.t d)
  | some (.ex c _) => some (.x c)
  | none => none
/-- f(ds), with k calls one within another at most -/
def run (G : Gs) (T : List FD) (fu : Nat) : Nat → Nat → List DV → Option Ou
  | 0, _, _ => none
  | k + 1, f, ds => match T[f]? with
    | none => none
    | some fd => if ds.length = fd.np then Ou.of (evSs G (run G T fu k) fu fd.body (startS fd.n ds)) else none
end L2

end
section

set_option Elab.async false
set_option linter.all false
set_option maxRecDepth 100000

/-! A set's table: its places rise, so a walk meets each entry once. -/
namespace L2
open PySem

def Rise (xs : Array Nat) : Prop := ∀ (i k x y : Nat), i < k → xs[i]? = some x → xs[k]? = some y → x < y

theorem below_go {xs : Array Nat} {j : Nat} (hr : Rise xs) : ∀ (fuel lo hi : Nat), lo ≤ hi → hi ≤ xs.size → hi - lo ≤ fuel →
    (∀ i x, i < lo → xs[i]? = some x → x < j) → (∀ i x, hi ≤ i → xs[i]? = some x → j ≤ x) →
    (∀ i x, i < SetTable.below.go xs j fuel lo hi → xs[i]? = some x → x < j) ∧ (∀ i x, SetTable.below.go xs j fuel lo hi ≤ i → xs[i]? = some x → j ≤ x) := by
  intro fuel
  induction fuel with
  | zero =>
    intro lo hi h1 h2 h3 h4 h5
    have : lo = hi := by omega
    subst this
    exact ⟨h4, h5⟩
  | succ n ih =>
    intro lo hi h1 h2 h3 h4 h5
    unfold SetTable.below.go
    by_cases hlt : lo < hi
    · rw [if_pos hlt]
      have hm : (lo + hi) / 2 < hi := by omega
      have hm2 : lo ≤ (lo + hi) / 2 := by omega
      have hms : (lo + hi) / 2 < xs.size := by omega
      have hg : xs[(lo + hi) / 2]? = some xs[(lo + hi) / 2] := Array.getElem?_eq_getElem hms
      have hgd : xs.getD ((lo + hi) / 2) j = xs[(lo + hi) / 2] := by
        rw [Array.getD_eq_getD_getElem?, hg]; rfl
      dsimp only
      rw [hgd]
      by_cases hc : xs[(lo + hi) / 2] < j
      · rw [if_pos hc]
        refine ih _ _ (by omega) h2 (by omega) (fun i x hi' hx => ?_) h5
        rcases Nat.lt_or_ge i ((lo + hi) / 2) with q | q
        · exact Nat.lt_trans (hr i _ x _ q hx hg) hc
        · have e : i = (lo + hi) / 2 := by omega
          subst e
          rw [hg] at hx
          cases hx
          exact hc
      · rw [if_neg hc]
        refine ih _ _ hm2 (by omega) (by omega) h4 fun i x hi' hx => ?_
        rcases Nat.lt_or_ge ((lo + hi) / 2) i with q | q
        · exact Nat.le_trans (Nat.le_of_not_lt hc) (Nat.le_of_lt (hr _ i _ x q hg hx))
        · have e : i = (lo + hi) / 2 := by omega
          subst e
          rw [hg] at hx
          cases hx
          exact Nat.le_of_not_lt hc
    · rw [if_neg hlt]
      have : lo = hi := by omega
      subst this
      exact ⟨h4, h5⟩
theorem below_lo {xs : Array Nat} (hr : Rise xs) {j i x : Nat} (h : i < SetTable.below xs j) (hx : xs[i]? = some x) : x < j :=
  (below_go (j := j) hr xs.size 0 xs.size (Nat.zero_le _) (Nat.le_refl _) (by omega) (fun i x h => by omega) fun i x h hx => by
    rw [Array.getElem?_eq_none h] at hx; cases hx).1 i x h hx
theorem below_hi {xs : Array Nat} (hr : Rise xs) {j i x : Nat} (h : SetTable.below xs j ≤ i) (hx : xs[i]? = some x) : j ≤ x :=
  (below_go (j := j) hr xs.size 0 xs.size (Nat.zero_le _) (Nat.le_refl _) (by omega) (fun i x h => by omega) fun i x h hx => by
    rw [Array.getElem?_eq_none h] at hx; cases hx).2 i x h hx
theorem below_go_le {xs : Array Nat} {j : Nat} : ∀ (fuel lo hi : Nat), lo ≤ hi → SetTable.below.go xs j fuel lo hi ≤ hi := by
  intro fuel
  induction fuel with
  | zero => intro lo hi h; exact h
  | succ n ih =>
    intro lo hi h
    unfold SetTable.below.go
    dsimp only
    split
    · split
      · exact ih _ _ (by omega)
      · exact Nat.le_trans (ih _ _ (by omega)) (by omega)
    · exact h
theorem below_le {xs : Array Nat} {j : Nat} : SetTable.below xs j ≤ xs.size := below_go_le _ _ _ (Nat.zero_le _)
/-- behind the i-th place comes the next -/
theorem below_next {xs : Array Nat} (hr : Rise xs) {i x : Nat} (hx : xs[i]? = some x) : SetTable.below xs (x + 1) = i + 1 := by
  have hi : i < xs.size := by
    rcases Nat.lt_or_ge i xs.size with h | h
    · exact h
    · rw [Array.getElem?_eq_none h] at hx; cases hx
  rcases Nat.lt_trichotomy (SetTable.below xs (x + 1)) (i + 1) with h | h | h
  · have := below_hi hr (j := x + 1) (Nat.le_of_lt_succ h) hx
    omega
  · exact h
  · have h2 : SetTable.below xs (x + 1) ≤ xs.size := below_le
    have h3 : i + 1 < xs.size := by omega
    have hy : xs[i + 1]? = some xs[i + 1] := Array.getElem?_eq_getElem h3
    have a := below_lo hr (j := x + 1) h hy
    have b := hr i (i + 1) x _ (Nat.lt_succ_self _) hx hy
    omega
theorem below_zero {xs : Array Nat} (hr : Rise xs) : SetTable.below xs 0 = 0 := by
  rcases Nat.eq_zero_or_pos (SetTable.below xs 0) with h | h
  · exact h
  · have h2 : SetTable.below xs 0 ≤ xs.size := below_le
    have h3 : 0 < xs.size := by omega
    have hy : xs[0]? = some xs[0] := Array.getElem?_eq_getElem h3
    have a := below_lo hr (j := 0) h hy
    omega

theorem Rise.empty : Rise #[] := fun i k x y _ hx => by simp at hx
theorem Rise.range (n : Nat) : Rise (Array.range n) := fun i k x y h hx hy => by
  rw [Array.getElem?_range] at hx hy
  split at hx
  · split at hy
    · cases hx; cases hy; exact h
    · cases hy
  · cases hx
theorem rise_list {l : List Nat} (h : l.Pairwise (· < ·)) : Rise l.toArray := fun i k x y hik hx hy => by
  have hx' : l[i]? = some x := by simpa using hx
  have hy' : l[k]? = some y := by simpa using hy
  obtain ⟨hi, ei⟩ := List.getElem?_eq_some_iff.mp hx'
  obtain ⟨hk, ek⟩ := List.getElem?_eq_some_iff.mp hy'
  rw [← ei, ← ek]
  exact List.pairwise_iff_getElem.mp h i k hi hk hik
theorem rise_pw {xs : Array Nat} (h : Rise xs) : xs.toList.Pairwise (· < ·) := by
  refine List.pairwise_iff_getElem.mpr fun i k hi hk hik => ?_
  exact h i k _ _ hik (by rw [← Array.getElem?_toList]; exact List.getElem?_eq_getElem hi) (by rw [← Array.getElem?_toList]; exact List.getElem?_eq_getElem hk)

/-- the table's good: its places rise, none was given up -/
structure Tab (t : SetTable) (b : Bool) : Prop where
  rise : Rise t.place
  dum : t.dummies = #[]
  led : t.led = b
theorem Tab.fresh (b : Bool) : Tab (SetTable.fresh 0 0 b) b := ⟨Rise.empty, rfl, rfl⟩
theorem Tab.standIn {t : SetTable} {b : Bool} (h : Tab t b) (n : Nat) : Tab (t.standIn n) b := ⟨Rise.range n, rfl, h.led⟩
theorem has_empty (j : Nat) : SetTable.has #[] j = false := by
  unfold SetTable.has; simp
theorem probe_go {t : SetTable} {b : Bool} (h : Tab t b) (f : Nat → Int) (z : Int) : ∀ (fuel : Nat) (p : SetTable.Probe) (j : Nat) (d : Option Nat), p.dummy = none → SetTable.probe.go t f z fuel p = some (.empty j d) → d = none ∧ t.slot j = .empty := by
  intro fuel
  induction fuel with
  | zero => intro p j d hp e; cases e
  | succ n ih =>
    intro p j d hp e
    unfold SetTable.probe.go at e
    cases hs : t.slot p.j with
    | empty => rw [hs] at e; cases e; exact ⟨hp, hs⟩
    | dummy =>
      unfold SetTable.slot at hs
      rw [h.dum, has_empty] at hs
      dsimp only at hs
      split at hs
      · cases hs
      · cases hs
    | live i =>
      rw [hs] at e
      dsimp only at e
      split at e
      · cases e
      · refine ih _ j d ?_ e
        unfold SetTable.advance
        split
        · exact hp
        · exact hp
theorem freeSlot_empty {t : SetTable} {b : Bool} (h : Tab t b) {z : Int} {j : Nat} {w : Bool} (e : t.freeSlot z = some (j, w)) : t.slot j = .empty := by
  unfold SetTable.freeSlot at e
  split at e
  · rename_i j' d hp
    obtain ⟨hd, hs⟩ := probe_go h _ _ _ _ _ _ rfl hp
    subst hd
    cases e
    exact hs
  · cases e
theorem Tab.put {t : SetTable} {b : Bool} (h : Tab t b) {j : Nat} (hs : t.slot j = .empty) : Tab (t.put j).1 b := by
  have hn : t.place[SetTable.below t.place j]? ≠ some j := fun z => by
    unfold SetTable.slot at hs
    dsimp only at hs
    rw [z] at hs
    simp at hs
  refine ⟨?_, ?_, h.led⟩
  · show Rise (SetTable.insertAt t.place (SetTable.below t.place j) j)
    have e : (SetTable.insertAt t.place (SetTable.below t.place j) j).toList = _ := SetTable.toList_insertAt _ _ _
    have pw := rise_pw h.rise
    have : (SetTable.insertAt t.place (SetTable.below t.place j) j).toList.Pairwise (· < ·) := by
      rw [e, List.pairwise_append]
      refine ⟨pw.sublist (List.take_sublist _ _), List.pairwise_cons.mpr ⟨fun y hy => ?_, pw.sublist (List.drop_sublist _ _)⟩, fun x hx y hy => ?_⟩
      · obtain ⟨i, hi⟩ := List.mem_iff_getElem?.mp hy
        rw [List.getElem?_drop, Array.getElem?_toList] at hi
        rcases Nat.lt_or_eq_of_le (below_hi h.rise (j := j) (Nat.le_add_right _ _) hi) with q | q
        · exact q
        · exfalso
          subst q
          rcases Nat.eq_zero_or_pos i with z | z
          · subst z; exact hn hi
          · have hb : SetTable.below t.place j < t.place.size := by
              rcases Nat.lt_or_ge (SetTable.below t.place j + i) t.place.size with q | q
              · omega
              · rw [Array.getElem?_eq_none q] at hi; cases hi
            have hg : t.place[SetTable.below t.place j]? = some t.place[SetTable.below t.place j] := Array.getElem?_eq_getElem hb
            have a := below_hi h.rise (j := j) (Nat.le_refl _) hg
            have c := h.rise _ _ _ _ (show SetTable.below t.place j < SetTable.below t.place j + i by omega) hg hi
            omega
      · have hx' : x < j := by
          obtain ⟨i, hi⟩ := List.mem_iff_getElem?.mp hx
          rw [List.getElem?_take] at hi
          split at hi
          · rw [Array.getElem?_toList] at hi
            exact below_lo h.rise (by assumption) hi
          · cases hi
        rcases List.mem_cons.mp hy with q | q
        · rw [q]; exact hx'
        · obtain ⟨i, hi⟩ := List.mem_iff_getElem?.mp q
          rw [List.getElem?_drop, Array.getElem?_toList] at hi
          exact Nat.lt_of_lt_of_le hx' (below_hi h.rise (j := j) (Nat.le_add_right _ _) hi)
    have r := rise_list this
    rwa [Array.toArray_toList] at r
  · show (if SetTable.has t.dummies j then _ else t.dummies) = #[]
    rw [h.dum, has_empty]
    rfl
theorem Tab.orStandIn {t : SetTable} {b : Bool} (h : Tab t b) (n : Nat) : Tab (t.orStandIn n) b := by
  unfold SetTable.orStandIn
  split
  · exact h
  · exact h.standIn n
theorem Tab.layNew {t : SetTable} {b : Bool} (h : Tab t b) (es : Array (Int × Value)) (z : Int) (x : Value) : Tab (layNew t es z x).2.1 b := by
  unfold PySem.layNew
  split
  · rename_i j w e
    exact (h.put (freeSlot_empty h e)).orStandIn _
  · exact h.standIn _
theorem pairwise_filterMap_fst {f : Nat → Option Nat} : ∀ {l : List Nat}, l.Pairwise (· < ·) → ((l.filterMap fun j => (f j).map (j, ·)).map (·.1)).Pairwise (· < ·)
  | [], _ => .nil
  | a :: l, h => by
    obtain ⟨h1, h2⟩ := List.pairwise_cons.mp h
    have ih := pairwise_filterMap_fst (f := f) h2
    rw [List.filterMap_cons]
    cases e : f a with
    | none => exact ih
    | some c =>
      refine List.pairwise_cons.mpr ⟨fun y hy => ?_, ih⟩
      obtain ⟨p, hp, rfl⟩ := List.mem_map.mp hy
      obtain ⟨j, hj, e2⟩ := List.mem_filterMap.mp hp
      cases e3 : f j with
      | none => rw [e3] at e2; cases e2
      | some c2 => rw [e3] at e2; cases e2; exact h1 j hj
theorem Tab.relayAll {t : SetTable} {b : Bool} (h : Tab t b) (es : Array (Int × Value)) (n : Nat) : Tab (relayAll t es n).2.1 b := by
  unfold PySem.relayAll
  split
  · rename_i t' order e
    dsimp only
    split
    · show Tab t' b
      unfold SetTable.relaid SetTable.laid at e
      cases hl : SetTable.layClean (SetTable.sizeAbove n - 1) (es.map (·.1)) with
      | none => rw [hl] at e; cases e
      | some owner =>
        rw [hl] at e
        cases e
        exact ⟨rise_list (pairwise_filterMap_fst (List.pairwise_lt_range)), rfl, h.led⟩
    · exact h.standIn _
  · exact h.standIn _

theorem cons_erase {α : Type} {x : α} : ∀ {l : List α} {i : Nat} (h : i < l.length), l[i] = x → (x :: l.eraseIdx i).Perm l
  | [], i, h, _ => by cases h
  | a :: l, 0, _, e => by
    have e : a = x := e
    subst e
    exact .rfl
  | a :: l, i + 1, h, e => by
    rw [List.eraseIdx_cons_succ]
    exact (List.Perm.swap a x _).trans (List.Perm.cons a (cons_erase (l := l) (i := i) (by simpa using h) (by simpa using e)))
/-- what is picked, one after another, is all -/
theorem pickOrder_go {α : Type} (next : Nat → Nat) : ∀ (fuel k : Nat) (left : List α) (out : Array α), left.length ≤ fuel → (pickOrder.go next fuel k left out).toList.Perm (out.toList ++ left) := by
  intro fuel
  induction fuel with
  | zero =>
    intro k left out h
    have : left = [] := List.length_eq_zero_iff.mp (by omega)
    subst this
    unfold pickOrder.go
    rw [List.append_nil]
  | succ n ih =>
    intro k left out h
    unfold pickOrder.go
    cases e : left[next k % left.length]? with
    | none =>
      dsimp only
      have : left = [] := by
        cases left with
        | nil => rfl
        | cons a r =>
          have hlt : next k % (a :: r).length < (a :: r).length := Nat.mod_lt _ (by simp)
          rw [List.getElem?_eq_getElem hlt] at e
          cases e
      subst this
      rw [List.append_nil]
    | some x =>
      dsimp only
      obtain ⟨hlt, hx⟩ := List.getElem?_eq_some_iff.mp e
      have hle : (left.eraseIdx (next k % left.length)).length ≤ n := by
        rw [List.length_eraseIdx, if_pos hlt]; omega
      refine (ih _ _ _ hle).trans ?_
      rw [Array.toList_push, List.append_assoc]
      refine List.Perm.append_left _ ?_
      exact cons_erase hlt hx
theorem pickOrder_perm {α : Type} (next : Nat → Nat) (xs : Array α) : (pickOrder next xs).toList.Perm xs.toList := by
  unfold pickOrder
  exact (pickOrder_go next xs.size 0 xs.toList #[] (by simp)).trans (by simp)
end L2

end
section

set_option Elab.async false
set_option linter.all false
set_option maxRecDepth 100000
set_option maxHeartbeats 4000000

/-! set(..) of a list of ints, with all that a later walk asks. -/
namespace L2
open PySem

def intOf : Value → Int
  | .int n _ => n
  | _ => 0
def ordText (w : World) : Bool := w.params.followText "set-order"
/-- at a: a set of just these ints -/
def SetI (prog : Program) (w : World) (h : Heap) (a : Addr) (ks : List Int) : Prop :=
  ∃ o es ep t, h.get? a = some o ∧ o.ExactSet ∧ o.data = .set es ep t ∧ ElemsOf (intKind prog w) es.toList ∧ (es.toList.map fun e => intOf e.2).Perm ks ∧ es.size < scanBound ∧ t.fits es.size = true ∧ Tab t (!ordText w)
section
variable {prog : Program} {w : World} {A : Around} {E : Value → Shared → Prop} {s : Shared} {a : Addr} {ks : List Int}
theorem elem_int {es : List (Int × Value)} (h : ElemsOf (intKind prog w) es) {e : Int × Value} (he : e ∈ es) : ∃ t, e.2 = .int (intOf e.2) t := by
  obtain ⟨⟨k, hk, _⟩, _⟩ := h e he
  obtain ⟨t, q⟩ := Value.isInt_shape hk
  exact ⟨t, by rw [q]; rfl⟩
theorem elem_is {es : List (Int × Value)} (h : ElemsOf (intKind prog w) es) {e : Int × Value} (he : e ∈ es) (k : Int) : (intKind prog w).is k e.2 = true ↔ intOf e.2 = k := by
  obtain ⟨t, q⟩ := elem_int h he
  rw [q]
  show Value.isInt k (.int (intOf e.2) t) = true ↔ _
  simp [Value.isInt, intOf]
theorem SetI.at {h h' : Heap} (x : SetI prog w h a ks) (k : ∀ o, h.get? a = some o → h'.get? a = some o) : SetI prog w h' a ks := by
  obtain ⟨o, es, ep, t, ho, r⟩ := x
  exact ⟨o, es, ep, t, k o ho, r⟩
theorem SetI.perm {h : Heap} {ks' : List Int} (x : SetI prog w h a ks) (p : ks.Perm ks') : SetI prog w h a ks' := by
  obtain ⟨o, es, ep, t, ho, h1, h2, h3, h4, r⟩ := x
  exact ⟨o, es, ep, t, ho, h1, h2, h3, h4.trans p, r⟩
theorem stored {h : Heap} {o : Obj} {es es' : Array (Int × Value)} {ep : Nat} {t t' : SetTable} (ho : h.get? a = some o) (hd : o.data = .set es ep t) :
    (h.update a (Obj.putSet es' t')).get? a = some { o with data := .set es' (ep + 1) t' } := by
  have q := Heap.get?_update_self (Obj.putSet es' t') ho (by rw [putSet_of es' t' hd]; rfl)
  rwa [putSet_of es' t' hd] at q

theorem add_new {k : Int} {tk : Tok} {Q : Option Bool → Shared → Prop} {o : Obj} {es : Array (Int × Value)} {ep : Nat} {t : SetTable} (ho : s.heap.get? a = some o) (hx : o.ExactSet) (hd : o.data = .set es ep t)
    (hel : ElemsOf (intKind prog w) es.toList) (hp : (es.toList.map fun e => intOf e.2).Perm ks) (hb : es.size + 1 < scanBound) (ht : Tab t (!ordText w))
    {es1 : Array (Int × Value)} {t1 : SetTable} (p1 : es1.toList.Perm (es.toList ++ [(hashInt k, Value.int k tk)])) (f1 : t1.fits es1.size = true) (g1 : Tab t1 (!ordText w)) (wd : Bool) {g : Bool → Sem Unit}
    (hg : ∀ (b : Bool) (s₁ : Shared) (Q' : Unit → Shared → Prop), Q' () s₁ → wpAny (model prog w) A (g b) Q' E s₁)
    (h : ∀ h', Heap.SameBut a s.heap h' → SetI prog w h' a (ks ++ [k]) → Q (some true) { s with heap := h' }) :
    wpAny (model prog w) A (do
      storeSet a es1 t1
      if (!wd && t1.tooFull) = true then do
        g (relayAll t1 es1 (SetTable.grown es1.size)).2.2
        storeSet a (relayAll t1 es1 (SetTable.grown es1.size)).1 (relayAll t1 es1 (SetTable.grown es1.size)).2.1
        pure (some true)
      else pure (some true)) Q E s := by
  have z1 : es1.size = es.size + 1 := by
    have := p1.length_eq
    rw [List.length_append, Array.length_toList, Array.length_toList] at this
    exact this
  have e1 : ElemsOf (intKind prog w) es1.toList := (hel.push (intKind_is prog w k tk) rfl).perm p1
  have m1 : (es1.toList.map fun e => intOf e.2).Perm (ks ++ [k]) := by
    refine (p1.map _).trans ?_
    rw [List.map_append]
    exact hp.append_right _
  have b1 : es1.size < scanBound := by omega
  refine wpAny_bind (wpAny_storeSet_of ho hd ?_ (fits_of_scanBound b1))
  have o1 := stored (es' := es1) (t' := t1) ho hd
  have sb := Heap.SameBut.update s.heap a (Obj.putSet es1 t1)
  split
  · have p2 := relayAll_perm t1 es1 (SetTable.grown es1.size)
    have f2 := relayAll_fits t1 es1 (SetTable.grown es1.size)
    have g2 := g1.relayAll es1 (SetTable.grown es1.size)
    generalize relayAll t1 es1 (SetTable.grown es1.size) = R at p2 f2 g2 ⊢
    have z2 : R.1.size = es1.size := by
      have := p2.length_eq
      rwa [Array.length_toList, Array.length_toList] at this
    have b2 : R.1.size < scanBound := by omega
    refine wpAny_bind (hg _ _ _ ?_)
    refine wpAny_bind (wpAny_storeSet_of o1 rfl ?_ (fits_of_scanBound b2))
    refine wpAny_pure (h _ (sb.trans (Heap.SameBut.update _ a _)) ?_)
    exact ⟨_, R.1, _, R.2.1, stored o1 rfl, hx, rfl, e1.perm p2, (p2.map _).trans m1, b2, f2, g2⟩
  · refine wpAny_pure (h _ sb ?_)
    exact ⟨_, es1, _, t1, o1, hx, rfl, e1, m1, b1, f1, g1⟩

theorem add_wp {k : Int} {tk : Tok} {Q : Bool → Shared → Prop} (hS : SetI prog w s.heap a ks) (hr : ks.length + 1 < scanBound)
    (h : ∀ h' b, Heap.SameBut a s.heap h' → SetI prog w h' a (dk ks k) → Q b { s with heap := h' }) :
    wpAny (model prog w) A (setAddHashed a (.int k tk) (hashInt k)) Q E s := by
  obtain ⟨o, es, ep, t, ho, hx, hd, hel, hp, hb, hf, ht⟩ := id hS
  have hz : es.size = ks.length := by
    have := hp.length_eq
    rwa [List.length_map, Array.length_toList] at this
  have hq : ∀ (b : Bool) (s₁ : Shared) (Q' : Unit → Shared → Prop), Q' () s₁ → wpAny (model prog w) A (match b with | true => rule "set.scan.the-table-gave-way" | false => pure ()) Q' E s₁ := fun b s₁ Q' q => by
    cases b with
    | true => exact wpAny_rule q
    | false => exact wpAny_pure q
  unfold setAddHashed setAddHashedIn
  refine wpAny_holding (wpAny_bind (wpAny_setState_of ho hd hf ?_))
  dsimp only
  rw [byScan_of (knd := intKind prog w) (x := .int k tk) rfl hb hel, if_pos rfl]
  unfold setAddByScan
  refine wpAny_bind (wpAny_bind (wpAny_rule (wpAny_bind ?_)))
  refine wpAny_setScan_of (knd := intKind prog w) (intKind_is prog w k tk) ho hd hf hel ?_
  cases hi : es.toList.findIdx? (fun e => (intKind prog w).is k e.2) with
  | some j =>
    obtain ⟨hj, hk, _⟩ := List.findIdx?_eq_some_iff_getElem.mp hi
    have hm : k ∈ ks := hp.mem_iff.mp (List.mem_map.mpr ⟨es.toList[j], List.getElem_mem hj, (elem_is hel (List.getElem_mem hj) k).mp hk⟩)
    have hd' : dk ks k = ks := by
      unfold dk
      rw [if_pos hm]
    refine wpAny_pure (wpAny_pure ?_)
    have := h s.heap false (Heap.SameBut.refl a s.heap) (by rw [hd']; exact hS)
    exact this
  | none =>
    have hm : k ∉ ks := fun z => by
      obtain ⟨e, he, q⟩ := List.mem_map.mp (hp.mem_iff.mpr z)
      have := List.findIdx?_eq_none_iff.mp hi e he
      rw [(elem_is hel he k).mpr q] at this
      cases this
    have hd' : dk ks k = ks ++ [k] := by
      unfold dk
      rw [if_neg hm]
    rw [hd'] at h
    dsimp only
    have p1 := layNew_perm t es (hashInt k) (.int k tk)
    have f1 := layNew_fits t es (hashInt k) (.int k tk)
    have g1 := ht.layNew es (hashInt k) (.int k tk)
    show wpAny _ _ _ _ _ _
    change wpAny (model prog w) A (match layNew t es (hashInt k) (.int k tk) with | (es, t, wasDummy, gave) => _) _ _ _
    generalize layNew t es (hashInt k) (.int k tk) = L at p1 f1 g1 ⊢
    obtain ⟨es1, t1, wd, gv⟩ := L
    rw [Array.toList_push] at p1
    dsimp only at p1 f1 g1 ⊢
    refine wpAny_bind (hq gv _ _ ?_)
    have fin : ∀ t2 : SetTable, t2.fits es1.size = true → Tab t2 (!ordText w) → wpAny (model prog w) A (do
      storeSet a es1 t2
      if (!wd && t2.tooFull) = true then do
        (fun b : Bool => match b with | true => rule "set.scan.the-table-gave-way" | false => pure ()) (relayAll t2 es1 (SetTable.grown es1.size)).2.2
        storeSet a (relayAll t2 es1 (SetTable.grown es1.size)).1 (relayAll t2 es1 (SetTable.grown es1.size)).2.1
        pure (some true)
      else pure (some true)) (fun r s' => wpAny (model prog w) A (match r with | some added => pure added | none => setAddHashedIn a (.int k tk) (hashInt k) 99999) Q E s') E s := fun t2 f2 g2 =>
      add_new (k := k) (tk := tk) ho hx hd hel hp (by omega) ht p1 f2 g2 wd hq fun h' sb S' => wpAny_pure (h h' true sb S')
    split
    · refine wpAny_bind ?_
      rw [hashByValue_scannable 8 (x := .int k tk) rfl]
      refine wpAny_pure ?_
      exact fin t1 f1 g1
    · refine wpAny_bind (wpAny_pure ?_)
      exact fin t1 f1 g1
end
end L2

end
section

set_option Elab.async false
set_option linter.all false
set_option maxRecDepth 100000
set_option maxHeartbeats 4000000

namespace L2
open PySem PySem.Spec PyProof.Rows
/-- the ints met so far, each once -/
def fm (val : Nat → Int) (i : Nat) : List Int := ((List.range i).map val).foldl dk []
theorem fm_succ (val : Nat → Int) (i : Nat) : fm val (i + 1) = dk (fm val i) (val i) := by
  unfold fm
  rw [List.range_succ, List.map_append, List.foldl_append]
  rfl
theorem dk_len (σ : List Int) (k : Int) : (dk σ k).length ≤ σ.length + 1 := by
  unfold dk
  split
  · exact Nat.le_succ _
  · rw [List.length_append]; exact Nat.le_refl _
theorem fm_len (val : Nat → Int) : ∀ i, (fm val i).length ≤ i
  | 0 => Nat.le_refl _
  | i + 1 => by
    rw [fm_succ]
    exact Nat.le_trans (dk_len _ _) (Nat.succ_le_succ (fm_len val i))
section
variable {prog : Program} {w : World} {A : Around} {R : Result → Shared → Prop} {I : Addr} {fp wr : List Addr} {G : Array GenState → Array GenState → Prop} {n : Nat} {P : Nat → Value → Prop} {St : Nat → Shared → Prop}
theorem SetI.moved {s s' : Shared} {S : Addr} {ks : List Int} (x : SetI prog w s.heap S ks) (hm : Moved wr G s s') (hS : S ∉ wr) : SetI prog w s'.heap S ks := x.at fun o e => hm.heap S o hS e
theorem fill_loop (W : WalksS prog w A.in1 I fp wr G n P St) (S : Addr) (hSf : S ∉ fp) (val : Nat → Int) (hval : ∀ i v, P i v → ∃ t, v = .int (val i) t) (hb : n + 1 < scanBound) :
    ∀ (k i : Nat) (s : Shared), i + k = n → St i s → SetI prog w s.heap S (fm val i) →
      (∀ s', Moved (S :: wr) G s s' → SetI prog w s'.heap S (fm val n) → R (.ok (.ret .none)) s') → codeAny (model prog w) A (.builtin "set.update.loop" ⟨[.ref S, .ref I], []⟩) R s := by
  have hw : S ∉ wr := fun z => hSf (W.sub S z)
  have up : ∀ b ∈ wr, b ∈ S :: wr := fun b z => List.mem_cons_of_mem S z
  intro k
  induction k with
  | zero =>
    intro i s e st hs hR
    have e : i = n := e
    subst e
    refine codeAny_builtin F.entry_set_update_loop ?_
    rw [Around.under_plainId F.plain_set_update_loop]
    show wpAny (model prog w) A.in1 (pyNext (.ref I) >>= _) _ _ s
    refine wpAny_bind (W.done s _ _ st fun s' hm => ?_)
    show wpAny (model prog w) A.in1 (ret Value.none) _ _ s'
    exact wpAny_pure (hR s' (hm.mono up) (hs.moved hm hw))
  | succ k ih =>
    intro i s e st hs hR
    have hi : i < n := by omega
    refine codeAny_builtin F.entry_set_update_loop ?_
    rw [Around.under_plainId F.plain_set_update_loop]
    show wpAny (model prog w) A.in1 (pyNext (.ref I) >>= _) _ _ s
    refine wpAny_bind (W.item i s _ _ hi st fun v s' hP st' hm => ?_)
    obtain ⟨t, hv⟩ := hval i v hP
    subst hv
    have hs' := hs.moved hm hw
    show wpAny (model prog w) A.in1 (holding [Value.int (val i) t] (setAdd S (.int (val i) t)) >>= _) _ _ s'
    refine wpAny_bind (wpAny_holding ?_)
    unfold setAdd
    refine wpAny_holding (wpAny_bind ((intKind prog w).pyHash (k := val i) (intKind_is prog w (val i) t) ?_))
    have hl := fm_len val i
    refine add_wp (s := { s' with toks := s'.toks + 1 }) (k := val i) (tk := t) hs' (by omega) fun h' b sb S' => ?_
    have hkeep : ∀ b o, b ≠ S → s'.heap.get? b = some o → h'.get? b = some o := fun b o hb e => by rw [sb.2 b hb]; exact e
    refine wpAny_pure ⟨plainId_quiet F.plain_set_update_loop _, ih (i + 1) _ (by omega) (W.frame (i + 1) s' h' _ st' (Nat.le_succ _) fun b hb o e => hkeep b o (fun z => hSf (z ▸ hb)) e) (by rw [fm_succ]; exact S') fun s2 hm2 S2 => ?_⟩
    refine hR s2 (Moved.trans W.gtrans ((hm.mono up).then_heap (Nat.le_succ _) fun b o hb e => hkeep b o (fun z => hb (z ▸ List.mem_cons_self)) e) hm2) S2
end

/-- a new set -/
def set0 (w : World) : Obj := { cls := .type "set", dict := none, data := .set #[] 0 (.fresh 0 0 (!ordText w)) }
section
variable {prog : Program} {w : World} {A : Around} {E : Value → Shared → Prop} {s : Shared}
theorem set0_ok {h : Heap} {a : Addr} (e : h.get? a = some (set0 w)) : SetI prog w h a [] :=
  ⟨_, #[], 0, _, e, ⟨rfl, rfl, rfl⟩, rfl, fun _ z => by simp at z, by simp, by decide, by rfl, Tab.fresh _⟩
theorem set_new_code (v : Value) {Q : Value → Shared → Prop} (h : Q (.ref s.heap.objs.size) { s with heap := s.heap.push (set0 w) }) :
    codeAny (model prog w) A (.call (.builtin "set.__new__") ⟨[.type "set", v], []⟩) (wants Q E) s := by
  refine codeAny_of_tree ?_
  show wpAny (model prog w) A.in1 (do checkBuiltinCall "set.__new__" ⟨[.type "set", v], []⟩; again (.builtin "set.__new__" ⟨[.type "set", v], []⟩)) _ _ s
  refine wpAny_bind (wpAny_of_eq (F.newCall_set_1 v) ?_)
  refine wpAny_pure ⟨plainId_quiet F.plain_set_new _, codeAny_builtin F.entry_set_new ?_⟩
  rw [Around.under_plainId F.plain_set_new]
  unfold Builtin.«set.__new__» Builtin.Frozenset.newClass
  have q := sub_set_self
  obtain ⟨h0, g0, d0, t0, o0⟩ := s
  dsimp only
  wp_walk
  refine wpAny_askSetting (wpAny_pure ?_)
  dsimp only
  simp only [newObj]
  exact wpAny_bind (wpAny_alloc (wpAny_pure (wpAny_pure h)))

theorem setOfL {l : Addr} {items : Array Value} {ns : List Int} {Q : Value → Shared → Prop} (hh : A.handled = none) (hl : s.heap.IsList l items) (hi : IntsAre items.toList ns) (hb : items.size + 1 < scanBound)
    (h : ∀ h' tk, SetI prog w h' s.heap.objs.size (fm (fun i => ns.getD i 0) items.size) → (∀ b o, s.heap.get? b = some o → h'.get? b = some o) → Q (.ref s.heap.objs.size) { s with heap := h', toks := tk }) :
    wpAny (model prog w) A (call (.type "set") [.ref l]) Q E s := by
  have m0 := F.called_set.mro
  obtain ⟨c0, r0, m1⟩ := m0
  have m2 := F.called_set.made
  have m3 := F.called_set.sub
  have m4 := F.called_set.notType
  have m5 := F.called_set.canCreate
  have m6 := F.typeCall_set_1 (.ref l)
  refine wpAny_call (codeAny_of_tree ?_)
  show wpAny (model prog w) _ (callAny (.type "set") _) _ _ _
  refine wpAny_pure ⟨Code.quiet_builtin _ (by decide +kernel), codeAny_builtin F.entry_type_call ?_⟩
  rw [Around.under_plain (weight_type_call_type "set" [.ref l] []) rfl]
  repeat (any_goals (first | assumption | wp_step))
  refine codeAny_mono (set_new_code (.ref l) (E := E) (Q := fun v s1 => v = .ref s.heap.objs.size ∧ s1 = { s with heap := s.heap.push (set0 w) }) ⟨rfl, rfl⟩) fun r s1 q => ?_
  cases r with
  | error e => exact q
  | ok f =>
    cases f with
    | ret v =>
      obtain ⟨e1, e2⟩ := q
      subst e1
      subst e2
      have g0 : (s.heap.push (set0 w)).get? s.heap.objs.size = some (set0 w) := Heap.get?_push_size _ rfl
      have ty : Shared.TypeIs { s with heap := s.heap.push (set0 w) } (.ref s.heap.objs.size) "set" := ⟨_, g0, rfl⟩
      have n1 := F.called_set.init.lookup
      have n2 := F.called_set.init.bind (.ref s.heap.objs.size)
      repeat (any_goals (first | assumption | wp_step))
      refine codeAny_mono (codeAny_call_builtin (R := wants (fun v s2 => v = .none ∧ ∃ h' tk, s2 = { s with heap := h', toks := tk } ∧ SetI prog w h' s.heap.objs.size (fm (fun i => ns.getD i 0) items.size) ∧
          ∀ b o, s.heap.get? b = some o → h'.get? b = some o) E) F.called_set.init.plain F.entry_set_init (check_set_init_1 ty ?_)) fun r2 s2 q2 => ?_
      · obtain ⟨⟨k1, k2, k3, k4⟩, kl, kc, kn, kd⟩ := hl
        dsimp only at kc kd
        subst kc
        subst kd
        have kl' : (s.heap.push (set0 w)).get? l = some { cls := .type "list", dict := k2, data := .seq items kn, slots := k4 } := Heap.get?_push_of_some _ kl
        have il : (s.heap.push (set0 w)).IsList l items := ⟨_, kl', rfl, kn, rfl⟩
        have p1 := F.sub_list_set
        have p2 := F.sub_list_frozenset
        have p3 : (Value.type "list" == Value.type "dict") = false := by decide
        unfold Builtin.«set.__init__» noKeywords Builtin.Frozenset.updateFrom
        generalize hP : pyIter = PI
        wp_walk
        subst hP
        refine wpAny_pyIter_list il (wpAny_bind (wpAny_runValue ?_))
        have l0 : l < s.heap.objs.size := Heap.lt_size kl
        have z1 : (s.heap.push (set0 w)).objs.size = s.heap.objs.size + 1 := Heap.size_push _ _
        have a1 : l ≠ (s.heap.push (set0 w)).objs.size := by rw [z1]; exact Nat.ne_of_lt (Nat.lt_succ_of_lt l0)
        have a2 : s.heap.objs.size ∉ [(s.heap.push (set0 w)).objs.size, l] := by
          rw [z1]
          intro z
          rcases List.mem_cons.mp z with z | z
          · exact absurd z (Nat.ne_of_lt (Nat.lt_succ_self _))
          · exact absurd (List.mem_singleton.mp z) (Nat.ne_of_gt l0)
        refine fill_loop ((Walks.list (by show A.handled = none; exact hh) _ l a1 items).toS) s.heap.objs.size a2 (fun i => ns.getD i 0) (fun i v e => IntsAre.int_at hi i v (by rw [Array.getElem?_toList]; exact e)) hb
          items.size 0 _ (Nat.zero_add _) ⟨⟨_, Heap.get?_push_size _ rfl, rfl, rfl⟩, il.push _⟩ (set0_ok (Heap.get?_push_of_some _ g0)) fun s3 hm S3 => ?_
        obtain ⟨h3, g3, d3, t3, o3⟩ := s3
        have b1 : g3 = s.gens := hm.gens
        have b2 : d3 = s.drawn := hm.drawn
        have b3 : o3 = s.os := hm.os
        subst b1
        subst b2
        subst b3
        show wpAny (model prog w) _ _ _ _ _
        refine wpAny_pure ?_
        show wpAny (model prog w) _ (ret Value.none) _ _ _
        refine wpAny_pure ⟨rfl, h3, t3, rfl, S3, fun b o e => ?_⟩
        have b4 := Heap.lt_size e
        refine hm.heap b o (fun z => ?_) (Heap.get?_push_of_some _ (Heap.get?_push_of_some _ e))
        rcases List.mem_cons.mp z with z | z
        · exact absurd z (Nat.ne_of_lt b4)
        · have := List.mem_singleton.mp z
          rw [z1] at this
          exact absurd this (Nat.ne_of_lt (Nat.lt_succ_of_lt b4))
      · cases r2 with
        | error e => exact q2
        | ok f2 =>
          cases f2 with
          | ret v2 =>
            obtain ⟨c1, h', tk, c2, c3, c4⟩ := q2
            subst c1
            subst c2
            repeat (any_goals (first | assumption | wp_step))
            exact h h' tk c3 c4
          | _ => exact q2.elim
    | _ => exact q.elim
end
end L2

end
section

set_option Elab.async false
set_option linter.all false
set_option maxRecDepth 100000
set_option maxHeartbeats 4000000

/-! A walk over a set. -/
namespace L2
open PySem PyProof.Rows

def IterAt (h : Heap) (I a : Addr) (f : Value) (i n ep : Nat) : Prop := ∃ o, h.get? I = some o ∧ o.cls = .type "set_iterator" ∧ o.data = .fields #[f, .int i 0, .ref a, .int n 0, .int ep 0]
def SetAt (h : Heap) (a : Addr) (es : Array (Int × Value)) (ep : Nat) (t : SetTable) : Prop := ∃ o, h.get? a = some o ∧ o.ExactSet ∧ o.data = .set es ep t
theorem IterAt.typeIs {s : Shared} {I a : Addr} {f : Value} {i n ep : Nat} (x : IterAt s.heap I a f i n ep) : s.TypeIs (.ref I) "set_iterator" := let ⟨o, e, c, _⟩ := x; ⟨o, e, c⟩
theorem IterAt.at {h h' : Heap} {I a : Addr} {f : Value} {i n ep : Nat} (x : IterAt h I a f i n ep) (k : ∀ o, h.get? I = some o → h'.get? I = some o) : IterAt h' I a f i n ep := let ⟨o, e, c⟩ := x; ⟨o, k o e, c⟩
theorem SetAt.at {h h' : Heap} {a : Addr} {es : Array (Int × Value)} {ep : Nat} {t : SetTable} (x : SetAt h a es ep t) (k : ∀ o, h.get? a = some o → h'.get? a = some o) : SetAt h' a es ep t := let ⟨o, e, c⟩ := x; ⟨o, k o e, c⟩
theorem SetAt.typeIs {s : Shared} {a : Addr} {es : Array (Int × Value)} {ep : Nat} {t : SetTable} (x : SetAt s.heap a es ep t) : s.TypeIs (.ref a) "set" := let ⟨o, e, c, _⟩ := x; ⟨o, e, c.1⟩

theorem si_slot : Slot "set_iterator" "__next__" "set_iterator.__next__" :=
  .of (owner := "set_iterator") (n := "__next__") (by rw [typeLookup_type, builtinLookup_eq_fast]; kernel_rfl) (by decide +kernel) (by decide +kernel) (by decide +kernel)
    (by first | exact .inl (by decide +kernel) | exact .inr (by decide +kernel)) (by rw [isSubtype_type]; kernel_rfl)
theorem si_entry : entryFor table "set_iterator.__next__" = some Builtin.«set_iterator.__next__» := entryFor_of_tree (by kernel_rfl)
theorem si_args (v : Value) : argsOk "set_iterator.__next__" ⟨[v], []⟩ := by unfold argsOk; kernel_rfl
theorem st_entry : entryFor table "set.__iter__" = some Builtin.«frozenset.__iter__» := entryFor_alias (id' := "frozenset.__iter__") (by kernel_rfl) rfl (by decide +kernel) (by kernel_rfl)

section
variable {prog : Program} {w : World} {A : Around} {E : Value → Shared → Prop} {s : Shared} {I a : Addr} {es : Array (Int × Value)} {ep : Nat} {t : SetTable} {Q : Option Value → Shared → Prop}

theorem si_fields {h : Heap} {o : Obj} {f : Value} {i : Nat} {n : Nat} (e : h.get? I = some o) (c : o.cls = .type "set_iterator") (d : o.data = .fields #[f, .int i 0, .ref a, .int n 0, .int ep 0]) :
    IterAt (h.update I (Obj.mapFields (·.setIfInBounds 1 (rawInt ((i : Int) + 1))))) I a f (i + 1) n ep := by
  refine ⟨_, Heap.get?_update_self _ e (Obj.isFreed_of_fields (Obj.data_mapFields d _)), (Obj.cls_mapFields ..).trans c, ?_⟩
  rw [Obj.data_mapFields d]
  simp [rawInt]
theorem si_first {h : Heap} {o : Obj} {f : Value} (g : Value) {i : Nat} {n : Nat} (e : h.get? I = some o) (c : o.cls = .type "set_iterator") (d : o.data = .fields #[f, .int i 0, .ref a, .int n 0, .int ep 0]) :
    IterAt (h.update I (Obj.mapFields (·.setIfInBounds 0 g))) I a g i n ep := by
  refine ⟨_, Heap.get?_update_self _ e (Obj.isFreed_of_fields (Obj.data_mapFields d _)), (Obj.cls_mapFields ..).trans c, ?_⟩
  rw [Obj.data_mapFields d]
  simp

theorem next_int {slot i j : Nat} {x : Value} (hI : IterAt s.heap I a (.int slot 0) i es.size ep) (hS : SetAt s.heap a es ep t) (hf : t.fits es.size = true)
    (hn : ∀ (A : Around) (E' : Value → Shared → Prop) (Q' : Option (Value × Nat) → Shared → Prop), Q' (some (x, j)) s → wpAny (model prog w) A (setNext a slot i ep) Q' E' s)
    (hQ : ∀ h', IterAt h' I a (.int j 0) (i + 1) es.size ep → Heap.SameBut I s.heap h' → Q (some x) { s with heap := h' }) : wpAny (model prog w) A (pyNext (.ref I)) Q E s := by
  obtain ⟨o, ho, hc, hd⟩ := id hI
  obtain ⟨p, hp, hx, hq⟩ := id hS
  unfold pyNext
  refine wpAny_bind (wpAny_attempt (wpAny_callSpecial?_slot (name := Str.ofString "__next__") hI.typeIs si_slot (wpAny_call_entry si_slot hI.typeIs si_entry ?_ (si_args _))))
  unfold Builtin.«set_iterator.__next__»
  refine wpAny_bind (wpAny_pure ?_)
  dsimp only
  refine wpAny_bind (wpAny_fieldsOf ho hd ?_)
  dsimp only
  refine wpAny_bind (wpAny_setEntries_of hp hq hf ?_)
  rw [show (((es.size : Nat) : Int) != ((es.size : Nat) : Int)) = false by simp, if_neg Bool.false_ne_true]
  simp only [Int.toNat_natCast]
  refine wpAny_bind (hn _ _ _ ?_)
  dsimp only
  refine wpAny_bind (wpAny_setField ho hd (by simp) ?_)
  have I1 := si_first (ep := ep) (rawInt j) ho hc hd
  obtain ⟨o1, ho1, hc1, hd1⟩ := id I1
  refine wpAny_bind (wpAny_setField ho1 hd1 (by simp) (wpAny_pure ⟨x, rfl, wpAny_pure (hQ _ (si_fields ho1 hc1 hd1) ?_)⟩))
  exact (Heap.SameBut.update ..).trans (Heap.SameBut.update ..)
theorem end_int {slot i : Nat} (hh : A.handled = none) (hI : IterAt s.heap I a (.int slot 0) i es.size ep) (hS : SetAt s.heap a es ep t) (hf : t.fits es.size = true)
    (hn : ∀ (A : Around) (E' : Value → Shared → Prop) (Q' : Option (Value × Nat) → Shared → Prop), Q' none s → wpAny (model prog w) A (setNext a slot i ep) Q' E' s)
    (hQ : ∀ h', Heap.ExtBut I s.heap h' → Q none { s with heap := h' }) : wpAny (model prog w) A (pyNext (.ref I)) Q E s := by
  obtain ⟨o, ho, hc, hd⟩ := id hI
  obtain ⟨p, hp, hx, hq⟩ := id hS
  unfold pyNext
  refine wpAny_bind (wpAny_attempt (wpAny_callSpecial?_slot (name := Str.ofString "__next__") hI.typeIs si_slot (wpAny_call_entry si_slot hI.typeIs si_entry ?_ (si_args _))))
  unfold Builtin.«set_iterator.__next__»
  refine wpAny_bind (wpAny_pure ?_)
  dsimp only
  refine wpAny_bind (wpAny_fieldsOf ho hd ?_)
  dsimp only
  refine wpAny_bind (wpAny_setEntries_of hp hq hf ?_)
  rw [show (((es.size : Nat) : Int) != ((es.size : Nat) : Int)) = false by simp, if_neg Bool.false_ne_true]
  simp only [Int.toNat_natCast]
  refine wpAny_bind (hn _ _ _ ?_)
  dsimp only
  refine wpAny_bind (wpAny_setField ho hd (by simp) ?_)
  refine wpAny_bind ?_
  simp only [newExc, newTuple]
  refine wpAny_bind (wpAny_newObj_type ?_ (by size_fits))
  refine wpAny_bind (m := firstArgMember _ _) (wpAny_of_eq (a := Value.none) (by first | rfl | (simp only [firstArgMember]; rfl)) ?_)
  refine wpAny_newObj_type ?_ (by size_fits)
  simp only [raiseNew]
  refine wpAny_bind (wpAny_handled ?_)
  rw [show A.in1.handled = none from hh]
  refine wpAny_bind (wpAny_pure (wpAny_throw ?_))
  refine wpAny_bind (wpAny_isInstance (T := "StopIteration") (b := true) ⟨_, Heap.get?_push_size _ rfl, rfl⟩ isSubtype_stop ?_)
  exact wpAny_pure (hQ _ (((Heap.SameBut.update ..).extBut.push _).push _))
/-- the i-th of the drawn places -/
theorem next_tup {q : Addr} {ps : Array Value} {i k : Nat} {x : Value} {z : Int} (hI : IterAt s.heap I a (.ref q) i es.size ep) (hS : SetAt s.heap a es ep t) (hf : t.fits es.size = true) (ht : IsTup s.heap q ps) (hk : ps[i]? = some (.int k 0)) (hx : es[k]? = some (z, x))
    (hQ : ∀ h', IterAt h' I a (.ref q) (i + 1) es.size ep → Heap.SameBut I s.heap h' → Q (some x) { s with heap := h' }) : wpAny (model prog w) A (pyNext (.ref I)) Q E s := by
  obtain ⟨o, ho, hc, hd⟩ := id hI
  obtain ⟨p, hp, hxx, hq⟩ := id hS
  unfold pyNext
  refine wpAny_bind (wpAny_attempt (wpAny_callSpecial?_slot (name := Str.ofString "__next__") hI.typeIs si_slot (wpAny_call_entry si_slot hI.typeIs si_entry ?_ (si_args _))))
  unfold Builtin.«set_iterator.__next__»
  refine wpAny_bind (wpAny_pure ?_)
  dsimp only
  refine wpAny_bind (wpAny_fieldsOf ho hd ?_)
  dsimp only
  refine wpAny_bind (wpAny_setEntries_of hp hq hf ?_)
  rw [show (((es.size : Nat) : Int) != ((es.size : Nat) : Int)) = false by simp, if_neg Bool.false_ne_true]
  simp only [Int.toNat_natCast]
  obtain ⟨oq, hoq, hcq, nq, hdq⟩ := ht
  refine wpAny_bind (wpAny_seqItems hoq hdq ?_)
  dsimp only
  rw [hk]
  dsimp only
  unfold setNextDrawn
  simp only [Int.toNat_natCast]
  refine wpAny_bind (wpAny_bind (wpAny_setState_of hp hq hf ?_))
  dsimp only
  rw [show (ep != ep) = false by simp, if_neg Bool.false_ne_true]
  rw [hx]
  refine wpAny_pure ?_
  refine wpAny_bind (wpAny_setField ho hd (by simp) (wpAny_pure ⟨x, rfl, wpAny_pure (hQ _ (si_fields ho hc hd) (Heap.SameBut.update ..))⟩))
theorem end_tup {q : Addr} {ps : Array Value} {i : Nat} (hh : A.handled = none) (hI : IterAt s.heap I a (.ref q) i es.size ep) (hS : SetAt s.heap a es ep t) (hf : t.fits es.size = true) (ht : IsTup s.heap q ps) (hk : ps[i]? = none)
    (hQ : ∀ h', Heap.ExtBut I s.heap h' → Q none { s with heap := h' }) : wpAny (model prog w) A (pyNext (.ref I)) Q E s := by
  obtain ⟨o, ho, hc, hd⟩ := id hI
  obtain ⟨p, hp, hx, hq⟩ := id hS
  unfold pyNext
  refine wpAny_bind (wpAny_attempt (wpAny_callSpecial?_slot (name := Str.ofString "__next__") hI.typeIs si_slot (wpAny_call_entry si_slot hI.typeIs si_entry ?_ (si_args _))))
  unfold Builtin.«set_iterator.__next__»
  refine wpAny_bind (wpAny_pure ?_)
  dsimp only
  refine wpAny_bind (wpAny_fieldsOf ho hd ?_)
  dsimp only
  refine wpAny_bind (wpAny_setEntries_of hp hq hf ?_)
  rw [show (((es.size : Nat) : Int) != ((es.size : Nat) : Int)) = false by simp, if_neg Bool.false_ne_true]
  simp only [Int.toNat_natCast]
  obtain ⟨oq, hoq, hcq, nq, hdq⟩ := ht
  refine wpAny_bind (wpAny_seqItems hoq hdq ?_)
  dsimp only
  rw [hk]
  dsimp only
  refine wpAny_bind (wpAny_setField ho hd (by simp) ?_)
  obtain ⟨o1, ho1, hc1, hd1⟩ := si_first (ep := ep) (rawInt 0) ho hc hd
  refine wpAny_bind (wpAny_setField ho1 hd1 (by simp) ?_)
  refine wpAny_bind ?_
  simp only [newExc, newTuple]
  refine wpAny_bind (wpAny_newObj_type ?_ (by size_fits))
  refine wpAny_bind (m := firstArgMember _ _) (wpAny_of_eq (a := Value.none) (by first | rfl | (simp only [firstArgMember]; rfl)) ?_)
  refine wpAny_newObj_type ?_ (by size_fits)
  simp only [raiseNew]
  refine wpAny_bind (wpAny_handled ?_)
  rw [show A.in1.handled = none from hh]
  refine wpAny_bind (wpAny_pure (wpAny_throw ?_))
  refine wpAny_bind (wpAny_isInstance (T := "StopIteration") (b := true) ⟨_, Heap.get?_push_size _ rfl, rfl⟩ isSubtype_stop ?_)
  exact wpAny_pure (hQ _ ((((Heap.SameBut.update ..).trans (Heap.SameBut.update ..)).extBut.push _).push _))
end
end L2

end
section

set_option Elab.async false
set_option linter.all false
set_option maxRecDepth 100000
set_option maxHeartbeats 4000000

namespace L2
open PySem PyProof.Rows
section
variable {prog : Program} {w : World} {A : Around} {E : Value → Shared → Prop} {s : Shared} {I a : Addr} {es : Array (Int × Value)} {ep : Nat} {t : SetTable}

/-- in the text's own order -/
theorem sn_text {slot i : Nat} {Q : Option (Value × Nat) → Shared → Prop} (ho : ordText w = true) (hS : SetAt s.heap a es ep t) (hf : t.fits es.size = true)
    (h : Q (((pickOrder (w.params.setOrder a ep) es)[i]?).map fun e => (e.2, slot)) s) : wpAny (model prog w) A (setNext a slot i ep) Q E s := by
  obtain ⟨p, hp, hx, hq⟩ := id hS
  unfold setNext
  refine wpAny_bind (wpAny_setState_of hp hq hf ?_)
  dsimp only
  unfold setsByText
  refine wpAny_bind (wpAny_bind (wpAny_askSetting (wpAny_pure ?_)))
  show wpAny (model prog w) A (if ordText w = true then _ else _) Q E s
  rw [if_pos ho]
  rw [show (ep != ep) = false by simp, if_neg Bool.false_ne_true]
  refine wpAny_bind ?_
  unfold setWalk
  refine wpAny_bind (wpAny_setState_of hp hq hf ?_)
  dsimp only
  unfold setsByText
  refine wpAny_bind (wpAny_bind (wpAny_askSetting (wpAny_pure ?_)))
  show wpAny (model prog w) A (if ordText w = true then _ else _) _ E s
  rw [if_pos ho]
  exact wpAny_bind (wpAny_askSetting (wpAny_pure (wpAny_pure h)))
/-- by its places -/
theorem sn_led {slot i : Nat} {Q : Option (Value × Nat) → Shared → Prop} (ho : ordText w = false) (hd : (!t.plain && decide (es.size > 1)) = false) (hl : t.led = true) (hS : SetAt s.heap a es ep t) (hf : t.fits es.size = true)
    (h : Q (match es[SetTable.below t.place slot]?, t.place[SetTable.below t.place slot]? with | some (_, x), some j => some (x, j + 1) | _, _ => none) s) : wpAny (model prog w) A (setNext a slot i ep) Q E s := by
  obtain ⟨p, hp, hx, hq⟩ := id hS
  unfold setNext
  refine wpAny_bind (wpAny_setState_of hp hq hf ?_)
  dsimp only
  unfold setsByText
  refine wpAny_bind (wpAny_bind (wpAny_askSetting (wpAny_pure ?_)))
  show wpAny (model prog w) A (if ordText w = true then _ else _) Q E s
  rw [if_neg (by rw [ho]; exact Bool.false_ne_true)]
  show wpAny (model prog w) A (if (!t.plain && decide (es.size > 1)) = true then _ else _) Q E s
  rw [hd, if_neg Bool.false_ne_true]
  refine wpAny_bind ?_
  show wpAny (model prog w) A (if (!t.led && !es.isEmpty) = true then _ else _) _ E s
  rw [hl]
  exact wpAny_pure (wpAny_pure h)

theorem draw_wp {α : Type} {Q : List α → Shared → Prop} : ∀ (n : Nat) (xs : List α) (s : Shared), xs.length = n → (∀ l d, l.Perm xs → Q l { s with drawn := d }) → wpAny (model prog w) A (drawOrder n xs) Q E s := by
  intro n
  induction n generalizing Q with
  | zero =>
    intro xs s hl h
    have : xs = [] := List.length_eq_zero_iff.mp hl
    subst this
    exact wpAny_pure (h [] s.drawn .rfl)
  | succ n ih =>
    intro xs s hl h
    cases xs with
    | nil => cases hl
    | cons y r =>
      show wpAny (model prog w) A (choose .order (y :: r).length >>= _) Q E s
      have key : ∀ i, i < (y :: r).length → wpAny (model prog w) A (match (y :: r)[i]? with
          | some x => do return x :: (← drawOrder n ((y :: r).eraseIdx i))
          | none => unsupported "internal:drawOrder") Q E { s with drawn := s.drawn.bump .order } := fun i hi => by
        have hg : (y :: r)[i]? = some (y :: r)[i] := List.getElem?_eq_getElem hi
        rw [hg]
        refine wpAny_bind (ih _ _ (by rw [List.length_eraseIdx, if_pos hi]; omega) fun l d p => wpAny_pure (h _ d ?_))
        exact (List.Perm.cons _ p).trans (cons_erase hi rfl)
      refine wpAny_bind fun Γ p hΓ => ⟨by simp, ?_⟩
      exact key _ (Nat.mod_lt _ (by simp)) 

def itObj (f : Value) (a : Addr) (n ep : Nat) : Obj := { cls := .type "set_iterator", data := .fields #[f, .int 0 0, .ref a, .int n 0, .int ep 0] }
def plObj (l : List Nat) : Obj := { cls := .type "tuple", data := .seq (l.map fun (i : Nat) => Value.int i 0).toArray }
theorem itObj_at {h : Heap} {f : Value} {n : Nat} : IterAt (h.push (itObj f a n ep)) h.objs.size a f 0 n ep := ⟨_, Heap.get?_push_size _ rfl, rfl, rfl⟩
theorem iter_set {Q : Value → Shared → Prop} (hS : SetAt s.heap a es ep t) (hf : t.fits es.size = true) (hb : es.size ≤ sizeLine)
    (h1 : (!ordText w && (!t.plain && decide (es.size > 1))) = false → Q (.ref s.heap.objs.size) { s with heap := s.heap.push (itObj (.int 0 0) a es.size ep) })
    (h2 : ∀ l d, ordText w = false → l.Perm (List.range es.size) → Q (.ref (s.heap.objs.size + 1)) { s with heap := (s.heap.push (plObj l)).push (itObj (.ref s.heap.objs.size) a es.size ep), drawn := d }) :
    wpAny (model prog w) A (pyIter (.ref a)) Q E s := by
  obtain ⟨p, hp, hx, hq⟩ := id hS
  refine wpAny_pyIter_slot hS.typeIs F.slot_set_iter (wpAny_call_entry F.slot_set_iter hS.typeIs st_entry ?_ (F.args_set_iter_1 _))
  unfold Builtin.«frozenset.__iter__» Builtin.Frozenset.slot0 slotArgs
  simp only [List.isEmpty_nil, Bool.not_true, Bool.false_eq_true, ↓reduceIte, bind_assoc, List.length_nil, bne_self_eq_false]
  unfold Builtin.Frozenset.addrOf Builtin.Frozenset.sizeOf
  refine wpAny_bind (wpAny_pure ?_)
  try dsimp only
  refine wpAny_bind (wpAny_pure ?_)
  refine wpAny_bind (wpAny_bind (wpAny_setEntries_of hp hq hf (wpAny_pure ?_)))
  unfold setDrawn
  refine wpAny_bind (wpAny_bind (wpAny_setState_of hp hq hf ?_))
  dsimp only
  unfold setsByText
  refine wpAny_bind (wpAny_bind (wpAny_askSetting (wpAny_pure (wpAny_pure ?_))))
  show wpAny (model prog w) _ (if (!ordText w && (!t.plain && decide (es.size > 1))) = true then _ else _) _ _ _
  by_cases hc : (!ordText w && (!t.plain && decide (es.size > 1))) = true
  · rw [if_pos hc]
    have ho : ordText w = false := by
      cases e : ordText w with
      | false => rfl
      | true => rw [e] at hc; cases hc
    refine wpAny_bind (draw_wp es.size (List.range es.size) s (List.length_range) fun l d pl => ?_)
    have hl : l.length = es.size := by rw [pl.length_eq, List.length_range]
    unfold newTuple
    refine wpAny_bind (wpAny_newObj_type ?_ (by show (l.map _).toArray.size ≤ _; simp; omega))
    have hp' : (s.heap.push { cls := .type "tuple", data := .seq (l.map fun (i : Nat) => rawInt i).toArray }).get? a = some p := Heap.get?_push_of_some _ hp
    refine wpAny_bind (wpAny_setEpoch_of hp' hq hf ?_)
    refine wpAny_bind (wpAny_newObj_type (wpAny_pure ⟨_, rfl, "set_iterator", _, ⟨_, Heap.get?_push_size _ rfl, rfl⟩, si_slot.lookup, ?_⟩))
    have z : (s.heap.push { cls := .type "tuple", data := .seq (l.map fun (i : Nat) => rawInt i).toArray }).objs.size = s.heap.objs.size + 1 := Heap.size_push _ _
    have := h2 l d ho pl
    rw [← z] at this
    exact this
  · rw [if_neg hc]
    refine wpAny_bind (wpAny_pure ?_)
    refine wpAny_bind (wpAny_setEpoch_of hp hq hf ?_)
    refine wpAny_bind (wpAny_newObj_type (wpAny_pure ⟨_, rfl, "set_iterator", _, ⟨_, Heap.get?_push_size _ rfl, rfl⟩, si_slot.lookup, ?_⟩))
    exact h1 (by simpa using hc)
end

/-! ### the three walks -/
section
variable {prog : Program} {w : World} {A : Around} {E : Value → Shared → Prop} {s : Shared} {I a : Addr} {es : Array (Int × Value)} {ep : Nat} {t : SetTable}
abbrev Nx (prog : Program) (w : World) (I : Addr) (fp : List Addr) (n : Nat) (ws : List Value) (St : Nat → Heap → Prop) : Prop :=
  ∀ A : Around, A.handled = none → WalksS prog w A I fp [I] (fun a b => b = a) n (fun i v => ws[i]? = some v) (fun i s => St i s.heap)
theorem nx_mk {fp : List Addr} {n : Nat} {ws : List Value} {St : Nat → Heap → Prop} (hI : I ∈ fp) (hz : ws.length = n)
    (fr : ∀ i h h', St i h → (∀ b ∈ fp, ∀ o, h.get? b = some o → h'.get? b = some o) → St i h')
    (it : ∀ (A : Around) (E : Value → Shared → Prop) (Q : Option Value → Shared → Prop) (s : Shared) i v, A.handled = none → ws[i]? = some v → St i s.heap → (∀ h', St (i + 1) h' → Heap.SameBut I s.heap h' → Q (some v) { s with heap := h' }) → wpAny (model prog w) A (pyNext (.ref I)) Q E s)
    (dn : ∀ (A : Around) (E : Value → Shared → Prop) (Q : Option Value → Shared → Prop) (s : Shared), A.handled = none → St n s.heap → (∀ h', Heap.ExtBut I s.heap h' → Q none { s with heap := h' }) → wpAny (model prog w) A (pyNext (.ref I)) Q E s)
    (sf : ∀ (A : Around) (E : Value → Shared → Prop) (Q : Value → Shared → Prop) (s : Shared) i, St i s.heap → Q (.ref I) s → wpAny (model prog w) A (pyIter (.ref I)) Q E s) : Nx prog w I fp n ws St := fun A hh =>
  { sub := fun b hb => by rw [List.mem_singleton.mp hb]; exact hI
    grefl := fun _ => rfl
    gtrans := fun _ _ _ h1 h2 => h2.trans h1
    frame := fun i s h' tk st _ k => fr i s.heap h' st k
    item := fun i s Q E hi st hQ => by
      have hg : ws[i]? = some ws[i] := List.getElem?_eq_getElem (by omega)
      exact it A E Q s i _ hh hg st fun h' st' sb => hQ _ _ hg st' ⟨fun b o hb e => sb.extBut b o (fun z => hb (List.mem_singleton.mpr z)) e, rfl, rfl, rfl, Nat.le_refl _⟩
    done := fun s Q E st hQ => dn A E Q s hh st fun h' eb => hQ _ ⟨fun b o hb e => eb b o (fun z => hb (List.mem_singleton.mpr z)) e, rfl, rfl, rfl, Nat.le_refl _⟩
    self := fun i s Q E st hQ => sf A E Q s i st hQ }
theorem sb_keep {h h' : Heap} {b : Addr} (sb : Heap.SameBut I h h') (hb : b ≠ I) : ∀ o, h.get? b = some o → h'.get? b = some o := fun o e => sb.extBut b o hb e

theorem si_islot : Slot "set_iterator" "__iter__" "set_iterator.__iter__" :=
  .of (owner := "set_iterator") (n := "__iter__") (by rw [typeLookup_type, builtinLookup_eq_fast]; kernel_rfl) (by decide +kernel) (by decide +kernel) (by decide +kernel)
    (by first | exact .inl (by decide +kernel) | exact .inr (by decide +kernel)) (by rw [isSubtype_type]; kernel_rfl)
theorem si_ientry : entryFor table "set_iterator.__iter__" = some Builtin.«dict_keyiterator.__iter__» := entryFor_alias (id' := "dict_keyiterator.__iter__") (by kernel_rfl) rfl (by decide +kernel) (by kernel_rfl)
theorem si_iargs (v : Value) : argsOk "set_iterator.__iter__" ⟨[v], []⟩ := by unfold argsOk; kernel_rfl
theorem si_self {f : Value} {i n : Nat} {Q : Value → Shared → Prop} (hI : IterAt s.heap I a f i n ep) (h : Q (.ref I) s) : wpAny (model prog w) A (pyIter (.ref I)) Q E s := by
  refine wpAny_pyIter_slot hI.typeIs si_islot (wpAny_call_entry si_islot hI.typeIs si_ientry ?_ (si_iargs _))
  show wpAny (model prog w) _ (ret (.ref I)) _ _ s
  exact wpAny_pure ⟨_, rfl, "set_iterator", _, hI.typeIs, si_slot.lookup, h⟩

theorem walk_text (ho : ordText w = true) (hf : t.fits es.size = true) (hne : a ≠ I) :
    Nx prog w I [I, a] es.size ((pickOrder (w.params.setOrder a ep) es).toList.map (·.2)) (fun i h => IterAt h I a (.int (0 : Nat) 0) i es.size ep ∧ SetAt h a es ep t) := by
  have hz : (pickOrder (w.params.setOrder a ep) es).size = es.size := by
    have := (pickOrder_perm (w.params.setOrder a ep) es).length_eq
    rwa [Array.length_toList, Array.length_toList] at this
  refine nx_mk (by simp) (by rw [List.length_map, Array.length_toList, hz]) (fun i h h' st k => ⟨st.1.at (k I (by simp)), st.2.at (k a (by simp))⟩) (fun A E Q s i v hh hv st hQ => ?_) (fun A E Q s hh st hQ => ?_) fun A E Q s i st h => si_self st.1 h
  · obtain ⟨e, he, hev⟩ : ∃ e, (pickOrder (w.params.setOrder a ep) es)[i]? = some e ∧ e.2 = v := by
      rw [List.getElem?_map, Array.getElem?_toList] at hv
      cases q : (pickOrder (w.params.setOrder a ep) es)[i]? with
      | none => rw [q] at hv; cases hv
      | some e => rw [q] at hv; cases hv; exact ⟨e, rfl, rfl⟩
    refine next_int (slot := 0) (j := 0) (x := v) st.1 st.2 hf (fun A E' Q' q => sn_text ho st.2 hf (by rw [he, Option.map_some, hev]; exact q)) fun h' st' sb => ?_
    exact hQ h' ⟨st', st.2.at (sb_keep sb hne)⟩ sb
  · refine end_int (slot := 0) hh st.1 st.2 hf (fun A E' Q' q => sn_text ho st.2 hf (by rw [Array.getElem?_eq_none (by omega)]; exact q)) hQ
def slotAt (t : SetTable) : Nat → Nat
  | 0 => 0
  | i + 1 => t.place.getD i 0 + 1
theorem slotAt_below (ht : Rise t.place) : ∀ {i : Nat}, i ≤ t.place.size → SetTable.below t.place (slotAt t i) = i
  | 0, _ => below_zero ht
  | i + 1, h => by
    have hg : t.place[i]? = some t.place[i] := Array.getElem?_eq_getElem (by omega)
    show SetTable.below t.place (t.place.getD i 0 + 1) = i + 1
    rw [Array.getD_eq_getD_getElem?, hg]
    exact below_next ht hg
theorem walk_led (ho : ordText w = false) (hd : (!t.plain && decide (es.size > 1)) = false) (ht : Tab t (!ordText w)) (hf : t.fits es.size = true) (hne : a ≠ I) :
    Nx prog w I [I, a] es.size (es.toList.map (·.2)) (fun i h => IterAt h I a (.int (slotAt t i : Nat) 0) i es.size ep ∧ SetAt h a es ep t ∧ i ≤ es.size) := by
  have hl : t.led = true := by rw [ht.led, ho]; rfl
  have hz : t.place.size = es.size := by
    unfold SetTable.fits at hf
    rw [Bool.and_eq_true] at hf
    exact beq_iff_eq.mp hf.1
  refine nx_mk (by simp) (by rw [List.length_map, Array.length_toList]) (fun i h h' st k => ⟨st.1.at (k I (by simp)), st.2.1.at (k a (by simp)), st.2.2⟩) (fun A E Q s i v hh hv st hQ => ?_) (fun A E Q s hh st hQ => ?_) fun A E Q s i st h => si_self st.1 h
  · obtain ⟨z, he⟩ : ∃ z, es[i]? = some (z, v) := by
      rw [List.getElem?_map, Array.getElem?_toList] at hv
      cases q : es[i]? with
      | none => rw [q] at hv; cases hv
      | some e => rw [q] at hv; cases hv; exact ⟨e.1, rfl⟩
    have hi : i < es.size := by
      rcases Nat.lt_or_ge i es.size with h | h
      · exact h
      · rw [Array.getElem?_eq_none h] at he; cases he
    have hg : t.place[i]? = some t.place[i] := Array.getElem?_eq_getElem (by omega)
    have hb := slotAt_below ht.rise (i := i) (by omega)
    have hj : slotAt t (i + 1) = t.place[i] + 1 := by
      show t.place.getD i 0 + 1 = _
      rw [Array.getD_eq_getD_getElem?, hg]
      rfl
    refine next_int (slot := slotAt t i) (j := slotAt t (i + 1)) (x := v) st.1 st.2.1 hf (fun A E' Q' q => sn_led ho hd hl st.2.1 hf (by rw [hb, he, hg]; rw [hj] at q; exact q)) fun h' st' sb => ?_
    exact hQ h' ⟨st', st.2.1.at (sb_keep sb hne), hi⟩ sb
  · have hb := slotAt_below ht.rise (i := es.size) (by omega)
    refine end_int (slot := slotAt t es.size) hh st.1 st.2.1 hf (fun A E' Q' q => sn_led ho hd hl st.2.1 hf (by rw [hb, Array.getElem?_eq_none (Nat.le_refl _)]; exact q)) hQ
theorem walk_drawn {q : Addr} {l : List Nat} (hp : l.Perm (List.range es.size)) (hf : t.fits es.size = true) (hne : a ≠ I) (hq : q ≠ I) :
    Nx prog w I [I, a, q] es.size (l.map fun i => (es.getD i (0, .none)).2) (fun i h => IterAt h I a (.ref q) i es.size ep ∧ SetAt h a es ep t ∧ IsTup h q (l.map fun (i : Nat) => Value.int i 0).toArray) := by
  have hl : l.length = es.size := by rw [hp.length_eq, List.length_range]
  refine nx_mk (by simp) (by rw [List.length_map, hl]) (fun i h h' st k => ⟨st.1.at (k I (by simp)), st.2.1.at (k a (by simp)), let ⟨o, e, r⟩ := st.2.2; ⟨o, k q (by simp) o e, r⟩⟩) (fun A E Q s i v hh hv st hQ => ?_) (fun A E Q s hh st hQ => ?_) fun A E Q s i st h => si_self st.1 h
  · obtain ⟨k, hk, hkv⟩ : ∃ k, l[i]? = some k ∧ (es.getD k (0, .none)).2 = v := by
      rw [List.getElem?_map] at hv
      cases q : l[i]? with
      | none => rw [q] at hv; cases hv
      | some k => rw [q] at hv; cases hv; exact ⟨k, rfl, rfl⟩
    have hks : k < es.size := by
      have := hp.mem_iff.mp (List.mem_iff_getElem?.mpr ⟨i, hk⟩)
      exact List.mem_range.mp this
    have he : es[k]? = some es[k] := Array.getElem?_eq_getElem hks
    have hv2 : es[k].2 = v := by
      rw [← hkv, Array.getD_eq_getD_getElem?, he]
      rfl
    refine next_tup (k := k) (z := es[k].1) (x := v) st.1 st.2.1 hf st.2.2 (by rw [← Array.getElem?_toList, List.toList_toArray, List.getElem?_map, hk]; rfl) (by rw [he, ← hv2]) fun h' st' sb => ?_
    exact hQ h' ⟨st', st.2.1.at (sb_keep sb hne), let ⟨o, e, r⟩ := st.2.2; ⟨o, sb_keep sb hq o e, r⟩⟩ sb
  · refine end_tup hh st.1 st.2.1 hf st.2.2 (Array.getElem?_eq_none (by rw [List.size_toArray, List.length_map]; omega)) hQ
end
end L2

end
section

set_option Elab.async false
set_option linter.all false
set_option maxRecDepth 100000
set_option maxHeartbeats 4000000

/-! sorted(..) of a set of hInts. -/
namespace L2
open PySem PyProof.Rows
section
variable {prog : Program} {w : World} {A : Around} {E : Value → Shared → Prop} {s : Shared} {I a : Addr} {es : Array (Int × Value)} {ep : Nat} {t : SetTable} {ks : List Int}

theorem hint_set (hT : s.TypeIs (.ref a) "set") {Q : Bool → Shared → Prop} (h : Q false s) : wpAny (model prog w) A (Builtin.List.listLengthHint (.ref a)) Q E s := by
  unfold Builtin.List.listLengthHint
  refine wpAny_bind (wpAny_specialOf hT F.slot_set_len.lookup ?_)
  generalize hid : ("set.__len__" : String) = id0
  wp_delta
  rw [show splitId id0 = some ("set", "__len__") from by subst hid; decide +kernel]
  subst hid
  refine wpAny_bind (wpAny_isInstance (T := "set") (b := true) hT (by rw [isSubtype_type]; kernel_rfl) ?_)
  refine wpAny_ite_split (fun z => absurd z (by decide)) fun _ => ?_
  refine wpAny_ite_split (fun _ => ?_) fun z => absurd (by decide +kernel) z
  exact wpAny_bind (wpAny_typeOf hT (wpAny_pure h))

theorem ext_rest {S : Addr} {fp : List Addr} {n c0 : Nat} {ws : List Value} {St : Nat → Heap → Prop} {c : Bool → Bool} {s1 : Shared} {res : Value} {R : Result → Shared → Prop} {EE : Value → Shared → Prop} (W : Nx prog w I fp n ws St) (hh : A.handled = none) (hn : n ≤ sizeLine) (hSf : S ∉ fp)
    (hT : s1.TypeIs (.ref a) "set") (st : St 0 s1.heap) (hS : s1.heap.get? S = some { cls := .type "list", data := .seq #[] c0 })
    (hR : ∀ h' tk acc c', (∀ b o, b ≠ S → b ≠ I → s1.heap.get? b = some o → h'.get? b = some o) → h'.get? S = some { cls := .type "list", dict := none, data := .seq acc c', slots := #[] } → acc.toList = ws → R (.ok (.ret res)) { s1 with heap := h', toks := tk }) (hw : ws.length = n) :
    wpAny (model prog w) A.in1 (do
      let room ← holding [Value.ref I] (Builtin.List.listLengthHint (.ref a))
      if c room = true then do
        rule "list.extend.makes-room"
        Builtin.List.listTouch (.ref S)
        again (.builtin "list.extend.loop" ⟨[.ref S, .ref I, res], []⟩)
      else again (.builtin "list.extend.loop" ⟨[.ref S, .ref I, res], []⟩))
      (fun fin s' => match fin with | .done f => R (.ok f) s' | .again c' => c'.quiet = true ∧ codeAny (model prog w) A c' R s') EE s1 := by
  have loop : ∀ (h : Heap) (c1 tk : Nat), St 0 h → (∀ b o, b ≠ S → s1.heap.get? b = some o → h.get? b = some o) → h.get? S = some { cls := .type "list", data := .seq #[] c1 } →
      codeAny (model prog w) A (.builtin "list.extend.loop" ⟨[.ref S, .ref I, res], []⟩) R { s1 with heap := h, toks := tk } := fun h c1 tk st1 k e => by
    refine codeAny_extend_loopS (W A.in1 hh) hn S hSf res n 0 _ #[] c1 rfl (Nat.zero_le _) st1 e (ItemsOf.nil _) fun s' acc c' hm e' ac => ?_
    have b1 : s' = { s1 with heap := s'.heap, toks := s'.toks } := by
      have q1 : s'.gens = s1.gens := hm.gens
      have q2 : s'.drawn = s1.drawn := hm.drawn
      have q3 : s'.os = s1.os := hm.os
      obtain ⟨h', g', d', t', o'⟩ := s'
      dsimp only at q1 q2 q3
      subst q1
      subst q2
      subst q3
      rfl
    rw [b1]
    refine hR s'.heap s'.toks acc c' (fun b o hb hi q => hm.heap b o (fun z => ?_) (k b o hb q)) e' ?_
    · rcases List.mem_cons.mp z with z | z
      · exact hb z
      · exact hi (List.mem_singleton.mp z)
    · refine List.ext_getElem? fun j => ?_
      by_cases hj : j < n
      · have hj' : j < acc.size := by rw [ac.1]; exact hj
        have q1 : acc[j]? = some acc[j] := Array.getElem?_eq_getElem hj'
        rw [Array.getElem?_toList, q1]
        exact (ac.2 j _ q1).symm
      · rw [List.getElem?_eq_none (by rw [Array.length_toList, ac.1]; omega), List.getElem?_eq_none (by omega)]
  refine wpAny_bind (wpAny_holding (hint_set hT ?_))
  refine wpAny_ite_split (fun _ => ?_) fun _ => wpAny_pure ⟨plainId_quiet F.plain_extend_loop _, loop s1.heap c0 s1.toks st (fun b o _ e => e) hS⟩
  refine wpAny_bind (wpAny_rule (wpAny_bind ?_))
  show wpAny (model prog w) A.in1 (updateSeq S (·.push .none) >>= fun _ => updateSeq S (·.pop)) _ _ _
  refine wpAny_bind (wpAny_updateSeq hS rfl ?_)
  have e2 := Heap.get?_update_self (Obj.mapSeq (·.push Value.none)) hS rfl
  refine wpAny_updateSeq (hz := by seq_fits) e2 rfl ?_
  have e3 := Heap.get?_update_self (Obj.mapSeq (·.pop)) e2 rfl
  have oth : ∀ b o, b ≠ S → s1.heap.get? b = some o → ((s1.heap.update S (Obj.mapSeq (·.push Value.none))).update S (Obj.mapSeq (·.pop))).get? b = some o := fun b o hb e =>
    (Heap.get?_update_other _ _ (Ne.symm hb)).trans ((Heap.get?_update_other _ _ (Ne.symm hb)).trans e)
  refine wpAny_pure ⟨plainId_quiet F.plain_extend_loop _, loop _ _ s1.toks ?_ oth e3⟩
  exact (W A.in1 hh).frame 0 s1 _ s1.toks st (Nat.le_refl _) fun b hb o e => oth b o (fun z => hSf (z ▸ hb)) e

/-- where a collecting walk ends -/
def EndC (s : Shared) (a : Addr) (ws : List Value) (I : Addr) (d : Drawn) (r : Result) (s' : Shared) : Prop :=
  ∃ h' tk acc c', r = .ok (.ret (.ref s.heap.objs.size)) ∧ s' = { s with heap := h', toks := tk, drawn := d } ∧ h'.get? s.heap.objs.size = some { cls := .type "list", dict := none, data := .seq acc c', slots := #[] } ∧ acc.toList = ws ∧
    ∀ b o, b ≠ s.heap.objs.size → b ≠ I → s.heap.get? b = some o → h'.get? b = some o
/-- what a walk over the set brings -/
theorem collect_set {Q : List Value → Shared → Prop} (hh : A.handled = none) (hS : SetI prog w s.heap a ks)
    (h : ∀ vs h' tk d, IntsAre vs (vs.map intOf) → (vs.map intOf).Perm ks → (∀ b o, s.heap.get? b = some o → h'.get? b = some o) → s.heap.objs.size < h'.objs.size → Q vs { s with heap := h', toks := tk, drawn := d }) : wpAny (model prog w) A (collect (.ref a)) Q E s := by
  obtain ⟨o, es, ep, t, ho, hx, hd, hel, hp, hb, hf, ht⟩ := id hS
  have hz : es.size ≤ sizeLine := fits_of_scanBound hb
  have hInts : ∀ vs : List Value, vs.Perm (es.toList.map (·.2)) → IntsAre vs (vs.map intOf) ∧ (vs.map intOf).Perm ks := fun vs p => by
    refine ⟨?_, (p.map _).trans (by rw [List.map_map]; exact hp)⟩
    have all : ∀ v ∈ vs, ∃ tk, v = .int (intOf v) tk := fun v hv => by
      obtain ⟨e, he, q⟩ := List.mem_map.mp (p.mem_iff.mp hv)
      obtain ⟨tk, e2⟩ := elem_int hel he
      exact ⟨tk, by rw [← q]; exact e2⟩
    clear p
    induction vs with
    | nil => exact .nil
    | cons v r ih =>
      obtain ⟨tk, e⟩ := all v (List.mem_cons_self ..)
      rw [List.map_cons]
      have q := ih fun u hu => all u (List.mem_cons_of_mem _ hu)
      generalize hn : intOf v = n at e
      subst e
      exact .cons n tk q
  have hat : a < s.heap.objs.size := Heap.lt_size ho
  unfold collect
  refine wpAny_bind (wpAny_runValue (codeAny_builtin F.entry_proto_collect ?_))
  rw [Around.under_plainId F.plain_proto_collect]
  show wpAny (model prog w) A.in1 (newList [] >>= fun l => again (.builtin "list.__iadd__" ⟨[l, .ref a], []⟩)) _ _ s
  refine wpAny_bind (wpAny_newObj_type ?_)
  refine wpAny_pure ⟨plainId_quiet F.plain_list_iadd _, codeAny_builtin F.entry_list_iadd ?_⟩
  rw [Around.under_plainId F.plain_list_iadd]
  have hS1 : (s.heap.push { cls := .type "list", data := .seq ([] : List Value).toArray }).get? s.heap.objs.size = some { cls := .type "list", data := .seq ([] : List Value).toArray } := Heap.get?_push_size _ rfl
  have hA1 : SetAt (s.heap.push { cls := .type "list", data := .seq ([] : List Value).toArray }) a es ep t := ⟨o, Heap.get?_push_of_some _ ho, hx, hd⟩
  show wpAny (model prog w) A.in1 (Builtin.List.listExtendWith (.ref s.heap.objs.size) (.ref a) (.ref s.heap.objs.size)) _ _ _
  unfold Builtin.List.listExtendWith
  refine wpAny_bind (wpAny_typeOf (T := "set") ⟨o, Heap.get?_push_of_some _ ho, hx.1⟩ ?_)
  have h1 : Builtin.List.listSameRef (.ref s.heap.objs.size) (.ref a) = false := by
    unfold Builtin.List.listSameRef
    exact beq_eq_false_iff_ne.mpr (Nat.ne_of_gt hat)
  have h2 : (Value.type "set" == Value.type "list") = false := by decide
  have h3 : (Value.type "set" == Value.type "tuple") = false := by decide
  simp only [h1, h2, h3, Bool.or_false, Bool.false_eq_true, if_false]
  refine wpAny_bind (iter_set (t := t) hA1 hf hz ?_ ?_)
  · intro hnd
    have hne : a ≠ (s.heap.push { cls := .type "list", data := .seq ([] : List Value).toArray }).objs.size := by rw [Heap.size_push]; exact Nat.ne_of_lt (Nat.lt_succ_of_lt hat)
    have hSf : s.heap.objs.size ∉ [(s.heap.push { cls := .type "list", data := .seq ([] : List Value).toArray }).objs.size, a] := fun z => by
      rw [Heap.size_push] at z
      rcases List.mem_cons.mp z with z | z
      · exact absurd z (Nat.ne_of_lt (Nat.lt_succ_self _))
      · exact absurd (List.mem_singleton.mp z) (Nat.ne_of_gt hat)
    obtain ⟨ws, St, p, W, st⟩ : ∃ ws St, ws.Perm (es.toList.map (·.2)) ∧ Nx prog w (s.heap.push { cls := .type "list", data := .seq ([] : List Value).toArray }).objs.size [(s.heap.push { cls := .type "list", data := .seq ([] : List Value).toArray }).objs.size, a] es.size ws St ∧
        St 0 ((s.heap.push { cls := .type "list", data := .seq ([] : List Value).toArray }).push (itObj (.int 0 0) a es.size ep)) := by
      by_cases hot : ordText w = true
      · exact ⟨_, _, (pickOrder_perm _ es).map _, walk_text (t := t) (ep := ep) hot hf hne, itObj_at, hA1.at fun _ => Heap.get?_push_of_some _⟩
      · have hot : ordText w = false := by simpa using hot
        rw [hot] at hnd
        exact ⟨_, _, .rfl, walk_led (ep := ep) hot (by simpa using hnd) ht hf hne, itObj_at, hA1.at fun _ => Heap.get?_push_of_some _, Nat.zero_le _⟩
    refine wpAny_mono (ext_rest (A := A) (a := a) (c0 := 0) (s1 := { s with heap := (s.heap.push { cls := .type "list", data := .seq ([] : List Value).toArray }).push (itObj (.int 0 0) a es.size ep) }) (R := EndC s a ws (s.heap.push { cls := .type "list", data := .seq ([] : List Value).toArray }).objs.size s.drawn)
      W hh hz hSf ⟨o, Heap.get?_push_of_some _ (Heap.get?_push_of_some _ ho), hx.1⟩ st (Heap.get?_push_of_some _ hS1) (fun h' tk acc c' k e ea => ⟨h', tk, acc, c', rfl, rfl, e, ea, fun b u h1 h2 q => k b u h1 h2 (Heap.get?_push_of_some _ (Heap.get?_push_of_some _ q))⟩) (by rw [p.length_eq, List.length_map, Array.length_toList])) ?_ fun _ _ e => e
    have tail : ∀ r s', EndC s a ws (s.heap.push { cls := .type "list", data := .seq ([] : List Value).toArray }).objs.size s.drawn r s' → ∃ h' tk acc c', r = .ok (.ret (.ref s.heap.objs.size)) ∧ s' = { s with heap := h', toks := tk } ∧ h'.get? s.heap.objs.size = some { cls := .type "list", dict := none, data := .seq acc c', slots := #[] } ∧ Q acc.toList s' := fun r s' ⟨h', tk, acc, c', e1, e2, e, ea, k⟩ => by
      obtain ⟨q1, q2⟩ := hInts ws p
      refine ⟨h', tk, acc, c', e1, e2, e, ?_⟩
      rw [ea, e2]
      refine h ws h' tk s.drawn q1 q2 (fun b u q => k b u (Nat.ne_of_lt (Heap.lt_size q)) ?_ q) (Heap.lt_size e)
      rw [Heap.size_push]
      exact Nat.ne_of_lt (Nat.lt_succ_of_lt (Heap.lt_size q))
    intro fin s' hf'
    cases fin with
    | done f =>
      obtain ⟨h', tk, acc, c', e1, e2, e, hq⟩ := tail _ _ hf'
      cases e1
      subst e2
      exact wpAny_bind (wpAny_load e (wpAny_pure hq))
    | again c' =>
      refine ⟨hf'.1, codeAny_mono hf'.2 fun r s' hr => ?_⟩
      obtain ⟨h', tk, acc, c', e1, e2, e, hq⟩ := tail _ _ hr
      subst e1
      subst e2
      exact wpAny_bind (wpAny_load e (wpAny_pure hq))
  · intro l d hot pl
    have z1 : (s.heap.push { cls := .type "list", data := .seq ([] : List Value).toArray }).objs.size = s.heap.objs.size + 1 := Heap.size_push _ _
    have hl : l.length = es.size := by rw [pl.length_eq, List.length_range]
    have p : (l.map fun i => (es.getD i (0, .none)).2).Perm (es.toList.map (·.2)) := by
      refine (pl.map _).trans (List.Perm.of_eq ?_)
      refine List.ext_getElem? fun j => ?_
      have e1 : es.toList[j]? = es[j]? := Array.getElem?_toList
      rw [List.getElem?_map, List.getElem?_map, e1]
      by_cases hj : j < es.size
      · rw [List.getElem?_range hj, Option.map_some, Array.getD_eq_getD_getElem?, Array.getElem?_eq_getElem hj]
        rfl
      · have e2 : (List.range es.size)[j]? = none := List.getElem?_eq_none (by rw [List.length_range]; omega)
        rw [e2, Array.getElem?_eq_none (by omega)]
        rfl
    have hne : a ≠ (s.heap.push { cls := .type "list", data := .seq ([] : List Value).toArray }).objs.size + 1 := by rw [z1]; exact Nat.ne_of_lt (Nat.lt_succ_of_lt (Nat.lt_succ_of_lt hat))
    have hqe : (s.heap.push { cls := .type "list", data := .seq ([] : List Value).toArray }).objs.size ≠ (s.heap.push { cls := .type "list", data := .seq ([] : List Value).toArray }).objs.size + 1 := Nat.ne_of_lt (Nat.lt_succ_self _)
    have hSf : s.heap.objs.size ∉ [(s.heap.push { cls := .type "list", data := .seq ([] : List Value).toArray }).objs.size + 1, a, (s.heap.push { cls := .type "list", data := .seq ([] : List Value).toArray }).objs.size] := fun z => by
      rw [z1] at z
      rcases List.mem_cons.mp z with z | z
      · exact absurd z (Nat.ne_of_lt (Nat.lt_succ_of_lt (Nat.lt_succ_self _)))
      · rcases List.mem_cons.mp z with z | z
        · exact absurd z (Nat.ne_of_gt hat)
        · exact absurd (List.mem_singleton.mp z) (Nat.ne_of_lt (Nat.lt_succ_self _))
    have W := walk_drawn (prog := prog) (w := w) (ep := ep) (t := t) pl hf hne hqe
    have hI : IterAt (((s.heap.push { cls := .type "list", data := .seq ([] : List Value).toArray }).push (plObj l)).push (itObj (.ref (s.heap.push { cls := .type "list", data := .seq ([] : List Value).toArray }).objs.size) a es.size ep))
        ((s.heap.push { cls := .type "list", data := .seq ([] : List Value).toArray }).objs.size + 1) a (.ref (s.heap.push { cls := .type "list", data := .seq ([] : List Value).toArray }).objs.size) 0 es.size ep := by
      have := itObj_at (a := a) (ep := ep) (h := (s.heap.push { cls := .type "list", data := .seq ([] : List Value).toArray }).push (plObj l)) (f := .ref (s.heap.push { cls := .type "list", data := .seq ([] : List Value).toArray }).objs.size) (n := es.size)
      have z2 : ((s.heap.push { cls := .type "list", data := .seq ([] : List Value).toArray }).push (plObj l)).objs.size = (s.heap.push { cls := .type "list", data := .seq ([] : List Value).toArray }).objs.size + 1 := Heap.size_push _ _
      rw [z2] at this
      exact this
    refine wpAny_mono (ext_rest (A := A) (a := a) (c0 := 0) (s1 := { s with heap := ((s.heap.push { cls := .type "list", data := .seq ([] : List Value).toArray }).push (plObj l)).push (itObj (.ref (s.heap.push { cls := .type "list", data := .seq ([] : List Value).toArray }).objs.size) a es.size ep), drawn := d }) (R := EndC s a (l.map fun i => (es.getD i (0, .none)).2) ((s.heap.push { cls := .type "list", data := .seq ([] : List Value).toArray }).objs.size + 1) d)
      W hh hz hSf ⟨o, Heap.get?_push_of_some _ (Heap.get?_push_of_some _ (Heap.get?_push_of_some _ ho)), hx.1⟩ ⟨hI, hA1.at fun _ e => Heap.get?_push_of_some _ (Heap.get?_push_of_some _ e), ⟨_, Heap.get?_push_of_some _ (Heap.get?_push_size _ rfl), rfl, _, rfl⟩⟩ (Heap.get?_push_of_some _ (Heap.get?_push_of_some _ hS1)) (fun h' tk acc c' k e ea => ⟨h', tk, acc, c', rfl, rfl, e, ea, fun b u h1 h2 q => k b u h1 h2 (Heap.get?_push_of_some _ (Heap.get?_push_of_some _ (Heap.get?_push_of_some _ q)))⟩) (by rw [p.length_eq, List.length_map, Array.length_toList])) ?_ fun _ _ e => e
    have tail : ∀ r s', EndC s a (l.map fun i => (es.getD i (0, .none)).2) ((s.heap.push { cls := .type "list", data := .seq ([] : List Value).toArray }).objs.size + 1) d r s' → ∃ h' tk acc c', r = .ok (.ret (.ref s.heap.objs.size)) ∧ s' = { s with heap := h', toks := tk, drawn := d } ∧ h'.get? s.heap.objs.size = some { cls := .type "list", dict := none, data := .seq acc c', slots := #[] } ∧ Q acc.toList s' := fun r s' ⟨h', tk, acc, c', e1, e2, e, ea, k⟩ => by
      obtain ⟨q1, q2⟩ := hInts _ p
      refine ⟨h', tk, acc, c', e1, e2, e, ?_⟩
      rw [ea, e2]
      refine h _ h' tk d q1 q2 (fun b u q => k b u (Nat.ne_of_lt (Heap.lt_size q)) ?_ q) (Heap.lt_size e)
      rw [z1]
      exact Nat.ne_of_lt (Nat.lt_succ_of_lt (Nat.lt_succ_of_lt (Heap.lt_size q)))
    intro fin s' hf'
    cases fin with
    | done f =>
      obtain ⟨h', tk, acc, c', e1, e2, e, hq⟩ := tail _ _ hf'
      cases e1
      subst e2
      exact wpAny_bind (wpAny_load e (wpAny_pure hq))
    | again c' =>
      refine ⟨hf'.1, codeAny_mono hf'.2 fun r s' hr => ?_⟩
      obtain ⟨h', tk, acc, c', e1, e2, e, hq⟩ := tail _ _ hr
      subst e1
      subst e2
      exact wpAny_bind (wpAny_load e (wpAny_pure hq))

theorem sorted_set {Q : Value → Shared → Prop} (hh : A.handled = none) (hS : SetI prog w s.heap a ks) (h64 : ks.length < 64)
    (h : ∀ h' tk d p vs ns e, (∀ b o, s.heap.get? b = some o → h'.get? b = some o) → s.heap.objs.size ≤ p → h'.get? p = some (seqObj "list" vs e) → IntsAre vs.toList ns → ns.Perm ks → ns.Pairwise (· ≤ ·) → Q (.ref p) { s with heap := h', toks := tk, drawn := d }) :
    wpAny (model prog w) A (call (.builtin "sorted") [.ref a]) Q E s := by
  refine Calls.call_function_entry kind_sorted plain_sorted entry_sorted (args_sorted1 _) ?_
  unfold Builtin.«sorted»
  refine wpAny_bind (m := checkCount "sorted" 1 1 _) (wpAny_pure ?_)
  refine wpAny_bind (collect_set (by exact hh) hS fun vs h1 tk d i1 p1 k1 z1 => ?_)
  have hl : vs.length < 64 := by
    have := p1.length_eq
    rw [List.length_map] at this
    omega
  refine wpAny_bind (wpAny_newList ?_ (by rw [sizeLine_eq]; omega))
  have hL : (h1.push (seqObj "list" vs.toArray 0)).get? h1.objs.size = some (seqObj "list" vs.toArray 0) := Heap.get?_push_size _ rfl
  refine wpAny_bind (wpAny_holding (wpAny_call_entry slot_list_sort ⟨_, hL, rfl⟩ entry_list_sort (list_sort_tree hL i1 hl fun out ns q1 q2 q3 => ⟨_, rfl, ?_⟩) (args_list_sort _)))
  refine wpAny_pure ⟨_, rfl, ?_⟩
  obtain ⟨e, he⟩ := sortedHeap_at (out := out) hL
  refine h _ tk d _ out ns e (fun b o q => ?_) (Nat.le_of_lt z1) he q1 (q2.trans p1) q3
  have hb := Heap.lt_size (k1 b o q)
  rw [sortedHeap_old (Nat.ne_of_lt hb) (by rw [size_push']; exact Nat.lt_succ_of_lt hb)]
  exact Heap.get?_push_of_some _ (k1 b o q)
end
end L2

end
section

set_option Elab.async false
set_option linter.all false
set_option maxRecDepth 100000
set_option maxHeartbeats 4000000

/-! (a, b, ..) = a list; xs.extend(a tuple); min, max of a list. -/
namespace L2
open PySem PySem.Spec PyProof.Rows
section
variable {prog : Program} {w : World} {A : Around} {E : Value → Shared → Prop} {s : Shared}
theorem drawL {it l : Addr} {items : Array Value} (hne : l ≠ it) : ∀ (k i : Nat) (s : Shared) (Q : List Value → Shared → Prop), s.heap.IsListIter it l i → s.heap.IsList l items → i + k = items.size →
    (∀ h', h'.IsListIter it l items.size → Heap.SameBut it s.heap h' → Q (items.toList.drop i) { s with heap := h' }) → wpAny (model prog w) A (draw (.ref it) k) Q E s := by
  intro k
  induction k with
  | zero =>
    intro i s Q hi hl e h
    show wpAny (model prog w) A (pure []) Q E s
    have e : i = items.size := e
    subst e
    have := h s.heap hi (Heap.SameBut.refl _ _)
    rw [List.drop_of_length_le (by rw [Array.length_toList]; exact Nat.le_refl _)] at this
    exact wpAny_pure this
  | succ k ih =>
    intro i s Q hi hl e h
    have hlt : i < items.size := by omega
    show wpAny (model prog w) A (pyNext (.ref it) >>= _) Q E s
    refine wpAny_bind (wpAny_pyNext_list_item hi hl (x := items[i]) (Array.getElem?_eq_getElem hlt) fun h1 i1 b1 => ?_)
    refine wpAny_bind (wpAny_holding (ih (i + 1) _ _ i1 (hl.extBut b1.extBut hne) (by omega) fun h2 i2 b2 => wpAny_pure ?_))
    have := h h2 i2 (b1.trans b2)
    rw [List.drop_eq_getElem_cons (by rw [Array.length_toList]; exact hlt)] at this
    exact this
theorem asgL {env : Env} {elts : List Expr} {x1} {pos : Pos} {l : Addr} {items : Array Value} {Q : Unit → Shared → Prop} (hh : A.handled = none) (hl : s.heap.IsList l items)
    (hn : (assignEach elts env).length = items.size) (hst : (assignEach elts env).findIdx? (·.1) = none)
    (h : ∀ h', Heap.ExtBut s.heap.objs.size s.heap h' → wpAny (model prog w) A (assignInOrder ((assignEach elts env).map (·.2)) items.toList) Q E { s with heap := h' }) :
    wpAny (model prog w) A (assign (.Tuple elts x1 pos) env (.ref l)) Q E s := by
  have hlt : l ≠ s.heap.objs.size := by
    obtain ⟨o, ho, _⟩ := hl
    exact Nat.ne_of_lt (Heap.lt_size ho)
  rw [assign_Tuple]
  refine wpAny_bind (wpAny_standAt ?_)
  unfold unpack
  rw [hn, hst]
  refine wpAny_bind (wpAny_holding ?_)
  unfold unpackItems
  refine wpAny_bind ?_
  unfold notIterableAtAll
  refine wpAny_bind (wpAny_specialOf hl.typeIs slot_list_iter.lookup (wpAny_pure ?_))
  simp only [Bool.false_eq_true, if_false]
  refine wpAny_bind (wpAny_holding (wpAny_pyIter_list hl ?_))
  refine wpAny_bind (wpAny_holding (drawL hlt items.size 0 _ _ ⟨_, Heap.get?_push_size _ rfl, rfl, rfl⟩ (hl.push _) (Nat.zero_add _) fun h1 i1 b1 => ?_))
  rw [List.drop_zero, if_neg (by rw [Array.length_toList]; exact Nat.lt_irrefl _)]
  refine wpAny_bind (wpAny_holding (wpAny_pyNext_list_end hh i1 ((hl.push _).extBut b1.extBut hlt) (Array.getElem?_eq_none (Nat.le_refl _)) fun h2 b2 => ?_))
  simp only [Option.isSome_none, Bool.false_eq_true, if_false]
  exact wpAny_pure (h h2 fun b o hb e => b2 b o hb (b1.extBut b o hb (Heap.get?_push_of_some _ e)))
theorem getIn {l : List Int} {i : Nat} (h : i < l.length) : l.getD i 0 ∈ l := by
  rw [List.getD_eq_getElem?_getD, List.getElem?_eq_getElem h]
  exact List.getElem_mem h
/-- min, max of a list of ints: nothing else changes -/
theorem minL {l : Addr} {vs : List Value} {ns : List Int} {Q : Value → Shared → Prop} (hh : A.handled = none) (hl : s.heap.IsList l vs.toArray) (hi : IntsAre vs ns) (hz : ns ≠ [])
    (h : ∀ h' M (t : Tok) tk, (∀ b o, s.heap.get? b = some o → h'.get? b = some o) → M ∈ ns → (∀ a ∈ ns, M ≤ a) → Q (.int M t) { s with heap := h', toks := tk }) : wpAny (model prog w) A (call (.builtin "min") [.ref l]) Q E s := by
  obtain ⟨ys, e⟩ := hi.allInts.items
  have en : ns = ys.toList.map (·.1) := by rw [← hi.numsOf, ← nums_intItems, ← e]
  have zy : 0 < ys.size := by
    have q : 0 < ns.length := List.length_pos_iff.mpr hz
    rwa [en, List.length_map, Array.length_toList] at q
  rw [e] at hl
  refine min_intList hh hl zy fun v h1 tk q k => ?_
  obtain ⟨t, ev⟩ := intItems_at q
  subst ev
  obtain ⟨g1, g2⟩ := argBest_lt (numAt ys) (ys.size - 1)
  refine h h1 _ t tk k ?_ fun a ha => ?_
  · rw [en, numAt_eq]
    exact getIn (by rw [List.length_map, Array.length_toList]; omega)
  · rw [en] at ha
    obtain ⟨j, hj, ej⟩ := mem_getD ha
    subst ej
    rw [List.length_map, Array.length_toList] at hj
    rw [← numAt_eq]
    exact g2 j (by omega)
theorem maxL {l : Addr} {vs : List Value} {ns : List Int} {Q : Value → Shared → Prop} (hh : A.handled = none) (hl : s.heap.IsList l vs.toArray) (hi : IntsAre vs ns) (hz : ns ≠ [])
    (h : ∀ h' M (t : Tok) tk, (∀ b o, s.heap.get? b = some o → h'.get? b = some o) → M ∈ ns → (∀ a ∈ ns, a ≤ M) → Q (.int M t) { s with heap := h', toks := tk }) : wpAny (model prog w) A (call (.builtin "max") [.ref l]) Q E s := by
  obtain ⟨ys, e⟩ := hi.allInts.items
  have en : ns = ys.toList.map (·.1) := by rw [← hi.numsOf, ← nums_intItems, ← e]
  have zy : 0 < ys.size := by
    have q : 0 < ns.length := List.length_pos_iff.mpr hz
    rwa [en, List.length_map, Array.length_toList] at q
  rw [e] at hl
  refine max_intList hh hl zy fun v h1 tk q k => ?_
  obtain ⟨t, ev⟩ := intItems_at q
  subst ev
  obtain ⟨g1, g2⟩ := argBest_gt (numAt ys) (ys.size - 1)
  refine h h1 _ t tk k ?_ fun a ha => ?_
  · rw [en, numAt_eq]
    exact getIn (by rw [List.length_map, Array.length_toList]; omega)
  · rw [en] at ha
    obtain ⟨j, hj, ej⟩ := mem_getD ha
    subst ej
    rw [List.length_map, Array.length_toList] at hj
    rw [← numAt_eq]
    exact g2 j (by omega)
theorem extL {l b : Addr} {items new : Array Value} {n : Nat} {Q : Value → Shared → Prop} (e : s.heap.get? l = some { cls := .type "list", data := .seq items n }) (hb : s.heap.IsList b new ∨ IsTup s.heap b new) (hz : items.size + new.size ≤ sizeLine)
    (h : Q .none { s with heap := s.heap.update l (Obj.mapSeq (· ++ new)) }) : wpAny (model prog w) A (call (.builtin "list.extend") [.ref l, .ref b]) Q E s := by
  have ht : s.TypeIs (.ref l) "list" := ⟨_, e, rfl⟩
  refine wpAny_call_entry F.slot_list_extend ht F.entry_list_extend ?_ (F.args_list_extend_2 _ _)
  unfold Builtin.«list.extend»
  refine wpAny_bind (wpAny_pure ?_)
  show wpAny (model prog w) _ (Builtin.List.listExtendWith (.ref l) (.ref b) .none) _ _ _
  unfold Builtin.List.listExtendWith
  obtain ⟨ob, eb, T, hT, n2, hd⟩ : ∃ ob, s.heap.get? b = some ob ∧ ∃ T : String, (ob.cls = .type T ∧ (T = "list" ∨ T = "tuple")) ∧ ∃ n2, ob.data = .seq new n2 := by
    rcases hb with ⟨o, a1, a2, a3, a4⟩ | ⟨o, a1, a2, a3, a4⟩
    · exact ⟨o, a1, "list", ⟨a2, .inl rfl⟩, a3, a4⟩
    · exact ⟨o, a1, "tuple", ⟨a2, .inr rfl⟩, a3, a4⟩
  refine wpAny_bind (wpAny_typeOf (T := T) ⟨ob, eb, hT.1⟩ ?_)
  have c : (Builtin.List.listSameRef (.ref l) (.ref b) || Value.type T == .type "list" || Value.type T == .type "tuple") = true := by
    rcases hT.2 with z | z <;> subst z
    · rw [show (Value.type "list" == Value.type "list") = true by decide, Bool.or_true, Bool.true_or]
    · rw [show (Value.type "tuple" == Value.type "tuple") = true by decide, Bool.or_true]
  rw [if_pos c]
  refine wpAny_bind (listItems_at eb hd (wpAny_bind (listItems_at e rfl ?_)))
  rw [if_neg (by rw [notLongL hz, Bool.and_false]; exact Bool.false_ne_true)]
  refine wpAny_bind (listUpdate_at e rfl ?_ (by omega) (by show (items ++ new).size ≤ _; rw [Array.size_append]; omega))
  exact wpAny_pure ⟨_, rfl, h⟩
end

section
variable {X : Cx} {pos : Pos}
/-- (a, b, ..) = a list or a tuple of that length -/
def gSeq (K : PySem.W.Frag) (n : Nat) (t : TGs) : TG := fun v σ H Q => ∃ a xs, v = .ref a ∧ (SqL K H a xs ∨ SqT K H a xs) ∧ xs.length = n ∧ t xs σ H Q
theorem pg_seq {es : List Expr} {k : Nat} {t : TGs} {n : Nat} (hc : X.calm = true) (h : PGs X es t) (hn : (assignEach es X.env).length = n) (hst : (assignEach es X.env).findIdx? (·.1) = none) : PG X (.Tuple es k pos) (gSeq X.K n t) := by
  intro pins s σ H v u Q I r hw
  obtain ⟨a, xs, e1, hq, hl, hw⟩ := hw
  rcases hq with hq | hq
  · subst e1
    cases r
    obtain ⟨its, rv, pl, hz⟩ := I.list hq
    refine asgL (I.ok.hd hc) pl.isList (by rw [hn, List.size_toArray, ← rv.length, hl]) hst fun h' hx => ?_
    have I1 : Inv X pins σ H { s with heap := h' } := I.kept (t' := s.toks) fun b o e => hx b o (Nat.ne_of_lt (Heap.lt_size e)) e
    exact h pins _ σ H xs _ Q I1 rv hw
  · exact pg_tup hc h hn hst pins s σ H v u Q I r ⟨a, xs, e1, hq, hl, hw⟩
def rExtS (K : PySem.W.Frag) : V → List V → Hp → VK → Prop := fun x vs H Q => ∃ l b xs zs, x = .ref l ∧ vs = [.ref b] ∧ H l = some (.lst xs) ∧ (SqL K H b zs ∨ SqT K H b zs) ∧ xs.length + zs.length ≤ sizeLine ∧ Q .non (upd H l (.lst (xs ++ zs)))
theorem mt_ext : MtM X "list.extend" (rExtS X.K) := by
  intro pins s σ H x vs v us Q I rx rv h
  obtain ⟨l, b, xs, zs, rfl, rfl, hH, hB, hz, q⟩ := h
  cases rx
  obtain ⟨u, rfl, ru⟩ := rv.one
  cases ru
  obtain ⟨z, its, n, r, hl, e⟩ := I.lstM hH
  obtain ⟨its2, r2, ob⟩ : ∃ its2 : List Value, Vals zs its2 ∧ (s.heap.IsList b its2.toArray ∨ IsTup s.heap b its2.toArray) := by
    rcases hB with hB | hB
    · obtain ⟨its2, r2, pl, _⟩ := I.list hB
      exact ⟨its2, r2, .inl pl.isList⟩
    · obtain ⟨its2, r2, pl, _⟩ := I.tuple hB
      exact ⟨its2, r2, .inr pl⟩
  have e2 := r2.length
  refine extL e ob (by rw [List.size_toArray, List.size_toArray]; omega) ?_
  refine ⟨.non, _, I.lset (its' := its ++ its2) (t' := s.toks) hH e (by simp) (r.append r2) ?_, rfl, q⟩
  rw [List.length_append]
  omega
theorem valsI : ∀ {ns : List Int} {us : List Value}, Vals (ns.map V.int) us → IntsAre us ns
  | [], us, h => by cases h; exact .nil
  | n :: ns, us, h => by
    cases h with
    | cons r t =>
      obtain ⟨tk, rfl⟩ := r
      exact .cons n tk (valsI t)
theorem iVals : ∀ {ns : List Int} {us : List Value}, IntsAre us ns → Vals (ns.map V.int) us
  | _, _, .nil => .nil
  | _, _, .cons n t h => .cons ⟨t, rfl⟩ (iVals h)
theorem call_minL (hc : X.calm = true) : CallR X (.builtin "min") (fun xs H Q => ∃ (a : Addr) (ns : List Int), xs = [.ref a] ∧ SqL X.K H a (ns.map V.int) ∧ ns ≠ [] ∧ ∀ M, M ∈ ns → (∀ x ∈ ns, M ≤ x) → Q (.int M) H) := by
  intro pins s σ H xs us Q I r h
  obtain ⟨a, ns, rfl, hq, hz, q⟩ := h
  obtain ⟨u, rfl, r1⟩ := vals1 r
  cases r1
  obtain ⟨its, rv, pl, _⟩ := I.list hq
  exact minL (I.ok.hd hc) pl.isList (valsI rv) hz fun h' M t tk k m1 m2 => ⟨.int M, H, I.kept k, ⟨t, rfl⟩, q M m1 m2⟩
theorem call_maxL (hc : X.calm = true) : CallR X (.builtin "max") (fun xs H Q => ∃ (a : Addr) (ns : List Int), xs = [.ref a] ∧ SqL X.K H a (ns.map V.int) ∧ ns ≠ [] ∧ ∀ M, M ∈ ns → (∀ x ∈ ns, x ≤ M) → Q (.int M) H) := by
  intro pins s σ H xs us Q I r h
  obtain ⟨a, ns, rfl, hq, hz, q⟩ := h
  obtain ⟨u, rfl, r1⟩ := vals1 r
  cases r1
  obtain ⟨its, rv, pl, _⟩ := I.list hq
  exact maxL (I.ok.hd hc) pl.isList (valsI rv) hz fun h' M t tk k m1 m2 => ⟨.int M, H, I.kept k, ⟨t, rfl⟩, q M m1 m2⟩

/-! ### a set of ints, tracked -/
def setO (P : Program) (w : World) (a : Addr) (ks : List Int) : HO := .ext fun h => SetI P w h a ks
theorem setO_ok {P : Program} {w : World} {H : Hp} {h : Heap} {a : Addr} {ks : List Int} (x : SetI P w h a ks) : ObjOk P w H h a (setO P w a ks) :=
  ⟨x, let ⟨o, _, _, _, e, _⟩ := x; ⟨o, e⟩, fun h1 h2 q k => q.at k⟩
theorem fm_fold (ns : List Int) : fm (fun i => ns.getD i 0) ns.length = ns.foldl dk [] := by
  unfold fm
  congr 1
  refine List.ext_getElem? fun j => ?_
  rw [List.getElem?_map]
  by_cases hj : j < ns.length
  · rw [List.getElem?_range hj, Option.map_some, List.getD_eq_getElem?_getD, List.getElem?_eq_getElem hj]
    rfl
  · rw [List.getElem?_eq_none (by rw [List.length_range]; omega), List.getElem?_eq_none (by omega)]
    rfl
theorem call_setL (hc : X.calm = true) : CallR X (.type "set") (fun xs H Q => ∃ (a : Addr) (ns : List Int), xs = [.ref a] ∧ SqL X.K H a (ns.map V.int) ∧ ns.length < 4000 ∧ ∀ p, H p = none → Q (.ref p) (upd H p (setO X.prog X.w p (ns.foldl dk [])))) := by
  intro pins s σ H xs us Q I r h
  obtain ⟨a, ns, rfl, hq, hz, q⟩ := h
  obtain ⟨u, rfl, r1⟩ := vals1 r
  cases r1
  obtain ⟨its, rv, pl, _⟩ := I.list hq
  have hi := valsI rv
  have hl : its.length = ns.length := by rw [← rv.length, List.length_map]
  refine setOfL (I.ok.hd hc) pl.isList hi (by rw [List.size_toArray, hl]; show _ < 4096; omega) fun h' tk S k => ?_
  have hz2 : its.toArray.size = ns.length := by rw [List.size_toArray, hl]
  rw [hz2, fm_fold] at S
  exact ⟨.ref s.heap.objs.size, _, I.laid k (Nat.le_refl _) (setO_ok S), rfl, q _ I.fresh⟩
theorem call_sortS (hc : X.calm = true) : CallR X (.builtin "sorted") (fun xs H Q => ∃ (p : Addr) (ks : List Int), xs = [.ref p] ∧ H p = some (setO X.prog X.w p ks) ∧ ks.length < 64 ∧ ∀ (q : Addr) (ms : List Int), H q = none → ms.Perm ks → ms.Pairwise (· ≤ ·) → Q (.ref q) (upd H q (.lst (ms.map V.int)))) := by
  intro pins s σ H xs us Q I r h
  obtain ⟨p, ks, rfl, hH, hz, q⟩ := h
  obtain ⟨u, rfl, r1⟩ := vals1 r
  cases r1
  have S : SetI X.prog X.w s.heap p ks := (I.hok p _ hH).1
  refine sorted_set (I.ok.hd hc) S hz fun h' tk d p' vs ns e k hp he hi hpm hpw => ?_
  have hv := iVals hi
  have hl : ns.length ≤ sizeLine := by
    rw [hpm.length_eq, sizeLine_eq]
    omega
  have ok : ObjOk X.prog X.w (upd H p' (.lst (ns.map V.int))) h' p' (.lst (ns.map V.int)) := ⟨by rw [List.length_map]; exact hl, vs.toList, e, hv, by rw [Array.toArray_toList]; exact he⟩
  have I1 := I.laid (t' := tk) k hp ok
  refine ⟨.ref p', _, ?_, rfl, q p' ns (I.hok.fresh hp) hpm hpw⟩
  exact ⟨I1.ok, I1.os, I1.bare, I1.base, I1.loc, I1.cell, I1.free, I1.freeC, I1.pin, I1.hok, I1.len⟩
end
end L2

end
section

set_option Elab.async false
set_option linter.all false
set_option maxRecDepth 100000

/-! The inner form answers to the text. -/
namespace L2
open PySem

/-- a block: its names by slots, its scope; the text's defs by number -/
structure Sg where
  N : List Str
  sc : List (Str × NameKind)
  fn : List Str
  /-- Python's own names, free in the text -/
  bl : List Str
  /-- the text's own exceptions -/
  cl : List Str
  /-- a def's own block: raise and try may stand here; loops may -/
  top : Bool
  lp : Bool
def exTypes : List Str := ["ValueError"]

def asName : Expr → Option Str | .Name x _ => some x | _ => none
def asConst : Expr → Option Const | .Constant c _ _ => some c | _ => none
def asBin : Expr → Option (Expr × Operator × Expr) | .BinOp a o b _ => some (a, o, b) | _ => none
def asUn : Expr → Option (UnaryOp × Expr) | .UnaryOp o a _ => some (o, a) | _ => none
def asCmp : Expr → Option (Expr × List CmpOp × List Expr) | .Compare a o b _ => some (a, o, b) | _ => none
def asBool : Expr → Option (BoolOp × List Expr) | .BoolOp o es _ => some (o, es) | _ => none
def asIf : Expr → Option (Expr × Expr × Expr) | .IfExp c a b _ => some (c, a, b) | _ => none
def asList : Expr → Option (List Expr) | .List es _ => some es | _ => none
def asTup : Expr → Option (List Expr) | .Tuple es _ _ => some es | _ => none
def asSub : Expr → Option (Expr × Expr) | .Subscript a b _ => some (a, b) | _ => none
def asSlice : Expr → Option (Option Expr × Option Expr × Option Expr) | .Slice a b c _ => some (a, b, c) | _ => none
def asCall : Expr → Option (Expr × List Expr × List Keyword × Pos) | .Call f as ks p => some (f, as, ks, p) | _ => none
def asAttr : Expr → Option (Expr × Str × Pos) | .Attribute a n p => some (a, n, p) | _ => none
def asComp : Expr → Option (Expr × List Comprehension × Scope) | .ListComp e gs sc _ => some (e, gs, sc) | _ => none
def isStar : Expr → Bool | .Starred _ _ => true | _ => false
def isSlice : Expr → Bool | .Slice _ _ _ _ => true | _ => false
def isSet : Expr → Bool | .Set _ _ _ => true | _ => false
def isComp : Expr → Bool | .ListComp _ _ _ _ => true | .SetComp _ _ _ _ => true | .DictComp _ _ _ _ _ => true | _ => false
/-- a call by a name, or of super by a bare name, is no base of an attribute -/
def isCall : Expr → Bool | .Call _ _ _ _ => true | _ => false

theorem asName_eq {e : Expr} {x : Str} (h : asName e = some x) : ∃ p, e = .Name x p := by
  cases e <;> simp [asName] at h; subst h; exact ⟨_, rfl⟩
theorem asConst_eq {e : Expr} {x : Const} (h : asConst e = some x) : ∃ k p, e = .Constant x k p := by
  cases e <;> simp [asConst] at h; subst h; exact ⟨_, _, rfl⟩
theorem asBin_eq {e a b : Expr} {o : Operator} (h : asBin e = some (a, o, b)) : ∃ p, e = .BinOp a o b p := by
  cases e <;> simp [asBin] at h; obtain ⟨rfl, rfl, rfl⟩ := h; exact ⟨_, rfl⟩
theorem asUn_eq {e a : Expr} {o : UnaryOp} (h : asUn e = some (o, a)) : ∃ p, e = .UnaryOp o a p := by
  cases e <;> simp [asUn] at h; obtain ⟨rfl, rfl⟩ := h; exact ⟨_, rfl⟩
theorem asCmp_eq {e a : Expr} {os : List CmpOp} {bs : List Expr} (h : asCmp e = some (a, os, bs)) : ∃ p, e = .Compare a os bs p := by
  cases e <;> simp [asCmp] at h; obtain ⟨rfl, rfl, rfl⟩ := h; exact ⟨_, rfl⟩
theorem asBool_eq {e : Expr} {o : BoolOp} {es : List Expr} (h : asBool e = some (o, es)) : ∃ p, e = .BoolOp o es p := by
  cases e <;> simp [asBool] at h; obtain ⟨rfl, rfl⟩ := h; exact ⟨_, rfl⟩
theorem asIf_eq {e c a b : Expr} (h : asIf e = some (c, a, b)) : ∃ p, e = .IfExp c a b p := by
  cases e <;> simp [asIf] at h; obtain ⟨rfl, rfl, rfl⟩ := h; exact ⟨_, rfl⟩
theorem asList_eq {e : Expr} {es : List Expr} (h : asList e = some es) : ∃ p, e = .List es p := by
  cases e <;> simp [asList] at h; subst h; exact ⟨_, rfl⟩
theorem asTup_eq {e : Expr} {es : List Expr} (h : asTup e = some es) : ∃ k p, e = .Tuple es k p := by
  cases e <;> simp [asTup] at h; subst h; exact ⟨_, _, rfl⟩
theorem asSub_eq {e a b : Expr} (h : asSub e = some (a, b)) : ∃ p, e = .Subscript a b p := by
  cases e <;> simp [asSub] at h; obtain ⟨rfl, rfl⟩ := h; exact ⟨_, rfl⟩
theorem asSlice_eq {e : Expr} {a b c : Option Expr} (h : asSlice e = some (a, b, c)) : ∃ p, e = .Slice a b c p := by
  cases e <;> simp [asSlice] at h; obtain ⟨rfl, rfl, rfl⟩ := h; exact ⟨_, rfl⟩
theorem asCall_eq {e f : Expr} {as : List Expr} {ks : List Keyword} {p : Pos} (h : asCall e = some (f, as, ks, p)) : e = .Call f as ks p := by
  cases e <;> simp [asCall] at h; obtain ⟨rfl, rfl, rfl, rfl⟩ := h; rfl
theorem asAttr_eq {e a : Expr} {n : Str} {p : Pos} (h : asAttr e = some (a, n, p)) : e = .Attribute a n p := by
  cases e <;> simp [asAttr] at h; obtain ⟨rfl, rfl, rfl⟩ := h; rfl
theorem asComp_eq {e x : Expr} {gs : List Comprehension} {sc : Scope} (h : asComp e = some (x, gs, sc)) : ∃ p, e = .ListComp x gs sc p := by
  cases e <;> simp [asComp] at h; obtain ⟨rfl, rfl, rfl⟩ := h; exact ⟨_, rfl⟩

def visB (sg : Sg) (x : Str) : Bool := sg.sc.lookup x == some .local || sg.sc.lookup x == some .cell || sg.sc.lookup x == some .free
def gloB (sg : Sg) (x : Str) : Bool := sg.sc.lookup x == some .globalImplicit
def locB (sg : Sg) (x : Str) : Bool := sg.sc.lookup x == some .local || sg.sc.lookup x == some .cell
def slotB (sg : Sg) (i : Nat) (x : Str) : Bool := sg.N[i]? == some x && visB sg x && x != "__debug__" && x != "__classdict__"
/-- f is Python's own name x -/
def bltB (sg : Sg) (x : Str) (f : Expr) : Bool := asName f == some x && gloB sg x && sg.bl.contains x

def biName : Bi → Str
  | .len => "len" | .abs => "abs" | .min => "min" | .max => "max" | .sum => "sum" | .any => "any" | .all => "all" | .sorted => "sorted" | .sset => "sorted" | .lset => "len"
  | .int => "int" | .list => "list" | .tuple => "tuple" | .str => "str"
def mtName : Mt → Str
  | .bitLength => "bit_length" | .index => "index" | .get => "get"

/-- a comprehension's parts -/
structure CParts where
  elt : Expr
  tg : Expr
  it : Expr
  ifs : List Expr
  sc : Scope
def cparts (e : Expr) : Option CParts := match asComp e with
  | some (elt, [⟨tg, it, ifs, a⟩], sc) => if a = 0 then some ⟨elt, tg, it, ifs, sc⟩ else none
  | _ => none
theorem cparts_eq {e : Expr} {c : CParts} (h : cparts e = some c) : ∃ p, e = .ListComp c.elt [⟨c.tg, c.it, c.ifs, 0⟩] c.sc p := by
  unfold cparts at h
  split at h
  · rename_i elt tg it ifs a sc q
    split at h
    · rename_i ha
      cases h
      subst ha
      exact asComp_eq q
    · cases h
  · cases h
/-- the block's names: targets, then the free ones -/
def blockN (sg : Sg) (tn : List Str) (fr : List (Option Nat)) : List Str := tn ++ (fr.drop tn.length).map fun o => match o with | some i => sg.N.getD i "" | none => ""
def tgNames : Tg → Expr → Option (List Str)
  | .one _, e => (asName e).map fun x => [x]
  | .many is, e => match asTup e with
    | some es => if es.length = is.length then es.mapM asName else none
    | none => none
def tgOk (sg : Sg) : Tg → Expr → Bool
  | .one i, e => match asName e with
    | some x => sg.N[i]? == some x && locB sg x
    | none => false
  | .many is, e => match asTup e with
    | some es => es.length == is.length && 2 ≤ es.length && (is.zip es).all fun p => match asName p.2 with
      | some x => sg.N[p.1]? == some x && locB sg x
      | none => false
    | none => false
def nodupB : List Str → Bool
  | [] => true
  | x :: r => !r.contains x && nodupB r
def tgSlots : Tg → List Nat
  | .one i => [i]
  | .many is => is
/-- the block's scope is as it should be -/
def blockOk (sg : Sg) (N' : List Str) (fr : List (Option Nat)) (sc : Scope) (tg : Tg) : Bool := (tgSlots tg).all (fun i => fr[i]? == some none) &&
  sc.kind == .function && nodupB N' && nodupB (sc.names.map (·.1)) && fr.length == N'.length &&
  (fr.zip N').all (fun p => match p.1 with | some i => sg.N[i]? == some p.2 && sc.names.contains (p.2, .free) | none => true) &&
  sc.names.all fun y => if y.2 == .free then sg.sc.lookup y.1 == some .cell || sg.sc.lookup y.1 == some .free else true

def isCompM : ME → Bool
  | .comp _ _ _ _ => true
  | .compi _ _ _ _ _ => true
  | _ => false
def isZp : ME → Bool
  | .zp _ _ => true
  | _ => false
mutual
def corE (sg : Sg) (w : Bool) : ME → Expr → Bool
  | .var i, e => match asName e with | some x => slotB sg i x | none => false
  | .int i, e => asConst e == some (.int i)
  | .bl i, e => asConst e == some (.bool i)
  | .str x, e => asConst e == some (.str x) && decide (x.length ≤ 1000)
  | .non, e => asConst e == some .none
  | .glb x, e => asName e == some x && gloB sg x && x != "__debug__"
  | .bin op a b, e => match asBin e with | some (ea, o, eb) => o == op && corE sg false a ea && corE sg false b eb | none => false
  | .neg a, e => match asUn e with | some (o, ea) => o == .USub && corE sg false a ea | none => false
  | .inv a, e => match asUn e with | some (o, ea) => o == .Invert && corE sg false a ea | none => false
  | .not a, e => match asUn e with | some (o, ea) => o == .Not && corE sg false a ea | none => false
  | .cmp op a b, e => match asCmp e with | some (ea, [o], [eb]) => o == op && corE sg false a ea && corE sg false b eb && !isSet eb | _ => false
  | .chain op op' a b c, e => match asCmp e with | some (ea, [o, o'], [eb, ec]) => o == op && o' == op' && corE sg false a ea && corE sg false b eb && corE sg false c ec && !isSet ec | _ => false
  | .and ms, e => match asBool e with | some (o, es) => o == .And && corEs sg ms es | none => false
  | .or ms, e => match asBool e with | some (o, es) => o == .Or && corEs sg ms es | none => false
  | .ite c a b, e => match asIf e with | some (ec, ea, eb) => corE sg false c ec && corE sg false a ea && corE sg false b eb | none => false
  | .lst ms, e => match asList e with | some es => corEs sg ms es | none => false
  | .tup ms, e => match asTup e with | some es => corEs sg ms es | none => false
  | .dct _ _, _ => false
  | .ix a b, e => match asSub e with | some (ea, eb) => corE sg false a ea && corE sg false b eb && !isSlice eb | none => false
  | .sl a lo hi, e => match asSub e with
    | some (ea, es) => (match asSlice es with | some (some el, some eh, none) => corE sg false a ea && corE sg false lo el && corE sg false hi eh | _ => false)
    | none => false
  | .slf a lo, e => match asSub e with
    | some (ea, es) => (match asSlice es with | some (some el, none, none) => corE sg false a ea && corE sg false lo el | _ => false)
    | none => false
  | .slt a hi, e => match asSub e with
    | some (ea, es) => (match asSlice es with | some (none, some eh, none) => corE sg false a ea && corE sg false hi eh | _ => false)
    | none => false
  | .call f ms, e => match asCall e with
    | some (ef, es, [], _) => (match asName ef with | some x => sg.fn[f]? == some x && gloB sg x && x != "__debug__" | none => false) && !es.isEmpty && corEs sg ms es
    | _ => false
  | .bi f ms, e => match asCall e with
    | some (ef, es, [], _) => bltB sg (biName f) ef && !es.isEmpty && (match f with
      | .sset | .lset => (match es with
        | [e1] => (match asCall e1 with
          | some (ef', es', [], _) => bltB sg "set" ef' && es'.length == 1 && corEs sg ms es'
          | _ => false)
        | _ => false)
      | _ => corEs sg ms es)
    | _ => false
  | .isi a ts, e => match asCall e with
    | some (ef, [ea, et], [], _) => bltB sg "isinstance" ef && corE sg false a ea && !isStar ea && !isStar et && (match ts with
      | [t] => asName et == some t && gloB sg t && sg.bl.contains t && pyTypes.contains t
      | _ => false)
    | _ => false
  | .isx a t, e => match asCall e with
    | some (ef, [ea, et], [], _) => bltB sg "isinstance" ef && corE sg false a ea && !isStar ea && !isStar et && asName et == some t && gloB sg t && ((sg.cl.contains t && t != "__debug__") || (sg.bl.contains t && exTypes.contains t))
    | _ => false
  | .meth m a ms, e => match asCall e with
    | some (ef, [], [], pos) => (match asAttr ef with
      | some (ea, n, apos) => n == mtName m && corE sg false a ea && (asName ea).isSome && apos.endLine == pos.line && ms.isEmpty
      | none => false)
    | _ => false
  | .comp elt tg it fr, e => match cparts e with
    | some c => c.ifs.isEmpty && (corE sg true it c.it && (!isZp it || (asTup c.tg).isSome)) && !isSet c.it && (match tgNames tg c.tg with
      | some tn => blockOk sg (blockN sg tn fr) fr c.sc tg && tgOk ⟨blockN sg tn fr, c.sc.names, sg.fn, sg.bl, sg.cl, false, true⟩ tg c.tg && corE ⟨blockN sg tn fr, c.sc.names, sg.fn, sg.bl, sg.cl, false, true⟩ false elt c.elt
      | none => false)
    | none => false
  | .compi elt tg it cd fr, e => match cparts e with
    | some c => (corE sg true it c.it && (!isZp it || (asTup c.tg).isSome)) && !isSet c.it && (match tgNames tg c.tg, c.ifs with
      | some tn, [ec] => blockOk sg (blockN sg tn fr) fr c.sc tg && tgOk ⟨blockN sg tn fr, c.sc.names, sg.fn, sg.bl, sg.cl, false, true⟩ tg c.tg && corE ⟨blockN sg tn fr, c.sc.names, sg.fn, sg.bl, sg.cl, false, true⟩ false elt c.elt && corE ⟨blockN sg tn fr, c.sc.names, sg.fn, sg.bl, sg.cl, false, true⟩ false cd ec
      | _, _ => false)
    | none => false
  | .gdx x b, e => match asSub e with | some (ea, eb) => asName ea == some x && gloB sg x && x != "__debug__" && corE sg false b eb && !isSlice eb | none => false
  | .rng ms, e => w && (match asCall e with
    | some (ef, es, [], _) => bltB sg "range" ef && corEs sg ms es && decide (es.length ≤ 2)
    | _ => false)
  | .zp a b, e => w && (match asCall e with
    | some (ef, [ea, eb], [], _) => bltB sg "zip" ef && corE sg false a ea && corE sg false b eb && !isStar ea && !isStar eb
    | _ => false)
  | .enu _, _ => false
  | .itm _, _ => false
  | .rvs _, _ => false
def corEs (sg : Sg) : List ME → List Expr → Bool
  | [], [] => true
  | m :: ms, e :: es => corE sg false m e && !isStar e && corEs sg ms es
  | _, _ => false
end

def corNames (sg : Sg) : List Nat → List Expr → Bool
  | [], [] => true
  | i :: is, e :: es => (match asName e with | some x => sg.N[i]? == some x && locB sg x | none => false) && corNames sg is es
  | _, _ => false
def asHandler : ExceptHandler → Option (Option Expr × Option Str × List Stmt) | .ExceptHandler t n b _ => some (t, n, b)

mutual
def corS (sg : Sg) : MS → Stmt → Bool
  | .set i _ e, s => match s with
    | .Assign [t] v pos => (match t with
      | .Name x pt => sg.N[i]? == some x && locB sg x && corE sg false e v && (!isComp v || isCompM e)
      | _ => false)
    | _ => false
  | .sett is e, s => match s with
    | .Assign [t] v _ => tgOk sg (.many is) t && corE sg false e v && (asTup v).isNone && !isComp v
    | _ => false
  | .par is es, s => match s with
    | .Assign [t] v _ => (match asTup t, asTup v with | some ts, some vs => ts.length == 2 && corNames sg is ts && corEs sg es vs | _, _ => false)
    | _ => false
  | .aug i e, s => match s with
    | .AugAssign t o v _ => o == .Add && (match asName t with | some x => sg.N[i]? == some x && locB sg x | none => false) && corE sg false e v
    | _ => false
  | .app i e, s => match s with
    | .Expr v _ => (match asCall v with
      | some (ef, [ea], [], pos) => (match asAttr ef with
        | some (o, n, apos) => n == "append" && (match asName o with | some x => slotB sg i x | none => false) && corE sg false e ea && !isStar ea && apos.endLine == pos.line
        | none => false)
      | _ => false)
    | _ => false
  | .ext i e, s => match s with
    | .Expr v _ => (match asCall v with
      | some (ef, [ea], [], pos) => (match asAttr ef with
        | some (o, n, apos) => n == "extend" && (match asName o with | some x => slotB sg i x | none => false) && corE sg false e ea && !isStar ea && apos.endLine == pos.line
        | none => false)
      | _ => false)
    | _ => false
  | .seti i k e, s => match s with
    | .Assign [t] v _ => (match asSub t with
      | some (o, ek) => (match asName o with | some x => slotB sg i x | none => false) && corE sg false k ek && !isSlice ek && corE sg false e v
      | none => false)
    | _ => false
  | .clr i, s => match s with
    | .Expr v _ => (match asCall v with
      | some (ef, [], [], pos) => (match asAttr ef with
        | some (o, n, apos) => n == "clear" && (match asName o with | some x => slotB sg i x | none => false) && apos.endLine == pos.line
        | none => false)
      | _ => false)
    | _ => false
  | .pop _ _, _ => false
  | .exp e, s => match s with
    | .Expr v _ => corE sg false e v && !isComp v
    | _ => false
  | .ret e, s => match s with
    | .Return (some v) _ => corE sg false e v
    | _ => false
  | .ret0 ms, s => match s with
    | .Return (some v) _ => (match asTup v with | some es => corEs sg ms es | none => false)
    | _ => false
  | .app0 i e, s => match s with
    | .Expr v _ => (match asCall v with
      | some (ef, [ea], [], pos) => (match asAttr ef with
        | some (o, n, apos) => n == "append" && (match asSub o with
          | some (ob, oi) => (match asName ob with | some x => slotB sg i x | none => false) && asConst oi == some (.int 0)
          | none => false) && corE sg false e ea && !isStar ea && apos.endLine == pos.line
        | none => false)
      | _ => false)
    | _ => false
  | .retn, s => match s with
    | .Return none _ => true
    | _ => false
  | .iff c a b, s => match s with
    | .If ec ea eb _ => corE sg false c ec && corSs sg a ea && corSs sg b eb
    | _ => false
  | .fo tg it body, s => match s with
    | .For t i b [] _ => sg.lp && tgOk sg tg t && (corE sg true it i && (!isZp it || (asTup t).isSome)) && !isSet i && corSs sg body b
    | _ => false
  | .wh c body, s => match s with
    | .While t b [] _ => sg.lp && corE sg false c t && corSs sg body b
    | _ => false
  | .rse c e, s => match s with
    | .Raise (some v) none _ => (match asCall v with
      | some (ef, [ea], [], _) => sg.top && asName ef == some c && gloB sg c && c != "__debug__" && corE sg false e ea && !isStar ea
      | _ => false)
    | _ => false
  | .tryc body c ie ic, s => match s with
    | .Try b [h] [] [] _ => sg.top && corSs ⟨sg.N, sg.sc, sg.fn, sg.bl, sg.cl, false, false⟩ body b && (match asHandler h with
      | some (some t, some n, [.Assign [t2] v2 _]) => asName t == some c && gloB sg c && c != "__debug__" && sg.cl.contains c && sg.N[ie]? == some n && sg.sc.lookup n == some .local && n != "__debug__" && n != "__classdict__" &&
          asName v2 == some n && (match asName t2 with | some x => sg.N[ic]? == some x && locB sg x | none => false) && ie != ic
      | _ => false)
    | _ => false
  | .pas, s => match s with
    | .Pass _ => true
    | _ => false
  | .frz _, _ => false
def corSs (sg : Sg) : List MS → List Stmt → Bool
  | [], [] => true
  | .frz _ :: ms, ss => corSs sg ms ss
  | m :: ms, s :: ss => corS sg m s && corSs sg ms ss
  | _, _ => false
end
end L2

end
section

set_option Elab.async false
set_option linter.all false
set_option maxRecDepth 100000
set_option maxHeartbeats 4000000

/-! Deep values over the abstract heap: what stands for one, and how far it hangs on the names' own lists. -/
namespace L2
open PySem PySem.Spec PyProof.Rows

structure Dm where
  K : PySem.W.Frag
  mg : Str → Option Value
abbrev Cx.D (X : Cx) : Dm := ⟨X.K, X.mg⟩

/-- a list that is never changed -/
def SqS (K : PySem.W.Frag) (H : Hp) (a : Addr) (xs : List V) : Prop := (∃ o, H a = some (.frz o (.lst xs))) ∨
  ∃ (o : Obj) (its : Array Value) (n : Nat), K.lookup a = some o ∧ o.cls = .type "list" ∧ o.dict = none ∧ o.data = .seq its n ∧ its.size ≤ sizeLine ∧ Vals xs its.toList
theorem SqS.sq {K : PySem.W.Frag} {H : Hp} {a : Addr} {xs : List V} (h : SqS K H a xs) : SqL K H a xs := by
  rcases h with h | h
  · exact .inl (.inr h)
  · exact .inr h
theorem SqS.of {K : PySem.W.Frag} {H : Hp} {a : Addr} {xs : List V} (hO : Only H) (h : SqL K H a xs) : SqS K H a xs := by
  rcases h with (h | h) | h
  · rcases hO a with z | ⟨o, ys, z⟩
    · rw [h] at z; cases z
    · rw [h] at z; cases z
  · exact .inl h
  · exact .inr h
theorem Same.sqs {K : PySem.W.Frag} {H H' : Hp} {a : Addr} {xs : List V} (e : Same H H') (h : SqS K H a xs) : SqS K H' a xs := by
  rcases h with ⟨o, h⟩ | h
  · exact .inl ⟨o, e _ _ h⟩
  · exact .inr h

mutual
def Rep (D : Dm) (H : Hp) : DV → V → Prop
  | .non, v => v = .non
  | .bl b, v => v = .bl b
  | .int i, v => v = .int i
  | .str x, v => v = .str x ∧ x.length ≤ sizeLine
  | .tup ds, v => ∃ a xs, v = .ref a ∧ SqT D.K H a xs ∧ RepL D H ds xs
  | .lst ds, v => ∃ a xs, v = .ref a ∧ H a = some (.lst xs) ∧ RepL D H ds xs
  | .dct _ _, _ => False
  | .exc c, v => ∃ a C, v = .ref a ∧ D.mg c = some C ∧ H a = some (excO a C)
  | .fn x, v => ∃ f, v = .ref f ∧ D.mg x = some (.ref f)
  | .scr ns, v => ∃ a, v = .ref a ∧ SqS D.K H a (ns.map V.int)
def RepL (D : Dm) (H : Hp) : List DV → List V → Prop
  | [], xs => xs = []
  | d :: ds, xs => ∃ v vs, xs = v :: vs ∧ Rep D H d v ∧ RepL D H ds vs
end

theorem Same.tseq {K : PySem.W.Frag} {H H' : Hp} {a : Addr} {xs : List V} (e : Same H H') (h : SqT K H a xs) : SqT K H' a xs := by
  rcases h with (h | ⟨o, h⟩) | h
  · exact .inl (.inl (e _ _ h))
  · exact .inl (.inr ⟨o, e _ _ h⟩)
  · exact .inr h

mutual
theorem Rep.mono {D : Dm} {H H' : Hp} (e : Same H H') : ∀ {d : DV} {v : V}, Rep D H d v → Rep D H' d v
  | .non, _, h => by unfold Rep at h ⊢; exact h
  | .bl _, _, h => by unfold Rep at h ⊢; exact h
  | .int _, _, h => by unfold Rep at h ⊢; exact h
  | .str _, _, h => by unfold Rep at h ⊢; exact h
  | .tup ds, _, h => by
    unfold Rep at h ⊢
    obtain ⟨a, xs, e1, e2, e3⟩ := h
    exact ⟨a, xs, e1, e.tseq e2, RepL.mono e e3⟩
  | .lst ds, _, h => by
    unfold Rep at h ⊢
    obtain ⟨a, xs, e1, e2, e3⟩ := h
    exact ⟨a, xs, e1, e _ _ e2, RepL.mono e e3⟩
  | .dct _ _, _, h => by unfold Rep at h; exact h.elim
  | .exc C, _, h => by
    unfold Rep at h ⊢
    obtain ⟨a, C, e1, e2, e3⟩ := h
    exact ⟨a, C, e1, e2, e _ _ e3⟩
  | .fn _, _, h => by unfold Rep at h ⊢; exact h
  | .scr _, _, h => by
    unfold Rep at h ⊢
    obtain ⟨a, e1, e2⟩ := h
    exact ⟨a, e1, e.sqs e2⟩
theorem RepL.mono {D : Dm} {H H' : Hp} (e : Same H H') : ∀ {ds : List DV} {xs : List V}, RepL D H ds xs → RepL D H' ds xs
  | [], _, h => by unfold RepL at h ⊢; exact h
  | d :: ds, _, h => by
    unfold RepL at h ⊢
    obtain ⟨v, vs, e1, e2, e3⟩ := h
    exact ⟨v, vs, e1, Rep.mono e e2, RepL.mono e e3⟩
end

section
variable {D : Dm} {H H' : Hp} {v : V} {xs ys : List V} {ds es : List DV} {d : DV}
theorem rep_int {i : Int} : Rep D H (.int i) v ↔ v = .int i := by unfold Rep; exact Iff.rfl
theorem rep_bl {i : Bool} : Rep D H (.bl i) v ↔ v = .bl i := by unfold Rep; exact Iff.rfl
theorem rep_str {i : Str} : Rep D H (.str i) v ↔ (v = .str i ∧ i.length ≤ sizeLine) := by unfold Rep; exact Iff.rfl
theorem rep_non : Rep D H .non v ↔ v = .non := by unfold Rep; exact Iff.rfl
theorem rep_tup : Rep D H (.tup ds) v ↔ ∃ a xs, v = .ref a ∧ SqT D.K H a xs ∧ RepL D H ds xs := by unfold Rep; exact Iff.rfl
theorem rep_lst : Rep D H (.lst ds) v ↔ ∃ a xs, v = .ref a ∧ H a = some (.lst xs) ∧ RepL D H ds xs := by unfold Rep; exact Iff.rfl
theorem rep_exc {c : Str} : Rep D H (.exc c) v ↔ ∃ a C, v = .ref a ∧ D.mg c = some C ∧ H a = some (excO a C) := by unfold Rep; exact Iff.rfl
theorem rep_fn {x : Str} : Rep D H (.fn x) v ↔ ∃ f, v = .ref f ∧ D.mg x = some (.ref f) := by unfold Rep; exact Iff.rfl
theorem rep_scr {ns : List Int} : Rep D H (.scr ns) v ↔ ∃ a, v = .ref a ∧ SqS D.K H a (ns.map V.int) := by unfold Rep; exact Iff.rfl
theorem rep_dct {ks : List DKey} {vs : List DV} : ¬ Rep D H (.dct ks vs) v := by intro h; unfold Rep at h; exact h
theorem repL_nil : RepL D H [] xs ↔ xs = [] := by unfold RepL; exact Iff.rfl
theorem repL_cons : RepL D H (d :: ds) xs ↔ ∃ v vs, xs = v :: vs ∧ Rep D H d v ∧ RepL D H ds vs := by
  constructor
  · intro h; unfold RepL at h; exact h
  · intro h; unfold RepL; exact h
end
theorem RepL.length {D : Dm} {H : Hp} : ∀ {ds : List DV} {xs : List V}, RepL D H ds xs → xs.length = ds.length
  | [], _, h => by rw [repL_nil.mp h]; rfl
  | d :: ds, _, h => by
    obtain ⟨v, vs, e1, _, e3⟩ := repL_cons.mp h
    rw [e1, List.length_cons, List.length_cons, RepL.length e3]
theorem RepL.get {D : Dm} {H : Hp} : ∀ {ds : List DV} {xs : List V} {i : Nat} {d : DV}, RepL D H ds xs → ds[i]? = some d → ∃ v, xs[i]? = some v ∧ Rep D H d v
  | [], _, _, _, _, e => by simp at e
  | d :: ds, _, i, d', h, e => by
    obtain ⟨v, vs, e1, e2, e3⟩ := repL_cons.mp h
    subst e1
    cases i with
    | zero => simp at e; subst e; exact ⟨v, rfl, e2⟩
    | succ i => simpa using RepL.get (i := i) e3 (by simpa using e)
theorem RepL.append {D : Dm} {H : Hp} : ∀ {ds es : List DV} {xs ys : List V}, RepL D H ds xs → RepL D H es ys → RepL D H (ds ++ es) (xs ++ ys)
  | [], _, _, _, h, h' => by rw [repL_nil.mp h]; exact h'
  | d :: ds, _, _, _, h, h' => by
    obtain ⟨v, vs, e1, e2, e3⟩ := repL_cons.mp h
    subst e1
    exact repL_cons.mpr ⟨v, _, rfl, e2, RepL.append e3 h'⟩
theorem RepL.one {D : Dm} {H : Hp} {d : DV} {v : V} (h : Rep D H d v) : RepL D H [d] [v] := repL_cons.mpr ⟨v, [], rfl, h, repL_nil.mpr rfl⟩
theorem RepL.take {D : Dm} {H : Hp} : ∀ {ds : List DV} {xs : List V} (n : Nat), RepL D H ds xs → RepL D H (ds.take n) (xs.take n)
  | _, _, 0, _ => repL_nil.mpr rfl
  | [], _, n + 1, h => by rw [repL_nil.mp h]; exact repL_nil.mpr rfl
  | d :: ds, _, n + 1, h => by
    obtain ⟨v, vs, e1, e2, e3⟩ := repL_cons.mp h
    subst e1
    exact repL_cons.mpr ⟨v, _, rfl, e2, RepL.take n e3⟩
theorem RepL.drop {D : Dm} {H : Hp} : ∀ {ds : List DV} {xs : List V} (n : Nat), RepL D H ds xs → RepL D H (ds.drop n) (xs.drop n)
  | _, _, 0, h => h
  | [], _, n + 1, h => by rw [repL_nil.mp h]; exact repL_nil.mpr rfl
  | d :: ds, _, n + 1, h => by
    obtain ⟨v, vs, e1, e2, e3⟩ := repL_cons.mp h
    subst e1
    exact RepL.drop n e3
theorem RepL.set {D : Dm} {H : Hp} {d : DV} {v : V} (q : Rep D H d v) : ∀ {ds : List DV} {xs : List V} (n : Nat), RepL D H ds xs → RepL D H (ds.set n d) (xs.set n v)
  | [], _, n, h => by rw [repL_nil.mp h]; exact repL_nil.mpr rfl
  | _ :: ds, _, 0, h => by
    obtain ⟨v, vs, e1, e2, e3⟩ := repL_cons.mp h
    subst e1
    exact repL_cons.mpr ⟨_, _, rfl, q, e3⟩
  | _ :: ds, _, n + 1, h => by
    obtain ⟨v, vs, e1, e2, e3⟩ := repL_cons.mp h
    subst e1
    exact repL_cons.mpr ⟨_, _, rfl, e2, RepL.set q n e3⟩
theorem RepL.rep {D : Dm} {H : Hp} {ds : List DV} {xs : List V} (h : RepL D H ds xs) : ∀ k : Nat, RepL D H (List.replicate k ds).flatten (List.replicate k xs).flatten
  | 0 => repL_nil.mpr rfl
  | k + 1 => by
    rw [List.replicate_succ, List.replicate_succ, List.flatten_cons, List.flatten_cons]
    exact h.append (RepL.rep h k)
theorem repL_ints {D : Dm} {H : Hp} : ∀ (ns : List Int), RepL D H (ns.map DV.int) (ns.map V.int)
  | [] => repL_nil.mpr rfl
  | n :: ns => repL_cons.mpr ⟨_, _, rfl, rep_int.mpr rfl, repL_ints ns⟩

/-! ### what is hidden -/
def wo (O : List Addr) (H : Hp) : Hp := fun b => if b ∈ O then none else H b
theorem wo_in {O : List Addr} {H : Hp} {b : Addr} (h : b ∈ O) : wo O H b = none := if_pos h
theorem wo_out {O : List Addr} {H : Hp} {b : Addr} (h : b ∉ O) : wo O H b = H b := if_neg h
theorem wo_some {O : List Addr} {H : Hp} {b : Addr} {o : HO} (h : wo O H b = some o) : b ∉ O ∧ H b = some o := by
  by_cases hb : b ∈ O
  · rw [wo_in hb] at h; cases h
  · rw [wo_out hb] at h; exact ⟨hb, h⟩
theorem Same.wo {O : List Addr} {H H' : Hp} (e : Same H H') : Same (wo O H) (wo O H') := fun b o h => by
  obtain ⟨hb, h⟩ := wo_some h
  rw [wo_out hb]; exact e b o h
theorem wo_le {O : List Addr} {H : Hp} : Same (L2.wo O H) H := fun b o h => (wo_some h).2
theorem wo_sub {O O' : List Addr} {H : Hp} (h : ∀ b ∈ O', b ∈ O) : Same (L2.wo O H) (L2.wo O' H) := fun b o e => by
  obtain ⟨hb, e⟩ := wo_some e
  rw [wo_out fun z => hb (h b z)]; exact e
theorem same_upd {H : Hp} {p : Addr} {o : HO} (h : H p = none) : Same H (upd H p o) := fun b u q => by rw [upd_ne (ne_of_none q h)]; exact q

/-- O: hidden from this def; W: the names' own lists; H0 an earlier heap -/
structure Hid (O W : List Addr) (H0 H : Hp) : Prop where
  ot : ∀ a ∈ O ++ W, H0 a ≠ none
  same : Same H0 H
  wl : ∀ a ∈ W, ∃ xs, H0 a = some (.lst xs)
  dj : ∀ a ∈ W, a ∉ O
theorem Hid.mono {O W : List Addr} {H0 H H' : Hp} (h : Hid O W H0 H) (e : Same H H') : Hid O W H0 H' := ⟨h.ot, h.same.trans e, h.wl, h.dj⟩
theorem Hid.newOut {O W : List Addr} {H0 H : Hp} (h : Hid O W H0 H) {p : Addr} (hp : H p = none) : p ∉ O ++ W := fun z => h.ot p z (h.same.free hp)

mutual
theorem Rep.immut {D : Dm} {O W : List Addr} {H : Hp} (hw : ∀ a ∈ W, ∃ xs, H a = some (.lst xs)) : ∀ {d : DV} {v : V}, d.immut = true → Rep D (L2.wo O H) d v → Rep D (L2.wo (O ++ W) H) d v
  | .non, _, _, h => by unfold Rep at h ⊢; exact h
  | .bl _, _, _, h => by unfold Rep at h ⊢; exact h
  | .int _, _, _, h => by unfold Rep at h ⊢; exact h
  | .str _, _, _, h => by unfold Rep at h ⊢; exact h
  | .tup ds, _, m, h => by
    unfold Rep at h ⊢
    obtain ⟨a, xs, e1, e2, e3⟩ := h
    have m' : DV.immuts ds = true := by unfold DV.immut at m; exact m
    refine ⟨a, xs, e1, ?_, RepL.immut hw m' e3⟩
    rcases e2 with (h | ⟨o, h⟩) | h
    · obtain ⟨ha, h⟩ := wo_some h
      refine .inl (.inl ?_)
      rw [wo_out fun z => ?_]
      · exact h
      · rcases List.mem_append.mp z with z | z
        · exact ha z
        · obtain ⟨ys, q⟩ := hw a z; rw [h] at q; cases q
    · obtain ⟨ha, h⟩ := wo_some h
      refine .inl (.inr ⟨o, ?_⟩)
      rw [wo_out fun z => ?_]
      · exact h
      · rcases List.mem_append.mp z with z | z
        · exact ha z
        · obtain ⟨ys, q⟩ := hw a z; rw [h] at q; cases q
    · exact .inr h
  | .lst ds, _, m, _ => by unfold DV.immut at m; cases m
  | .dct _ _, _, m, _ => by unfold DV.immut at m; cases m
  | .exc C, _, _, h => by
    unfold Rep at h ⊢
    obtain ⟨a, C, e1, e2, e3⟩ := h
    obtain ⟨ha, h⟩ := wo_some e3
    refine ⟨a, C, e1, e2, ?_⟩
    rw [wo_out fun z => ?_]
    · exact h
    · rcases List.mem_append.mp z with z | z
      · exact ha z
      · obtain ⟨ys, q⟩ := hw a z; rw [h] at q; cases q
  | .fn _, _, _, h => by unfold Rep at h ⊢; exact h
  | .scr ns, _, _, h => by
    unfold Rep at h ⊢
    obtain ⟨a, e1, e2⟩ := h
    refine ⟨a, e1, ?_⟩
    rcases e2 with ⟨o, h⟩ | h
    · obtain ⟨ha, h⟩ := wo_some h
      refine .inl ⟨o, ?_⟩
      rw [wo_out fun z => ?_]
      · exact h
      · rcases List.mem_append.mp z with z | z
        · exact ha z
        · obtain ⟨ys, q⟩ := hw a z; rw [h] at q; cases q
    · exact .inr h
theorem RepL.immut {D : Dm} {O W : List Addr} {H : Hp} (hw : ∀ a ∈ W, ∃ xs, H a = some (.lst xs)) : ∀ {ds : List DV} {xs : List V}, DV.immuts ds = true → RepL D (L2.wo O H) ds xs → RepL D (L2.wo (O ++ W) H) ds xs
  | [], _, _, h => by unfold RepL at h ⊢; exact h
  | d :: ds, _, m, h => by
    unfold RepL at h ⊢
    obtain ⟨v, vs, e1, e2, e3⟩ := h
    unfold DV.immuts at m
    rw [Bool.and_eq_true] at m
    exact ⟨v, vs, e1, Rep.immut hw m.1 e2, RepL.immut hw m.2 e3⟩
end

/-! ### what an expression hands on -/
/-- the outermost list or tuple seen in Ht, its items in H -/
def RepT (D : Dm) (W : List Addr) (Ht H : Hp) (d : DV) (v : V) : Prop := match d with
  | .lst ds => ∃ a xs, v = .ref a ∧ a ∈ W ∧ Ht a = some (.lst xs) ∧ RepL D H ds xs
  | d => Rep D H d v
theorem RepT.mono {D : Dm} {W : List Addr} {Ht Ht' H H' : Hp} {d : DV} {v : V} (et : Same Ht Ht') (e : Same H H') (h : RepT D W Ht H d v) : RepT D W Ht' H' d v := by
  cases d with
  | lst ds => obtain ⟨a, xs, e1, e0, e2, e3⟩ := h; exact ⟨a, xs, e1, e0, et _ _ e2, e3.mono e⟩
  | non => exact Rep.mono (D := D) (d := .non) (v := v) e h
  | bl b => exact Rep.mono (D := D) (d := .bl b) (v := v) e h
  | int b => exact Rep.mono (D := D) (d := .int b) (v := v) e h
  | str b => exact Rep.mono (D := D) (d := .str b) (v := v) e h
  | tup b => exact Rep.mono (D := D) (d := .tup b) (v := v) e h
  | dct b c => exact Rep.mono (D := D) (d := .dct b c) (v := v) e h
  | exc b => exact Rep.mono (D := D) (d := .exc b) (v := v) e h
  | fn b => exact Rep.mono (D := D) (d := .fn b) (v := v) e h
  | scr b => exact Rep.mono (D := D) (d := .scr b) (v := v) e h
theorem RepT.rep {D : Dm} {W : List Addr} {Ht H : Hp} {d : DV} {v : V} (e : Same H Ht) (h : RepT D W Ht H d v) : Rep D Ht d v := by
  cases d with
  | lst ds => obtain ⟨a, xs, e1, e0, e2, e3⟩ := h; exact rep_lst.mpr ⟨a, xs, e1, e2, e3.mono e⟩
  | non => exact Rep.mono (D := D) (d := .non) (v := v) e h
  | bl b => exact Rep.mono (D := D) (d := .bl b) (v := v) e h
  | int b => exact Rep.mono (D := D) (d := .int b) (v := v) e h
  | str b => exact Rep.mono (D := D) (d := .str b) (v := v) e h
  | tup b => exact Rep.mono (D := D) (d := .tup b) (v := v) e h
  | dct b c => exact Rep.mono (D := D) (d := .dct b c) (v := v) e h
  | exc b => exact Rep.mono (D := D) (d := .exc b) (v := v) e h
  | fn b => exact Rep.mono (D := D) (d := .fn b) (v := v) e h
  | scr b => exact Rep.mono (D := D) (d := .scr b) (v := v) e h
def Got (D : Dm) (O W : List Addr) (H0 H : Hp) (d : DV) (c : Cl) (v : V) : Prop := match c with
  | .weak => Rep D (L2.wo O H) d v
  | .top => RepT D W (L2.wo O H) (L2.wo (O ++ W) H) d v
  | .strong => Rep D (L2.wo (O ++ W) H) d v
  | .fresh => ∃ p xs ds, v = .ref p ∧ d = .lst ds ∧ H0 p = none ∧ H p = some (.lst xs) ∧ RepL D (L2.wo (p :: (O ++ W)) H) ds xs
  | .ft => ∃ t ts p xs ds es, v = .ref t ∧ d = .tup (.lst ds :: es) ∧ SqT D.K (L2.wo (O ++ W) H) t (.ref p :: ts) ∧ H0 p = none ∧ H p = some (.lst xs) ∧ RepL D (L2.wo (p :: (O ++ W)) H) ds xs ∧ RepL D (L2.wo (p :: (O ++ W)) H) es ts
section
variable {D : Dm} {O W : List Addr} {H0 H H' : Hp} {d : DV} {ds : List DV} {c : Cl} {v : V}
theorem sub_l : ∀ b ∈ O, b ∈ O ++ W := fun _ h => List.mem_append_left _ h
theorem Got.mono (h : Got D O W H0 H d c v) (e : Same H H') : Got D O W H0 H' d c v := by
  cases c with
  | weak => exact Rep.mono e.wo h
  | top => exact RepT.mono e.wo e.wo h
  | strong => exact Rep.mono e.wo h
  | fresh =>
    obtain ⟨p, xs, ds, e1, e2, e3, e4, e5⟩ := h
    exact ⟨p, xs, ds, e1, e2, e3, e _ _ e4, e5.mono e.wo⟩
  | ft =>
    obtain ⟨t, ts, p, xs, ds, es, e1, e2, e0, e3, e4, e5, e6⟩ := h
    exact ⟨t, ts, p, xs, ds, es, e1, e2, e.wo.tseq e0, e3, e _ _ e4, e5.mono e.wo, e6.mono e.wo⟩
/-- from an earlier heap on -/
theorem Got.since {H1 : Hp} (h : Got D O W H1 H d c v) (e : Same H0 H1) : Got D O W H0 H d c v := by
  cases c with
  | weak => exact h
  | top => exact h
  | strong => exact h
  | fresh =>
    obtain ⟨p, xs, ds, e1, e2, e3, e4, e5⟩ := h
    exact ⟨p, xs, ds, e1, e2, e.free e3, e4, e5⟩
  | ft =>
    obtain ⟨t, ts, p, xs, ds, es, e1, e2, e0, e3, e4, e5, e6⟩ := h
    exact ⟨t, ts, p, xs, ds, es, e1, e2, e0, e.free e3, e4, e5, e6⟩
theorem Got.ft (h : Got D O W H0 H d .ft v) (hd : Hid O W H0 H) : Rep D (L2.wo (O ++ W) H) d v := by
  obtain ⟨t, ts, p, xs, ds, es, e1, e2, e0, e3, e4, e5, e6⟩ := h
  have hp : p ∉ O ++ W := fun z => hd.ot p z e3
  have up : Same (L2.wo (p :: (O ++ W)) H) (L2.wo (O ++ W) H) := wo_sub fun b hb => List.mem_cons_of_mem _ hb
  rw [e2]
  exact rep_tup.mpr ⟨t, _, e1, e0, repL_cons.mpr ⟨_, _, rfl, rep_lst.mpr ⟨p, xs, rfl, by rw [wo_out hp]; exact e4, e5.mono up⟩, e6.mono up⟩⟩
theorem Got.strong (h : Got D O W H0 H d .fresh v) (hd : Hid O W H0 H) : Rep D (L2.wo (O ++ W) H) d v := by
  obtain ⟨p, xs, ds, e1, e2, e3, e4, e5⟩ := h
  have hp : p ∉ O ++ W := fun z => hd.ot p z e3
  rw [e2]
  exact rep_lst.mpr ⟨p, xs, e1, by rw [wo_out hp]; exact e4, e5.mono (wo_sub fun b hb => List.mem_cons_of_mem _ hb)⟩
theorem Got.weak (h : Got D O W H0 H d c v) (hd : Hid O W H0 H) : Rep D (L2.wo O H) d v := by
  cases c with
  | weak => exact h
  | top => exact RepT.rep (wo_sub sub_l) h
  | strong => exact Rep.mono (wo_sub sub_l) h
  | fresh => exact Rep.mono (wo_sub sub_l) (h.strong hd)
  | ft => exact Rep.mono (wo_sub sub_l) (h.ft hd)
theorem Got.all (h : Got D O W H0 H d c v) (hd : Hid O W H0 H) : Rep D H d v := Rep.mono wo_le (h.weak hd)
theorem Got.stro (h : Got D O W H0 H d c v) (hd : Hid O W H0 H) (hs : L2.stro d c = true) : Rep D (L2.wo (O ++ W) H) d v := by
  cases c with
  | strong => exact h
  | fresh => exact h.strong hd
  | ft => exact h.ft hd
  | weak => exact Rep.immut (fun a ha => by obtain ⟨xs, e⟩ := hd.wl a ha; exact ⟨xs, hd.same _ _ e⟩) hs (h.weak hd)
  | top => exact Rep.immut (fun a ha => by obtain ⟨xs, e⟩ := hd.wl a ha; exact ⟨xs, hd.same _ _ e⟩) hs (h.weak hd)
/-- a list's items -/
theorem Got.items (h : Got D O W H0 H (.lst ds) c v) (hd : Hid O W H0 H) (hc : c ≠ .weak) : ∃ a xs, v = .ref a ∧ H a = some (.lst xs) ∧ RepL D (L2.wo (O ++ W) H) ds xs := by
  cases c with
  | weak => exact absurd rfl hc
  | top =>
    obtain ⟨a, xs, e1, e0, e2, e3⟩ := h
    exact ⟨a, xs, e1, wo_le _ _ e2, e3⟩
  | strong =>
    obtain ⟨a, xs, e1, e2, e3⟩ := rep_lst.mp h
    exact ⟨a, xs, e1, wo_le _ _ e2, e3⟩
  | fresh =>
    obtain ⟨a, xs, e1, e2, e3⟩ := rep_lst.mp (h.strong hd)
    exact ⟨a, xs, e1, wo_le _ _ e2, e3⟩
  | ft =>
    obtain ⟨a, xs, e1, e2, e3⟩ := rep_lst.mp (h.ft hd)
    exact ⟨a, xs, e1, wo_le _ _ e2, e3⟩
theorem Got.itemsT (h : Got D O W H0 H (.tup ds) c v) (hd : Hid O W H0 H) (hc : c ≠ .weak) : ∃ a xs, v = .ref a ∧ SqT D.K H a xs ∧ RepL D (L2.wo (O ++ W) H) ds xs := by
  cases c with
  | weak => exact absurd rfl hc
  | top =>
    obtain ⟨a, xs, e1, e2, e3⟩ := rep_tup.mp (show Rep D (L2.wo (O ++ W) H) (.tup ds) v from h)
    exact ⟨a, xs, e1, wo_le.tseq e2, e3⟩
  | strong =>
    obtain ⟨a, xs, e1, e2, e3⟩ := rep_tup.mp h
    exact ⟨a, xs, e1, wo_le.tseq e2, e3⟩
  | fresh =>
    obtain ⟨p, xs, ds, e1, e2, e3, e4, e5⟩ := h
    cases e2
  | ft =>
    obtain ⟨a, xs, e1, e2, e3⟩ := rep_tup.mp (h.ft hd)
    exact ⟨a, xs, e1, wo_le.tseq e2, e3⟩
theorem Got.lst (h : Got D O W H0 H (.lst ds) c v) (hd : Hid O W H0 H) : ∃ a xs, v = .ref a ∧ H a = some (.lst xs) ∧ RepL D (L2.wo O H) ds xs := by
  obtain ⟨a, xs, e1, e2, e3⟩ := rep_lst.mp (h.weak hd)
  exact ⟨a, xs, e1, wo_le _ _ e2, e3⟩
theorem Got.tup (h : Got D O W H0 H (.tup ds) c v) (hd : Hid O W H0 H) : ∃ a xs, v = .ref a ∧ SqT D.K H a xs ∧ RepL D (L2.wo O H) ds xs := by
  obtain ⟨a, xs, e1, e2, e3⟩ := rep_tup.mp (h.weak hd)
  exact ⟨a, xs, e1, wo_le.tseq e2, e3⟩
/-- both at once: the items' own class -/
def itemHid (O W : List Addr) : Cl → List Addr
  | .weak => O
  | _ => O ++ W
theorem Got.lstC (h : Got D O W H0 H (.lst ds) c v) (hd : Hid O W H0 H) : ∃ a xs, v = .ref a ∧ H a = some (.lst xs) ∧ RepL D (L2.wo (itemHid O W c) H) ds xs := by
  cases c with
  | weak => exact h.lst hd
  | top => exact h.items hd (by intro z; cases z)
  | strong => exact h.items hd (by intro z; cases z)
  | fresh => exact h.items hd (by intro z; cases z)
  | ft => exact h.items hd (by intro z; cases z)
theorem Got.tupC (h : Got D O W H0 H (.tup ds) c v) (hd : Hid O W H0 H) : ∃ a xs, v = .ref a ∧ SqT D.K H a xs ∧ RepL D (L2.wo (itemHid O W c) H) ds xs := by
  cases c with
  | weak => exact h.tup hd
  | top => exact h.itemsT hd (by intro z; cases z)
  | strong => exact h.itemsT hd (by intro z; cases z)
  | fresh => exact h.itemsT hd (by intro z; cases z)
  | ft => exact h.itemsT hd (by intro z; cases z)
theorem Got.item (h : Rep D (L2.wo (itemHid O W c) H) d v) : Got D O W H0 H d c.item v := by
  cases c <;> exact h
theorem got_int {i : Int} (hc : c ≠ .fresh := by intro z; cases z) (hc' : c ≠ .ft := by intro z; cases z) : Got D O W H0 H (.int i) c (.int i) := by
  have q : ∀ H, Rep D H (.int i) (.int i) := fun H => rep_int.mpr rfl
  cases c with
  | fresh => exact absurd rfl hc
  | ft => exact absurd rfl hc'
  | weak => exact q (L2.wo O H)
  | strong => exact q (L2.wo (O ++ W) H)
  | top => exact q (L2.wo (O ++ W) H)
theorem got_bl {i : Bool} : Got D O W H0 H (.bl i) .strong (.bl i) := (rep_bl.mpr rfl : Rep D (L2.wo (O ++ W) H) (.bl i) (.bl i))
theorem got_non : Got D O W H0 H .non .strong .non := (rep_non.mpr rfl : Rep D (L2.wo (O ++ W) H) .non .non)
theorem Got.int {i : Int} (h : Got D O W H0 H (.int i) c v) (hd : Hid O W H0 H) : v = .int i := rep_int.mp (h.weak hd)
theorem Got.bl {i : Bool} (h : Got D O W H0 H (.bl i) c v) (hd : Hid O W H0 H) : v = .bl i := rep_bl.mp (h.weak hd)
theorem Got.str {x : Str} (h : Got D O W H0 H (.str x) c v) (hd : Hid O W H0 H) : v = .str x ∧ x.length ≤ sizeLine := rep_str.mp (h.weak hd)
theorem Got.non (h : Got D O W H0 H .non c v) (hd : Hid O W H0 H) : v = .non := rep_non.mp (h.weak hd)
/-- a new list -/
theorem got_new {p : Addr} {xs : List V} (hd : Hid O W H0 H) (hp : H p = none) (r : RepL D (L2.wo (O ++ W) H) ds xs) : Got D O W H0 (upd H p (.lst xs)) (.lst ds) .fresh (.ref p) := by
  refine ⟨p, xs, ds, rfl, rfl, hd.same.free hp, upd_same, r.mono fun b o e => ?_⟩
  obtain ⟨hb, e⟩ := wo_some e
  have hbp : b ≠ p := ne_of_none e hp
  rw [wo_out (by intro z; rcases List.mem_cons.mp z with z | z; exact hbp z; exact hb z), upd_ne hbp]
  exact e
theorem got_newW {p : Addr} {xs : List V} (hd : Hid O W H0 H) (hp : H p = none) (r : RepL D (L2.wo O H) ds xs) : Got D O W H0 (upd H p (.lst xs)) (.lst ds) .weak (.ref p) := by
  have hpo : p ∉ O := fun z => hd.newOut hp (List.mem_append_left _ z)
  exact rep_lst.mpr ⟨p, xs, rfl, by rw [wo_out hpo]; exact upd_same, r.mono (same_upd hp).wo⟩
theorem got_newC {p : Addr} {xs : List V} (hd : Hid O W H0 H) (hp : H p = none) (r : RepL D (L2.wo (itemHid O W c) H) ds xs) : Got D O W H0 (upd H p (.lst xs)) (.lst ds) (Cl.anew c c) (.ref p) := by
  cases c with
  | weak => exact got_newW hd hp r
  | top => exact got_new hd hp r
  | strong => exact got_new hd hp r
  | fresh => exact got_new hd hp r
  | ft => exact got_new hd hp r
theorem got_tup {p : Addr} {xs : List V} (hd : Hid O W H0 H) (hp : H p = none) (r : RepL D (L2.wo (O ++ W) H) ds xs) : Got D O W H0 (upd H p (.tup xs)) (.tup ds) .strong (.ref p) :=
  rep_tup.mpr ⟨p, xs, rfl, SqT.of (by rw [wo_out (hd.newOut hp)]; exact upd_same), r.mono (same_upd hp).wo⟩
theorem got_tupW {p : Addr} {xs : List V} (hd : Hid O W H0 H) (hp : H p = none) (r : RepL D (L2.wo O H) ds xs) : Got D O W H0 (upd H p (.tup xs)) (.tup ds) .weak (.ref p) :=
  rep_tup.mpr ⟨p, xs, rfl, SqT.of (by rw [wo_out fun z => hd.newOut hp (List.mem_append_left _ z)]; exact upd_same), r.mono (same_upd hp).wo⟩
theorem got_tupC {p : Addr} {xs : List V} (hd : Hid O W H0 H) (hp : H p = none) (r : RepL D (L2.wo (itemHid O W c) H) ds xs) : Got D O W H0 (upd H p (.tup xs)) (.tup ds) c.item (.ref p) := by
  cases c with
  | weak => exact got_tupW hd hp r
  | top => exact got_tup hd hp r
  | strong => exact got_tup hd hp r
  | fresh => exact got_tup hd hp r
  | ft => exact got_tup hd hp r
end

/-- several values -/
inductive GotL (D : Dm) (O W : List Addr) (H0 H : Hp) : List (DV × Cl) → List V → Prop where
  | nil : GotL D O W H0 H [] []
  | cons {d : DV} {c : Cl} {v : V} {l : List (DV × Cl)} {vs : List V} : Got D O W H0 H d c v → GotL D O W H0 H l vs → GotL D O W H0 H ((d, c) :: l) (v :: vs)
section
variable {D : Dm} {O W : List Addr} {H0 H H' : Hp}
theorem GotL.repL {l : List (DV × Cl)} {vs : List V} (h : GotL D O W H0 H l vs) (hd : Hid O W H0 H) : RepL D (L2.wo O H) (l.map (·.1)) vs := by
  induction h with
  | nil => exact repL_nil.mpr rfl
  | cons h _ ih => exact repL_cons.mpr ⟨_, _, rfl, h.weak hd, ih⟩
theorem GotL.stros {l : List (DV × Cl)} {vs : List V} (h : GotL D O W H0 H l vs) (hd : Hid O W H0 H) (hs : L2.stros l = true) : RepL D (L2.wo (O ++ W) H) (l.map (·.1)) vs := by
  induction h with
  | nil => exact repL_nil.mpr rfl
  | cons h _ ih =>
    unfold L2.stros at hs
    rw [List.all_cons, Bool.and_eq_true] at hs
    exact repL_cons.mpr ⟨_, _, rfl, h.stro hd hs.1, ih hs.2⟩
theorem GotL.length {l : List (DV × Cl)} {vs : List V} (h : GotL D O W H0 H l vs) : vs.length = l.length := by
  induction h with
  | nil => rfl
  | cons _ _ ih => rw [List.length_cons, List.length_cons, ih]
theorem GotL.strong {l : List (DV × Cl)} {vs : List V} (h : GotL D O W H0 H l vs) (hd : Hid O W H0 H) (hs : (l.all fun p => p.2 == .strong || p.2 == .fresh) = true) : RepL D (L2.wo (O ++ W) H) (l.map (·.1)) vs := by
  refine h.stros hd ?_
  unfold L2.stros
  rw [List.all_eq_true] at hs ⊢
  intro p hp
  have := hs p hp
  unfold L2.stro
  cases e : p.2 <;> rw [e] at this <;> first | rfl | cases this
theorem GotL.one {d : DV} {c : Cl} {vs : List V} (h : GotL D O W H0 H [(d, c)] vs) : ∃ v, vs = [v] ∧ Got D O W H0 H d c v := by
  cases h with
  | cons h t => cases t; exact ⟨_, rfl, h⟩
theorem GotL.two {d d' : DV} {c c' : Cl} {vs : List V} (h : GotL D O W H0 H [(d, c), (d', c')] vs) : ∃ v v', vs = [v, v'] ∧ Got D O W H0 H d c v ∧ Got D O W H0 H d' c' v' := by
  cases h with
  | cons h t => obtain ⟨v', e, h'⟩ := t.one; subst e; exact ⟨_, _, rfl, h, h'⟩
theorem GotL.three {d d' d2 : DV} {c c' c2 : Cl} {vs : List V} (h : GotL D O W H0 H [(d, c), (d', c'), (d2, c2)] vs) : ∃ v v' v2, vs = [v, v', v2] ∧ Got D O W H0 H d c v ∧ Got D O W H0 H d' c' v' ∧ Got D O W H0 H d2 c2 v2 := by
  cases h with
  | cons h t => obtain ⟨v', v2, e, h', h2⟩ := t.two; subst e; exact ⟨_, _, _, rfl, h, h', h2⟩
end

/-! ### the names -/
structure RSt (D : Dm) (H : Hp) (σ : St) (δ : List Sv) (O W : List Addr) : Prop where
  val : ∀ (i : Nat) d, δ[i]? = some (.val d) → ∃ v, σ[i]? = some (some v) ∧ Rep D (L2.wo (O ++ W) H) d v
  own : ∀ (i : Nat) d, δ[i]? = some (.own d) → ∃ a xs ds, d = .lst ds ∧ σ[i]? = some (some (.ref a)) ∧ a ∈ W ∧ H a = some (.lst xs) ∧ RepL D (L2.wo (O ++ W) H) ds xs
  inj : ∀ (i j : Nat) a d d', δ[i]? = some (.own d) → δ[j]? = some (.own d') → σ[i]? = some (some (.ref a)) → σ[j]? = some (some (.ref a)) → i = j
  ot : ∀ (i : Nat) d, δ[i]? = some (.ot d) → (∃ t ts p xs ds es, d = .tup (.lst ds :: es) ∧ σ[i]? = some (some (.ref t)) ∧ SqT D.K (L2.wo (O ++ W) H) t (.ref p :: ts) ∧ p ∈ W ∧ H p = some (.lst xs) ∧ RepL D (L2.wo (O ++ W) H) ds xs ∧ RepL D (L2.wo (O ++ W) H) es ts ∧
    ∀ (j : Nat) d', δ[j]? = some (.own d') → σ[j]? ≠ some (some (.ref p))) ∧ ∀ (j : Nat) d', δ[j]? = some (.ot d') → j = i
  len : σ.length = δ.length
  hid : Hid O W H H
theorem Hid.later {O W : List Addr} {H H' : Hp} (h : Hid O W H H) (e : Same H H') : Hid O W H' H' := ⟨fun a ha q => h.ot a ha (e.free q), Same.refl _, fun a ha => by obtain ⟨xs, q⟩ := h.wl a ha; exact ⟨xs, e _ _ q⟩, h.dj⟩
theorem RSt.mono {D : Dm} {H H' : Hp} {σ : St} {δ : List Sv} {O W : List Addr} (R : RSt D H σ δ O W) (e : Same H H') : RSt D H' σ δ O W where
  val := fun i d h => by obtain ⟨v, e1, e2⟩ := R.val i d h; exact ⟨v, e1, e2.mono e.wo⟩
  own := fun i ds h => by obtain ⟨a, xs, ds, e0, e1, e2, e3, e4⟩ := R.own i ds h; exact ⟨a, xs, ds, e0, e1, e2, e _ _ e3, e4.mono e.wo⟩
  inj := R.inj
  ot := fun i d h => by
    obtain ⟨⟨t, ts, p, xs, ds, es, e0, e1, e2, e3, e4, e5, e6, e7⟩, u⟩ := R.ot i d h
    exact ⟨⟨t, ts, p, xs, ds, es, e0, e1, e.wo.tseq e2, e3, e _ _ e4, e5.mono e.wo, e6.mono e.wo, e7⟩, u⟩
  len := R.len
  hid := R.hid.later e

/-! ### the judgements -/
def Post (D : Dm) (E : St → XK) (σ : St) (O W : List Addr) (H0 H : Hp) (Q : VK) : Re → Prop
  | .ok d c => ∀ v H', Same H H' → Got D O W H0 H' d c v → Q v H'
  | .ex c => ∀ H' C, D.mg c = some C → Same H H' → E σ C none H'
def dE (D : Dm) (E : St → XK) (δ : List Sv) (r : Re) : TE := fun σ H Q => ∃ O W, RSt D H σ δ O W ∧ Post D E σ O W H H Q r
def PostA (D : Dm) (E : St → XK) (σ : St) (O W : List Addr) (H0 H : Hp) (Q : List V → Hp → Prop) : Rs → Prop
  | .ok l => ∀ vs H', Same H H' → GotL D O W H0 H' l vs → Q vs H'
  | .ex c => ∀ H' C, D.mg c = some C → Same H H' → E σ C none H'
def dA (D : Dm) (E : St → XK) (δ : List Sv) (r : Rs) : TA := fun σ H Q => ∃ O W, RSt D H σ δ O W ∧ PostA D E σ O W H H Q r
def PostT (D : Dm) (E : St → XK) (σ : St) (H : Hp) (Q : Bool → Hp → Prop) : Rt → Prop
  | .ok b => ∀ H', Same H H' → Q b H'
  | .ex c => ∀ H' C, D.mg c = some C → Same H H' → E σ C none H'
def dT (D : Dm) (E : St → XK) (δ : List Sv) (r : Rt) : TT := fun σ H Q => ∃ O W, RSt D H σ δ O W ∧ PostT D E σ H Q r
theorem Post.step {D : Dm} {E : St → XK} {σ : St} {O W : List Addr} {H0 H H1 : Hp} {Q : VK} {r : Re} (h : Post D E σ O W H0 H Q r) (e : Same H H1) : Post D E σ O W H0 H1 Q r := by
  cases r with
  | ok d c => exact fun v H' s g => h v H' (e.trans s) g
  | ex c => exact fun H' C m s => h H' C m (e.trans s)
theorem Post.later {D : Dm} {E : St → XK} {σ : St} {O W : List Addr} {H0 H H1 : Hp} {Q : VK} {r : Re} (h : Post D E σ O W H0 H Q r) (e : Same H H1) (e0 : Same H0 H1) : Post D E σ O W H1 H1 Q r := by
  cases r with
  | ok d c => exact fun v H' s g => h v H' (e.trans s) (g.since e0)
  | ex c => exact fun H' C m s => h H' C m (e.trans s)
theorem GotL.since {D : Dm} {O W : List Addr} {H0 H1 H : Hp} {l : List (DV × Cl)} {vs : List V} (h : GotL D O W H1 H l vs) (e : Same H0 H1) : GotL D O W H0 H l vs := by
  induction h with
  | nil => exact .nil
  | cons g _ ih => exact .cons (g.since e) ih
theorem PostA.later {D : Dm} {E : St → XK} {σ : St} {O W : List Addr} {H0 H H1 : Hp} {Q : List V → Hp → Prop} {r : Rs} (h : PostA D E σ O W H0 H Q r) (e : Same H H1) (e0 : Same H0 H1) : PostA D E σ O W H1 H1 Q r := by
  cases r with
  | ok l => exact fun v H' s g => h v H' (e.trans s) (g.since e0)
  | ex c => exact fun H' C m s => h H' C m (e.trans s)
theorem PostT.later {D : Dm} {E : St → XK} {σ : St} {H H1 : Hp} {Q : Bool → Hp → Prop} {r : Rt} (h : PostT D E σ H Q r) (e : Same H H1) : PostT D E σ H1 Q r := by
  cases r with
  | ok b => exact fun H' s => h H' (e.trans s)
  | ex c => exact fun H' C m s => h H' C m (e.trans s)

theorem PE.weak {X : Cx} {e : Expr} {t t' : TE} (h : PE X e t) (k : ∀ σ H Q, t' σ H Q → t σ H Q) : PE X e t' := fun pins s σ H Q I q => h pins s σ H Q I (k σ H Q q)
theorem PT.weak {X : Cx} {e : Expr} {t t' : TT} (h : PT X e t) (k : ∀ σ H Q, t' σ H Q → t σ H Q) : PT X e t' := fun pins s σ H Q I q => h pins s σ H Q I (k σ H Q q)
theorem PW.weak {X : Cx} {e : Expr} {t t' : TT} (h : PW X e t) (k : ∀ σ H Q, t' σ H Q → t σ H Q) : PW X e t' := fun whole pins s σ H Q I q => h whole pins s σ H Q I (k σ H Q q)
theorem PA.weak {X : Cx} {e : List Expr} {t t' : TA} (h : PA X e t) (k : ∀ σ H Q, t' σ H Q → t σ H Q) : PA X e t' := fun pos pins s σ H Q I q => h pos pins s σ H Q I (k σ H Q q)
theorem PS.weak {X : Cx} {e : Stmt} {t t' : TS} (h : PS X e t) (k : ∀ D σ H, t' D σ H → t D σ H) : PS X e t' := fun pins s σ H D I q => h pins s σ H D I (k D σ H q)
theorem PSs.weak {X : Cx} {e : List Stmt} {t t' : TS} (h : PSs X e t) (k : ∀ D σ H, t' D σ H → t D σ H) : PSs X e t' := fun pins s σ H D I q => h pins s σ H D I (k D σ H q)
theorem pw_none {X : Cx} {e : Expr} : PW X e (fun _ _ _ => False) := fun _ _ _ _ _ _ _ h => h.elim
theorem pt_none {X : Cx} {e : Expr} : PT X e (fun _ _ _ => False) := fun _ _ _ _ _ _ h => h.elim
theorem pe_none {X : Cx} {e : Expr} : PE X e (fun _ _ _ => False) := fun _ _ _ _ _ _ h => h.elim
theorem pa_none {X : Cx} {e : List Expr} : PA X e (fun _ _ _ => False) := fun _ _ _ _ _ _ _ h => h.elim
end L2

end
section

set_option Elab.async false
set_option linter.all false
set_option maxRecDepth 100000
set_option maxHeartbeats 4000000

/-! Expressions: each rule of the evaluator holds. -/
namespace L2
open PySem PySem.Spec PyProof.Rows

theorem len_line {n : Nat} (h : n ≤ mostLen) : n ≤ sizeLine := Nat.le_trans h (by decide)

/-! ### two operands -/
section
variable {X : Cx} {E : St → XK} {δ : List Sv} {a b c e : Expr} {es : List Expr}
theorem snd_un {r : V → Hp → VK → Prop} {k : DV → Cl → Option Re} {ra : Option Re} {re : Re} (hop : ∀ ta, PE X a ta → PE X e (tUn r ta)) (ha : ∀ q, ra = some q → PE X a (dE X.D E δ q)) (h : Re.thn ra k = some re)
    (hr : ∀ O W H0 H x Q dx cx σ, k dx cx = some re → Hid O W H0 H → Got X.D O W H0 H dx cx x → Post X.D E σ O W H0 H Q re → r x H Q) : PE X e (dE X.D E δ re) := by
  cases hra : ra with
  | none => rw [hra] at h; cases h
  | some q =>
    rw [hra] at h
    have A := ha q hra
    cases q with
    | ex c =>
      cases h
      exact (hop _ A).weak fun σ H Q ⟨O, W, R, p⟩ => ⟨O, W, R, p⟩
    | ok dx cx =>
      have h' : k dx cx = some re := h
      exact (hop _ A).weak fun σ H Q ⟨O, W, R, p⟩ => ⟨O, W, R, fun x H1 s1 g1 => hr O W H H1 x Q dx cx σ h' (R.hid.mono s1) g1 (p.step s1)⟩
/-- the operands' rules, and what the value wants of them -/
theorem op_parts {r : R2} {k : DV → Cl → DV → Cl → Option Re} {ra rb : Option Re} {re : Re} (ha : ∀ q, ra = some q → PE X a (dE X.D E δ q)) (hb : ∀ q, rb = some q → PE X b (dE X.D E δ q))
    (h : (Re.thn ra fun x cx => Re.thn rb fun y cy => k x cx y cy) = some re)
    (hr : ∀ O W H0 H x y Q dx cx dy cy σ, k dx cx dy cy = some re → Hid O W H0 H → Got X.D O W H0 H dx cx x → Got X.D O W H0 H dy cy y → Post X.D E σ O W H0 H Q re → r x y H Q) :
    ∃ ta tb, PE X a ta ∧ PE X b tb ∧ ∀ σ H Q, dE X.D E δ re σ H Q → tOp r ta tb σ H Q := by
  cases hra : ra with
  | none => rw [hra] at h; cases h
  | some q =>
    rw [hra] at h
    have A := ha q hra
    cases q with
    | ex c =>
      cases h
      exact ⟨_, _, A, pe_none, fun σ H Q ⟨O, W, R, p⟩ => ⟨O, W, R, p⟩⟩
    | ok dx cx =>
      have h' : (Re.thn rb fun y cy => k dx cx y cy) = some re := h
      cases hrb : rb with
      | none => rw [hrb] at h'; cases h'
      | some q =>
        rw [hrb] at h'
        have B := hb q hrb
        cases q with
        | ex c =>
          cases h'
          exact ⟨_, _, A, B, fun σ H Q ⟨O, W, R, p⟩ => ⟨O, W, R, fun x H1 s1 g1 => ⟨O, W, R.mono s1, fun H' C m s => p H' C m (s1.trans s)⟩⟩⟩
        | ok dy cy =>
          have h2 : k dx cx dy cy = some re := h'
          exact ⟨_, _, A, B, fun σ H Q ⟨O, W, R, p⟩ => ⟨O, W, R, fun x H1 s1 g1 => ⟨O, W, R.mono s1, fun y H2 s2 g2 =>
            hr O W H H2 x y Q dx cx dy cy σ h2 ((R.hid.mono s1).mono s2) (g1.mono s2) (g2.since s1) (p.step (s1.trans s2))⟩⟩⟩
theorem snd_op {r : R2} {k : DV → Cl → DV → Cl → Option Re} {ra rb : Option Re} {re : Re} (hop : ∀ ta tb, PE X a ta → PE X b tb → PE X e (tOp r ta tb)) (ha : ∀ q, ra = some q → PE X a (dE X.D E δ q)) (hb : ∀ q, rb = some q → PE X b (dE X.D E δ q))
    (h : (Re.thn ra fun x cx => Re.thn rb fun y cy => k x cx y cy) = some re)
    (hr : ∀ O W H0 H x y Q dx cx dy cy σ, k dx cx dy cy = some re → Hid O W H0 H → Got X.D O W H0 H dx cx x → Got X.D O W H0 H dy cy y → Post X.D E σ O W H0 H Q re → r x y H Q) : PE X e (dE X.D E δ re) := by
  obtain ⟨ta, tb, A, B, q⟩ := op_parts ha hb h hr
  exact (hop _ _ A B).weak q
/-- values in a row -/
theorem snd_args {r : List V → Hp → VK → Prop} {k : List (DV × Cl) → Option Re} {ra : Option Rs} {re : Re} (hop : ∀ t, PA X es t → PE X e (tCB r t)) (ha : ∀ q, ra = some q → PA X es (dA X.D E δ q)) (h : Rs.thn ra k = some re)
    (hr : ∀ O W H0 H vs Q l σ, k l = some re → Hid O W H0 H → GotL X.D O W H0 H l vs → Post X.D E σ O W H0 H Q re → r vs H Q) : PE X e (dE X.D E δ re) := by
  cases hra : ra with
  | none => rw [hra] at h; cases h
  | some q =>
    rw [hra] at h
    have A := ha q hra
    cases q with
    | ex c =>
      cases h
      exact (hop _ A).weak fun σ H Q ⟨O, W, R, p⟩ => ⟨O, W, R, p⟩
    | ok l =>
      have h' : k l = some re := h
      exact (hop _ A).weak fun σ H Q ⟨O, W, R, p⟩ => ⟨O, W, R, fun vs H1 s1 g1 => hr O W H H1 vs Q l σ h' (R.hid.mono s1) g1 (p.step s1)⟩
end

/-! ### names and constants -/
section
variable {X : Cx} {E : St → XK} {δ : List Sv} {pos : Pos}
theorem snd_var {i : Nat} {x : Str} {r : Re} (hN : X.N[i]? = some x) (hv : Vis X.env.scope x) (hd : (x == ("__debug__" : Str)) = false) (hcd : (x == ("__classdict__" : Str)) = false)
    (h : (match δ[i]? with | some (.val d) => some (Re.ok d .strong) | some (.own d) => some (.ok d .top) | some (.ot d) => some (.ok d .weak) | _ => none) = some r) : PE X (.Name x pos) (dE X.D E δ r) :=
  (pe_var hN hv hd hcd).weak fun σ H Q ⟨O, W, R, p⟩ => by
    split at h
    · rename_i d q
      cases h
      obtain ⟨v, e1, e2⟩ := R.val i d q
      exact ⟨v, e1, p v H (Same.refl H) e2⟩
    · rename_i d q
      cases h
      obtain ⟨a, xs, ds, e0, e1, e2, e3, e4⟩ := R.own i d q
      subst e0
      refine ⟨.ref a, e1, p _ H (Same.refl H) ⟨a, xs, rfl, e2, ?_, e4⟩⟩
      rw [wo_out (R.hid.dj a e2)]
      exact e3
    · rename_i d q
      cases h
      obtain ⟨⟨t, ts, p1, xs, ds, es, e0, e1, e2, e3, e4, e5, e6, e7⟩, _⟩ := R.ot i d q
      subst e0
      have up : Same (L2.wo (O ++ W) H) (L2.wo O H) := wo_sub sub_l
      refine ⟨.ref t, e1, p _ H (Same.refl H) (rep_tup.mpr ⟨t, _, rfl, up.tseq e2, repL_cons.mpr ⟨_, _, rfl, rep_lst.mpr ⟨p1, xs, rfl, ?_, e5.mono up⟩, e6.mono up⟩⟩ : Rep X.D (L2.wo O H) (.tup (.lst ds :: es)) (.ref t))⟩
      rw [wo_out (R.hid.dj p1 e3)]
      exact e4
    · cases h
theorem snd_int {i : Int} {j : Nat} : PE X (.Constant (.int i) j pos) (dE X.D E δ (.ok (.int i) .strong)) := pe_int.weak fun σ H Q ⟨O, W, R, p⟩ => p _ H (Same.refl H) got_int
theorem snd_bl {i : Bool} {j : Nat} : PE X (.Constant (.bool i) j pos) (dE X.D E δ (.ok (.bl i) .strong)) := pe_bl.weak fun σ H Q ⟨O, W, R, p⟩ => p _ H (Same.refl H) got_bl
theorem snd_str {i : Str} {j : Nat} (h : i.length ≤ sizeLine) : PE X (.Constant (.str i) j pos) (dE X.D E δ (.ok (.str i) .strong)) := pe_str.weak fun σ H Q ⟨O, W, R, p⟩ => p _ H (Same.refl H) (rep_str.mpr ⟨rfl, h⟩ : Rep X.D (L2.wo (O ++ W) H) (.str i) (.str i))
theorem snd_non {j : Nat} : PE X (.Constant .none j pos) (dE X.D E δ (.ok .non .strong)) := pe_non.weak fun σ H Q ⟨O, W, R, p⟩ => p _ H (Same.refl H) got_non
end

/-! ### operators -/
section
variable {X : Cx} {E : St → XK} {δ : List Sv} {a b c e : Expr} {pos : Pos} {ra rb : Option Re} {re : Re}
theorem rI_of {O W : List Addr} {H0 H : Hp} {C : Int → Int → Prop} {g : Int → Int → V} {x y : V} {Q : VK} {i j : Int} {ca cb : Cl} {D : Dm} (hd : Hid O W H0 H) (gx : Got D O W H0 H (.int i) ca x) (gy : Got D O W H0 H (.int j) cb y) (hc : C i j) (q : Q (g i j) H) : rI C g x y H Q :=
  ⟨i, j, gx.int hd, gy.int hd, hc, q⟩
theorem rI0_of {O W : List Addr} {H0 H : Hp} {g : Int → Int → V} {x y : V} {Q : VK} {i j : Int} {ca cb : Cl} {D : Dm} (hd : Hid O W H0 H) (gx : Got D O W H0 H (.int i) ca x) (gy : Got D O W H0 H (.int j) cb y) (q : Q (g i j) H) : rI0 g x y H Q :=
  ⟨i, j, gx.int hd, gy.int hd, q⟩
theorem anew_of {ca cb : Cl} (h : ca ≠ .weak) (h' : cb ≠ .weak) : Cl.anew ca cb = .fresh := by
  cases ca <;> cases cb <;> first | rfl | exact absurd rfl h | exact absurd rfl h'
/-- which rule the values want -/
def binR (X : Cx) : Operator → R2
  | .Add => fun x y H Q => rI0 (fun i j => .int (i + j)) x y H Q ∨ rCat x y H Q ∨ rCatT X.K x y H Q
  | .Sub => rI0 fun i j => .int (i - j)
  | .Mult => fun x y H Q => rI CMul (fun i j => .int (i * j)) x y H Q ∨ rRep x y H Q
  | .Mod => rI (fun _ j => 0 < j) fun i j => .int (i % j)
  | .FloorDiv => rI CDiv fun i j => .int (i / j)
  | .LShift => rI CPow fun i j => .int (i * 2 ^ j.toNat)
  | .RShift => rI (fun _ j => 0 ≤ j) fun i j => .int (i / 2 ^ j.toNat)
  | .BitAnd => rI0 fun i j => .int (Builtin.bitAnd i j)
  | .BitOr => rI0 fun i j => .int (Builtin.bitOr i j)
  | .BitXor => rI0 fun i j => .int (Builtin.bitXor i j)
  | _ => fun _ _ _ _ => False
theorem op_bin {op : Operator} : OpR X (binaryOp op) (binR X op) := by
  cases op with
  | Add => exact op_add.or (op_cat.or op_catT)
  | Sub => exact op_sub
  | Mult => exact op_mul.or op_rep
  | Mod => exact op_mod
  | FloorDiv => exact op_fdiv
  | LShift => exact op_shl
  | RShift => exact op_shr
  | BitAnd => exact op_and
  | BitOr => exact op_or
  | BitXor => exact op_xor
  | MatMult => exact fun _ _ _ _ _ _ _ _ _ _ _ _ h => h.elim
  | Div => exact fun _ _ _ _ _ _ _ _ _ _ _ _ h => h.elim
  | Pow => exact fun _ _ _ _ _ _ _ _ _ _ _ _ h => h.elim
theorem bin_ok {O W : List Addr} {H0 H : Hp} {op : Operator} {x y : V} {dx dy : DV} {cx cy : Cl} {Q : VK} {σ : St} (h : binD op dx dy cx cy = some re) (hd : Hid O W H0 H) (gx : Got X.D O W H0 H dx cx x) (gy : Got X.D O W H0 H dy cy y)
    (p : Post X.D E σ O W H0 H Q re) : binR X op x y H Q := by
  unfold binD at h
  split at h
  · cases h; exact .inl (rI0_of hd gx gy (p _ H (Same.refl H) got_int))
  · cases h; exact rI0_of hd gx gy (p _ H (Same.refl H) got_int)
  · split at h
    · rename_i m
      cases h
      refine .inl (rI_of hd gx gy ?_ (p _ H (Same.refl H) got_int))
      unfold mulOk at m
      simp only [Bool.or_eq_true, Bool.and_eq_true, decide_eq_true_eq] at m
      exact m
    · cases h
  · split at h
    · rename_i m; cases h; exact rI_of hd gx gy m (p _ H (Same.refl H) got_int)
    · cases h
  · split at h
    · rename_i m; cases h; exact rI_of hd gx gy m (p _ H (Same.refl H) got_int)
    · cases h
  · split at h
    · rename_i m; cases h; exact rI_of hd gx gy m (p _ H (Same.refl H) got_int)
    · cases h
  · split at h
    · rename_i m; cases h; exact rI_of hd gx gy m (p _ H (Same.refl H) got_int)
    · cases h
  · cases h; exact rI0_of hd gx gy (p _ H (Same.refl H) got_int)
  · cases h; exact rI0_of hd gx gy (p _ H (Same.refl H) got_int)
  · cases h; exact rI0_of hd gx gy (p _ H (Same.refl H) got_int)
  · rename_i xs ys
    split at h
    · rename_i m
      cases h
      by_cases hw : cx ≠ .weak ∧ cy ≠ .weak
      · obtain ⟨l1, v1, e1, k1, r1⟩ := gx.items hd hw.1
        obtain ⟨l2, v2, e2, k2, r2⟩ := gy.items hd hw.2
        refine .inr (.inl ⟨l1, l2, v1, v2, e1, e2, k1, k2, by rw [r1.length, r2.length]; exact len_line m, fun q hq => p _ _ (same_upd hq) ?_⟩)
        rw [anew_of hw.1 hw.2]
        exact got_new hd hq (r1.append r2)
      · obtain ⟨l1, v1, e1, k1, r1⟩ := gx.lst hd
        obtain ⟨l2, v2, e2, k2, r2⟩ := gy.lst hd
        refine .inr (.inl ⟨l1, l2, v1, v2, e1, e2, k1, k2, by rw [r1.length, r2.length]; exact len_line m, fun q hq => p _ _ (same_upd hq) ?_⟩)
        have : Cl.anew cx cy = .weak := by
          cases cx <;> cases cy <;> first | rfl | exact absurd ⟨(by intro z; cases z), (by intro z; cases z)⟩ hw
        rw [this]
        exact got_newW hd hq (r1.append r2)
    · cases h
  · rename_i xs ys
    split at h
    · rename_i m
      cases h
      by_cases hw : cx ≠ .weak ∧ cy ≠ .weak
      · obtain ⟨l1, v1, e1, k1, r1⟩ := gx.itemsT hd hw.1
        obtain ⟨l2, v2, e2, k2, r2⟩ := gy.itemsT hd hw.2
        have cl : (Cl.anew cx cy).notF = .strong := by rw [anew_of hw.1 hw.2]; rfl
        rw [cl] at p
        refine .inr (.inr ⟨l1, l2, v1, v2, e1, e2, k1, k2, fun z => m.2 (by have := r1.length; rw [z] at this; exact List.length_eq_zero_iff.mp this.symm), by rw [r1.length, r2.length]; exact len_line m.1, fun z => ?_, fun _ q hq => p _ _ (same_upd hq) (got_tup hd hq (r1.append r2))⟩)
        refine p _ _ (Same.refl _) ?_
        have z2 : ys = [] := by have := r2.length; rw [z] at this; exact List.length_eq_zero_iff.mp this.symm
        subst z2
        rw [List.append_nil]
        cases cx with
        | weak => exact absurd rfl hw.1
        | top => rw [← e1]; exact gx
        | strong => rw [← e1]; exact gx
        | fresh => obtain ⟨_, _, _, _, q, _⟩ := gx; cases q
        | ft => rw [← e1]; exact gx.ft hd
      · obtain ⟨l1, v1, e1, k1, r1⟩ := gx.tup hd
        obtain ⟨l2, v2, e2, k2, r2⟩ := gy.tup hd
        have cl : (Cl.anew cx cy).notF = .weak := by
          cases cx <;> cases cy <;> first | rfl | exact absurd ⟨(by intro z; cases z), (by intro z; cases z)⟩ hw
        rw [cl] at p
        refine .inr (.inr ⟨l1, l2, v1, v2, e1, e2, k1, k2, fun z => m.2 (by have := r1.length; rw [z] at this; exact List.length_eq_zero_iff.mp this.symm), by rw [r1.length, r2.length]; exact len_line m.1, fun z => ?_, fun _ q hq => p _ _ (same_upd hq) (got_tupW hd hq (r1.append r2))⟩)
        refine p _ _ (Same.refl _) ?_
        have z2 : ys = [] := by have := r2.length; rw [z] at this; exact List.length_eq_zero_iff.mp this.symm
        subst z2
        rw [List.append_nil, ← e1]
        exact gx.weak hd
    · cases h
  · rename_i xs k
    split at h
    · rename_i m
      cases h
      obtain ⟨l1, v1, e1, k1, r1⟩ := gx.lstC hd
      refine .inr ⟨l1, k, v1, e1, gy.int hd, k1, m.2.1, m.2.2, by rw [r1.length]; exact len_line m.1, fun q hq => p _ _ (same_upd hq) (got_newC hd hq (r1.rep _))⟩
    · cases h
  · cases h
theorem snd_bin {op : Operator} (ha : ∀ q, ra = some q → PE X a (dE X.D E δ q)) (hb : ∀ q, rb = some q → PE X b (dE X.D E δ q)) (h : (Re.thn ra fun x cx => Re.thn rb fun y cy => binD op x y cx cy) = some re) : PE X (.BinOp a op b pos) (dE X.D E δ re) :=
  snd_op (fun _ _ => pe_op op_bin) ha hb h fun O W H0 H x y Q dx cx dy cy σ k hd gx gy p => bin_ok k hd gx gy p
theorem snd_neg (ha : ∀ q, ra = some q → PE X a (dE X.D E δ q)) (h : (Re.thn ra fun x _ => match x with | .int i => some (.ok (.int (-i)) .strong) | _ => none) = some re) : PE X (.UnaryOp .USub a pos) (dE X.D E δ re) :=
  snd_un (fun _ => pe_un un_neg) ha h fun O W H0 H x Q dx cx σ k hd gx p => by
    split at k
    · cases k; exact ⟨_, gx.int hd, p _ H (Same.refl H) got_int⟩
    · cases k
theorem snd_inv (ha : ∀ q, ra = some q → PE X a (dE X.D E δ q)) (h : (Re.thn ra fun x _ => match x with | .int i => some (.ok (.int (Builtin.bitNot i)) .strong) | _ => none) = some re) : PE X (.UnaryOp .Invert a pos) (dE X.D E δ re) :=
  snd_un (fun _ => pe_un un_inv) ha h fun O W H0 H x Q dx cx σ k hd gx p => by
    split at k
    · cases k; exact ⟨_, gx.int hd, p _ H (Same.refl H) got_int⟩
    · cases k
/-! ### indexes and slices -/
theorem atD_eq {ds : List DV} {i : Int} : atD ds i = L2.atI ds i := rfl
theorem RepL.atI {D : Dm} {H : Hp} {ds : List DV} {xs : List V} {i : Int} {d : DV} (h : RepL D H ds xs) (e : atD ds i = some d) : ∃ v, L2.atI xs i = some v ∧ Rep D H d v := by
  rw [atD_eq] at e
  unfold L2.atI at e ⊢
  rw [h.length]
  cases q : ixN ds.length i with
  | none => rw [q] at e; cases e
  | some j =>
    rw [q] at e
    exact h.get e
theorem ix_ok {O W : List Addr} {H0 H : Hp} {x y : V} {dx dy : DV} {cx cy : Cl} {Q : VK} {σ : St} (h : ((ixD dx dy).map fun d => Re.ok d cx.item) = some re) (hd : Hid O W H0 H) (gx : Got X.D O W H0 H dx cx x) (gy : Got X.D O W H0 H dy cy y)
    (p : Post X.D E σ O W H0 H Q re) : rIx X.K x y H Q := by
  obtain ⟨d, h1, h2⟩ := Option.map_eq_some_iff.mp h
  cases h2
  unfold ixD at h1
  split at h1
  · rename_i ns i
    obtain ⟨a, e1, e2⟩ := rep_scr.mp (gx.all hd)
    obtain ⟨n, h3, h4⟩ := Option.map_eq_some_iff.mp h1
    cases h4
    have q : L2.atI (ns.map V.int) i = some (.int n) := by
      unfold L2.atI
      rw [List.length_map]
      have h3' : ((ixN ns.length i).bind fun j => ns[j]?) = some n := h3
      cases z : ixN ns.length i with
      | none => rw [z] at h3'; cases h3'
      | some j =>
        rw [z] at h3'
        have h5 : ns[j]? = some n := h3'
        show (ns.map V.int)[j]? = _
        rw [List.getElem?_map, h5]; rfl
    refine .inl ⟨a, _, i, _, e1, gy.int hd, e2.sq, q, p _ H (Same.refl H) ?_⟩
    cases cx <;> exact got_int
  · obtain ⟨a, xs, e1, e2, e3⟩ := gx.lstC hd
    obtain ⟨v, q1, q2⟩ := e3.atI h1
    exact .inl ⟨a, xs, _, v, e1, gy.int hd, SqL.of e2, q1, p _ H (Same.refl H) (Got.item q2)⟩
  · obtain ⟨a, xs, e1, e2, e3⟩ := gx.tupC hd
    obtain ⟨v, q1, q2⟩ := e3.atI h1
    exact .inr (.inl ⟨a, xs, _, v, e1, gy.int hd, e2, q1, p _ H (Same.refl H) (Got.item q2)⟩)
  · rename_i z i
    obtain ⟨e1, e2⟩ := gx.str hd
    cases q : ixNat z.cps.size i with
    | none => rw [q] at h1; cases h1
    | some j =>
      rw [q] at h1
      obtain ⟨ch, h3, h4⟩ := Option.map_eq_some_iff.mp (show ((z.cps[j]?).map fun c => DV.str ⟨#[c]⟩) = some d from h1)
      cases h4
      refine .inr (.inr ⟨z, i, ch, e1, gy.int hd, e2, ?_, p _ H (Same.refl H) ?_⟩)
      · unfold L2.atI
        have : ixN z.cps.toList.length i = some j := by rw [Array.length_toList]; exact q
        rw [this]
        show z.cps.toList[j]? = some ch
        rw [Array.getElem?_toList]; exact h3
      · have one : Rep X.D (L2.wo (O ++ W) H) (.str ⟨#[ch]⟩) (.str ⟨#[ch]⟩) := rep_str.mpr ⟨rfl, by show (1 : Nat) ≤ sizeLine; decide⟩
        have one' : Rep X.D (L2.wo O H) (.str ⟨#[ch]⟩) (.str ⟨#[ch]⟩) := rep_str.mpr ⟨rfl, by show (1 : Nat) ≤ sizeLine; decide⟩
        cases cx <;> first | exact one | exact one'
  · rename_i ks vs k
    exact absurd (gx.all hd) rep_dct
  · cases h1
theorem snd_ix (ha : ∀ q, ra = some q → PE X a (dE X.D E δ q)) (hb : ∀ q, rb = some q → PE X b (dE X.D E δ q)) (hs : isSlice b = false) (h : (Re.thn ra fun x cx => Re.thn rb fun y _ => (ixD x y).map fun d => .ok d cx.item) = some re) : PE X (.Subscript a b pos) (dE X.D E δ re) :=
  snd_op (fun _ _ h1 h2 => pe_ix ix_seq h1 h2 (by cases b <;> first | (intro _ _; rfl) | cases hs)) ha hb h fun O W H0 H x y Q dx cx dy cy σ k hd gx gy p => ix_ok k hd gx gy p
theorem slIx_eq (n d : Nat) (o : Option Int) : slIx n d o = HT.sIx n d o := by cases o <;> rfl
theorem RepL.cut {D : Dm} {H : Hp} {ds : List DV} {xs : List V} (h : RepL D H ds xs) (lo hi : Option Int) : RepL D H (cutD ds lo hi) (cutV xs lo hi) := by
  unfold cutD cutV
  rw [slIx_eq, slIx_eq, ← h.length]
  exact (h.drop _).take _
/-- the slice of a value: lo, hi are told -/
theorem sl_ok {O W : List Addr} {H0 H : Hp} {x : V} {dx : DV} {cx : Cl} {Q : VK} {σ : St} {lo hi : Option Int} (h : ((slD dx lo hi).map fun d => Re.ok d (slCl dx cx)) = some re) (hd : Hid O W H0 H) (gx : Got X.D O W H0 H dx cx x)
    (p : Post X.D E σ O W H0 H Q re) : rSlL X.K x lo hi H Q ∨ rSlT X.K x lo hi H Q := by
  obtain ⟨d, h1, h2⟩ := Option.map_eq_some_iff.mp h
  cases h2
  unfold slD at h1
  split at h1
  · rename_i ns
    cases h1
    obtain ⟨a, e1, e2⟩ := rep_scr.mp (gx.all hd)
    exact .inl ⟨a, _, e1, e2.sq, fun q hq => p _ _ (same_upd hq) (got_new hd hq ((repL_ints ns).cut lo hi))⟩
  · cases h1
    obtain ⟨a, xs, e1, e2, e3⟩ := gx.lstC hd
    exact .inl ⟨a, xs, e1, SqL.of e2, fun q hq => p _ _ (same_upd hq) (got_newC hd hq (e3.cut lo hi))⟩
  · rename_i ds
    split at h1
    · cases h1
    · rename_i m
      cases h1
      obtain ⟨a, xs, e1, e2, e3⟩ := gx.tupC hd
      refine .inr ⟨a, xs, e1, e2, ?_, fun q hq => p _ _ (same_upd hq) (got_tupC hd hq (e3.cut lo hi))⟩
      rw [slIx_eq, slIx_eq, ← e3.length] at m
      exact m
  · cases h1
theorem sl_any : SlR X (fun x lo hi H Q => rSlL X.K x lo hi H Q ∨ rSlT X.K x lo hi H Q) := sl_list.or sl_tup
/-- a part of a slice: left out, or an int -/
theorem po_int {i : Int} {cl : Cl} (h : PE X b (dE X.D E δ (.ok (.int i) cl))) : PO X (some b) (fun σ H Q => ∃ O W, RSt X.D H σ δ O W ∧ ∀ H', Same H H' → Q (some i) H') := fun pins s σ H Q I ⟨O, W, R, p⟩ =>
  po_some h pins s σ H Q I ⟨O, W, R, fun v H' s1 g => ⟨i, g.int (R.hid.mono s1), p H' s1⟩⟩
theorem po_ex {c : Str} (h : PE X b (dE X.D E δ (.ex c))) : PO X (some b) (fun σ H Q => ∃ O W, RSt X.D H σ δ O W ∧ Post X.D E σ O W H H (fun _ _ => False) (.ex c)) := fun pins s σ H Q I ⟨O, W, R, p⟩ =>
  po_some h pins s σ H Q I ⟨O, W, R, p⟩
theorem po_never {o : Option Expr} : PO X o (fun _ _ _ => False) := fun _ _ _ _ _ _ h => h.elim
theorem snd_slf {p2 : Pos} (ha : ∀ q, ra = some q → PE X a (dE X.D E δ q)) (hb : ∀ q, rb = some q → PE X b (dE X.D E δ q)) (h : (Re.thn ra fun x cx => Re.thn rb fun l _ => match l with
    | .int l => (slD x (some l) none).map fun d => .ok d (slCl x cx) | _ => none) = some re) : PE X (.Subscript a (.Slice (some b) none none p2) pos) (dE X.D E δ re) := by
  cases hra : ra with
  | none => rw [hra] at h; cases h
  | some q =>
    rw [hra] at h
    have A := ha q hra
    cases q with
    | ex c => cases h; exact (pe_slice sl_any A po_never po_none).weak fun σ H Q ⟨O, W, R, p⟩ => ⟨O, W, R, p⟩
    | ok dx cx =>
      cases hrb : rb with
      | none => rw [hrb] at h; cases h
      | some q =>
        rw [hrb] at h
        have B := hb q hrb
        cases q with
        | ex c => cases h; exact (pe_slice sl_any A (po_ex B) po_none).weak fun σ H Q ⟨O, W, R, p⟩ => ⟨O, W, R, fun x H1 s1 g1 => ⟨O, W, R.mono s1, fun H' C m s => p H' C m (s1.trans s)⟩⟩
        | ok dy cy =>
          have h' : (match (generalizing := false) dy with | .int l => (slD dx (some l) none).map fun d => Re.ok d (slCl dx cx) | _ => none) = some re := h
          split at h'
          · rename_i l
            exact (pe_slice sl_any A (po_int B) po_none).weak fun σ H Q ⟨O, W, R, p⟩ => ⟨O, W, R, fun x H1 s1 g1 => ⟨O, W, R.mono s1, fun H2 s2 => sl_ok h' ((R.hid.mono s1).mono s2) (g1.mono s2) (p.step (s1.trans s2))⟩⟩
          · cases h'
theorem snd_slt {p2 : Pos} (ha : ∀ q, ra = some q → PE X a (dE X.D E δ q)) (hb : ∀ q, rb = some q → PE X b (dE X.D E δ q)) (h : (Re.thn ra fun x cx => Re.thn rb fun l _ => match l with
    | .int l => (slD x none (some l)).map fun d => .ok d (slCl x cx) | _ => none) = some re) : PE X (.Subscript a (.Slice none (some b) none p2) pos) (dE X.D E δ re) := by
  cases hra : ra with
  | none => rw [hra] at h; cases h
  | some q =>
    rw [hra] at h
    have A := ha q hra
    cases q with
    | ex c => cases h; exact (pe_slice sl_any A po_none po_never).weak fun σ H Q ⟨O, W, R, p⟩ => ⟨O, W, R, p⟩
    | ok dx cx =>
      cases hrb : rb with
      | none => rw [hrb] at h; cases h
      | some q =>
        rw [hrb] at h
        have B := hb q hrb
        cases q with
        | ex c => cases h; exact (pe_slice sl_any A po_none (po_ex B)).weak fun σ H Q ⟨O, W, R, p⟩ => ⟨O, W, R, fun x H1 s1 g1 => ⟨O, W, R.mono s1, fun H' C m s => p H' C m (s1.trans s)⟩⟩
        | ok dy cy =>
          have h' : (match (generalizing := false) dy with | .int l => (slD dx none (some l)).map fun d => Re.ok d (slCl dx cx) | _ => none) = some re := h
          split at h'
          · rename_i l
            exact (pe_slice sl_any A po_none (po_int B)).weak fun σ H Q ⟨O, W, R, p⟩ => ⟨O, W, R, fun x H1 s1 g1 => ⟨O, W, R.mono s1, fun H2 s2 => sl_ok h' ((R.hid.mono s1).mono s2) (g1.mono s2) (p.step (s1.trans s2))⟩⟩
          · cases h'
theorem snd_sl {p2 : Pos} {rc : Option Re} (ha : ∀ q, ra = some q → PE X a (dE X.D E δ q)) (hb : ∀ q, rb = some q → PE X b (dE X.D E δ q)) (hc : ∀ q, rc = some q → PE X c (dE X.D E δ q)) (h : (Re.thn ra fun x cx => Re.thn rb fun l _ => match l with
    | .int l => Re.thn rc fun u _ => (match u with
      | .int u => (slD x (some l) (some u)).map fun d => .ok d (slCl x cx) | _ => none) | _ => none) = some re) : PE X (.Subscript a (.Slice (some b) (some c) none p2) pos) (dE X.D E δ re) := by
  cases hra : ra with
  | none => rw [hra] at h; cases h
  | some q =>
    rw [hra] at h
    have A := ha q hra
    cases q with
    | ex c => cases h; exact (pe_slice sl_any A po_never po_never).weak fun σ H Q ⟨O, W, R, p⟩ => ⟨O, W, R, p⟩
    | ok dx cx =>
      cases hrb : rb with
      | none => rw [hrb] at h; cases h
      | some q =>
        rw [hrb] at h
        have B := hb q hrb
        cases q with
        | ex c => cases h; exact (pe_slice sl_any A (po_ex B) po_never).weak fun σ H Q ⟨O, W, R, p⟩ => ⟨O, W, R, fun x H1 s1 g1 => ⟨O, W, R.mono s1, fun H' C m s => p H' C m (s1.trans s)⟩⟩
        | ok dy cy =>
          have h' : (match (generalizing := false) dy with | .int l => Re.thn rc fun u _ => (match u with | .int u => (slD dx (some l) (some u)).map fun d => Re.ok d (slCl dx cx) | _ => none) | _ => none) = some re := h
          split at h'
          · rename_i l
            cases hrc : rc with
            | none => rw [hrc] at h'; cases h'
            | some q =>
              rw [hrc] at h'
              have C := hc q hrc
              cases q with
              | ex c' =>
                cases h'
                exact (pe_slice sl_any A (po_int B) (po_ex C)).weak fun σ H Q ⟨O, W, R, p⟩ => ⟨O, W, R, fun x H1 s1 g1 => ⟨O, W, R.mono s1, fun H2 s2 => ⟨O, W, (R.mono s1).mono s2, fun H' C m s => p H' C m (s1.trans (s2.trans s))⟩⟩⟩
              | ok dz cz =>
                have h2 : (match (generalizing := false) dz with | .int u => (slD dx (some l) (some u)).map fun d => Re.ok d (slCl dx cx) | _ => none) = some re := h'
                split at h2
                · rename_i u
                  exact (pe_slice sl_any A (po_int B) (po_int C)).weak fun σ H Q ⟨O, W, R, p⟩ => ⟨O, W, R, fun x H1 s1 g1 => ⟨O, W, R.mono s1, fun H2 s2 => ⟨O, W, (R.mono s1).mono s2, fun H3 s3 => sl_ok h2 (((R.hid.mono s1).mono s2).mono s3) ((g1.mono s2).mono s3) (p.step (s1.trans (s2.trans s3)))⟩⟩⟩
                · cases h2
          · cases h'
end
end L2

end
section

set_option Elab.async false
set_option linter.all false
set_option maxRecDepth 100000
set_option maxHeartbeats 4000000

/-! Expressions, on: comparisons, tests, displays, calls. -/
namespace L2
open PySem PySem.Spec PyProof.Rows

/-! ### == -/
mutual
def toP : DV → PyData
  | .non => .none | .bl b => .bool b | .int i => .int i | .str x => .str x
  | .tup ds => .tuple (toPs ds) | .lst ds => .list (toPs ds)
  | _ => .none
def toPs : List DV → List PyData
  | [] => []
  | d :: r => toP d :: toPs r
end
mutual
theorem deq_eqv : ∀ (n m : Nat) (d e : DV), d.plain n = true → e.plain m = true → PyData.eqv (toP d) (toP e) = deq d e
  | n, m, .non, e, _, h => by cases e <;> first | (cases m <;> simp [DV.plain] at h; done) | (simp only [toP, PyData.eqv, deq])
  | n, m, .bl _, e, _, h => by cases e <;> first | (cases m <;> simp [DV.plain] at h; done) | (simp only [toP, PyData.eqv, deq])
  | n, m, .int _, e, _, h => by cases e <;> first | (cases m <;> simp [DV.plain] at h; done) | (simp only [toP, PyData.eqv, deq])
  | n, m, .str x, e, _, h => by
    cases e with
    | str y => simp only [toP, PyData.eqv, deq]; rfl
    | non => simp only [toP, PyData.eqv, deq]
    | bl _ => simp only [toP, PyData.eqv, deq]
    | int _ => simp only [toP, PyData.eqv, deq]
    | tup _ => simp only [toP, PyData.eqv, deq]
    | lst _ => simp only [toP, PyData.eqv, deq]
    | dct _ _ => cases m <;> simp [DV.plain] at h
    | exc _ => cases m <;> simp [DV.plain] at h
    | fn _ => cases m <;> simp [DV.plain] at h
    | scr _ => cases m <;> simp [DV.plain] at h
  | 0, _, .tup _, _, h, _ => by simp [DV.plain] at h
  | 0, _, .lst _, _, h, _ => by simp [DV.plain] at h
  | n + 1, m, .tup ds, e, h, h' => by
    cases e with
    | tup es =>
      cases m with
      | zero => simp [DV.plain] at h'
      | succ m =>
        simp only [toP, PyData.eqv, deq]
        exact deqs_eqv n m ds es (by simpa [DV.plain] using h) (by simpa [DV.plain] using h')
    | non => simp only [toP, PyData.eqv, deq]
    | bl _ => simp only [toP, PyData.eqv, deq]
    | int _ => simp only [toP, PyData.eqv, deq]
    | str _ => simp only [toP, PyData.eqv, deq]
    | lst _ => simp only [toP, PyData.eqv, deq]
    | dct _ _ => cases m <;> simp [DV.plain] at h'
    | exc _ => cases m <;> simp [DV.plain] at h'
    | fn _ => cases m <;> simp [DV.plain] at h'
    | scr _ => cases m <;> simp [DV.plain] at h'
  | n + 1, m, .lst ds, e, h, h' => by
    cases e with
    | lst es =>
      cases m with
      | zero => simp [DV.plain] at h'
      | succ m =>
        simp only [toP, PyData.eqv, deq]
        exact deqs_eqv n m ds es (by simpa [DV.plain] using h) (by simpa [DV.plain] using h')
    | non => simp only [toP, PyData.eqv, deq]
    | bl _ => simp only [toP, PyData.eqv, deq]
    | int _ => simp only [toP, PyData.eqv, deq]
    | str _ => simp only [toP, PyData.eqv, deq]
    | tup _ => simp only [toP, PyData.eqv, deq]
    | dct _ _ => cases m <;> simp [DV.plain] at h'
    | exc _ => cases m <;> simp [DV.plain] at h'
    | fn _ => cases m <;> simp [DV.plain] at h'
    | scr _ => cases m <;> simp [DV.plain] at h'
  | n, _, .dct _ _, _, h, _ => by cases n <;> simp [DV.plain] at h
  | n, _, .exc _, _, h, _ => by cases n <;> simp [DV.plain] at h
  | n, _, .fn _, _, h, _ => by cases n <;> simp [DV.plain] at h
  | n, _, .scr _, _, h, _ => by cases n <;> simp [DV.plain] at h
theorem deqs_eqv : ∀ (n m : Nat) (ds es : List DV), DV.plains n ds = true → DV.plains m es = true → PyData.eqvAll (toPs ds) (toPs es) = deqs ds es
  | _, _, [], [], _, _ => by simp only [toPs, PyData.eqvAll, deqs]
  | _, _, [], _ :: _, _, _ => by simp only [toPs, PyData.eqvAll, deqs]
  | _, _, _ :: _, [], _, _ => by simp only [toPs, PyData.eqvAll, deqs]
  | n, m, d :: ds, e :: es, h, h' => by
    simp only [DV.plains, Bool.and_eq_true] at h h'
    simp only [toPs, PyData.eqvAll, deqs, deq_eqv n m d e h.1 h'.1, deqs_eqv n m ds es h.2 h'.2]
end
mutual
theorem toP_lay : ∀ (n : Nat) (d : DV), d.plain n = true → (toP d).canLay0 = true ∧ (toP d).depth ≤ n
  | n, .non, _ => by simp [toP, PyData.canLay0, PyData.depth]
  | n, .bl _, _ => by simp [toP, PyData.canLay0, PyData.depth]
  | n, .int _, _ => by simp [toP, PyData.canLay0, PyData.depth]
  | n, .str x, h => by
    have h' : (x.cps.all (· < 0x110000)) = true := by cases n <;> simpa [DV.plain] using h
    simp only [toP, PyData.canLay0, PyData.depth]
    exact ⟨h', Nat.zero_le _⟩
  | 0, .tup _, h => by simp [DV.plain] at h
  | 0, .lst _, h => by simp [DV.plain] at h
  | n + 1, .tup ds, h => by
    have q := toPs_lay n ds (by simpa [DV.plain] using h)
    simp only [toP, PyData.canLay0, PyData.depth, q.1, true_and]
    have := q.2
    omega
  | n + 1, .lst ds, h => by
    have q := toPs_lay n ds (by simpa [DV.plain] using h)
    simp only [toP, PyData.canLay0, PyData.depth, q.1, true_and]
    have := q.2
    omega
  | n, .dct _ _, h => by cases n <;> simp [DV.plain] at h
  | n, .exc _, h => by cases n <;> simp [DV.plain] at h
  | n, .fn _, h => by cases n <;> simp [DV.plain] at h
  | n, .scr _, h => by cases n <;> simp [DV.plain] at h
theorem toPs_lay : ∀ (n : Nat) (ds : List DV), DV.plains n ds = true → PyData.canLayAll0 (toPs ds) = true ∧ PyData.depthAll (toPs ds) ≤ n
  | _, [], _ => by simp [toPs, PyData.canLayAll0, PyData.depthAll]
  | n, d :: ds, h => by
    simp only [DV.plains, Bool.and_eq_true] at h
    have q := toP_lay n d h.1
    have q' := toPs_lay n ds h.2
    simp only [toPs, PyData.canLayAll0, PyData.depthAll, q.1, q'.1, Bool.and_self, true_and]
    have a := q.2
    have b := q'.2
    omega
end
section
variable {X : Cx} {pins : List (Addr × Obj)} {σ : St} {H : Hp} {s : Shared}
mutual
theorem reads_of (I : Inv X pins σ H s) : ∀ (n : Nat) {d : DV} {v : V} {u : Value}, d.plain n = true → Rep X.D H d v → RelV v u → ∃ as, Reads s.heap u (toP d) as
  | _, .non, _, _, _, h, r => by rw [rep_non.mp h] at r; cases r; exact ⟨_, Reads.none⟩
  | _, .bl b, _, _, _, h, r => by rw [rep_bl.mp h] at r; cases r; exact ⟨_, Reads.bool b⟩
  | _, .int i, _, _, _, h, r => by rw [rep_int.mp h] at r; obtain ⟨t, rfl⟩ := r; exact ⟨_, Reads.int i t⟩
  | _, .str x, _, _, _, h, r => by rw [(rep_str.mp h).1] at r; obtain ⟨t, rfl⟩ := r; exact ⟨_, Reads.str x t⟩
  | 0, .tup _, _, _, p, _, _ => by simp [DV.plain] at p
  | 0, .lst _, _, _, p, _, _ => by simp [DV.plain] at p
  | n + 1, .tup ds, _, _, p, h, r => by
    obtain ⟨a, xs, e1, e2, e3⟩ := rep_tup.mp h
    rw [e1] at r; cases r
    obtain ⟨its, rv, ⟨o, h1, h2, k, h3⟩, _⟩ := I.tuple e2
    obtain ⟨as, q⟩ := readsL_of I n (by simpa [DV.plain] using p) e3 rv
    rw [toP]
    exact ⟨as, Reads.tuple h1 h2 h3 (by simpa using q)⟩
  | n + 1, .lst ds, _, _, p, h, r => by
    obtain ⟨a, xs, e1, e2, e3⟩ := rep_lst.mp h
    rw [e1] at r; cases r
    obtain ⟨_, its, k, rv, _, h1⟩ := I.lstM e2
    obtain ⟨as, q⟩ := readsL_of I n (by simpa [DV.plain] using p) e3 rv
    rw [toP]
    exact ⟨_, Reads.list h1 rfl rfl (by simpa using q)⟩
  | n, .dct _ _, _, _, h, _, _ => by cases n <;> simp [DV.plain] at h
  | n, .exc _, _, _, h, _, _ => by cases n <;> simp [DV.plain] at h
  | n, .fn _, _, _, h, _, _ => by cases n <;> simp [DV.plain] at h
  | n, .scr _, _, _, h, _, _ => by cases n <;> simp [DV.plain] at h
theorem readsL_of (I : Inv X pins σ H s) : ∀ (n : Nat) {ds : List DV} {vs : List V} {us : List Value}, DV.plains n ds = true → RepL X.D H ds vs → Vals vs us → ∃ as, ReadsAll s.heap us (toPs ds) as
  | _, [], _, _, _, h, r => by rw [repL_nil.mp h] at r; cases r; exact ⟨_, ReadsAll.nil⟩
  | n, d :: ds, _, _, p, h, r => by
    simp only [DV.plains, Bool.and_eq_true] at p
    obtain ⟨v, vs, e1, e2, e3⟩ := repL_cons.mp h
    subst e1
    cases r with
    | cons r1 r2 =>
      obtain ⟨as, q⟩ := reads_of I n p.1 e2 r1
      obtain ⟨bs, q'⟩ := readsL_of I n p.2 e3 r2
      rw [toPs]
      exact ⟨_, ReadsAll.cons q q'⟩
end
theorem shaped_of {d : DV} (h : d.plain 60 = true) : SeqAt.shaped (toP d) = true := by
  have q := toP_lay 60 d h
  unfold SeqAt.shaped
  rw [q.1, Bool.true_and]
  exact decide_eq_true (Nat.le_trans q.2 (by decide))
theorem any_eqv {d : DV} (h : d.plain 60 = true) : ∀ (ds : List DV), DV.plains 60 ds = true → ((toPs ds).any fun y => PyData.eqv y (toP d)) = ds.any fun x => deq x d
  | [], _ => rfl
  | e :: ds, p => by
    simp only [DV.plains, Bool.and_eq_true] at p
    rw [toPs, List.any_cons, List.any_cons, deq_eqv 60 60 e d p.1 h, any_eqv h ds p.2]
end

/-! ### comparisons -/
section
variable {X : Cx} {E : St → XK} {δ : List Sv} {a b c e : Expr} {pos : Pos} {ra rb rc : Option Re} {re : Re}
def cmpR (X : Cx) (op : CmpOp) : R2 := fun x y H Q => ∃ dx dy k, cmpD op dx dy = some k ∧ Rep X.D H dx x ∧ Rep X.D H dy y ∧ Q (.bl k) H
theorem isN_dv {D : Dm} {H : Hp} {d : DV} {v : V} (r : Rep D H d v) : decide (v = .non) = isN d := by
  cases d with
  | non => rw [rep_non.mp r]; rfl
  | bl _ => rw [rep_bl.mp r]; rfl
  | int _ => rw [rep_int.mp r]; rfl
  | str _ => rw [(rep_str.mp r).1]; rfl
  | tup _ => obtain ⟨a, xs, e, _⟩ := rep_tup.mp r; rw [e]; rfl
  | lst _ => obtain ⟨a, xs, e, _⟩ := rep_lst.mp r; rw [e]; rfl
  | exc _ => obtain ⟨a, C, e, _⟩ := rep_exc.mp r; rw [e]; rfl
  | fn _ => obtain ⟨a, e, _⟩ := rep_fn.mp r; rw [e]; rfl
  | scr _ => obtain ⟨a, e, _⟩ := rep_scr.mp r; rw [e]; rfl
  | dct _ _ => exact absurd r rep_dct
theorem op_cmp {op : CmpOp} (hu : X.A.units + 64 < cLine) : OpR X (compareOp op) (cmpR X op) := by
  intro pins s σ H x y v u Q I rx ry h
  obtain ⟨dx, dy, k, hk, r1, r2, q⟩ := h
  have fin : ∀ {k' : Bool}, k' = k → EP X pins σ Q (.bool k') s := fun {k'} e => ⟨.bl k', H, I, rfl, by rw [e]; exact q⟩
  unfold cmpD at hk
  split at hk
  · cases hk; exact op_lt pins s σ H x y v u Q I rx ry ⟨_, _, rep_int.mp r1, rep_int.mp r2, q⟩
  · cases hk; exact op_le pins s σ H x y v u Q I rx ry ⟨_, _, rep_int.mp r1, rep_int.mp r2, q⟩
  · cases hk; exact op_gt pins s σ H x y v u Q I rx ry ⟨_, _, rep_int.mp r1, rep_int.mp r2, q⟩
  · cases hk; exact op_ge pins s σ H x y v u Q I rx ry ⟨_, _, rep_int.mp r1, rep_int.mp r2, q⟩
  · split at hk
    · rename_i p
      rw [Bool.and_eq_true] at p
      cases hk
      obtain ⟨as, q1⟩ := reads_of I 60 p.1 r1 rx
      obtain ⟨bs, q2⟩ := reads_of I 60 p.2 r2 ry
      exact eq_dataH q1 q2 (shaped_of p.1) (shaped_of p.2) hu (fin (deq_eqv 60 60 _ _ p.1 p.2))
    · cases hk
  · split at hk
    · rename_i p
      rw [Bool.and_eq_true] at p
      cases hk
      obtain ⟨as, q1⟩ := reads_of I 60 p.1 r1 rx
      obtain ⟨bs, q2⟩ := reads_of I 60 p.2 r2 ry
      exact ne_dataH q1 q2 (shaped_of p.1) (shaped_of p.2) hu (fin (by rw [deq_eqv 60 60 _ _ p.1 p.2]))
    · cases hk
  · cases hk; exact op_isN pins s σ H x y v u Q I rx ry ⟨rep_non.mp r2, by rw [isN_dv r1]; exact q⟩
  · cases hk; exact op_notN pins s σ H x y v u Q I rx ry ⟨rep_non.mp r2, by rw [isN_dv r1]; exact q⟩
  · rename_i ds
    split at hk
    · rename_i p
      rw [Bool.and_eq_true] at p
      cases hk
      obtain ⟨as, q1⟩ := reads_of I 60 p.1 r1 rx
      obtain ⟨bs, q2⟩ := reads_of I 61 (d := .lst ds) (by simpa [DV.plain] using p.2) r2 ry
      rw [toP] at q2
      have l1 := toP_lay 60 _ p.1
      have l2 := toPs_lay 60 ds p.2
      have l3 := l1.2
      exact SeqAt.in_list_reads q2 q1 l2.1 l1.1 (by omega) (fin (any_eqv p.1 ds p.2))
    · cases hk
  · rename_i ds
    split at hk
    · rename_i p
      rw [Bool.and_eq_true] at p
      cases hk
      obtain ⟨as, q1⟩ := reads_of I 60 p.1 r1 rx
      obtain ⟨bs, q2⟩ := reads_of I 61 (d := .lst ds) (by simpa [DV.plain] using p.2) r2 ry
      rw [toP] at q2
      have l1 := toP_lay 60 _ p.1
      have l2 := toPs_lay 60 ds p.2
      have l3 := l1.2
      exact SeqAt.notIn_list_reads q2 q1 l2.1 l1.1 (by omega) (fin (by rw [any_eqv p.1 ds p.2]))
    · cases hk
  · rename_i ds
    split at hk
    · rename_i p
      rw [Bool.and_eq_true] at p
      cases hk
      obtain ⟨as, q1⟩ := reads_of I 60 p.1 r1 rx
      obtain ⟨bs, q2⟩ := reads_of I 61 (d := .tup ds) (by simpa [DV.plain] using p.2) r2 ry
      rw [toP] at q2
      have l1 := toP_lay 60 _ p.1
      have l2 := toPs_lay 60 ds p.2
      have l3 := l1.2
      exact SeqAt.in_tuple_reads q2 q1 l2.1 l1.1 (by omega) (fin (any_eqv p.1 ds p.2))
    · cases hk
  · rename_i ds
    split at hk
    · rename_i p
      rw [Bool.and_eq_true] at p
      cases hk
      obtain ⟨as, q1⟩ := reads_of I 60 p.1 r1 rx
      obtain ⟨bs, q2⟩ := reads_of I 61 (d := .tup ds) (by simpa [DV.plain] using p.2) r2 ry
      rw [toP] at q2
      have l1 := toP_lay 60 _ p.1
      have l2 := toPs_lay 60 ds p.2
      have l3 := l1.2
      exact SeqAt.notIn_tuple_reads q2 q1 l2.1 l1.1 (by omega) (fin (by rw [any_eqv p.1 ds p.2]))
    · cases hk
  · exact absurd r2 rep_dct
  · exact absurd r2 rep_dct
  · cases hk
theorem nomark_of {op : CmpOp} {b : Expr} (h : isSet b = false) : behindInMarks op b = false := by
  cases b <;> first | rfl | cases h
theorem snd_cmp {op : CmpOp} (hu : X.A.units + 64 < cLine) (ha : ∀ q, ra = some q → PE X a (dE X.D E δ q)) (hb : ∀ q, rb = some q → PE X b (dE X.D E δ q)) (hs : isSet b = false)
    (h : (Re.thn ra fun x _ => Re.thn rb fun y _ => (cmpD op x y).map fun k => .ok (.bl k) .strong) = some re) : PE X (.Compare a [op] [b] pos) (dE X.D E δ re) :=
  snd_op (fun _ _ h1 h2 => pe_cmpR (op_cmp hu) h1 h2 (nomark_of hs)) ha hb h fun O W H0 H x y Q dx cx dy cy σ k hd gx gy p => by
    obtain ⟨k', e1, e2⟩ := Option.map_eq_some_iff.mp k
    cases e2
    exact ⟨dx, dy, k', e1, gx.all hd, gy.all hd, p _ H (Same.refl H) got_bl⟩
theorem cmp_parts {op : CmpOp} (ha : ∀ q, ra = some q → PE X a (dE X.D E δ q)) (hb : ∀ q, rb = some q → PE X b (dE X.D E δ q))
    (h : (Re.thn ra fun x _ => Re.thn rb fun y _ => (cmpD op x y).map fun k => .ok (.bl k) .strong) = some re) : ∃ ta tb, PE X a ta ∧ PE X b tb ∧ ∀ σ H Q, dE X.D E δ re σ H Q → tOp (cmpR X op) ta tb σ H Q :=
  op_parts ha hb h fun O W H0 H x y Q dx cx dy cy σ k hd gx gy p => by
    obtain ⟨k', e1, e2⟩ := Option.map_eq_some_iff.mp k
    cases e2
    exact ⟨dx, dy, k', e1, gx.all hd, gy.all hd, p _ H (Same.refl H) got_bl⟩
/-- a test by the value's rule -/
theorem tst_dE {r : Rt} {σ : St} {H : Hp} {Q : Bool → Hp → Prop} (hb : ∀ d c, re = .ok d c → ∃ k, d = .bl k) (h : tstD (some re) = some r) (q : dT X.D E δ r σ H Q) : dE X.D E δ re σ H (fun x H' => ∃ k, x = .bl k ∧ Q k H') := by
  obtain ⟨O, W, R, p⟩ := q
  cases re with
  | ex c => cases h; exact ⟨O, W, R, p⟩
  | ok d c =>
    obtain ⟨k, rfl⟩ := hb d c rfl
    cases h
    exact ⟨O, W, R, fun v H' s g => ⟨k, g.bl (R.hid.mono s), p H' s⟩⟩
theorem cmp_bl {op : CmpOp} (h : (Re.thn ra fun x _ => Re.thn rb fun y _ => (cmpD op x y).map fun k => .ok (.bl k) .strong) = some re) : ∀ d c, re = .ok d c → ∃ k, d = .bl k := by
  intro d c e
  subst e
  cases ra with
  | none => cases h
  | some q =>
    cases q with
    | ex c => cases h
    | ok d c =>
      cases rb with
      | none => cases h
      | some q =>
        cases q with
        | ex c => cases h
        | ok d' c' =>
          obtain ⟨k, _, e⟩ := Option.map_eq_some_iff.mp (show ((cmpD op d d').map fun k => Re.ok (.bl k) .strong) = _ from h)
          cases e
          exact ⟨k, rfl⟩
theorem snd_tcmp {op : CmpOp} {r : Rt} (hu : X.A.units + 64 < cLine) (ha : ∀ q, ra = some q → PE X a (dE X.D E δ q)) (hb : ∀ q, rb = some q → PE X b (dE X.D E δ q)) (hs : isSet b = false)
    (h : tstD (Re.thn ra fun x _ => Re.thn rb fun y _ => (cmpD op x y).map fun k => .ok (.bl k) .strong) = some r) : PT X (.Compare a [op] [b] pos) (dT X.D E δ r) := by
  cases q : (Re.thn ra fun x _ => Re.thn rb fun y _ => (cmpD op x y).map fun k => Re.ok (.bl k) .strong) with
  | none => rw [q] at h; cases h
  | some re =>
    rw [q] at h
    obtain ⟨ta, tb, A, B, w⟩ := cmp_parts ha hb q
    exact (pt_cmpR (op_cmp hu) A B (nomark_of hs)).weak fun σ H Q z => w σ H _ (tst_dE (cmp_bl q) h z)
theorem lastMarks_of {op op' : CmpOp} {b c : Expr} (h : isSet c = false) : lastMarks [op, op'] [b, c] = false := by
  show behindInMarks op' c = false
  exact nomark_of h
theorem chain_parts {op op' : CmpOp} (ha : ∀ q, ra = some q → PE X a (dE X.D E δ q)) (hb : ∀ q, rb = some q → PE X b (dE X.D E δ q)) (hc : ∀ q, rc = some q → PE X c (dE X.D E δ q))
    (h : (Re.thn ra fun x _ => Re.thn rb fun y _ => match cmpD op x y with
      | none => none
      | some false => some (.ok (.bl false) .strong)
      | some true => Re.thn rc fun z _ => (cmpD op' y z).map fun k => .ok (.bl k) .strong) = some re) : ∃ ta tb tc, PE X a ta ∧ PE X b tb ∧ PE X c tc ∧ (∀ σ H Q, dE X.D E δ re σ H Q → tChain (cmpR X op) (cmpR X op') ta tb tc σ H Q) ∧ ∀ d cl, re = .ok d cl → ∃ k, d = .bl k := by
  cases hra : ra with
  | none => rw [hra] at h; cases h
  | some q =>
    rw [hra] at h
    have A := ha q hra
    cases q with
    | ex c => cases h; exact ⟨_, _, _, A, pe_none, pe_none, fun σ H Q ⟨O, W, R, p⟩ => ⟨O, W, R, p⟩, fun d cl z => nomatch z⟩
    | ok dx cx =>
      cases hrb : rb with
      | none => rw [hrb] at h; cases h
      | some q =>
        rw [hrb] at h
        have B := hb q hrb
        cases q with
        | ex c => cases h; exact ⟨_, _, _, A, B, pe_none, fun σ H Q ⟨O, W, R, p⟩ => ⟨O, W, R, fun x H1 s1 g1 => ⟨O, W, R.mono s1, fun H' C m s => p H' C m (s1.trans s)⟩⟩, fun d cl z => nomatch z⟩
        | ok dy cy =>
          have h' : (match (generalizing := false) cmpD op dx dy with
            | none => none
            | some false => some (Re.ok (.bl false) .strong)
            | some true => Re.thn rc fun z _ => (cmpD op' dy z).map fun k => .ok (.bl k) .strong) = some re := h
          split at h'
          · cases h'
          · rename_i e1
            cases h'
            exact ⟨_, _, _, A, B, pe_none, fun σ H Q ⟨O, W, R, p⟩ => ⟨O, W, R, fun x H1 s1 g1 => ⟨O, W, R.mono s1, fun y H2 s2 g2 =>
              ⟨dx, dy, false, e1, (g1.mono s2).all ((R.hid.mono s1).mono s2), g2.all ((R.mono s1).hid.mono s2), false, rfl, by rw [if_neg Bool.false_ne_true]; exact p _ _ (s1.trans s2) got_bl⟩⟩⟩, fun d cl z => by cases z; exact ⟨_, rfl⟩⟩
          · rename_i e1
            cases hrc : rc with
            | none => rw [hrc] at h'; cases h'
            | some q =>
              rw [hrc] at h'
              have C := hc q hrc
              cases q with
              | ex c' =>
                cases h'
                exact ⟨_, _, _, A, B, C, fun σ H Q ⟨O, W, R, p⟩ => ⟨O, W, R, fun x H1 s1 g1 => ⟨O, W, R.mono s1, fun y H2 s2 g2 =>
                  ⟨dx, dy, true, e1, (g1.mono s2).all ((R.hid.mono s1).mono s2), g2.all ((R.mono s1).hid.mono s2), true, rfl, by rw [if_pos rfl]; exact ⟨O, W, (R.mono s1).mono s2, fun H' C m s => p H' C m (s1.trans (s2.trans s))⟩⟩⟩⟩, fun d cl z => nomatch z⟩
              | ok dz cz =>
                obtain ⟨k, e2, e3⟩ := Option.map_eq_some_iff.mp (show ((cmpD op' dy dz).map fun k => Re.ok (.bl k) .strong) = some re from h')
                cases e3
                exact ⟨_, _, _, A, B, C, fun σ H Q ⟨O, W, R, p⟩ => ⟨O, W, R, fun x H1 s1 g1 => ⟨O, W, R.mono s1, fun y H2 s2 g2 =>
                  ⟨dx, dy, true, e1, (g1.mono s2).all ((R.hid.mono s1).mono s2), g2.all ((R.mono s1).hid.mono s2), true, rfl, by
                    rw [if_pos rfl]
                    exact ⟨O, W, (R.mono s1).mono s2, fun z H3 s3 g3 => ⟨dy, dz, k, e2, (g2.mono s3).all (((R.mono s1).hid.mono s2).mono s3), g3.all (((R.mono s1).mono s2).hid.mono s3), p _ _ (s1.trans (s2.trans s3)) got_bl⟩⟩⟩⟩⟩, fun d cl z => by cases z; exact ⟨_, rfl⟩⟩
theorem snd_chain {op op' : CmpOp} (hu : X.A.units + 64 < cLine) (ha : ∀ q, ra = some q → PE X a (dE X.D E δ q)) (hb : ∀ q, rb = some q → PE X b (dE X.D E δ q)) (hc : ∀ q, rc = some q → PE X c (dE X.D E δ q)) (hs : isSet c = false)
    (h : (Re.thn ra fun x _ => Re.thn rb fun y _ => match cmpD op x y with
      | none => none
      | some false => some (.ok (.bl false) .strong)
      | some true => Re.thn rc fun z _ => (cmpD op' y z).map fun k => .ok (.bl k) .strong) = some re) : PE X (.Compare a [op, op'] [b, c] pos) (dE X.D E δ re) := by
  obtain ⟨ta, tb, tc, A, B, C, w, _⟩ := chain_parts ha hb hc h
  exact (pe_chain (op_cmp hu) (op_cmp hu) A B C (lastMarks_of hs)).weak w
theorem snd_tchain {op op' : CmpOp} {r : Rt} (hu : X.A.units + 64 < cLine) (ha : ∀ q, ra = some q → PE X a (dE X.D E δ q)) (hb : ∀ q, rb = some q → PE X b (dE X.D E δ q)) (hc : ∀ q, rc = some q → PE X c (dE X.D E δ q)) (hs : isSet c = false)
    (h : tstD (Re.thn ra fun x _ => Re.thn rb fun y _ => match cmpD op x y with
      | none => none
      | some false => some (.ok (.bl false) .strong)
      | some true => Re.thn rc fun z _ => (cmpD op' y z).map fun k => .ok (.bl k) .strong) = some r) : PT X (.Compare a [op, op'] [b, c] pos) (dT X.D E δ r) := by
  cases q : (Re.thn ra fun x _ => Re.thn rb fun y _ => match cmpD op x y with
      | none => none
      | some false => some (Re.ok (.bl false) .strong)
      | some true => Re.thn rc fun z _ => (cmpD op' y z).map fun k => .ok (.bl k) .strong) with
  | none => rw [q] at h; cases h
  | some re =>
    rw [q] at h
    obtain ⟨ta, tb, tc, A, B, C, w, hbl⟩ := chain_parts ha hb hc q
    exact (pt_chain (op_cmp hu) (op_cmp hu) A B C (lastMarks_of hs)).weak fun σ H Q z => w σ H _ (tst_dE hbl h z)
end

/-! ### tests -/
section
variable {X : Cx} {E : St → XK} {δ : List Sv} {a b c e : Expr} {es : List Expr} {pos : Pos} {ra : Option Re} {rt ru : Option Rt} {r : Rt} {re : Re}
theorem tru_dv {D : Dm} {H : Hp} {d : DV} {v : V} {k : Bool} (h : truth d = some k) (r : Rep D H d v) : TruV D.K v H k := by
  cases d with
  | non => cases h; rw [rep_non.mp r]; rfl
  | bl b => cases h; rw [rep_bl.mp r]; rfl
  | int i => cases h; rw [rep_int.mp r]; rfl
  | str x =>
    cases h
    obtain ⟨e1, e2⟩ := rep_str.mp r
    rw [e1]
    refine ⟨e2, ?_⟩
    show (x.cps.size != 0) = (((x.cps.size : Nat) : Int) != 0)
    cases x.cps.size with
    | zero => rfl
    | succ n => simp only [bne, Nat.add_eq_zero_iff]; rw [Bool.eq_iff_iff]; simp; omega
  | tup ds =>
    cases h
    obtain ⟨a, xs, e1, e2, e3⟩ := rep_tup.mp r
    rw [e1]
    refine .inr (.inl ⟨xs, e2, ?_⟩)
    have := e3.length
    cases xs <;> cases ds <;> first | rfl | cases this
  | lst ds =>
    cases h
    obtain ⟨a, xs, e1, e2, e3⟩ := rep_lst.mp r
    rw [e1]
    refine .inl ⟨xs, SqL.of e2, ?_⟩
    have := e3.length
    cases xs <;> cases ds <;> first | rfl | cases this
  | dct _ _ => exact absurd r rep_dct
  | exc _ => cases h
  | fn _ => cases h
  | scr _ => cases h
theorem snd_truth (ha : ∀ q, ra = some q → PE X e (dE X.D E δ q)) (he : ∀ whole, isTrue e X.env whole = (do let v ← whole; standAt e.pos; holding [v] (truthy v))) (h : tstD ra = some r) : PT X e (dT X.D E δ r) := by
  cases hra : ra with
  | none => rw [hra] at h; cases h
  | some q =>
    rw [hra] at h
    have A := ha q hra
    cases q with
    | ex c => cases h; exact (pt_truth A he).weak fun σ H Q ⟨O, W, R, p⟩ => ⟨O, W, R, p⟩
    | ok d cl =>
      obtain ⟨k, e1, e2⟩ := Option.map_eq_some_iff.mp (show (truth d).map Rt.ok = some r from h)
      cases e2
      exact (pt_truth A he).weak fun σ H Q ⟨O, W, R, p⟩ => ⟨O, W, R, fun x H1 s1 g1 => ⟨k, tru_dv e1 (g1.all (R.hid.mono s1)), p H1 s1⟩⟩
theorem pe_notT {ta : TE} (ha : PE X a ta) : PE X (.UnaryOp .Not a pos) (tUn (fun x H Q => ∃ k, TruV X.K x H k ∧ Q (.bl (!k)) H) ta) := by
  intro pins s σ H Q I h
  refine UnaryOp_ (thn (ha pins s σ H _ I h) fun v s1 ⟨x, H1, I1, r1, q1⟩ => ?_)
  obtain ⟨k, t, q1⟩ := q1
  exact not_of (thn (tru_ok pins s1 σ H1 x v (fun b H' => b = k ∧ H' = H1) I1 r1 ⟨k, t, rfl, rfl⟩) fun b s2 ⟨H2, I2, e1, e2⟩ => by
    subst e1 e2
    exact ⟨.bl (!b), H2, I2, rfl, q1⟩)
theorem snd_not (ha : ∀ q, ra = some q → PE X a (dE X.D E δ q)) (h : (Re.thn ra fun x _ => (truth x).map fun k => .ok (.bl (!k)) .strong) = some re) : PE X (.UnaryOp .Not a pos) (dE X.D E δ re) :=
  snd_un (fun _ => pe_notT) ha h fun O W H0 H x Q dx cx σ k hd gx p => by
    obtain ⟨b, e1, e2⟩ := Option.map_eq_some_iff.mp k
    cases e2
    exact ⟨b, tru_dv e1 (gx.all hd), p _ H (Same.refl H) got_bl⟩
theorem pe_andT {ta tb : TE} (ha : PE X a ta) (hb : PE X (.BoolOp .And (b :: es) pos) tb) : PE X (.BoolOp .And (a :: b :: es) pos) (fun σ H Q => ta σ H fun x H1 => ∃ k, TruV X.K x H1 k ∧ if k = true then tb σ H1 Q else Q x H1) := by
  intro pins s σ H Q I h
  refine BoolOp_and (thn (ha pins s σ H _ I h) fun v s1 ⟨x, H1, I1, r1, q1⟩ => ?_)
  obtain ⟨k, t, q1⟩ := q1
  refine thn (tru_ok pins s1 σ H1 x v (fun b H' => b = k ∧ H' = H1) I1 r1 ⟨k, t, rfl, rfl⟩) fun c s2 ⟨H2, I2, e1, e2⟩ => ?_
  subst e1 e2
  cases c with
  | true => exact hb pins s2 σ H2 Q I2 q1
  | false => exact ⟨x, H2, I2, r1, q1⟩
theorem pe_orT {ta tb : TE} (ha : PE X a ta) (hb : PE X (.BoolOp .Or (b :: es) pos) tb) : PE X (.BoolOp .Or (a :: b :: es) pos) (fun σ H Q => ta σ H fun x H1 => ∃ k, TruV X.K x H1 k ∧ if k = true then Q x H1 else tb σ H1 Q) := by
  intro pins s σ H Q I h
  refine BoolOp_or (thn (ha pins s σ H _ I h) fun v s1 ⟨x, H1, I1, r1, q1⟩ => ?_)
  obtain ⟨k, t, q1⟩ := q1
  refine thn (tru_ok pins s1 σ H1 x v (fun b H' => b = k ∧ H' = H1) I1 r1 ⟨k, t, rfl, rfl⟩) fun c s2 ⟨H2, I2, e1, e2⟩ => ?_
  subst e1 e2
  cases c with
  | false => exact hb pins s2 σ H2 Q I2 q1
  | true => exact ⟨x, H2, I2, r1, q1⟩
theorem snd_and {rb : Option Re} (ha : ∀ q, ra = some q → PE X a (dE X.D E δ q)) (hb : ∀ q, rb = some q → PE X (.BoolOp .And (b :: es) pos) (dE X.D E δ q)) (h : (Re.thn ra fun x c => andD x c rb) = some re) : PE X (.BoolOp .And (a :: b :: es) pos) (dE X.D E δ re) := by
  cases hra : ra with
  | none => rw [hra] at h; cases h
  | some q =>
    rw [hra] at h
    have A := ha q hra
    cases q with
    | ex c => cases h; exact (pe_andT A pe_none).weak fun σ H Q ⟨O, W, R, p⟩ => ⟨O, W, R, p⟩
    | ok d cl =>
      have h' : andD d cl rb = some re := h
      unfold andD at h'
      split at h'
      · cases h'
      · rename_i t
        exact (pe_andT A (hb re h')).weak fun σ H Q ⟨O, W, R, p⟩ => ⟨O, W, R, fun x H1 s1 g1 => ⟨true, tru_dv t (g1.all (R.hid.mono s1)), iteT ⟨O, W, R.mono s1, p.later s1 s1⟩⟩⟩
      · rename_i t
        cases h'
        exact (pe_andT A pe_none).weak fun σ H Q ⟨O, W, R, p⟩ => ⟨O, W, R, fun x H1 s1 g1 => ⟨false, tru_dv t (g1.all (R.hid.mono s1)), iteF (p _ H1 s1 g1)⟩⟩
theorem snd_or {rb : Option Re} (ha : ∀ q, ra = some q → PE X a (dE X.D E δ q)) (hb : ∀ q, rb = some q → PE X (.BoolOp .Or (b :: es) pos) (dE X.D E δ q)) (h : (Re.thn ra fun x c => orD x c rb) = some re) : PE X (.BoolOp .Or (a :: b :: es) pos) (dE X.D E δ re) := by
  cases hra : ra with
  | none => rw [hra] at h; cases h
  | some q =>
    rw [hra] at h
    have A := ha q hra
    cases q with
    | ex c => cases h; exact (pe_orT A pe_none).weak fun σ H Q ⟨O, W, R, p⟩ => ⟨O, W, R, p⟩
    | ok d cl =>
      have h' : orD d cl rb = some re := h
      unfold orD at h'
      split at h'
      · cases h'
      · rename_i t
        cases h'
        exact (pe_orT A pe_none).weak fun σ H Q ⟨O, W, R, p⟩ => ⟨O, W, R, fun x H1 s1 g1 => ⟨true, tru_dv t (g1.all (R.hid.mono s1)), iteT (p _ H1 s1 g1)⟩⟩
      · rename_i t
        exact (pe_orT A (hb re h')).weak fun σ H Q ⟨O, W, R, p⟩ => ⟨O, W, R, fun x H1 s1 g1 => ⟨false, tru_dv t (g1.all (R.hid.mono s1)), iteF ⟨O, W, R.mono s1, p.later s1 s1⟩⟩⟩
/-- the tests by the values' truth -/
theorem tst_thn {k : DV → Cl → Option Re} (h : tstD (Re.thn ra k) = some r) : (ra = none ∧ False) ∨ (∃ c, ra = some (.ex c) ∧ r = .ex c) ∨ ∃ d c, ra = some (.ok d c) ∧ tstD (k d c) = some r := by
  cases hra : ra with
  | none => rw [hra] at h; cases h
  | some q =>
    rw [hra] at h
    cases q with
    | ex c => cases h; exact .inr (.inl ⟨c, rfl, rfl⟩)
    | ok d c => exact .inr (.inr ⟨d, c, rfl, h⟩)
theorem tst_ok {d : DV} {c : Cl} {r : Rt} (h : tstD (some (.ok d c)) = some r) : ∃ k, truth d = some k ∧ r = .ok k := by
  obtain ⟨k, e1, e2⟩ := Option.map_eq_some_iff.mp (show (truth d).map Rt.ok = some r from h)
  exact ⟨k, e1, e2.symm⟩
theorem snd_tnot (ha : ∀ q, tstD ra = some q → PT X a (dT X.D E δ q)) (h : tstD (Re.thn ra fun x _ => (truth x).map fun k => .ok (.bl (!k)) .strong) = some r) : PT X (.UnaryOp .Not a pos) (dT X.D E δ r) := by
  rcases tst_thn h with ⟨_, z⟩ | ⟨c, e1, e2⟩ | ⟨d, c, e1, e2⟩
  · exact z.elim
  · subst e1 e2
    exact (pt_not (ha (.ex c) rfl)).weak fun σ H Q ⟨O, W, R, p⟩ => ⟨O, W, R, p⟩
  · cases t : truth d with
    | none => rw [t] at e2; cases e2
    | some k =>
      rw [t] at e2
      cases e2
      have A := ha (.ok k) (by rw [e1]; show (truth d).map Rt.ok = _; rw [t]; rfl)
      exact (pt_not A).weak fun σ H Q ⟨O, W, R, p⟩ => ⟨O, W, R, fun H1 s1 => p H1 s1⟩
theorem snd_tand {rb : Option Re} (ha : ∀ q, tstD ra = some q → PT X a (dT X.D E δ q)) (hb : ∀ q, tstD rb = some q → PW X (.BoolOp .And (b :: es) pos) (dT X.D E δ q)) (h : tstD (Re.thn ra fun x c => andD x c rb) = some r) : PW X (.BoolOp .And (a :: b :: es) pos) (dT X.D E δ r) := by
  rcases tst_thn h with ⟨_, z⟩ | ⟨c, e1, e2⟩ | ⟨d, c, e1, e2⟩
  · exact z.elim
  · subst e1 e2
    exact (pw_and (ha (.ex c) rfl) pw_none).weak fun σ H Q ⟨O, W, R, p⟩ => ⟨O, W, R, p⟩
  · unfold andD at e2
    cases t : truth d with
    | none => rw [t] at e2; cases e2
    | some k =>
      rw [t] at e2
      have A := ha (.ok k) (by rw [e1]; show (truth d).map Rt.ok = _; rw [t]; rfl)
      cases k with
      | true => exact (pw_and A (hb r e2)).weak fun σ H Q ⟨O, W, R, p⟩ => ⟨O, W, R, fun H1 s1 => iteT ⟨O, W, R.mono s1, p.later s1⟩⟩
      | false =>
        obtain ⟨k, t', rfl⟩ := tst_ok e2
        rw [t] at t'; cases t'
        exact (pw_and A pw_none).weak fun σ H Q ⟨O, W, R, p⟩ => ⟨O, W, R, fun H1 s1 => iteF (p H1 s1)⟩
theorem snd_tor {rb : Option Re} (ha : ∀ q, tstD ra = some q → PT X a (dT X.D E δ q)) (hb : ∀ q, tstD rb = some q → PW X (.BoolOp .Or (b :: es) pos) (dT X.D E δ q)) (h : tstD (Re.thn ra fun x c => orD x c rb) = some r) : PW X (.BoolOp .Or (a :: b :: es) pos) (dT X.D E δ r) := by
  rcases tst_thn h with ⟨_, z⟩ | ⟨c, e1, e2⟩ | ⟨d, c, e1, e2⟩
  · exact z.elim
  · subst e1 e2
    exact (pw_or (ha (.ex c) rfl) pw_none).weak fun σ H Q ⟨O, W, R, p⟩ => ⟨O, W, R, p⟩
  · unfold orD at e2
    cases t : truth d with
    | none => rw [t] at e2; cases e2
    | some k =>
      rw [t] at e2
      have A := ha (.ok k) (by rw [e1]; show (truth d).map Rt.ok = _; rw [t]; rfl)
      cases k with
      | false => exact (pw_or A (hb r e2)).weak fun σ H Q ⟨O, W, R, p⟩ => ⟨O, W, R, fun H1 s1 => iteF ⟨O, W, R.mono s1, p.later s1⟩⟩
      | true =>
        obtain ⟨k, t', rfl⟩ := tst_ok e2
        rw [t] at t'; cases t'
        exact (pw_or A pw_none).weak fun σ H Q ⟨O, W, R, p⟩ => ⟨O, W, R, fun H1 s1 => iteT (p H1 s1)⟩
/-- a choice as a test -/
theorem pt_ifExp {tc t u : TT} (hc : PT X c tc) (ha : PT X a t) (hb : PT X b u) : PT X (.IfExp c a b pos) (fun σ H Q => tc σ H fun k H1 => if k = true then t σ H1 Q else u σ H1 Q) := by
  intro pins s σ H Q I h
  refine isTrue_IfExp (thn (hc pins s σ H _ I h) fun k s1 ⟨H1, I1, q1⟩ => ?_)
  cases k with
  | true => exact ha pins s1 σ H1 Q I1 q1
  | false => exact hb pins s1 σ H1 Q I1 q1
theorem snd_tite {rb : Option Re} (hc : ∀ q, rt = some q → PT X c (dT X.D E δ q)) (ha : ∀ q, tstD ra = some q → PT X a (dT X.D E δ q)) (hb : ∀ q, tstD rb = some q → PT X b (dT X.D E δ q)) (h : tstD (Rt.thn rt fun k => if k then ra else rb) = some r) : PT X (.IfExp c a b pos) (dT X.D E δ r) := by
  cases hrt : rt with
  | none => rw [hrt] at h; cases h
  | some q =>
    rw [hrt] at h
    have C := hc q hrt
    cases q with
    | ex c => cases h; exact (pt_ifExp C pt_none pt_none).weak fun σ H Q ⟨O, W, R, p⟩ => ⟨O, W, R, p⟩
    | ok k =>
      cases k with
      | true => exact (pt_ifExp C (ha r h) pt_none).weak fun σ H Q ⟨O, W, R, p⟩ => ⟨O, W, R, fun H1 s1 => iteT ⟨O, W, R.mono s1, p.later s1⟩⟩
      | false => exact (pt_ifExp C pt_none (hb r h)).weak fun σ H Q ⟨O, W, R, p⟩ => ⟨O, W, R, fun H1 s1 => iteF ⟨O, W, R.mono s1, p.later s1⟩⟩
theorem snd_ite {rb rc : Option Re} (hc : ∀ q, rt = some q → PT X c (dT X.D E δ q)) (ha : ∀ q, rb = some q → PE X a (dE X.D E δ q)) (hb : ∀ q, rc = some q → PE X b (dE X.D E δ q))
    (h : (Rt.thn rt fun k => if k then rb else rc) = some re) : PE X (.IfExp c a b pos) (dE X.D E δ re) := by
  cases hrt : rt with
  | none => rw [hrt] at h; cases h
  | some q =>
    rw [hrt] at h
    have C := hc q hrt
    cases q with
    | ex c => cases h; exact (pe_ifExp C pe_none pe_none).weak fun σ H Q ⟨O, W, R, p⟩ => ⟨O, W, R, p⟩
    | ok k =>
      cases k with
      | true =>
        have h' : rb = some re := h
        exact (pe_ifExp C (ha re h') pe_none).weak fun σ H Q ⟨O, W, R, p⟩ => ⟨O, W, R, fun H1 s1 => iteT ⟨O, W, R.mono s1, p.later s1 s1⟩⟩
      | false =>
        have h' : rc = some re := h
        exact (pe_ifExp C pe_none (hb re h')).weak fun σ H Q ⟨O, W, R, p⟩ => ⟨O, W, R, fun H1 s1 => iteF ⟨O, W, R.mono s1, p.later s1 s1⟩⟩

/-! ### values in a row, displays -/
theorem star_of {e : Expr} {es : List Expr} {env : Env} (h : isStar e = false) : starEach (e :: es) env = (false, eval e env) :: starEach es env := by
  cases e <;> first | rfl | cases h
theorem snd_anil : PA X [] (dA X.D E δ (.ok [])) := pa_nil.weak fun σ H Q ⟨O, W, R, p⟩ => p [] H (Same.refl H) .nil
theorem snd_acons {rs : Option Rs} {q : Rs} (hs : isStar e = false) (ha : ∀ q, ra = some q → PE X e (dE X.D E δ q)) (hb : ∀ q, rs = some q → PA X es (dA X.D E δ q))
    (h : (match (generalizing := false) ra with | none => none | some (.ex c) => some (Rs.ex c) | some (.ok d c) => (match (generalizing := false) rs with | none => none | some (.ex c) => some (.ex c) | some (.ok l) => some (.ok ((d, c) :: l)))) = some q) : PA X (e :: es) (dA X.D E δ q) := by
  cases hra : ra with
  | none => rw [hra] at h; cases h
  | some z =>
    rw [hra] at h
    have A := ha z hra
    cases z with
    | ex c => cases h; exact (pa_cons A pa_none (star_of hs)).weak fun σ H Q ⟨O, W, R, p⟩ => ⟨O, W, R, p⟩
    | ok d cl =>
      cases hrs : rs with
      | none => rw [hrs] at h; cases h
      | some y =>
        rw [hrs] at h
        have B := hb y hrs
        cases y with
        | ex c => cases h; exact (pa_cons A B (star_of hs)).weak fun σ H Q ⟨O, W, R, p⟩ => ⟨O, W, R, fun x H1 s1 g1 => ⟨O, W, R.mono s1, fun H' C m s => p H' C m (s1.trans s)⟩⟩
        | ok l =>
          cases h
          exact (pa_cons A B (star_of hs)).weak fun σ H Q ⟨O, W, R, p⟩ => ⟨O, W, R, fun x H1 s1 g1 => ⟨O, W, R.mono s1, fun vs H2 s2 g2 => p _ H2 (s1.trans s2) (.cons (g1.mono s2) (g2.since s1))⟩⟩
theorem snd_lst {rs : Option Rs} (ha : ∀ q, rs = some q → PA X es (dA X.D E δ q)) (h : (Rs.thn rs fun l => if l.length ≤ mostLen then some (.ok (.lst (l.map (·.1))) (if stros l then .fresh else .weak)) else none) = some re) : PE X (.List es pos) (dE X.D E δ re) :=
  snd_args (r := fun vs H Q => vs.length ≤ sizeLine ∧ ∀ p, H p = none → Q (.ref p) (upd H p (.lst vs))) (fun _ => pe_lst) ha h fun O W H0 H vs Q l σ k hd g p => by
    split at k
    · rename_i m
      cases k
      refine ⟨by rw [g.length]; exact len_line m, fun q hq => p _ _ (same_upd hq) ?_⟩
      by_cases z : stros l = true
      · rw [if_pos z]; exact got_new hd hq (g.stros hd z)
      · rw [if_neg z]; exact got_newW hd hq (g.repL hd)
    · cases k
theorem snd_tup {rs : Option Rs} {x1 : Nat} (ha : ∀ q, rs = some q → PA X es (dA X.D E δ q)) (h : (Rs.thn rs fun l => if l.length ≤ mostLen then some (.ok (.tup (l.map (·.1))) (if stros l then .strong else .weak)) else none) = some re) : PE X (.Tuple es x1 pos) (dE X.D E δ re) :=
  snd_args (r := fun vs H Q => vs.length ≤ sizeLine ∧ ∀ p, H p = none → Q (.ref p) (upd H p (.tup vs))) (fun _ => pe_tup) ha h fun O W H0 H vs Q l σ k hd g p => by
    split at k
    · rename_i m
      cases k
      refine ⟨by rw [g.length]; exact len_line m, fun q hq => p _ _ (same_upd hq) ?_⟩
      by_cases z : stros l = true
      · rw [if_pos z]; exact got_tup hd hq (g.stros hd z)
      · rw [if_neg z]; exact got_tupW hd hq (g.repL hd)
    · cases k
end
end L2

end
section

set_option Elab.async false
set_option linter.all false
set_option maxRecDepth 100000
set_option maxHeartbeats 4000000

/-! Calls; what is walked; comprehensions. -/
namespace L2
open PySem PySem.Spec PyProof.Rows

/-! ### calls of the text's defs -/
def GotR (D : Dm) (O : List Addr) (H0 H : Hp) (d : DV) (fr : Bool) (v : V) : Prop := match fr with
  | false => Rep D (L2.wo O H) d v
  | true => ∃ p xs ds, v = .ref p ∧ d = .lst ds ∧ H0 p = none ∧ H p = some (.lst xs) ∧ RepL D (L2.wo (p :: O) H) ds xs
/-- a tuple whose first item is a new list -/
def GotT (D : Dm) (O : List Addr) (H0 H : Hp) (d : DV) (v : V) : Prop := ∃ t ts p xs ds es, v = .ref t ∧ d = .tup (.lst ds :: es) ∧ SqT D.K (L2.wo O H) t (.ref p :: ts) ∧ H0 p = none ∧ H p = some (.lst xs) ∧ RepL D (L2.wo (p :: O) H) ds xs ∧ RepL D (L2.wo (p :: O) H) es ts
/-- a def's promise: f says what it is worth -/
def spF (D : Dm) (n : Nat) (f : List DV → Option Ou) : Sp := fun vs H Q E => ∃ O ds o, (∀ a ∈ O, H a ≠ none) ∧ ds.length = n ∧ RepL D (L2.wo O H) ds vs ∧ f ds = some o ∧
  (match o with | .v d fr => ∀ v H', Same H H' → GotR D O H H' d fr v → Q v H' | .t d => ∀ v H', Same H H' → GotT D O H H' d v → Q v H' | .x c => ∀ H' C, D.mg c = some C → Same H H' → E C none H')
section
variable {X : Cx} {E : St → XK} {δ : List Sv} {e : Expr} {es : List Expr} {pos p : Pos} {re : Re} {rs : Option Rs} {k : Nat} {fa : Addr} {fd : FuncData} {ps : List Str} {x : Str}
theorem snd_call {F : Nat → List DV → Option Ou} {f : Nat} (fo : FnOk X.prog X.w X.K X.mg X.base (CXx X.prog X.w X.base) k fa fd ps (spF X.D ps.length (F f))) (hn : ∀ ds o, F f ds = some o → ds.length = ps.length) (hr : Room k X.A) (hg : Gl X x) (hm : X.mg x = some (.ref fa)) (hk : PySem.W.keepIn X.K (.ref fa) = true)
    (hb : Binds X.K fd ps []) (hx : PassesS (CXx X.prog X.w X.base) X E) (ha : ∀ q, rs = some q → PA X (e :: es) (dA X.D E δ q)) (hdb : (x == ("__debug__" : Str)) = false) (hs : isStar e = false) (hss : es.any isStar = false)
    (h : (Rs.thn rs fun l => callD F f l) = some re) : PE X (.Call (.Name x p) (e :: es) [] pos) (dE X.D E δ re) := by
  have plain : ∀ (es : List Expr), es.any isStar = false → (backTo pos (starEach es X.env)).any (·.1) = false := by
    intro es
    induction es with
    | nil => intro _; rfl
    | cons y ys ih =>
      intro q
      rw [List.any_cons, Bool.or_eq_false_iff] at q
      rw [star_of q.1]
      show (false || (backTo pos (starEach ys X.env)).any (·.1)) = false
      rw [ih q.2]; rfl
  have C := fun t (hA : PA X (e :: es) t) => pe_callS (p := p) (pos := pos) fo hr hg hm hk hb .nil hx hA hdb (star_of hs) (plain es hss)
  cases hrs : rs with
  | none => rw [hrs] at h; cases h
  | some q =>
    rw [hrs] at h
    have A := ha q hrs
    cases q with
    | ex c => cases h; exact (C _ A).weak fun σ H Q ⟨O, W, R, p⟩ => ⟨O, W, R, p⟩
    | ok l =>
      have h' : callD F f l = some re := h
      unfold callD at h'
      split at h'
      · cases h'
      · rename_i c e1
        cases h'
        refine (C _ A).weak fun σ H Q ⟨O, W, R, p⟩ => ⟨O, W, R, fun vs H1 s1 g1 => ?_⟩
        have hd := R.hid.mono s1
        show spF X.D ps.length (F f) (vs ++ []) H1 Q (E σ)
        rw [List.append_nil]
        exact ⟨O, _, _, fun a ha q => hd.ot a (List.mem_append_left _ ha) (s1.free q), hn _ _ e1, g1.repL hd, e1, fun H' C m s => p H' C m (s1.trans s)⟩
      · rename_i d e1
        cases h'
        refine (C _ A).weak fun σ H Q ⟨O, W, R, p⟩ => ⟨O, W, R, fun vs H1 s1 g1 => ?_⟩
        have hd := R.hid.mono s1
        show spF X.D ps.length (F f) (vs ++ []) H1 Q (E σ)
        rw [List.append_nil]
        by_cases z : (l.all fun p => p.2 == .strong || p.2 == .fresh) = true
        · rw [if_pos z] at p
          refine ⟨O ++ W, _, _, fun a ha q => hd.ot a ha (s1.free q), hn _ _ e1, g1.strong hd z, e1, fun v H' s g => p v H' (s1.trans s) ?_⟩
          obtain ⟨t, ts, q, xs, ds, es, f1, f2, f0, f3, f4, f5, f6⟩ := g
          exact ⟨t, ts, q, xs, ds, es, f1, f2, f0, s1.free f3, f4, f5, f6⟩
        · rw [if_neg z] at p
          refine ⟨O, _, _, fun a ha q => hd.ot a (List.mem_append_left _ ha) (s1.free q), hn _ _ e1, g1.repL hd, e1, fun v H' s g => p v H' (s1.trans s) ?_⟩
          obtain ⟨t, ts, q, xs, ds, es, f1, f2, f0, f3, f4, f5, f6⟩ := g
          have hq : q ∉ O := fun z => hd.ot q (List.mem_append_left _ z) (s1.free f3)
          have up : Same (L2.wo (q :: O) H') (L2.wo O H') := wo_sub fun b hb => List.mem_cons_of_mem _ hb
          rw [f2]
          exact rep_tup.mpr ⟨t, _, f1, f0, repL_cons.mpr ⟨_, _, rfl, rep_lst.mpr ⟨q, xs, rfl, by rw [wo_out hq]; exact f4, f5.mono up⟩, f6.mono up⟩⟩
      · rename_i d fr e1
        cases h'
        refine (C _ A).weak fun σ H Q ⟨O, W, R, p⟩ => ⟨O, W, R, fun vs H1 s1 g1 => ?_⟩
        have hd := R.hid.mono s1
        show spF X.D ps.length (F f) (vs ++ []) H1 Q (E σ)
        rw [List.append_nil]
        by_cases z : (l.all fun p => p.2 == .strong || p.2 == .fresh) = true
        · rw [if_pos z] at p
          refine ⟨O ++ W, _, _, fun a ha q => hd.ot a ha (s1.free q), hn _ _ e1, g1.strong hd z, e1, fun v H' s g => p v H' (s1.trans s) ?_⟩
          cases fr with
          | false => exact g
          | true =>
            obtain ⟨q, xs, ds, e1, e2, e3, e4, e5⟩ := g
            exact ⟨q, xs, ds, e1, e2, s1.free e3, e4, e5⟩
        · rw [if_neg z] at p
          refine ⟨O, _, _, fun a ha q => hd.ot a (List.mem_append_left _ ha) (s1.free q), hn _ _ e1, g1.repL hd, e1, fun v H' s g => p v H' (s1.trans s) ?_⟩
          cases fr with
          | false => exact g
          | true =>
            obtain ⟨q, xs, ds, e1, e2, e3, e4, e5⟩ := g
            have hq : q ∉ O := fun z => hd.ot q (List.mem_append_left _ z) (s1.free e3)
            rw [e2]
            exact rep_lst.mpr ⟨q, xs, e1, by rw [wo_out hq]; exact e4, e5.mono (wo_sub fun b hb => List.mem_cons_of_mem _ hb)⟩
end

/-! ### Python's own functions -/
section
variable {X : Cx} {E : St → XK} {δ : List Sv} {e : Expr} {es : List Expr} {pos p : Pos} {re : Re} {rs : Option Rs}
theorem plain_args {env : Env} {pos : Pos} : ∀ (es : List Expr), es.any isStar = false → (backTo pos (starEach es env)).any (·.1) = false
  | [], _ => rfl
  | y :: ys, q => by
    rw [List.any_cons, Bool.or_eq_false_iff] at q
    rw [star_of q.1]
    show (false || (backTo pos (starEach ys env)).any (·.1)) = false
    rw [plain_args ys q.2]; rfl
/-- what a function of Python's own is worth -/
def biR (X : Cx) (k : List (DV × Cl) → Option Re) : List V → Hp → VK → Prop := fun vs H Q => ∃ l re O W H0, k l = some re ∧ Hid O W H0 H ∧ GotL X.D O W H0 H l vs ∧ ∃ d c, re = .ok d c ∧ ∀ v H', Same H H' → Got X.D O W H0 H' d c v → Q v H'
theorem snd_bi {k : List (DV × Cl) → Option Re} {x : Str} {id : String} (hc : CallR X (.builtin id) (biR X k)) (hk : ∀ l re, k l = some re → ∃ d c, re = .ok d c) (hg : Gl X x) (hm : X.mg x = none) (hv : bootBuiltins x = some (.builtin id)) (hn : x ≠ "__name__") (hdb : (x == ("__debug__" : Str)) = false)
    (ha : ∀ q, rs = some q → PA X (e :: es) (dA X.D E δ q)) (hs : isStar e = false) (hss : es.any isStar = false) (h : Rs.thn rs k = some re) : PE X (.Call (.Name x p) (e :: es) [] pos) (dE X.D E δ re) :=
  snd_args (fun _ hA => pe_callB hc hg hm hv hA hn hdb (star_of hs) (plain_args es hss)) ha h fun O W H0 H vs Q l σ hl hd g p => by
    obtain ⟨d, c, rfl⟩ := hk l re hl
    exact ⟨l, _, O, W, H0, hl, hd, g, d, c, rfl, p⟩
theorem snd_biT {k : List (DV × Cl) → Option Re} {x : Str} {T : String} (hc : CallR X (.type T) (biR X k)) (hk : ∀ l re, k l = some re → ∃ d c, re = .ok d c) (hg : Gl X x) (hm : X.mg x = none) (hv : bootBuiltins x = some (.type T)) (hn : x ≠ "__name__") (hdb : (x == ("__debug__" : Str)) = false)
    (ha : ∀ q, rs = some q → PA X (e :: es) (dA X.D E δ q)) (hs : isStar e = false) (hss : es.any isStar = false) (h : Rs.thn rs k = some re) : PE X (.Call (.Name x p) (e :: es) [] pos) (dE X.D E δ re) :=
  snd_args (fun _ hA => pe_callTy hc hg hm hv hA hn hdb (star_of hs) (plain_args es hss)) ha h fun O W H0 H vs Q l σ hl hd g p => by
    obtain ⟨d, c, rfl⟩ := hk l re hl
    exact ⟨l, _, O, W, H0, hl, hd, g, d, c, rfl, p⟩
theorem okD_len : ∀ l re, lenD l = some re → ∃ d c, re = .ok d c := fun l re h => by unfold lenD at h; split at h <;> cases h <;> exact ⟨_, _, rfl⟩
theorem okD_abs : ∀ l re, absD l = some re → ∃ d c, re = .ok d c := fun l re h => by unfold absD at h; split at h <;> cases h <;> exact ⟨_, _, rfl⟩
theorem okD_min : ∀ l re, minD l = some re → ∃ d c, re = .ok d c := fun l re h => by
  unfold minD at h
  split at h
  · cases h; exact ⟨_, _, rfl⟩
  · split at h
    · cases h; exact ⟨_, _, rfl⟩
    · cases h
  · cases h
theorem okD_max : ∀ l re, maxD l = some re → ∃ d c, re = .ok d c := fun l re h => by
  unfold maxD at h
  split at h
  · cases h; exact ⟨_, _, rfl⟩
  · split at h
    · cases h; exact ⟨_, _, rfl⟩
    · cases h
  · cases h
/-- a list of ints -/
theorem ints_rep {D : Dm} {H : Hp} : ∀ {ds : List DV} {ns : List Int} {xs : List V}, ints? ds = some ns → RepL D H ds xs → xs = ns.map V.int
  | [], ns, xs, h, r => by
    cases h
    exact repL_nil.mp r
  | .int i :: ds, ns, xs, h, r => by
    have h' : (ints? ds).map (i :: ·) = some ns := h
    obtain ⟨ms, e1, e2⟩ := Option.map_eq_some_iff.mp h'
    obtain ⟨v, vs, e3, e4, e5⟩ := repL_cons.mp r
    have q := ints_rep e1 e5
    rw [← e2, e3, List.map_cons, rep_int.mp e4, q]
  | .non :: ds, ns, xs, h, _ => by cases h
  | .bl _ :: ds, ns, xs, h, _ => by cases h
  | .str _ :: ds, ns, xs, h, _ => by cases h
  | .tup _ :: ds, ns, xs, h, _ => by cases h
  | .lst _ :: ds, ns, xs, h, _ => by cases h
  | .dct _ _ :: ds, ns, xs, h, _ => by cases h
  | .exc _ :: ds, ns, xs, h, _ => by cases h
  | .fn _ :: ds, ns, xs, h, _ => by cases h
  | .scr _ :: ds, ns, xs, h, _ => by cases h
theorem minI_low : ∀ (r : List Int) (m : Int), (minI m r = m ∨ minI m r ∈ r) ∧ minI m r ≤ m ∧ ∀ x ∈ r, minI m r ≤ x
  | [], m => ⟨.inl rfl, Int.le_refl _, fun x h => by cases h⟩
  | y :: r, m => by
    obtain ⟨h0, h1, h2⟩ := minI_low r (if y < m then y else m)
    unfold minI
    by_cases q : y < m
    · rw [if_pos q] at h0 h1 h2 ⊢
      refine ⟨.inr ?_, by omega, fun x hx => ?_⟩
      · rcases h0 with z | z
        · rw [z]; exact List.mem_cons_self ..
        · exact List.mem_cons_of_mem _ z
      · rcases List.mem_cons.mp hx with z | z
        · rw [z]; exact h1
        · exact h2 x z
    · rw [if_neg q] at h0 h1 h2 ⊢
      refine ⟨h0.imp id (List.mem_cons_of_mem _), h1, fun x hx => ?_⟩
      rcases List.mem_cons.mp hx with z | z
      · rw [z]; omega
      · exact h2 x z
theorem maxI_high : ∀ (r : List Int) (m : Int), (maxI m r = m ∨ maxI m r ∈ r) ∧ m ≤ maxI m r ∧ ∀ x ∈ r, x ≤ maxI m r
  | [], m => ⟨.inl rfl, Int.le_refl _, fun x h => by cases h⟩
  | y :: r, m => by
    obtain ⟨h0, h1, h2⟩ := maxI_high r (if m < y then y else m)
    unfold maxI
    by_cases q : m < y
    · rw [if_pos q] at h0 h1 h2 ⊢
      refine ⟨.inr ?_, by omega, fun x hx => ?_⟩
      · rcases h0 with z | z
        · rw [z]; exact List.mem_cons_self ..
        · exact List.mem_cons_of_mem _ z
      · rcases List.mem_cons.mp hx with z | z
        · rw [z]; exact h1
        · exact h2 x z
    · rw [if_neg q] at h0 h1 h2 ⊢
      refine ⟨h0.imp id (List.mem_cons_of_mem _), h1, fun x hx => ?_⟩
      rcases List.mem_cons.mp hx with z | z
      · rw [z]; omega
      · exact h2 x z
theorem minI_one {n M : Int} {r : List Int} (h1 : M ∈ n :: r) (h2 : ∀ x ∈ n :: r, M ≤ x) : M = minI n r := by
  obtain ⟨a, b, c⟩ := minI_low r n
  have d : minI n r ∈ n :: r := a.elim (fun z => by rw [z]; exact List.mem_cons_self ..) (List.mem_cons_of_mem _)
  have e := h2 _ d
  have f : minI n r ≤ M := by
    rcases List.mem_cons.mp h1 with z | z
    · rw [z]; exact b
    · exact c M z
  omega
theorem maxI_one {n M : Int} {r : List Int} (h1 : M ∈ n :: r) (h2 : ∀ x ∈ n :: r, x ≤ M) : M = maxI n r := by
  obtain ⟨a, b, c⟩ := maxI_high r n
  have d : maxI n r ∈ n :: r := a.elim (fun z => by rw [z]; exact List.mem_cons_self ..) (List.mem_cons_of_mem _)
  have e := h2 _ d
  have f : M ≤ maxI n r := by
    rcases List.mem_cons.mp h1 with z | z
    · rw [z]; exact b
    · exact c M z
  omega
theorem insI_perm (x : Int) : ∀ l : List Int, (insI x l).Perm (x :: l)
  | [] => .rfl
  | y :: r => by
    unfold insI
    split
    · exact .rfl
    · exact (List.Perm.cons y (insI_perm x r)).trans (List.Perm.swap x y r)
theorem sortI_perm : ∀ l : List Int, (sortI l).Perm l
  | [] => .rfl
  | x :: r => (insI_perm x (sortI r)).trans (List.Perm.cons x (sortI_perm r))
theorem insI_pw (x : Int) : ∀ {l : List Int}, l.Pairwise (· ≤ ·) → (insI x l).Pairwise (· ≤ ·)
  | [], _ => List.pairwise_singleton _ _
  | y :: r, h => by
    obtain ⟨h1, h2⟩ := List.pairwise_cons.mp h
    unfold insI
    split
    · rename_i q
      refine List.pairwise_cons.mpr ⟨fun z hz => ?_, h⟩
      rcases List.mem_cons.mp hz with e | e
      · omega
      · have := h1 z e
        omega
    · rename_i q
      refine List.pairwise_cons.mpr ⟨fun z hz => ?_, insI_pw x h2⟩
      rcases List.mem_cons.mp ((insI_perm x r).mem_iff.mp hz) with e | e
      · omega
      · exact h1 z e
theorem sortI_pw : ∀ l : List Int, (sortI l).Pairwise (· ≤ ·)
  | [] => .nil
  | x :: r => insI_pw x (sortI_pw r)
theorem pw_one : ∀ {a b : List Int}, a.Perm b → a.Pairwise (· ≤ ·) → b.Pairwise (· ≤ ·) → a = b
  | [], b, p, _, _ => (List.Perm.nil_eq p)
  | x :: a, b, p, ha, hb => by
    cases b with
    | nil => exact absurd p.length_eq (by simp)
    | cons y b =>
      obtain ⟨a1, a2⟩ := List.pairwise_cons.mp ha
      obtain ⟨b1, b2⟩ := List.pairwise_cons.mp hb
      have e : x = y := by
        have q1 := p.mem_iff.mp (List.mem_cons_self (a := x) (l := a))
        have q2 := p.mem_iff.mpr (List.mem_cons_self (a := y) (l := b))
        rcases List.mem_cons.mp q1 with z | z
        · exact z
        · rcases List.mem_cons.mp q2 with z2 | z2
          · exact z2.symm
          · have := a1 y z2
            have := b1 x z
            omega
      subst e
      rw [pw_one (List.Perm.cons_inv p) a2 b2]
theorem okD_int : ∀ l re, intD l = some re → ∃ d c, re = .ok d c := fun l re h => by unfold intD at h; split at h <;> cases h <;> exact ⟨_, _, rfl⟩
theorem okD_list : ∀ l re, listD l = some re → ∃ d c, re = .ok d c := fun l re h => by unfold listD at h; split at h <;> cases h <;> exact ⟨_, _, rfl⟩
theorem okD_tuple : ∀ l re, tupleD l = some re → ∃ d c, re = .ok d c := fun l re h => by unfold tupleD at h; split at h <;> cases h <;> exact ⟨_, _, rfl⟩
theorem bi_len : CallR X (.builtin "len") (biR X lenD) := by
  intro pins s σ H xs us Q I r h
  obtain ⟨l, re, O, W, H0, hb, hd, g, d, c, rfl, p⟩ := h
  unfold lenD at hb
  split at hb
  · cases hb
    obtain ⟨v, rfl, gv⟩ := g.one
    obtain ⟨a, ys, e1, e2, e3⟩ := gv.lst hd
    exact call_len_seq pins s σ H _ us Q I r ⟨a, ys, by rw [e1], .inl (SqL.of e2), by rw [e3.length]; exact p _ H (Same.refl H) got_int⟩
  · cases hb
    obtain ⟨v, rfl, gv⟩ := g.one
    obtain ⟨a, ys, e1, e2, e3⟩ := gv.tup hd
    exact call_len_seq pins s σ H _ us Q I r ⟨a, ys, by rw [e1], .inr e2, by rw [e3.length]; exact p _ H (Same.refl H) got_int⟩
  · cases hb
    obtain ⟨v, rfl, gv⟩ := g.one
    obtain ⟨a, e1, e2⟩ := rep_scr.mp (gv.all hd)
    exact call_len_seq pins s σ H _ us Q I r ⟨a, _, by rw [e1], .inl e2.sq, by rw [List.length_map]; exact p _ H (Same.refl H) got_int⟩
  · cases hb
    obtain ⟨v, rfl, gv⟩ := g.one
    obtain ⟨e1, e2⟩ := gv.str hd
    exact call_len_str pins s σ H _ us Q I r ⟨_, by rw [e1], e2, p _ H (Same.refl H) got_int⟩
  · cases hb
theorem bi_abs : CallR X (.builtin "abs") (biR X absD) := by
  intro pins s σ H xs us Q I r h
  obtain ⟨l, re, O, W, H0, hb, hd, g, d, c, rfl, p⟩ := h
  unfold absD at hb
  split at hb
  · cases hb
    obtain ⟨v, rfl, gv⟩ := g.one
    exact call_abs pins s σ H _ us Q I r ⟨_, by rw [gv.int hd], p _ H (Same.refl H) got_int⟩
  · cases hb
theorem bi_min (hc : X.calm = true) : CallR X (.builtin "min") (biR X minD) := by
  intro pins s σ H xs us Q I r h
  obtain ⟨l, re, O, W, H0, hb, hd, g, d, c, rfl, p⟩ := h
  unfold minD at hb
  split at hb
  · cases hb
    obtain ⟨v, v', rfl, gv, gv'⟩ := g.two
    exact call_min2 hc pins s σ H _ us Q I r ⟨_, _, by rw [gv.int hd, gv'.int hd], p _ H (Same.refl H) got_int⟩
  · split at hb
    · rename_i n r' hq
      cases hb
      obtain ⟨v, rfl, gv⟩ := g.one
      obtain ⟨a, ys, e1, e2, e3⟩ := gv.lst hd
      have e4 := ints_rep hq e3
      subst e4
      exact call_minL hc pins s σ H _ us Q I r ⟨a, n :: r', by rw [e1], SqL.of e2, by simp, fun M m1 m2 => by rw [minI_one m1 m2]; exact p _ H (Same.refl H) got_int⟩
    · cases hb
  · cases hb
theorem bi_max (hc : X.calm = true) : CallR X (.builtin "max") (biR X maxD) := by
  intro pins s σ H xs us Q I r h
  obtain ⟨l, re, O, W, H0, hb, hd, g, d, c, rfl, p⟩ := h
  unfold maxD at hb
  split at hb
  · cases hb
    obtain ⟨v, v', rfl, gv, gv'⟩ := g.two
    exact call_max2 hc pins s σ H _ us Q I r ⟨_, _, by rw [gv.int hd, gv'.int hd], p _ H (Same.refl H) got_int⟩
  · split at hb
    · rename_i n r' hq
      cases hb
      obtain ⟨v, rfl, gv⟩ := g.one
      obtain ⟨a, ys, e1, e2, e3⟩ := gv.lst hd
      have e4 := ints_rep hq e3
      subst e4
      exact call_maxL hc pins s σ H _ us Q I r ⟨a, n :: r', by rw [e1], SqL.of e2, by simp, fun M m1 m2 => by rw [maxI_one m1 m2]; exact p _ H (Same.refl H) got_int⟩
    · cases hb
  · cases hb
theorem boot_sorted1 : bootBuiltins "sorted" = some (.builtin "sorted") := by decide +kernel
theorem boot_set1 : bootBuiltins "set" = some (.type "set") := by decide +kernel
/-- sorted(set(e)) -/
theorem snd_sset {p' : Pos} {pos' : Pos} (hc : X.calm = true) (hg : Gl X "sorted") (hm : X.mg "sorted" = none) (hg' : Gl X "set") (hm' : X.mg "set" = none)
    (ha : ∀ q, rs = some q → PA X [e] (dA X.D E δ q)) (hs : isStar e = false) (h : Rs.thn rs ssetD = some re) : PE X (.Call (.Name "sorted" p) [.Call (.Name "set" p') [e] [] pos'] [] pos) (dE X.D E δ re) :=
  snd_args (r := fun vs H Q => (∃ (a : Addr) (ns : List Int), vs = [.ref a] ∧ SqL X.K H a (ns.map V.int) ∧ ns.length < 4000 ∧ ∀ p, H p = none → ∃ (p1 : Addr) (ks : List Int), [V.ref p] = [.ref p1] ∧ upd H p (setO X.prog X.w p (ns.foldl dk [])) p1 = some (setO X.prog X.w p1 ks) ∧ ks.length < 64 ∧
      ∀ (q : Addr) (ms : List Int), upd H p (setO X.prog X.w p (ns.foldl dk [])) q = none → ms.Perm ks → ms.Pairwise (· ≤ ·) → Q (.ref q) (upd (upd H p (setO X.prog X.w p (ns.foldl dk []))) q (.lst (ms.map V.int)))))
    (fun t hA => by
      have q1 := pe_callTy (p := p') (pos := pos') (call_setL hc) hg' hm' boot_set1 hA (by decide) (by decide) (star_of hs) rfl
      have q2 := pe_callB (p := p) (pos := pos) (call_sortS hc) hg hm boot_sorted1 (pa_cons q1 pa_nil) (by decide) (by decide) rfl rfl
      exact q2.weak fun σ H Q h => h) ha h fun O W H0 H vs Q l σ hl hd g pp => by
    unfold ssetD at hl
    split at hl
    · split at hl
      · rename_i ds c ns hq
        split at hl
        · rename_i hb
          cases hl
          obtain ⟨v, rfl, gv⟩ := g.one
          obtain ⟨a, ys, e1, e2, e3⟩ := gv.lst hd
          have e4 := ints_rep hq e3
          subst e4
          refine ⟨a, ns, by rw [e1], SqL.of e2, hb.1, fun p1 hp1 => ⟨p1, _, rfl, upd_same, hb.2, fun q ms hq1 pm pw => ?_⟩⟩
          have e5 : ms = sortI (ns.foldl dk []) := pw_one (pm.trans (sortI_perm _).symm) pw (sortI_pw _)
          subst e5
          have s1 : Same H (upd H p1 (setO X.prog X.w p1 (ns.foldl dk []))) := same_upd hp1
          exact pp _ _ (s1.trans (same_upd hq1)) (got_new (hd.mono s1) hq1 (repL_ints _))
        · cases hl
      · cases hl
    · cases hl
theorem bi_int : CallR X (.type "int") (biR X intD) := by
  intro pins s σ H xs us Q I r h
  obtain ⟨l, re, O, W, H0, hb, hd, g, d, c, rfl, p⟩ := h
  unfold intD at hb
  split at hb
  · cases hb
    obtain ⟨v, rfl, gv⟩ := g.one
    exact call_int1 pins s σ H _ us Q I r (.inl ⟨_, by rw [gv.int hd], p _ H (Same.refl H) got_int⟩)
  · cases hb
    obtain ⟨v, rfl, gv⟩ := g.one
    exact call_int1 pins s σ H _ us Q I r (.inr ⟨_, by rw [gv.bl hd], p _ H (Same.refl H) got_int⟩)
  · cases hb
theorem bi_list : CallR X (.type "list") (biR X listD) := by
  intro pins s σ H xs us Q I r h
  obtain ⟨l, re, O, W, H0, hb, hd, g, d, c, rfl, p⟩ := h
  unfold listD at hb
  split at hb
  · cases hb
    obtain ⟨v, rfl, gv⟩ := g.one
    obtain ⟨a, e1, e2⟩ := rep_scr.mp (gv.all hd)
    exact call_list_of pins s σ H _ us Q I r ⟨a, _, by rw [e1], .inl e2.sq, fun q hq => p _ _ (same_upd hq) (got_new hd hq (repL_ints _))⟩
  · cases hb
    obtain ⟨v, rfl, gv⟩ := g.one
    obtain ⟨a, ys, e1, e2, e3⟩ := gv.lstC hd
    exact call_list_of pins s σ H _ us Q I r ⟨a, ys, by rw [e1], .inl (SqL.of e2), fun q hq => p _ _ (same_upd hq) (got_newC hd hq e3)⟩
  · cases hb
    obtain ⟨v, rfl, gv⟩ := g.one
    obtain ⟨a, ys, e1, e2, e3⟩ := gv.tupC hd
    exact call_list_of pins s σ H _ us Q I r ⟨a, ys, by rw [e1], .inr e2, fun q hq => p _ _ (same_upd hq) (got_newC hd hq e3)⟩
  · cases hb
theorem bi_tuple : CallR X (.type "tuple") (biR X tupleD) := by
  intro pins s σ H xs us Q I r h
  obtain ⟨l, re, O, W, H0, hb, hd, g, d, c, rfl, p⟩ := h
  unfold tupleD at hb
  split at hb
  · cases hb
    obtain ⟨v, rfl, gv⟩ := g.one
    obtain ⟨a, ys, e1, e2, e3⟩ := gv.lstC hd
    exact call_tuple_of pins s σ H _ us Q I r ⟨a, ys, by rw [e1], .inl ⟨SqL.of e2, fun q hq => p _ _ (same_upd hq) (got_tupC hd hq e3)⟩⟩
  · cases hb
    obtain ⟨v, rfl, gv⟩ := g.one
    obtain ⟨a, ys, e1, e2, e3⟩ := gv.tupC hd
    exact call_tuple_of pins s σ H _ us Q I r ⟨a, ys, by rw [e1], .inr ⟨e2, p _ _ (Same.refl H) (by rw [← e1]; exact gv)⟩⟩
  · cases hb
end

/-! ### isinstance -/
def tyS : DV → Option String
  | .non => some "NoneType" | .bl _ => some "bool" | .int _ => some "int" | .str _ => some "str" | .tup _ => some "tuple" | .lst _ => some "list"
  | _ => none
def tySub (T t : String) : Option Bool := if (Value.type T == Value.type t) = true then some true else if PySem.W.kitMeta t = true then (fastBuiltinMro T).map (·.contains (.type t)) else none
theorem tySub_all : (["NoneType", "bool", "int", "str", "tuple", "list"] : List String).all (fun T => (["int", "bool", "str", "list", "tuple", "dict"] : List String).all fun t => tySub T t == some (T == t || (T == "bool" && t == "int"))) = true := by decide +kernel
theorem kit_ty {K : PySem.W.Frag} (T t : String) (h1 : T ∈ ["NoneType", "bool", "int", "str", "tuple", "list"]) (h2 : t ∈ ["int", "bool", "str", "list", "tuple", "dict"]) :
    PySem.W.kitOne K (.type T) (.type t) = some (T == t || (T == "bool" && t == "int")) := by
  have q := List.all_eq_true.mp (List.all_eq_true.mp tySub_all T h1) t h2
  exact (show tySub T t = _ from by simpa using q)
section
variable {X : Cx} {E : St → XK} {δ : List Sv} {e e' : Expr} {pos p p' : Pos} {re : Re} {ra : Option Re}
theorem isi_dv {pins : List (Addr × Obj)} {σ : St} {H : Hp} {s : Shared} {Q : Value → Shared → Prop} {EE : Value → Shared → Prop} {d : DV} {v : V} {u : Value} {T t : String} (I : Inv X pins σ H s) (r : Rep X.D H d v) (rv : RelV v u) (hT : tyS d = some T) (ht : t ∈ ["int", "bool", "str", "list", "tuple", "dict"])
    (h : ∀ tk, Q (.bool (T == t || (T == "bool" && t == "int"))) { s with toks := tk }) : wpAny (model X.prog X.w) X.A (call (.builtin "isinstance") [u, .type t]) Q EE s := by
  cases d with
  | non => cases hT; rw [rep_non.mp r] at rv; cases rv; exact PySem.W.kia_one PySem.W.kitx_none I.kIn True.intro (kit_ty _ _ (by simp) ht) (fun z => nomatch z) h
  | bl b => cases hT; rw [rep_bl.mp r] at rv; cases rv; exact PySem.W.kia_one PySem.W.kitx_bool I.kIn True.intro (kit_ty _ _ (by simp) ht) (fun z => nomatch z) h
  | int b => cases hT; rw [rep_int.mp r] at rv; obtain ⟨tk, rfl⟩ := rv; exact PySem.W.kia_one PySem.W.kitx_int I.kIn True.intro (kit_ty _ _ (by simp) ht) (fun z => nomatch z) h
  | str b => cases hT; rw [(rep_str.mp r).1] at rv; obtain ⟨tk, rfl⟩ := rv; exact PySem.W.kia_one PySem.W.kitx_str I.kIn True.intro (kit_ty _ _ (by simp) ht) (fun z => nomatch z) h
  | tup ds =>
    cases hT
    obtain ⟨a, xs, e1, e2, e3⟩ := rep_tup.mp r
    rw [e1] at rv; cases rv
    obtain ⟨its, _, ⟨o, h1, h2, _⟩, _⟩ := I.tuple e2
    exact PySem.W.kia_one PySem.W.kitx_tuple I.kIn ⟨o, h1, h2⟩ (kit_ty _ _ (by simp) ht) (fun z => nomatch z) h
  | lst ds =>
    cases hT
    obtain ⟨a, xs, e1, e2, e3⟩ := rep_lst.mp r
    rw [e1] at rv; cases rv
    obtain ⟨_, its, n, _, _, h1⟩ := I.lstM e2
    exact PySem.W.kia_one PySem.W.kitx_list I.kIn ⟨_, h1, rfl⟩ (kit_ty _ _ (by simp) ht) (fun z => nomatch z) h
  | dct _ _ => cases hT
  | exc _ => cases hT
  | fn _ => cases hT
  | scr _ => cases hT
def rIsi (X : Cx) : List V → Hp → VK → Prop := fun xs H Q => ∃ d T t x, xs = [x, .ty t] ∧ Rep X.D H d x ∧ tyS d = some T ∧ t ∈ ["int", "bool", "str", "list", "tuple", "dict"] ∧ Q (.bl (T == t || (T == "bool" && t == "int"))) H
theorem call_isi : CallR X (.builtin "isinstance") (rIsi X) := by
  intro pins s σ H xs us Q I r h
  obtain ⟨d, T, t, x, rfl, r1, hT, ht, q⟩ := h
  obtain ⟨u, w', rfl, ru, rw'⟩ := vals2 r
  cases rw'
  exact isi_dv I r1 ru hT ht fun tk => ⟨.bl _, H, I.tok tk, rfl, q⟩
/-- the six types by their names -/
def tyName : Str → Option String := fun x => (["int", "bool", "str", "list", "tuple", "dict"] : List String).find? fun t => Str.ofString t == x
theorem boot_ty {x : Str} {t : String} (h : tyName x = some t) : bootBuiltins x = some (.type t) ∧ t ∈ ["int", "bool", "str", "list", "tuple", "dict"] ∧ Str.ofString t = x := by
  unfold tyName at h
  have h1 := List.find?_some h
  have h2 := List.mem_of_find?_eq_some h
  have h3 : Str.ofString t = x := by simpa using h1
  refine ⟨?_, h2, h3⟩
  subst h3
  simp only [List.mem_cons, List.not_mem_nil, or_false] at h2
  rcases h2 with rfl | rfl | rfl | rfl | rfl | rfl
  · exact boot_int
  · exact boot_bool
  · exact boot_str
  · exact boot_list
  · exact boot_tuple
  · exact boot_dict
def tyNames : String → List Str
  | "NoneType" => ["NoneType"] | "bool" => ["bool", "int"] | "int" => ["int"] | "str" => ["str"] | "tuple" => ["tuple"] | "list" => ["list"]
  | _ => []
theorem tyNames_all : (["NoneType", "bool", "int", "str", "tuple", "list"] : List String).all (fun T => (["int", "bool", "str", "list", "tuple", "dict"] : List String).all fun t => (tyNames T).contains (Str.ofString t) == (T == t || (T == "bool" && t == "int"))) = true := by decide +kernel
theorem isi_eq {d : DV} {x : Str} {t T : String} (h : tyName x = some t) (hT : tyS d = some T) : (tyOf d).contains x = (T == t || (T == "bool" && t == "int")) := by
  obtain ⟨_, h2, h3⟩ := boot_ty h
  subst h3
  have key : ∀ T ∈ (["NoneType", "bool", "int", "str", "tuple", "list"] : List String), (tyNames T).contains (Str.ofString t) = (T == t || (T == "bool" && t == "int")) := fun T hT => by
    have q := List.all_eq_true.mp (List.all_eq_true.mp tyNames_all T hT) t h2
    simpa using q
  cases d <;> cases hT
  · exact key "NoneType" (by simp)
  · exact key "bool" (by simp)
  · exact key "int" (by simp)
  · exact key "str" (by simp)
  · exact key "tuple" (by simp)
  · exact key "list" (by simp)
theorem snd_isi {G : Gs} {x : Str} {t : String} (ht : tyName x = some t) (hg : Gl X "isinstance") (hm : X.mg "isinstance" = none) (hgx : Gl X x) (hmx : X.mg x = none) (hnx : x ≠ "__name__") (hdx : (x == ("__debug__" : Str)) = false)
    (ha : ∀ q, ra = some q → PE X e (dE X.D E δ q)) (hs : isStar e = false) (h : (Re.thn ra fun y _ => (isiD G y [x]).map fun k => .ok (.bl k) .strong) = some re) : PE X (.Call (.Name "isinstance" p) [e, .Name x p'] [] pos) (dE X.D E δ re) := by
  obtain ⟨b1, b2, b3⟩ := boot_ty ht
  have T : PE X (.Name x p') (tC (.ty t)) := pe_bltn hgx hmx b1 rfl hnx hdx
  have C := fun ta (hA : PE X e ta) => pe_callB (p := p) (pos := pos) call_isi hg hm boot_isinstance (pa_cons hA (pa_cons T pa_nil) (star_of hs)) (by decide) (by decide) (star_of hs)
  cases hra : ra with
  | none => rw [hra] at h; cases h
  | some q =>
    rw [hra] at h
    have A := ha q hra
    cases q with
    | ex c => cases h; exact (C _ A).weak fun σ H Q ⟨O, W, R, p⟩ => ⟨O, W, R, p⟩
    | ok d cl =>
      obtain ⟨k, e1, e2⟩ := Option.map_eq_some_iff.mp (show ((isiD G d [x]).map fun k => Re.ok (.bl k) .strong) = some re from h)
      cases e2
      have key : ∃ T, tyS d = some T ∧ k = (tyOf d).contains x := by
        unfold isiD at e1
        have px : pyTypes.contains x = true := by
          rw [← b3]
          simp only [List.mem_cons, List.not_mem_nil, or_false] at b2
          rcases b2 with rfl | rfl | rfl | rfl | rfl | rfl <;> decide +kernel
        cases d <;> first
          | (simp only [px, if_true] at e1; cases e1; exact ⟨_, rfl, rfl⟩)
          | cases e1
      obtain ⟨T, hT, hk⟩ := key
      exact (C _ A).weak fun σ H Q ⟨O, W, R, p⟩ => ⟨O, W, R, fun v H1 s1 g1 => ⟨d, T, t, v, rfl, g1.all (R.hid.mono s1), hT, b2, by rw [← isi_eq ht hT, ← hk]; exact p _ H1 s1 got_bl⟩⟩
end
end L2

end
section

set_option Elab.async false
set_option linter.all false
set_option maxRecDepth 100000
set_option maxHeartbeats 4000000

/-! What is walked; comprehensions. -/
namespace L2
open PySem PySem.Spec PyProof.Rows

/-- J walks the items ds, as long as what is not hidden stays: Oc for the walked thing, Oi for its items -/
structure Wk (D : Dm) (J : It) (ds : List DV) (Oc Oi : List Addr) (H1 : Hp) : Prop where
  go : ∀ i H, Same (L2.wo Oc H1) (L2.wo Oc H) → i < ds.length → J.go i H
  same : ∀ i H x H', J.yld i H x H' → Same H H'
  yld : ∀ i H x H' d O2, Same (L2.wo Oc H1) (L2.wo Oc H) → Same (L2.wo Oi H1) (L2.wo Oi H) → J.yld i H x H' → ds[i]? = some d → (∀ a ∈ O2, H a ≠ none ∧ (a ∈ Oi ∨ H1 a = none)) → Rep D (L2.wo O2 H') d x
  stop : ∀ H, Same (L2.wo Oc H1) (L2.wo Oc H) → J.stop ds.length H
/-- by the class of the walked thing -/
def hidW (O W : List Addr) : Cl → List Addr
  | .top => O
  | .weak => O
  | _ => O ++ W
def PostI (D : Dm) (E : St → XK) (σ : St) (O W : List Addr) (H : Hp) (R : It → Hp → Prop) : Ri → Prop
  | .ok ds c => ∀ J H', Same H H' → Wk D J ds (hidW O W c) (itemHid O W c) H' → R J H'
  | .ex c => ∀ H' C, D.mg c = some C → Same H H' → E σ C none H'
def dI (D : Dm) (E : St → XK) (δ : List Sv) (r : Ri) : TI := fun σ H R => ∃ O W, RSt D H σ δ O W ∧ PostI D E σ O W H R r
theorem PI.weak {X : Cx} {tg iter : Expr} {t t' : TI} (h : PI X tg iter t) (k : ∀ σ H R, t' σ H R → t σ H R) : PI X tg iter t' := fun pins s σ H R I q => h pins s σ H R I (k σ H R q)

theorem wk_hid {O O2 : List Addr} {H1 H : Hp} (s : Same (L2.wo O H1) (L2.wo O H)) (h : ∀ a ∈ O2, H a ≠ none ∧ (a ∈ O ∨ H1 a = none)) : Same (L2.wo O H1) (L2.wo O2 H) := fun b o e => by
  have q := s b o e
  obtain ⟨hb, e⟩ := wo_some e
  obtain ⟨_, q⟩ := wo_some q
  rw [wo_out fun z => ?_]
  · exact q
  · rcases (h b z).2 with w | w
    · exact hb w
    · rw [w] at e; cases e
theorem Wk.list {D : Dm} {ds : List DV} {Oc Oi : List Addr} {H1 : Hp} {a : Addr} {xs : List V} (h : SqL D.K (L2.wo Oc H1) a xs) (r : RepL D (L2.wo Oi H1) ds xs) : Wk D (Itl D.K a) ds Oc Oi H1 where
  go := fun i H s hi => ⟨xs, xs[i]'(by rw [r.length]; exact hi), wo_le.seq (s.seq h), List.getElem?_eq_getElem _⟩
  same := fun i H x H' y => by rw [y.1]; exact Same.refl _
  yld := fun i H x H' d O2 s s' y e ho => by
    obtain ⟨e1, y⟩ := y
    subst e1
    obtain ⟨v, q1, q2⟩ := r.get e
    have := y xs (wo_le.seq (s.seq h))
    rw [q1] at this; cases this
    exact q2.mono (wk_hid s' ho)
  stop := fun H s => ⟨xs, wo_le.seq (s.seq h), by rw [r.length]; exact Nat.le_refl _⟩
theorem Wk.tup {D : Dm} {ds : List DV} {Oc Oi : List Addr} {H1 : Hp} {a : Addr} {xs : List V} (h : SqT D.K (L2.wo Oc H1) a xs) (r : RepL D (L2.wo Oi H1) ds xs) : Wk D (Itt D.K a) ds Oc Oi H1 where
  go := fun i H s hi => ⟨xs, xs[i]'(by rw [r.length]; exact hi), wo_le.tseq (s.tseq h), List.getElem?_eq_getElem _⟩
  same := fun i H x H' y => by rw [y.1]; exact Same.refl _
  yld := fun i H x H' d O2 s s' y e ho => by
    obtain ⟨e1, y⟩ := y
    subst e1
    obtain ⟨v, q1, q2⟩ := r.get e
    have := y xs (wo_le.tseq (s.tseq h))
    rw [q1] at this; cases this
    exact q2.mono (wk_hid s' ho)
  stop := fun H s => ⟨xs, wo_le.tseq (s.tseq h), by rw [r.length]; exact Nat.le_refl _⟩
theorem upTo_length (lo : Int) (n : Nat) : (upTo lo n).length = n := by unfold upTo; rw [List.length_map, List.length_range]
theorem upTo_get {lo : Int} {n i : Nat} {d : DV} (h : (upTo lo n)[i]? = some d) : i < n ∧ d = .int (lo + i) := by
  have hl : i < n := by have := (List.getElem?_eq_some_iff.mp h).1; rw [upTo_length] at this; exact this
  unfold upTo at h
  rw [List.getElem?_map, List.getElem?_range hl] at h
  cases h
  exact ⟨hl, rfl⟩
theorem Wk.range {D : Dm} {Oc Oi : List Addr} {H1 : Hp} (lo : Int) (n : Nat) : Wk D (Itr lo n) (upTo lo n) Oc Oi H1 where
  go := fun i H s hi => by rw [upTo_length] at hi; exact hi
  same := fun i H x H' y => by rw [y.1]; exact Same.refl _
  yld := fun i H x H' d O2 s s' y e ho => by
    obtain ⟨e1, y⟩ := y
    subst e1
    obtain ⟨_, e2⟩ := upTo_get e
    subst e2
    exact rep_int.mpr y
  stop := fun H s => by rw [upTo_length]; exact Nat.le_refl _

section
variable {X : Cx} {E : St → XK} {δ : List Sv} {tg e e' : Expr} {es : List Expr} {pos p : Pos} {ra rb : Option Re} {rs : Option Rs} {ri : Ri}
theorem Got.walkL {D : Dm} {O W : List Addr} {H0 H : Hp} {ds : List DV} {c : Cl} {v : V} (g : Got D O W H0 H (.lst ds) c v) (hd : Hid O W H0 H) : ∃ a xs, v = .ref a ∧ SqL D.K (L2.wo (hidW O W c) H) a xs ∧ RepL D (L2.wo (itemHid O W c) H) ds xs := by
  cases c with
  | weak => obtain ⟨a, xs, e1, e2, e3⟩ := rep_lst.mp g; exact ⟨a, xs, e1, SqL.of e2, e3⟩
  | top => obtain ⟨a, xs, e1, e0, e2, e3⟩ := g; exact ⟨a, xs, e1, SqL.of e2, e3⟩
  | strong => obtain ⟨a, xs, e1, e2, e3⟩ := rep_lst.mp g; exact ⟨a, xs, e1, SqL.of e2, e3⟩
  | fresh => obtain ⟨a, xs, e1, e2, e3⟩ := rep_lst.mp (g.strong hd); exact ⟨a, xs, e1, SqL.of e2, e3⟩
  | ft => obtain ⟨a, xs, e1, e2, e3⟩ := rep_lst.mp (g.ft hd); exact ⟨a, xs, e1, SqL.of e2, e3⟩
theorem Got.walkT {D : Dm} {O W : List Addr} {H0 H : Hp} {ds : List DV} {c : Cl} {v : V} (g : Got D O W H0 H (.tup ds) c v) (hd : Hid O W H0 H) : ∃ a xs, v = .ref a ∧ SqT D.K (L2.wo (hidW O W c) H) a xs ∧ RepL D (L2.wo (itemHid O W c) H) ds xs := by
  cases c with
  | weak => exact rep_tup.mp g
  | top =>
    obtain ⟨a, xs, e1, e2, e3⟩ := rep_tup.mp (show Rep D (L2.wo (O ++ W) H) (.tup ds) v from g)
    exact ⟨a, xs, e1, (wo_sub sub_l).tseq e2, e3⟩
  | strong => exact rep_tup.mp g
  | fresh => obtain ⟨_, _, _, _, q, _⟩ := g; cases q
  | ft => exact rep_tup.mp (g.ft hd)
theorem Got.walkS {D : Dm} {O W : List Addr} {H0 H : Hp} {ns : List Int} {c : Cl} {v : V} (g : Got D O W H0 H (.scr ns) c v) (hd : Hid O W H0 H) : ∃ a, v = .ref a ∧ SqL D.K (L2.wo (hidW O W c) H) a (ns.map V.int) := by
  cases c with
  | weak => obtain ⟨a, e1, e2⟩ := rep_scr.mp g; exact ⟨a, e1, e2.sq⟩
  | top => obtain ⟨a, e1, e2⟩ := rep_scr.mp (show Rep D (L2.wo (O ++ W) H) (.scr ns) v from g); exact ⟨a, e1, (wo_sub sub_l).seq e2.sq⟩
  | strong => obtain ⟨a, e1, e2⟩ := rep_scr.mp g; exact ⟨a, e1, e2.sq⟩
  | fresh => obtain ⟨_, _, _, _, q, _⟩ := g; cases q
  | ft => obtain ⟨a, e1, e2⟩ := rep_scr.mp (g.ft hd); exact ⟨a, e1, e2.sq⟩
theorem snd_iter (ha : ∀ q, ra = some q → PE X e (dE X.D E δ q)) (h : walkD ra = some ri) : PI X tg e (dI X.D E δ ri) := by
  cases hra : ra with
  | none => rw [hra] at h; cases h
  | some q =>
    rw [hra] at h
    have A := ha q hra
    cases q with
    | ex c => cases h; exact (pi_list A).weak fun σ H R' ⟨O, W, R, p⟩ => ⟨O, W, R, p⟩
    | ok d c =>
      obtain ⟨ds, e1, e2⟩ := Option.map_eq_some_iff.mp (show ((seqD d).map fun ds => Ri.ok ds c) = some ri from h)
      cases e2
      unfold seqD at e1
      split at e1
      · cases e1
        exact (pi_list A).weak fun σ H R' ⟨O, W, R, p⟩ => ⟨O, W, R, fun v H1 s1 g1 => by
          obtain ⟨a, e1, e2⟩ := g1.walkS (R.hid.mono s1)
          exact ⟨a, e1, ⟨_, wo_le.seq e2⟩, p _ H1 s1 (.list e2 (repL_ints _))⟩⟩
      · cases e1
        exact (pi_list A).weak fun σ H R' ⟨O, W, R, p⟩ => ⟨O, W, R, fun v H1 s1 g1 => by
          obtain ⟨a, xs, e1, e2, e3⟩ := g1.walkL (R.hid.mono s1)
          exact ⟨a, e1, ⟨xs, wo_le.seq e2⟩, p _ H1 s1 (.list e2 e3)⟩⟩
      · cases e1
        exact (pi_tup A).weak fun σ H R' ⟨O, W, R, p⟩ => ⟨O, W, R, fun v H1 s1 g1 => by
          obtain ⟨a, xs, e1, e2, e3⟩ := g1.walkT (R.hid.mono s1)
          exact ⟨a, e1, ⟨xs, wo_le.tseq e2⟩, p _ H1 s1 (.tup e2 e3)⟩⟩
      · cases e1
theorem small62_of {i : Int} (h : small62 i = true) : -(2 ^ 62) ≤ i ∧ i < 2 ^ 62 := by
  unfold small62 at h
  simpa [Bool.and_eq_true] using h
theorem walk_rng {o : Option (List DV)} {ri : Ri} (h : walkD (o.map fun ds => Re.ok (.lst ds) .fresh) = some ri) : ∃ ds, o = some ds ∧ ri = .ok ds .fresh := by
  cases o with
  | none => cases h
  | some ds => cases h; exact ⟨ds, rfl, rfl⟩
theorem snd_range1 (hg : Gl X "range") (hm : X.mg "range" = none) (ha : ∀ q, rs = some q → PA X [e] (dA X.D E δ q)) (hs : isStar e = false) (h : walkD (Rs.thn rs fun l => (rngD l).map fun ds => Re.ok (.lst ds) .fresh) = some ri) (hl : ∀ l, rs = some (.ok l) → l.length = 1) :
    PI X tg (.Call (.Name "range" p) [e] [] pos) (dI X.D E δ ri) := by
  have C := fun t (hA : PA X [e] t) => pi_range1 (tg := tg) (p := p) (pos := pos) hg hm hA (star_of hs)
  cases hrs : rs with
  | none => rw [hrs] at h; cases h
  | some q =>
    rw [hrs] at h
    have A := ha q hrs
    cases q with
    | ex c => cases h; exact (C _ A).weak fun σ H R' ⟨O, W, R, p⟩ => ⟨O, W, R, p⟩
    | ok l =>
      have l1 := hl l hrs
      obtain ⟨ds, e1, e2⟩ := walk_rng (show walkD ((rngD l).map fun ds => Re.ok (.lst ds) .fresh) = some ri from h)
      cases e2
      unfold rngD at e1
      split at e1
      · rename_i j c
        split at e1
        · rename_i m
          cases e1
          rw [Bool.and_eq_true] at m
          have q := small62_of m.1
          exact (C _ A).weak fun σ H R' ⟨O, W, R, p⟩ => ⟨O, W, R, fun vs H1 s1 g1 => by
            obtain ⟨v, rfl, gv⟩ := g1.one
            exact ⟨j, by rw [gv.int (R.hid.mono s1)], q.1, q.2, p _ H1 s1 (.range _ _)⟩⟩
        · cases e1
      · cases l1
      · cases e1
theorem snd_range2 (hg : Gl X "range") (hm : X.mg "range" = none) (ha : ∀ q, rs = some q → PA X [e, e'] (dA X.D E δ q)) (hs : isStar e = false) (hs' : isStar e' = false) (h : walkD (Rs.thn rs fun l => (rngD l).map fun ds => Re.ok (.lst ds) .fresh) = some ri) (hl : ∀ l, rs = some (.ok l) → l.length = 2) :
    PI X tg (.Call (.Name "range" p) [e, e'] [] pos) (dI X.D E δ ri) := by
  have C := fun t (hA : PA X [e, e'] t) => pi_range2 (tg := tg) (p := p) (pos := pos) hg hm hA (by rw [star_of hs, star_of hs']; rfl) (star_of hs')
  cases hrs : rs with
  | none => rw [hrs] at h; cases h
  | some q =>
    rw [hrs] at h
    have A := ha q hrs
    cases q with
    | ex c => cases h; exact (C _ A).weak fun σ H R' ⟨O, W, R, p⟩ => ⟨O, W, R, p⟩
    | ok l =>
      have l1 := hl l hrs
      obtain ⟨ds, e1, e2⟩ := walk_rng (show walkD ((rngD l).map fun ds => Re.ok (.lst ds) .fresh) = some ri from h)
      cases e2
      unfold rngD at e1
      split at e1
      · cases l1
      · rename_i i c j c'
        split at e1
        · rename_i m
          cases e1
          rw [Bool.and_eq_true, Bool.and_eq_true] at m
          have q := small62_of m.1.1
          have q' := small62_of m.1.2
          exact (C _ A).weak fun σ H R' ⟨O, W, R, p⟩ => ⟨O, W, R, fun vs H1 s1 g1 => by
            obtain ⟨v, v', rfl, gv, gv'⟩ := g1.two
            exact ⟨i, j, by rw [gv.int (R.hid.mono s1), gv'.int (R.hid.mono s1)], ⟨q.1, q.2, q'.1, q'.2⟩, p _ H1 s1 (.range _ _)⟩⟩
        · cases e1
      · cases e1
end

/-! ### targets -/
def gNames : List Nat → TGs
  | [] => gNil
  | i :: is => gCons (gName i) (gNames is)
def gT (K : PySem.W.Frag) : Tg → TG
  | .one i => gName i
  | .many is => gTup K is.length (gNames is)
theorem RSt.setVal {D : Dm} {H : Hp} {σ : St} {δ : List Sv} {O W : List Addr} {v : V} {d : DV} (R : RSt D H σ δ O W) (r : Rep D (L2.wo (O ++ W) H) d v) (i : Nat) : RSt D H (σ.set i (some v)) (δ.set i (.val d)) O W where
  val := fun j d' h => by
    by_cases hj : j = i
    · subst hj
      have hl : j < δ.length := by
        have := (List.getElem?_eq_some_iff.mp h).1
        rw [List.length_set] at this; exact this
      rw [List.getElem?_set_self hl] at h
      cases h
      exact ⟨v, List.getElem?_set_self (by rw [R.len]; exact hl), r⟩
    · rw [List.getElem?_set_ne (Ne.symm hj)] at h ⊢
      exact R.val j d' h
  own := fun j ds' h => by
    by_cases hj : j = i
    · subst hj
      have hl : j < δ.length := by
        have := (List.getElem?_eq_some_iff.mp h).1
        rw [List.length_set] at this; exact this
      rw [List.getElem?_set_self hl] at h
      cases h
    · rw [List.getElem?_set_ne (Ne.symm hj)] at h ⊢
      exact R.own j ds' h
  inj := fun j k a d1 d2 h1 h2 e1 e2 => by
    have ne : ∀ {j : Nat} {d1 : DV}, (δ.set i (.val d))[j]? = some (.own d1) → j ≠ i := fun {j d1} h1 z => by
      subst z
      have hl : j < δ.length := by
        have := (List.getElem?_eq_some_iff.mp h1).1
        rw [List.length_set] at this; exact this
      rw [List.getElem?_set_self hl] at h1
      cases h1
    have n1 := ne h1
    have n2 := ne h2
    rw [List.getElem?_set_ne (Ne.symm n1)] at h1 e1
    rw [List.getElem?_set_ne (Ne.symm n2)] at h2 e2
    exact R.inj j k a d1 d2 h1 h2 e1 e2
  ot := fun j d' h => by
    have ne : ∀ {j : Nat} {s : Sv}, (∀ d, s ≠ .val d) → (δ.set i (.val d))[j]? = some s → j ≠ i := fun {j s} hs h1 z => by
      subst z
      have hl : j < δ.length := by
        have := (List.getElem?_eq_some_iff.mp h1).1
        rw [List.length_set] at this; exact this
      rw [List.getElem?_set_self hl] at h1
      cases h1
      exact hs _ rfl
    have nj := ne (by intro d z; cases z) h
    rw [List.getElem?_set_ne (Ne.symm nj)] at h ⊢
    obtain ⟨⟨t, ts, p, xs, ds, es, e0, e1, e2, e3, e4, e5, e6, e7⟩, u⟩ := R.ot j d' h
    refine ⟨⟨t, ts, p, xs, ds, es, e0, e1, e2, e3, e4, e5, e6, fun k d2 q => ?_⟩, fun k d2 q => ?_⟩
    · have nk := ne (by intro d z; cases z) q
      rw [List.getElem?_set_ne (Ne.symm nk)] at q ⊢
      exact e7 k d2 q
    · have nk := ne (by intro d z; cases z) q
      rw [List.getElem?_set_ne (Ne.symm nk)] at q
      exact u k d2 q
  len := by rw [List.length_set, List.length_set]; exact R.len
  hid := R.hid
theorem setAll_ok {D : Dm} {H : Hp} {O W : List Addr} {Q : St → Hp → Prop} : ∀ {is : List Nat} {ds : List DV} {xs : List V} {σ : St} {δ δ' : List Sv}, RSt D H σ δ O W → RepL D (L2.wo (O ++ W) H) ds xs → setAll δ is ds = some δ' → (∀ σ', RSt D H σ' δ' O W → Q σ' H) → gNames is xs σ H Q
  | [], [], xs, σ, δ, δ', R, r, h, q => by cases h; exact ⟨repL_nil.mp r, q σ R⟩
  | i :: is, d :: ds, xs, σ, δ, δ', R, r, h, q => by
    obtain ⟨v, vs, e1, e2, e3⟩ := repL_cons.mp r
    exact ⟨v, vs, e1, setAll_ok (R.setVal e2 i) e3 h q⟩
  | [], _ :: _, _, _, _, _, _, _, h, _ => by cases h
  | _ :: _, [], _, _, _, _, _, _, h, _ => by cases h
theorem setAll_length : ∀ {is : List Nat} {ds : List DV} {δ δ' : List Sv}, setAll δ is ds = some δ' → is.length = ds.length ∧ δ'.length = δ.length
  | [], [], _, _, h => by cases h; exact ⟨rfl, rfl⟩
  | i :: is, d :: ds, δ, δ', h => by
    obtain ⟨a, b⟩ := setAll_length (is := is) h
    exact ⟨by rw [List.length_cons, List.length_cons, a], by rw [b, List.length_set]⟩
  | [], _ :: _, _, _, h => by cases h
  | _ :: _, [], _, _, h => by cases h
theorem bind_ok {D : Dm} {H : Hp} {O W : List Addr} {Q : St → Hp → Prop} {tg : Tg} {d : DV} {x : V} {σ : St} {δ δ' : List Sv} (R : RSt D H σ δ O W) (r : Rep D (L2.wo (O ++ W) H) d x) (h : tg.bind d δ = some δ') (q : ∀ σ', RSt D H σ' δ' O W → Q σ' H) : gT D.K tg x σ H Q := by
  cases tg with
  | one i => cases h; exact q _ (R.setVal r i)
  | many is =>
    unfold Tg.bind at h
    dsimp only at h
    split at h
    · rename_i ds
      obtain ⟨a, xs, e1, e2, e3⟩ := rep_tup.mp r
      exact ⟨a, xs, e1, wo_le.tseq e2, by rw [e3.length, (setAll_length h).1], setAll_ok R e3 h q⟩
    · cases h
/-- less is told of the names -/
theorem RSt.less {D : Dm} {H : Hp} {σ : St} {δ δ' : List Sv} {O W : List Addr} (R : RSt D H σ δ' O W) (hl : δ.length = δ'.length) (h : ∀ (i : Nat) sv, δ[i]? = some sv → sv = .no ∨ δ'[i]? = some sv) : RSt D H σ δ O W where
  val := fun i d e => by
    rcases h i _ e with z | z
    · cases z
    · exact R.val i d z
  own := fun i d e => by
    rcases h i _ e with z | z
    · cases z
    · exact R.own i d z
  inj := fun i j a d d' e e' => by
    rcases h i _ e with z | z
    · cases z
    · rcases h j _ e' with y | y
      · cases y
      · exact R.inj i j a d d' z y
  ot := fun i d e => by
    rcases h i _ e with z | z
    · cases z
    · obtain ⟨⟨t, ts, p, xs, ds, es, e0, e1, e2, e3, e4, e5, e6, e7⟩, u⟩ := R.ot i d z
      refine ⟨⟨t, ts, p, xs, ds, es, e0, e1, e2, e3, e4, e5, e6, fun k d2 q => ?_⟩, fun k d2 q => ?_⟩
      · rcases h k _ q with y | y
        · cases y
        · exact e7 k d2 y
      · rcases h k _ q with y | y
        · cases y
        · exact u k d2 y
  len := by rw [hl]; exact R.len
  hid := R.hid
theorem setAll_less : ∀ {is : List Nat} {ds : List DV} {δ δ' : List Sv}, setAll δ is ds = some δ' → (∀ i ∈ is, δ[i]? = some .no ∨ δ[i]? = none) → ∀ (i : Nat) sv, δ[i]? = some sv → sv = .no ∨ δ'[i]? = some sv
  | [], [], _, _, h, _, i, sv, e => by cases h; exact .inr e
  | j :: is, d :: ds, δ, δ', h, hn, i, sv, e => by
    by_cases hij : i ∈ j :: is
    · rcases hn i hij with z | z
      · rw [z] at e; cases e; exact .inl rfl
      · rw [z] at e; cases e
    · have hne : j ≠ i := fun z => hij (by rw [z]; exact List.mem_cons_self)
      have hni : i ∉ is := fun z => hij (List.mem_cons_of_mem _ z)
      have key : ∀ {is : List Nat} {ds : List DV} {δ δ' : List Sv}, setAll δ is ds = some δ' → i ∉ is → δ[i]? = some sv → δ'[i]? = some sv := by
        intro is
        induction is with
        | nil => intro ds δ δ' h _ e; cases ds with
          | nil => cases h; exact e
          | cons _ _ => cases h
        | cons k is ih => intro ds δ δ' h hi e; cases ds with
          | nil => cases h
          | cons d ds =>
            refine ih h (fun z => hi (List.mem_cons_of_mem _ z)) ?_
            rw [List.getElem?_set_ne (fun z => hi (by rw [z]; exact List.mem_cons_self))]
            exact e
      exact .inr (key h hij e)
  | [], _ :: _, _, _, h, _, _, _, _ => by cases h
  | _ :: _, [], _, _, h, _, _, _, _ => by cases h
theorem bind_less {tg : Tg} {d : DV} {δ δ' : List Sv} (h : tg.bind d δ = some δ') (hn : ∀ i ∈ tgSlots tg, δ[i]? = some .no ∨ δ[i]? = none) : δ.length = δ'.length ∧ ∀ (i : Nat) sv, δ[i]? = some sv → sv = .no ∨ δ'[i]? = some sv := by
  cases tg with
  | one j =>
    cases h
    refine ⟨(List.length_set ..).symm, fun i sv e => ?_⟩
    by_cases hij : i = j
    · subst hij
      rcases hn i (by simp [tgSlots]) with z | z
      · rw [z] at e; cases e; exact .inl rfl
      · rw [z] at e; cases e
    · exact .inr (by rw [List.getElem?_set_ne (Ne.symm hij)]; exact e)
  | many is =>
    unfold Tg.bind at h
    dsimp only at h
    split at h
    · exact ⟨(setAll_length h).2.symm, setAll_less h hn⟩
    · cases h

/-! ### comprehensions -/
theorem RSt.inner {D : Dm} {H : Hp} {σ : St} {δ : List Sv} {O W : List Addr} (R : RSt D H σ δ O W) (fr : List (Option Nat)) (hnd : ∀ (j k i : Nat), fr[j]? = some (some i) → fr[k]? = some (some i) → j = k) : RSt D H (L2.inner fr σ) (innerD fr δ) O W := by
  have look : ∀ (j : Nat) sv, (innerD fr δ)[j]? = some sv → sv ≠ .no → ∃ i, fr[j]? = some (some i) ∧ δ[i]? = some sv := fun j sv h hn => by
    unfold innerD at h
    rw [List.getElem?_map] at h
    cases q : fr[j]? with
    | none => rw [q] at h; cases h
    | some o =>
      rw [q] at h
      cases o with
      | none => cases h; exact absurd rfl hn
      | some i =>
        refine ⟨i, rfl, ?_⟩
        have h' : (δ.getD i .no).plain = sv := by simpa using h
        rw [List.getD_eq_getElem?_getD] at h'
        cases z : δ[i]? with
        | none => rw [z] at h'; exact absurd h'.symm hn
        | some sv' =>
          rw [z] at h'
          cases sv' with
          | ot d => exact absurd h'.symm hn
          | no => exact congrArg some h'
          | val d => exact congrArg some h'
          | own d => exact congrArg some h'
  have sig : ∀ (j i : Nat) (v : V), fr[j]? = some (some i) → σ[i]? = some (some v) → (L2.inner fr σ)[j]? = some (some v) := fun j i v q e => by
    unfold L2.inner
    rw [List.getElem?_map, q]
    simp [e]
  have noot : ∀ (j : Nat) d, (innerD fr δ)[j]? ≠ some (.ot d) := fun j d h => by
    unfold innerD at h
    rw [List.getElem?_map] at h
    cases q : fr[j]? with
    | none => rw [q] at h; cases h
    | some o =>
      rw [q] at h
      cases o with
      | none => cases h
      | some i =>
        have h' : (δ.getD i .no).plain = .ot d := by simpa using h
        cases z : δ.getD i .no with
        | ot d2 => rw [z] at h'; cases h'
        | no => rw [z] at h'; cases h'
        | val d2 => rw [z] at h'; cases h'
        | own d2 => rw [z] at h'; cases h'
  refine ⟨fun j d h => ?_, fun j d h => ?_, fun j k a d d' h1 h2 e1 e2 => ?_, fun j d h => absurd h (noot j d), ?_, R.hid⟩
  · obtain ⟨i, q1, q2⟩ := look j _ h (by intro z; cases z)
    obtain ⟨v, e1, e2⟩ := R.val i d q2
    exact ⟨v, sig j i v q1 e1, e2⟩
  · obtain ⟨i, q1, q2⟩ := look j _ h (by intro z; cases z)
    obtain ⟨a, xs, ds, e0, e1, e2⟩ := R.own i d q2
    exact ⟨a, xs, ds, e0, sig j i _ q1 e1, e2⟩
  · obtain ⟨i, q1, q2⟩ := look j _ h1 (by intro z; cases z)
    obtain ⟨i', q1', q2'⟩ := look k _ h2 (by intro z; cases z)
    obtain ⟨b, xs, ds, _, z1, _⟩ := R.own i d q2
    obtain ⟨b', xs', ds', _, z1', _⟩ := R.own i' d' q2'
    have y := sig j i _ q1 z1
    have y' := sig k i' _ q1' z1'
    rw [e1] at y
    rw [e2] at y'
    cases y
    cases y'
    have := R.inj i i' a d d' q2 q2' z1 z1'
    subst this
    exact hnd j k i q1 q1'
  · unfold L2.inner innerD; rw [List.length_map, List.length_map]

section
variable {X : Cx} {E : St → XK} {δ : List Sv} {iter elt tgE : Expr} {ifs : List Expr} {pos : Pos} {N' : List Str} {scope : Scope} {fr : List (Option Nat)} {tg : Tg} {ri : Option Ri} {re : Re}
/-- the walk of a comprehension: g what an item gives -/
theorem compW_ok {D : Dm} {J : It} {ds : List DV} {O W : List Addr} {H H1 : Hp} {σ : St} {c : Cl} {g : DV → Option Rc} {xs : List DV} {tc : TT} {te : TE} {δ0 : List Sv} {Q : VK} (w : Wk D J ds (hidW O W c) (itemHid O W c) H1) (hd0 : Hid O W H H) (hc : c ≠ .weak) (R : RSt D H1 σ δ0 O W)
    (hn : ∀ i ∈ tgSlots tg, δ0[i]? = some .no ∨ δ0[i]? = none) (hz : ds.length ≤ sizeLine) (hx : compGo g ds = some xs) (s1 : Same H H1)
    (step : ∀ d rc, d ∈ ds → g d = some rc → ∃ δ', tg.bind d δ0 = some δ' ∧ ∀ σ' H2, Same H1 H2 → RSt D H2 σ' δ' O W → ∀ K : Bool → Hp → Prop, (rc = .skip → ∀ H3, Same H2 H3 → K false H3) → (∀ x, rc = .item x → ∀ H3, Same H2 H3 → K true H3) → tc σ' H2 K)
    (stepE : ∀ d x, d ∈ ds → g d = some (.item x) → ∀ δ', tg.bind d δ0 = some δ' → ∀ σ' H2, Same H1 H2 → RSt D H2 σ' δ' O W → ∀ K : VK, (∀ v H3, Same H2 H3 → Rep D (L2.wo (O ++ W) H3) x v → K v H3) → te σ' H2 K)
    (fin : ∀ v H', Same H H' → Got D O W H H' (.lst xs) .fresh v → Q v H') :
    CompW J (gT D.K tg) tc te (fun ys H' => ∀ p, H' p = none → Q (.ref p) (upd H' p (.lst ys))) σ H1 := by
  have ci : itemHid O W c = O ++ W := by cases c <;> first | rfl | exact absurd rfl hc
  rw [ci] at w
  refine ⟨fun i n ys σ' H' => n = ds.length - i ∧ i ≤ ds.length ∧ ys.length ≤ i ∧ RSt D H' σ' δ0 O W ∧ Same H1 H' ∧ ∃ done rest, compGo g (ds.drop i) = some rest ∧ done ++ rest = xs ∧ RepL D (L2.wo (O ++ W) H') done ys,
    ⟨ds.length, rfl, Nat.zero_le _, Nat.zero_le _, R, Same.refl _, [], xs, hx, rfl, repL_nil.mpr rfl⟩, ?_⟩
  rintro i n ys σ2 H2 ⟨rfl, hi', hy, R2, s2, done, rest, h1, h2, r2⟩
  by_cases hlt : i < ds.length
  · refine .inr ⟨w.go i H2 s2.wo hlt, Nat.lt_of_le_of_lt hy (Nat.lt_of_lt_of_le hlt hz), fun x' H3 y => ?_⟩
    have y1 := w.same i H2 x' H3 y
    have y3 : Rep D (L2.wo (O ++ W) H3) ds[i] x' := w.yld i H2 x' H3 _ (O ++ W) s2.wo s2.wo y (List.getElem?_eq_getElem hlt) fun a ha => ⟨R2.hid.ot a ha, .inl ha⟩
    rw [List.drop_eq_getElem_cons hlt] at h1
    have hm : ds[i] ∈ ds := List.getElem_mem hlt
    unfold compGo at h1
    split at h1
    · cases h1
    · rename_i q
      obtain ⟨δ', b1, b2⟩ := step _ _ hm q
      refine bind_ok (R2.mono y1) y3 b1 fun σ3 R3 => ?_
      have back := bind_less b1 hn
      refine b2 σ3 H3 (s2.trans y1) R3 _ (fun _ H4 s4 => ?_) (fun x z => nomatch z)
      show if false = true then _ else _
      rw [if_neg Bool.false_ne_true]
      exact ⟨ds.length - (i + 1), by omega, rfl, hlt, Nat.le_succ_of_le hy, (R3.less back.1 back.2).mono s4, (s2.trans y1).trans s4, done, rest, h1, h2, r2.mono (y1.trans s4).wo⟩
    · rename_i x q
      split at h1
      · cases h1
      · rename_i rest' q'
        cases h1
        obtain ⟨δ', b1, b2⟩ := step _ _ hm q
        refine bind_ok (R2.mono y1) y3 b1 fun σ3 R3 => ?_
        have back := bind_less b1 hn
        refine b2 σ3 H3 (s2.trans y1) R3 _ (fun z => nomatch z) (fun x' z H4 s4 => ?_)
        cases z
        show if true = true then _ else _
        rw [if_pos rfl]
        refine stepE _ x hm q δ' b1 σ3 H4 ((s2.trans y1).trans s4) (R3.mono s4) _ fun v H5 s5 rv => ?_
        exact ⟨ds.length - (i + 1), by omega, rfl, hlt, by rw [List.length_append, List.length_singleton]; omega, (R3.less back.1 back.2).mono (s4.trans s5), ((s2.trans y1).trans s4).trans s5, done ++ [x], rest', q', by rw [List.append_assoc]; exact h2,
          (r2.mono ((y1.trans s4).trans s5).wo).append (RepL.one rv)⟩
  · have e : i = ds.length := by omega
    subst e
    rw [List.drop_length] at h1
    cases h1
    rw [List.append_nil] at h2
    subst h2
    have s0 := s1.trans s2
    refine .inl ⟨w.stop H2 s2.wo, fun p hp => fin _ _ (s0.trans (same_upd hp)) ?_⟩
    have hd : Hid O W H H2 := hd0.mono s0
    exact got_new hd hp r2
abbrev E0s : St → XK := fun _ _ _ _ => False
theorem PE.any {Y : Cx} {e : Expr} {ι : Sort _} {t : ι → TE} (h : ∀ k, PE Y e (t k)) : PE Y e (fun σ H Q => ∃ k, t k σ H Q) := fun pins s σ H Q I ⟨k, q⟩ => h k pins s σ H Q I q
theorem PTs.any {Y : Cx} {ι : Sort _} {es : List Expr} {t : ι → TT} (h : ∀ k, PTs Y es (t k)) : PTs Y es (fun σ H Q => ∃ k, t k σ H Q) := fun pins s σ H Q I ⟨k, q⟩ => h k pins s σ H Q I q
theorem Rc.of_item {r : Option Re} {x : DV} (h : Rc.of r = some (.item x)) : ∃ c, r = some (.ok x c) ∧ stro x c = true := by
  unfold Rc.of at h
  split at h
  · rename_i d c
    split at h
    · rename_i m; cases h; exact ⟨c, rfl, m⟩
    · cases h
  · cases h
theorem Rc.of_skip {r : Option Re} (h : Rc.of r = some .skip) : False := by
  unfold Rc.of at h
  split at h
  · split at h <;> cases h
  · cases h
theorem innerD_no {fr : List (Option Nat)} {δ : List Sv} {i : Nat} (h : fr[i]? = some none) : (innerD fr δ)[i]? = some .no := by
  unfold innerD
  rw [List.getElem?_map, h]; rfl
/-- a comprehension's parts by their rules, and what its value wants of them -/
def CompParts (X : Cx) (E : St → XK) (δ : List Sv) (tgE iter : Expr) (ifs : List Expr) (elt : Expr) (scope : Scope) (N' : List Str) (fr : List (Option Nat)) (tg : Tg) (re : Re) : Prop :=
  ∃ wi tc te, PI X tgE iter wi ∧ (∀ C cells s₂ H₂ fp, PTs (cxComp X scope N' C cells s₂ H₂ fp) ifs tc) ∧ (∀ C cells s₂ H₂ fp, PE (cxComp X scope N' C cells s₂ H₂ fp) elt te) ∧
    ∀ σ H Q, dE X.D E δ re σ H Q → tComp fr wi (gT X.K tg) tc te σ H Q
theorem fold_of {iter : Expr} {env : Env} (hset : isSet iter = false) : ∀ x, foldedSetIterable iter env x = pure x := by cases iter <;> first | (intro _; rfl) | cases hset
theorem CompParts.pe (P : CompParts X E δ tgE iter ifs elt scope N' fr tg re) (S : CompScope X.N N' scope X.env.scope fr) (hc : X.calm = true) (hG : ∀ C cells s₂ H₂ fp, PG (cxComp X scope N' C cells s₂ H₂ fp) tgE (gT X.K tg)) (hset : isSet iter = false) :
    PE X (.ListComp elt [⟨tgE, iter, ifs, 0⟩] scope pos) (dE X.D E δ re) := by
  obtain ⟨wi, tc, te, h1, h2, h3, h4⟩ := P
  exact (pe_comp (pos := pos) S hc h1 hG h2 h3 (fold_of hset)).weak h4
theorem snd_comp_parts {evElt : List Sv → Option Re} (S : CompScope X.N N' scope X.env.scope fr) (hc : X.calm = true) (hnd : ∀ (j k i : Nat), fr[j]? = some (some i) → fr[k]? = some (some i) → j = k) (hsl : ∀ i ∈ tgSlots tg, fr[i]? = some none) (hi : ∀ q, ri = some q → PI X tgE iter (dI X.D E δ q))
    (hG : ∀ C cells s₂ H₂ fp, PG (cxComp X scope N' C cells s₂ H₂ fp) tgE (gT X.K tg)) (he : ∀ δ' r, evElt δ' = some r → ∀ C cells s₂ H₂ fp, PE (cxComp X scope N' C cells s₂ H₂ fp) elt (dE X.D E0s δ' r)) 
    (h : (Ri.thn ri fun ds c => if c = .weak ∨ mostLen < ds.length then none else compEnd (compGo (fun d => (tg.bind d (innerD fr δ)).bind fun δ' => Rc.of (evElt δ')) ds)) = some re) : CompParts X E δ tgE iter [] elt scope N' fr tg re := by
  cases hri : ri with
  | none => rw [hri] at h; cases h
  | some q =>
    rw [hri] at h
    have A := hi q hri
    refine ⟨_, _, _, A, (fun C cells s₂ H₂ fp => pts_nil), (fun C cells s₂ H₂ fp => PE.any (ι := { p : List Sv × Re // evElt p.1 = some p.2 }) (t := fun k => dE X.D E0s k.1.1 k.1.2) fun k => he k.1.1 k.1.2 k.2 C cells s₂ H₂ fp), ?_⟩
    cases q with
    | ex c => cases h; exact fun σ H Q ⟨O, W, R, p⟩ => ⟨O, W, R, p⟩
    | ok ds c =>
      have h' : (if c = .weak ∨ mostLen < ds.length then none else compEnd (compGo (fun d => (tg.bind d (innerD fr δ)).bind fun δ' => Rc.of (evElt δ')) ds)) = some re := h
      split at h'
      · cases h'
      · rename_i m
        rw [not_or] at m
        unfold compEnd at h'
        split at h'
        · cases h'
        · rename_i xs hx
          cases h'
          refine fun σ H Q ⟨O, W, R, p⟩ => ⟨O, W, R, fun J H1 s1 w => ?_⟩
          refine compW_ok (tg := tg) (D := X.D) w R.hid m.1 ((R.mono s1).inner fr hnd) (fun i hi => .inl (innerD_no (hsl i hi))) (len_line (by omega)) hx s1 (fun d rc hm hg => ?_) (fun d x hm hg δ' hb σ' H2 s2 R2 K hK => ?_) p
          · cases hb : tg.bind d (innerD fr δ) with
            | none => rw [hb] at hg; cases hg
            | some δ' =>
              rw [hb] at hg
              refine ⟨δ', rfl, fun σ' H2 s2 R2 K k1 k2 => ?_⟩
              cases rc with
              | skip => exact (Rc.of_skip hg).elim
              | item x => exact k2 x rfl H2 (Same.refl _)
          · rw [hb] at hg
            obtain ⟨cl, e1, e2⟩ := Rc.of_item hg
            exact ⟨⟨⟨δ', .ok x cl⟩, e1⟩, O, W, R2, fun v H3 s3 g3 => hK v H3 s3 (g3.stro (R2.hid.mono s3) e2)⟩
theorem snd_compi_parts {evElt : List Sv → Option Re} {evC : List Sv → Option Rt} {cond : Expr} (S : CompScope X.N N' scope X.env.scope fr) (hc : X.calm = true) (hnd : ∀ (j k i : Nat), fr[j]? = some (some i) → fr[k]? = some (some i) → j = k) (hsl : ∀ i ∈ tgSlots tg, fr[i]? = some none) (hi : ∀ q, ri = some q → PI X tgE iter (dI X.D E δ q))
    (hG : ∀ C cells s₂ H₂ fp, PG (cxComp X scope N' C cells s₂ H₂ fp) tgE (gT X.K tg)) (he : ∀ δ' r, evElt δ' = some r → ∀ C cells s₂ H₂ fp, PE (cxComp X scope N' C cells s₂ H₂ fp) elt (dE X.D E0s δ' r))
    (ht : ∀ δ' r, evC δ' = some r → ∀ C cells s₂ H₂ fp, PT (cxComp X scope N' C cells s₂ H₂ fp) cond (dT X.D E0s δ' r)) 
    (h : (Ri.thn ri fun ds c => if c = .weak ∨ mostLen < ds.length then none else compEnd (compGo (fun d => (tg.bind d (innerD fr δ)).bind fun δ' => Rc.test (evC δ') (Rc.of (evElt δ'))) ds)) = some re) : CompParts X E δ tgE iter [cond] elt scope N' fr tg re := by
  cases hri : ri with
  | none => rw [hri] at h; cases h
  | some q =>
    rw [hri] at h
    have A := hi q hri
    refine ⟨_, _, _, A, (fun C cells s₂ H₂ fp => PTs.any (ι := { p : List Sv × Rt // evC p.1 = some p.2 }) (t := fun k => dT X.D E0s k.1.1 k.1.2) fun k => pts_one (ht k.1.1 k.1.2 k.2 C cells s₂ H₂ fp)),
      (fun C cells s₂ H₂ fp => PE.any (ι := { p : List Sv × Re // evElt p.1 = some p.2 }) (t := fun k => dE X.D E0s k.1.1 k.1.2) fun k => he k.1.1 k.1.2 k.2 C cells s₂ H₂ fp), ?_⟩
    cases q with
    | ex c => cases h; exact fun σ H Q ⟨O, W, R, p⟩ => ⟨O, W, R, p⟩
    | ok ds c =>
      have h' : (if c = .weak ∨ mostLen < ds.length then none else compEnd (compGo (fun d => (tg.bind d (innerD fr δ)).bind fun δ' => Rc.test (evC δ') (Rc.of (evElt δ'))) ds)) = some re := h
      split at h'
      · cases h'
      · rename_i m
        rw [not_or] at m
        unfold compEnd at h'
        split at h'
        · cases h'
        · rename_i xs hx
          cases h'
          refine fun σ H Q ⟨O, W, R, p⟩ => ⟨O, W, R, fun J H1 s1 w => ?_⟩
          refine compW_ok (tg := tg) (D := X.D) w R.hid m.1 ((R.mono s1).inner fr hnd) (fun i hi => .inl (innerD_no (hsl i hi))) (len_line (by omega)) hx s1 (fun d rc hm hg => ?_) (fun d x hm hg δ' hb σ' H2 s2 R2 K hK => ?_) p
          · cases hb : tg.bind d (innerD fr δ) with
            | none => rw [hb] at hg; cases hg
            | some δ' =>
              rw [hb] at hg
              have hg' : Rc.test (evC δ') (Rc.of (evElt δ')) = some rc := hg
              refine ⟨δ', rfl, fun σ' H2 s2 R2 K k1 k2 => ?_⟩
              unfold Rc.test at hg'
              split at hg'
              · rename_i q
                refine ⟨⟨⟨δ', .ok true⟩, q⟩, O, W, R2, fun H3 s3 => ?_⟩
                cases rc with
                | skip => exact (Rc.of_skip hg').elim
                | item x => exact k2 x rfl H3 s3
              · rename_i q
                cases hg'
                exact ⟨⟨⟨δ', .ok false⟩, q⟩, O, W, R2, fun H3 s3 => k1 rfl H3 s3⟩
              · cases hg'
          · rw [hb] at hg
            have hg' : Rc.test (evC δ') (Rc.of (evElt δ')) = some (.item x) := hg
            unfold Rc.test at hg'
            split at hg'
            · obtain ⟨cl, e1, e2⟩ := Rc.of_item hg'
              exact ⟨⟨⟨δ', .ok x cl⟩, e1⟩, O, W, R2, fun v H3 s3 g3 => hK v H3 s3 (g3.stro (R2.hid.mono s3) e2)⟩
            · cases hg'
            · cases hg'
end
end L2

end
section

set_option Elab.async false
set_option linter.all false
set_option maxRecDepth 100000
set_option maxHeartbeats 4000000

/-! zip of two lists. -/
namespace L2
open PySem PySem.Spec PyProof.Rows

/-- several of an iterator's own objects have turned -/
theorem Inv.turnedL {X : Cx} {pins : List (Addr × Obj)} {σ : St} {H : Hp} {s : Shared} {h' : Heap} {t' : Nat} {ch : List Addr} (I : Inv X pins σ H s) (k : ∀ b o, b ∉ ch → s.heap.get? b = some o → h'.get? b = some o) (hf : ∀ b ∈ ch, FpOk X pins H b) : Inv X pins σ H { s with heap := h', toks := t' } := by
  have nit : ∀ b u, H b = some u → b ∉ ch := fun b u e z => by rw [(hf b z).1] at e; cases e
  refine I.step (g' := s.gens) (d' := s.drawn) (ch := ch) (fun b hb => ?_) (fun b o _ _ hc e _ => k b o hc e) (fun b o _ _ hc e _ => ⟨o.slots, k b o hc e⟩) (fun _ _ _ _ n => n)
    (fun b o hc e => ⟨o, k b o hc e⟩) (fun _ _ e => e) (fun _ _ _ e => e) (fun b ps e => ⟨#[], by rw [e]; simp⟩) (fun m hm => ?_) (fun b u e => ?_) I.bare
  · obtain ⟨_, f1, _, f3, f4, f5⟩ := hf b hb
    exact ⟨f3, f1, f4, f5⟩
  · obtain ⟨o, es, ep, ho, r⟩ := hm
    exact ⟨o, es, ep, k _ o (fun z => (hf _ z).2.1 rfl) ho, r⟩
  · refine (I.hok b u e).stay (fun c v hc q => k c v ?_ q) (fun _ q => q) fun _ _ q => q
    rcases hc with z | z
    · rw [z]; exact nit b u e
    · exact nit c _ z

/-- a list, or a tuple (t) -/
def SqD (t : Bool) (K : PySem.W.Frag) (H : Hp) (a : Addr) (xs : List V) : Prop := match t with | false => SqL K H a xs | true => SqT K H a xs
theorem Same.sqd {t : Bool} {K : PySem.W.Frag} {H H' : Hp} {a : Addr} {xs : List V} (e : Same H H') (h : SqD t K H a xs) : SqD t K H' a xs := by
  cases t
  · exact e.seq h
  · exact e.tseq h
theorem Inv.sqd {X : Cx} {pins : List (Addr × Obj)} {σ : St} {H : Hp} {s : Shared} {t : Bool} {a : Addr} {xs : List V} (I : Inv X pins σ H s) (h : SqD t X.K H a xs) : ∃ its : List Value, Vals xs its ∧ SqK t s.heap a its.toArray := by
  cases t
  · obtain ⟨its, rv, p, _⟩ := I.list h
    exact ⟨its, rv, p.isList⟩
  · obtain ⟨its, rv, p, _⟩ := I.tuple h
    exact ⟨its, rv, p⟩
theorem Inv.sqd_inj {X : Cx} {pins : List (Addr × Obj)} {σ : St} {H : Hp} {s : Shared} {t : Bool} {a : Addr} {xs ys : List V} (I : Inv X pins σ H s) (h : SqD t X.K H a xs) (h' : SqD t X.K H a ys) : xs = ys := by
  cases t
  · exact I.list_inj h h'
  · exact I.tuple_inj h h'
def itK (t : Bool) (h : Heap) (ia la : Addr) (k : Nat) : Prop := match t with | false => h.IsListIter ia la k | true => h.IsTupleIter ia la k
theorem sK_mk {t : Bool} {ia la : Addr} {vs : Array Value} {k : Nat} {h : Heap} (p : itK t h ia la k) (q : SqK t h la vs) : sK t ia la vs k h := by
  cases t <;> exact ⟨p, q⟩
theorem sK_it {t : Bool} {ia la : Addr} {vs : Array Value} {k : Nat} {h : Heap} (p : sK t ia la vs k h) : itK t h ia la k := by
  cases t <;> exact p.1
theorem itK_at {t : Bool} {ia la : Addr} {k : Nat} {h h' : Heap} (p : itK t h ia la k) (e : ∀ o, h.get? ia = some o → h'.get? ia = some o) : itK t h' ia la k := by
  cases t
  · exact Heap.IsListIter.at p e
  · obtain ⟨o, z, r⟩ := p; exact ⟨o, e o z, r⟩
theorem itK_there {t : Bool} {ia la : Addr} {k : Nat} {h : Heap} (p : itK t h ia la k) : ∃ o xs, h.get? ia = some o ∧ o.data = .fields xs := by
  cases t
  · obtain ⟨o, e, _, d⟩ := p; exact ⟨o, _, e, d⟩
  · obtain ⟨o, e, _, d⟩ := p; exact ⟨o, _, e, d⟩
theorem SqK.lt {t : Bool} {h : Heap} {a : Addr} {vs : Array Value} (p : SqK t h a vs) : a < h.objs.size := by
  cases t
  · obtain ⟨o, e, _⟩ := p; exact Heap.lt_size e
  · obtain ⟨o, e, _⟩ := p; exact Heap.lt_size e
def Itz (K : PySem.W.Frag) (t1 t2 : Bool) (a b : Addr) : It :=
  ⟨fun i H => ∃ xs ys x y, SqD t1 K H a xs ∧ SqD t2 K H b ys ∧ xs[i]? = some x ∧ ys[i]? = some y,
   fun i H x H' => ∃ p v u, x = .ref p ∧ H p = none ∧ (∀ xs, SqD t1 K H a xs → xs[i]? = some v) ∧ (∀ ys, SqD t2 K H b ys → ys[i]? = some u) ∧ H' = upd H p (.tup [v, u]),
   fun i H => ∃ xs ys, SqD t1 K H a xs ∧ SqD t2 K H b ys ∧ (xs.length ≤ i ∨ ys.length ≤ i)⟩
theorem turn_zip {P : Program} {w : World} {K : PySem.W.Frag} {elts : List Expr} {k : Nat} {pos : Pos} {z TI TO i1 i2 l1 l2 : Addr} (t1 t2 : Bool) (D : ZipApart z TI TO i1 i2 l1 l2) :
    Turn P w K (.Tuple elts k pos) (Itz K t1 t2 l1 l2) [z, TI, TO, i1, i2] z (fun i h => IsZip h z TI TO .none ∧ IsPair h TI (.ref i1) (.ref i2) ∧ (∃ a b, IsPair h TO a b) ∧ itK t1 h i1 l1 i ∧ itK t2 h i2 l2 i) where
  mem := by simp
  obj := fun i h st b hb => by
    obtain ⟨hz, hTI, ⟨a, a', hTO⟩, h1, h2⟩ := st
    simp only [List.mem_cons, List.not_mem_nil, or_false] at hb
    rcases hb with rfl | rfl | rfl | rfl | rfl
    · exact ⟨_, hz, fun v q => by cases q⟩
    · exact ⟨_, hTI, fun v q => by cases q⟩
    · exact ⟨_, hTO, fun v q => by cases q⟩
    · obtain ⟨o, xs, e, d⟩ := itK_there h1; exact ⟨o, e, fun v q => by rw [d] at q; cases q⟩
    · obtain ⟨o, xs, e, d⟩ := itK_there h2; exact ⟨o, e, fun v q => by rw [d] at q; cases q⟩
  keep := fun i h h' st q => by
    obtain ⟨hz, hTI, ⟨a, a', hTO⟩, h1, h2⟩ := st
    exact ⟨q z (by simp) _ hz, q TI (by simp) _ hTI, ⟨a, a', q TO (by simp) _ hTO⟩, itK_at h1 fun o e => q i1 (by simp) o e, itK_at h2 fun o e => q i2 (by simp) o e⟩
  item := by
    intro X hP hw hK hc i pins s σ H E I hf st hg
    subst hP hw hK
    obtain ⟨hz, hTI, ⟨a, a', hTO⟩, h1, h2⟩ := st
    obtain ⟨xs, ys, x, y, q1, q2, hx, hy⟩ := hg
    obtain ⟨its, rv, p⟩ := I.sqd q1
    obtain ⟨its2, rv2, p2⟩ := I.sqd q2
    obtain ⟨u, hu, ru⟩ := rv.get hx
    obtain ⟨u2, hu2, ru2⟩ := rv2.get hy
    refine next_item D (src_k t1 D.l1i1) (src_k t2 D.l2i2) hz hTI hTO (sK_mk h1 p) (sK_mk h2 p2) (x := u) (y := u2) (by simpa using hu) (by simpa using hu2) fun h' a1 a2 a3 a4 a5 a6 a7 => ⟨_, rfl, ?_⟩
    refine wpAny_letOwnedTupleGo_zip a1 fun h2' hz' hs' => ?_
    have hsz : s.heap.objs.size ≠ z := Nat.ne_of_gt (Heap.lt_size hz)
    have keep : ∀ b o, b ∉ [z, TI, TO, i1, i2] → s.heap.get? b = some o → h2'.get? b = some o := fun b o hb e =>
      hs'.extBut _ _ (fun q => hb (by simp [q])) (a7 b o (fun q => hb (by simp [q])) (fun q => hb (by simp [q])) (fun q => hb (by simp [q])) (fun q => hb (by simp [q])) e)
    have I1 : Inv X pins σ H { s with heap := h2' } := I.turnedL (t' := s.toks) keep hf
    have hn : H s.heap.objs.size = none := I.hok.fresh (Nat.le_refl _)
    have f5 := I.fpOk (Nat.le_refl _) hn
    have new : h2'.get? s.heap.objs.size = some { cls := .type "tuple", data := .seq #[u, u2] } := hs'.extBut _ _ hsz a5
    have h0 : X.s₀.heap.get? s.heap.objs.size = none := Heap.get?_none_of_le I.sz
    have I2 : Inv X pins σ (upd H s.heap.objs.size (.tup [x, y])) { s with heap := h2' } := I1.track hn h0 f5.2.1 (fun n c e => f5.2.2.2.2.1 n c e) (fun q hq => f5.2.2.2.2.2 q hq)
      ⟨by show (2 : Nat) ≤ sizeLine; decide, [u, u2], .cons ru (.cons ru2 .nil), _, new, rfl, _, rfl⟩
    refine ⟨.ref s.heap.objs.size, _, I2, rfl, ⟨_, x, y, rfl, hn, fun xs' e => by rw [I.sqd_inj e q1]; exact hx, fun ys' e => by rw [I.sqd_inj e q2]; exact hy, rfl⟩,
      ⟨hz', hs'.extBut _ _ D.TIz (a7 _ _ D.TIz D.TITO D.TIi1 D.TIi2 hTI), ⟨_, _, hs'.extBut _ _ D.TOz a2⟩, itK_at (sK_it a3) (fun o e => hs'.extBut _ _ D.i1z e), itK_at (sK_it a4) (fun o e => hs'.extBut _ _ D.i2z e)⟩, fun b hb => ?_⟩
    have lt : ∀ b ∈ [z, TI, TO, i1, i2], b ≠ s.heap.objs.size := fun b hb => by
      simp only [List.mem_cons, List.not_mem_nil, or_false] at hb
      rcases hb with rfl | rfl | rfl | rfl | rfl
      · exact Ne.symm hsz
      · exact Nat.ne_of_lt (Heap.lt_size hTI)
      · exact Nat.ne_of_lt (Heap.lt_size hTO)
      · obtain ⟨o, _, e, _⟩ := itK_there h1; exact Nat.ne_of_lt (Heap.lt_size e)
      · obtain ⟨o, _, e, _⟩ := itK_there h2; exact Nat.ne_of_lt (Heap.lt_size e)
    rw [upd_ne (lt b hb)]
    exact (hf b hb).1
  done := by
    intro X hP hw hK hc i pins s σ H E I hf st hg
    subst hP hw hK
    obtain ⟨hz, hTI, ⟨a, a', hTO⟩, h1, h2⟩ := st
    obtain ⟨xs, ys, q1, q2, hx⟩ := hg
    obtain ⟨its, rv, p⟩ := I.sqd q1
    obtain ⟨its2, rv2, p2⟩ := I.sqd q2
    have e1 := rv.length
    have e2 := rv2.length
    refine next_stop (I.ok.hd hc) D (src_k t1 D.l1i1) (src_k t2 D.l2i2) hz hTI hTO (sK_mk h1 p) (sK_mk h2 p2) (by
      rcases hx with q | q
      · left; simp; omega
      · right; simp; omega) fun h' a7 => ⟨rfl, I.turnedL (t' := s.toks) (ch := [z, TI, TO, i1, i2]) (fun b o hb e => a7 b o (fun q => hb (by simp [q])) (fun q => hb (by simp [q])) (fun q => hb (by simp [q])) (fun q => hb (by simp [q])) e) hf⟩
  self := fun _ _ _ _ _ st h => wpAny_pyIter_zip st.1 h

theorem zpD_length : ∀ (xs ys : List DV), (zpD xs ys).length = min xs.length ys.length
  | [], ys => by simp [zpD]
  | _ :: _, [] => by simp [zpD]
  | x :: xs, y :: ys => by rw [zpD, List.length_cons, zpD_length xs ys, List.length_cons, List.length_cons]; omega
theorem zpD_get : ∀ {xs ys : List DV} {i : Nat} {d : DV}, (zpD xs ys)[i]? = some d → ∃ x y, xs[i]? = some x ∧ ys[i]? = some y ∧ d = .tup [x, y]
  | [], _, _, _, h => by simp [zpD] at h
  | _ :: _, [], _, _, h => by simp [zpD] at h
  | x :: xs, y :: ys, 0, d, h => by simp [zpD] at h; exact ⟨x, y, rfl, rfl, h.symm⟩
  | x :: xs, y :: ys, i + 1, d, h => by
    rw [zpD, List.getElem?_cons_succ] at h
    simpa using zpD_get h
theorem hidW_meetL {O W : List Addr} {c c' : Cl} : ∀ b ∈ hidW O W (Cl.meet c c'), b ∈ hidW O W c := by
  cases c <;> cases c' <;> intro b hb <;> first | exact hb | exact List.mem_append_left _ hb
theorem hidW_meetR {O W : List Addr} {c c' : Cl} : ∀ b ∈ hidW O W (Cl.meet c c'), b ∈ hidW O W c' := by
  cases c <;> cases c' <;> intro b hb <;> first | exact hb | exact List.mem_append_left _ hb
theorem itemHid_meetL {O W : List Addr} {c c' : Cl} : ∀ b ∈ itemHid O W (Cl.meet c c'), b ∈ itemHid O W c := by
  cases c <;> cases c' <;> intro b hb <;> first | exact hb | exact List.mem_append_left _ hb
theorem itemHid_meetR {O W : List Addr} {c c' : Cl} : ∀ b ∈ itemHid O W (Cl.meet c c'), b ∈ itemHid O W c' := by
  cases c <;> cases c' <;> intro b hb <;> first | exact hb | exact List.mem_append_left _ hb
theorem Wk.zip {D : Dm} {ds es : List DV} {Oc Oi : List Addr} {H1 : Hp} {a b : Addr} {xs ys : List V} {t1 t2 : Bool} (h : SqD t1 D.K (L2.wo Oc H1) a xs) (r : RepL D (L2.wo Oi H1) ds xs) (h' : SqD t2 D.K (L2.wo Oc H1) b ys) (r' : RepL D (L2.wo Oi H1) es ys) : Wk D (Itz D.K t1 t2 a b) (zpD ds es) Oc Oi H1 where
  go := fun i H s hi => by
    rw [zpD_length] at hi
    exact ⟨xs, ys, xs[i]'(by rw [r.length]; omega), ys[i]'(by rw [r'.length]; omega), wo_le.sqd (s.sqd h), wo_le.sqd (s.sqd h'), List.getElem?_eq_getElem _, List.getElem?_eq_getElem _⟩
  same := fun i H x H' y => by
    obtain ⟨p, v, u, _, hp, _, _, e⟩ := y
    rw [e]; exact same_upd hp
  yld := fun i H x H' d O2 s s' y e ho => by
    obtain ⟨p, v, u, ex, hp, y1, y2, eH⟩ := y
    obtain ⟨d1, d2, q1, q2, rfl⟩ := zpD_get e
    obtain ⟨v1, z1, z2⟩ := r.get q1
    obtain ⟨v2, z3, z4⟩ := r'.get q2
    have w1 := y1 xs (wo_le.sqd (s.sqd h))
    have w2 := y2 ys (wo_le.sqd (s.sqd h'))
    rw [z1] at w1; cases w1
    rw [z3] at w2; cases w2
    have hpo : p ∉ O2 := fun z => (ho p z).1 hp
    subst eH
    refine rep_tup.mpr ⟨p, _, ex, SqT.of (by rw [wo_out hpo]; exact upd_same), ?_⟩
    have up : Same (L2.wo Oi H1) (L2.wo O2 (upd H p (.tup [v, u]))) := (wk_hid s' ho).trans (same_upd hp).wo
    exact repL_cons.mpr ⟨_, _, rfl, z2.mono up, RepL.one (z4.mono up)⟩
  stop := fun H s => by
    refine ⟨xs, ys, wo_le.sqd (s.sqd h), wo_le.sqd (s.sqd h'), ?_⟩
    rw [zpD_length, r.length, r'.length]
    omega
section
variable {X : Cx} {E : St → XK} {δ : List Sv} {e e' : Expr} {elts : List Expr} {k : Nat} {tpos pos p : Pos} {ra rb : Option Re} {ri : Ri}
theorem zipApart_mk {n a b : Nat} (ha : a < n) (hb : b < n) : ZipApart (n + 4) (n + 2) (n + 3) n (n + 1) a b := by
  constructor <;> (show @Ne Nat _ _) <;> omega
/-- zip(a, b), both lists -/
theorem pi_zip {ta : TA} (hg : Gl X "zip") (hm : X.mg "zip" = none) (ha : PA X [e, e'] ta) (hs : isStar e = false) (hs' : isStar e' = false) :
    PI X (.Tuple elts k tpos) (.Call (.Name "zip" p) [e, e'] [] pos) (fun σ H R => ta σ H fun vs H1 => ∃ t1 t2 a b, vs = [.ref a, .ref b] ∧ (∃ xs, SqD t1 X.K H1 a xs) ∧ (∃ ys, SqD t2 X.K H1 b ys) ∧ R (Itz X.K t1 t2 a b) H1) := by
  intro pins s σ H R I h
  refine Call_ (ld_blt I hg hm boot_zip (PyProof.Rows.callWith_type1 (thn (ha pos pins s σ H _ I h) fun us s1 ⟨vs, H1, I1, r1, q1⟩ => ?_) (by rw [star_of hs]) (plain_args [e'] (by simp [hs']))))
  obtain ⟨t1, t2, a, b, e1, ⟨xs, hx⟩, ⟨ys, hy⟩, q⟩ := q1
  subst e1
  obtain ⟨u, u', rfl, ru, ru'⟩ := r1.two
  cases ru
  cases ru'
  obtain ⟨its, rv, p1⟩ := I1.sqd hx
  obtain ⟨its2, rv2, p2⟩ := I1.sqd hy
  have la := p1.lt
  have lb := p2.lt
  refine call_zipK t1 t2 p1 p2 fun h' z1 z2 z3 z4 z5 z6 z7 => ?_
  have I2 : Inv X pins σ H1 { s1 with heap := h' } := I1.kept (t' := s1.toks) z7
  refine wpAny_pyIter_zip z1 ⟨s1.heap.objs.size + 4, [s1.heap.objs.size + 4, s1.heap.objs.size + 2, s1.heap.objs.size + 3, s1.heap.objs.size, s1.heap.objs.size + 1], _, _, H1, rfl, I2,
    turn_zip (l1 := a) (l2 := b) t1 t2 (zipApart_mk la lb), ⟨z1, z2, ⟨_, _, z3⟩, sK_it z4, sK_it z5⟩, fun c hc => ?_, q⟩
  have hc' : s1.heap.objs.size ≤ c := by
    simp only [List.mem_cons, List.not_mem_nil, or_false] at hc
    rcases hc with rfl | rfl | rfl | rfl | rfl
    · exact Nat.le_add_right ..
    · exact Nat.le_add_right ..
    · exact Nat.le_add_right ..
    · exact Nat.le_refl _
    · exact Nat.le_add_right ..
  exact I1.fpOk hc' (I1.hok.fresh hc')
theorem kind_walk {D : Dm} {O W : List Addr} {H0 H : Hp} {d : DV} {t : Bool} {ds : List DV} {c : Cl} {v : V} (k : kindD d = some (t, ds)) (g : Got D O W H0 H d c v) (hd : Hid O W H0 H) : ∃ a xs, v = .ref a ∧ SqD t D.K (L2.wo (hidW O W c) H) a xs ∧ RepL D (L2.wo (itemHid O W c) H) ds xs := by
  cases d <;> cases k
  · exact g.walkT hd
  · exact g.walkL hd
theorem snd_zip (hg : Gl X "zip") (hm : X.mg "zip" = none) (hs : isStar e = false) (hs' : isStar e' = false) (ha : ∀ q, ra = some q → PE X e (dE X.D E δ q)) (hb : ∀ q, rb = some q → PE X e' (dE X.D E δ q))
    (h : walkD (Re.thn ra fun x c => Re.thn rb fun y c' => zipD x y c c') = some ri) : PI X (.Tuple elts k tpos) (.Call (.Name "zip" p) [e, e'] [] pos) (dI X.D E δ ri) := by
  have C := fun ta tb (hA : PE X e ta) (hB : PE X e' tb) => pi_zip (elts := elts) (k := k) (tpos := tpos) (p := p) (pos := pos) hg hm (pa_cons hA (pa_cons hB pa_nil (star_of hs')) (star_of hs)) hs hs'
  cases hra : ra with
  | none => rw [hra] at h; cases h
  | some q =>
    rw [hra] at h
    have A := ha q hra
    cases q with
    | ex c => cases h; exact (C _ _ A pe_none).weak fun σ H R' ⟨O, W, R, p⟩ => ⟨O, W, R, p⟩
    | ok dx cx =>
      cases hrb : rb with
      | none => rw [hrb] at h; cases h
      | some q =>
        rw [hrb] at h
        have B := hb q hrb
        cases q with
        | ex c => cases h; exact (C _ _ A B).weak fun σ H R' ⟨O, W, R, p⟩ => ⟨O, W, R, fun x H1 s1 g1 => ⟨O, W, R.mono s1, fun H' C m s => p H' C m (s1.trans s)⟩⟩
        | ok dy cy =>
          have h' : walkD (zipD dx dy cx cy) = some ri := h
          unfold zipD at h'
          split at h'
          · rename_i t1 ds1 t2 ds2 k1 k2
            cases h'
            exact (C _ _ A B).weak fun σ H R' ⟨O, W, R, p⟩ => ⟨O, W, R, fun x H1 s1 g1 => ⟨O, W, R.mono s1, fun y H2 s2 g2 => by
              have hd := (R.hid.mono s1).mono s2
              obtain ⟨a, xs, e1, e2, e3⟩ := kind_walk k1 (g1.mono s2) hd
              obtain ⟨b, ys, e1', e2', e3'⟩ := kind_walk k2 (g2.since s1) hd
              refine ⟨t1, t2, a, b, by rw [e1, e1'], ⟨xs, wo_le.sqd e2⟩, ⟨ys, wo_le.sqd e2'⟩, p _ H2 (s1.trans s2) (.zip ((wo_sub hidW_meetL).sqd e2) (e3.mono (wo_sub itemHid_meetL)) ((wo_sub hidW_meetR).sqd e2') (e3'.mono (wo_sub itemHid_meetR)))⟩⟩⟩
          · cases h'
end
end L2

end
section

set_option Elab.async false
set_option linter.all false
set_option maxRecDepth 100000
set_option maxHeartbeats 4000000

/-! Statements. -/
namespace L2
open PySem PySem.Spec PyProof.Rows

/-- what is wanted behind a statement: H0 an earlier heap, O what is hidden from the def -/
def dEnd (D : Dm) (E : St → XK) (H0 : Hp) (O : List Addr) (Dn : Ends) : Out → Prop
  | .nx δ => ∀ σ H W, RSt D H σ δ O W → (∀ a ∈ W, H0 a = none) → Same H0 H → Dn.nx σ H
  | .rt d fr => ∀ v H, Same H0 H → GotR D O H0 H d fr v → Dn.rt v H
  | .rtt d => ∀ v H, Same H0 H → GotT D O H0 H d v → Dn.rt v H
  | .ex c δ => ∀ σ H W C, D.mg c = some C → RSt D H σ δ O W → (∀ a ∈ W, H0 a = none) → Same H0 H → E σ C none H
def dS (D : Dm) (E : St → XK) (δ : List Sv) (o : Out) : TS := fun Dn σ H => ∃ H0 O W, RSt D H σ δ O W ∧ (∀ a ∈ W, H0 a = none) ∧ (∀ a ∈ O, H0 a ≠ none) ∧ Same H0 H ∧ dEnd D E H0 O Dn o

section
variable {X : Cx} {E : St → XK} {δ δ1 : List Sv} {st : Stmt} {rest body els : List Stmt} {o : Out} {e c : Expr} {pos pos' : Pos} {ra : Option Re} {rt : Option Rt} {i : Nat} {x : Str}
theorem dss_nil : PSs X [] (dS X.D E δ (.nx δ)) := pss_nil.weak fun Dn σ H ⟨H0, O, W, R, fr, fo, sm, k⟩ => k σ H W R fr sm
theorem dss_cons (h1 : PS X st (dS X.D E δ (.nx δ1))) (h2 : PSs X rest (dS X.D E δ1 o)) : PSs X (st :: rest) (dS X.D E δ o) :=
  (pss_cons h1 h2).weak fun Dn σ H ⟨H0, O, W, R, fr, fo, sm, k⟩ => ⟨H0, O, W, R, fr, fo, sm, fun σ' H' W' R' fr' sm' => ⟨H0, O, W', R', fr', fo, sm', k⟩⟩
theorem dss_rt {d : DV} {fr : Bool} (h1 : PS X st (dS X.D E δ (.rt d fr))) : PSs X (st :: rest) (dS X.D E δ (.rt d fr)) :=
  (pss_cons h1 pss_never).weak fun Dn σ H ⟨H0, O, W, R, fr, fo, sm, k⟩ => ⟨H0, O, W, R, fr, fo, sm, k⟩
theorem dss_rtt {d : DV} (h1 : PS X st (dS X.D E δ (.rtt d))) : PSs X (st :: rest) (dS X.D E δ (.rtt d)) :=
  (pss_cons h1 pss_never).weak fun Dn σ H ⟨H0, O, W, R, fr, fo, sm, k⟩ => ⟨H0, O, W, R, fr, fo, sm, k⟩
theorem dss_ex {c : Str} {δ' : List Sv} (h1 : PS X st (dS X.D E δ (.ex c δ'))) : PSs X (st :: rest) (dS X.D E δ (.ex c δ')) :=
  (pss_cons h1 pss_never).weak fun Dn σ H ⟨H0, O, W, R, fr, fo, sm, k⟩ => ⟨H0, O, W, R, fr, fo, sm, k⟩
/-- the exception's end, at an expression -/
theorem exEnd {D : Dm} {H0 H : Hp} {O W : List Addr} {σ : St} {Dn : Ends} {c : Str} {Q : VK} (R : RSt D H σ δ O W) (fr : ∀ a ∈ W, H0 a = none) (sm : Same H0 H) (k : dEnd D E H0 O Dn (.ex c δ)) : Post D E σ O W H H Q (.ex c) :=
  fun H' C m s => k σ H' W C m (R.mono s) fr (sm.trans s)
theorem dss_if (hc : ∀ q, rt = some q → PT X c (dT X.D E δ q)) {ro rp : Option Out} (h1 : ∀ q, ro = some q → PSs X body (dS X.D E δ q)) (h2 : ∀ q, rp = some q → PSs X els (dS X.D E δ q)) (h : (Rt.thnS δ rt fun k => if k then ro else rp) = some o) : PS X (.If c body els pos) (dS X.D E δ o) := by
  cases hrt : rt with
  | none => rw [hrt] at h; cases h
  | some q =>
    rw [hrt] at h
    have C := hc q hrt
    cases q with
    | ex c => cases h; exact (ps_if C pss_never pss_never).weak fun Dn σ H ⟨H0, O, W, R, fr, fo, sm, k⟩ => ⟨O, W, R, fun H' C m s => k σ H' W C m (R.mono s) fr (sm.trans s)⟩
    | ok b =>
      cases b with
      | true =>
        have h' : ro = some o := h
        exact (ps_if C (h1 o h') pss_never).weak fun Dn σ H ⟨H0, O, W, R, fr, fo, sm, k⟩ => ⟨O, W, R, fun H1 s1 => iteT ⟨H0, O, W, R.mono s1, fr, fo, sm.trans s1, k⟩⟩
      | false =>
        have h' : rp = some o := h
        exact (ps_if C pss_never (h2 o h')).weak fun Dn σ H ⟨H0, O, W, R, fr, fo, sm, k⟩ => ⟨O, W, R, fun H1 s1 => iteF ⟨H0, O, W, R.mono s1, fr, fo, sm.trans s1, k⟩⟩
theorem dss_ret (ha : ∀ q, ra = some q → PE X e (dE X.D E δ q)) (h : (Re.thnS δ ra fun d c => some (retD d c)) = some o) : PS X (.Return (some e) pos) (dS X.D E δ o) := by
  cases hra : ra with
  | none => rw [hra] at h; cases h
  | some q =>
    rw [hra] at h
    have A := ha q hra
    cases q with
    | ex c => cases h; exact (ps_ret A).weak fun Dn σ H ⟨H0, O, W, R, fr, fo, sm, k⟩ => ⟨O, W, R, exEnd R fr sm k⟩
    | ok d cl =>
      have h2 : some (retD d cl) = some o := h
      cases h2
      by_cases hft : cl = .ft
      · subst hft
        refine (ps_ret A).weak fun Dn σ H ⟨H0, O, W, R, fr, fo, sm, k⟩ => ⟨O, W, R, fun v H1 s1 g => (k : dEnd X.D E H0 O Dn (.rtt d)) v H1 (sm.trans s1) ?_⟩
        obtain ⟨t, ts, p, xs, ds, es, e1, e2, e0, e3, e4, e5, e6⟩ := g
        have up : Same (L2.wo (p :: (O ++ W)) H1) (L2.wo (p :: O) H1) := wo_sub fun b hb => by rcases List.mem_cons.mp hb with z | z; exact List.mem_cons.mpr (.inl z); exact List.mem_cons_of_mem _ (List.mem_append_left _ z)
        exact ⟨t, ts, p, xs, ds, es, e1, e2, (wo_sub sub_l).tseq e0, sm.free e3, e4, e5.mono up, e6.mono up⟩
      have hrt : retD d cl = .rt d (frD d cl) := by cases cl <;> first | rfl | exact absurd rfl hft
      rw [hrt]
      refine (ps_ret A).weak fun Dn σ H ⟨H0, O, W, R, fr, fo, sm, k⟩ => ⟨O, W, R, fun v H1 s1 g => (k : dEnd X.D E H0 O Dn (.rt d (frD d cl))) v H1 (sm.trans s1) ?_⟩
      have hd := R.hid.mono s1
      cases hf : frD d cl with
      | false => exact g.weak hd
      | true =>
        unfold frD at hf
        split at hf
        · obtain ⟨p, xs, ds, e1, e2, e3, e4, e5⟩ := g
          exact ⟨p, xs, ds, e1, e2, sm.free e3, e4, e5.mono (wo_sub fun b hb => by rcases List.mem_cons.mp hb with z | z; exact List.mem_cons.mpr (.inl z); exact List.mem_cons_of_mem _ (List.mem_append_left _ z))⟩
        · obtain ⟨a, xs, e1, e0, e2, e3⟩ := g
          exact ⟨a, xs, _, e1, rfl, fr a e0, wo_le _ _ e2, e3.mono (wo_sub fun b hb => by rcases List.mem_cons.mp hb with z | z; rw [z]; exact List.mem_append_right _ e0; exact List.mem_append_left _ z)⟩
        · obtain ⟨p, xs, ds, e1, e2, _⟩ := g; cases e2
        · exact absurd (g.all hd) rep_dct
        · cases hf
theorem dss_retn : PS X (.Return none pos) (dS X.D E δ (.rt .non false)) := ps_retN.weak fun Dn σ H ⟨H0, O, W, R, fr, fo, sm, k⟩ => k .non H sm (rep_non.mpr rfl : Rep X.D (L2.wo O H) .non .non)
theorem dss_pass : PS X (.Pass pos) (dS X.D E δ (.nx δ)) := ps_pass.weak fun Dn σ H ⟨H0, O, W, R, fr, fo, sm, k⟩ => k σ H W R fr sm
theorem swaps_none {v : Expr} {t : Option Expr} {l : Nat} {env : Env} (h : isComp v = false) : swapsWith v t l env = pure false := by
  cases v <;> first | rfl | cases h
theorem dss_exp (ha : ∀ q, ra = some q → PE X e (dE X.D E δ q)) (hc : isComp e = false) (h : (Re.thnS δ ra fun _ _ => some (.nx δ)) = some o) : PS X (.Expr e pos) (dS X.D E δ o) := by
  cases hra : ra with
  | none => rw [hra] at h; cases h
  | some q =>
    rw [hra] at h
    have A := ha q hra
    cases q with
    | ex c => cases h; exact (ps_expr A (swaps_none hc)).weak fun Dn σ H ⟨H0, O, W, R, fr, fo, sm, k⟩ => ⟨O, W, R, exEnd R fr sm k⟩
    | ok d cl => cases h; exact (ps_expr A (swaps_none hc)).weak fun Dn σ H ⟨H0, O, W, R, fr, fo, sm, k⟩ => ⟨O, W, R, fun v H1 s1 g => k σ H1 W (R.mono s1) fr (sm.trans s1)⟩

/-! ### names are given values -/
theorem hid_cons {O W : List Addr} {p b : Addr} : b ∈ O ++ p :: W ↔ b ∈ p :: (O ++ W) := by
  simp only [List.mem_append, List.mem_cons]
  constructor
  · rintro (h | h | h)
    · exact .inr (.inl h)
    · exact .inl h
    · exact .inr (.inr h)
  · rintro (h | h | h)
    · exact .inr (.inl h)
    · exact .inl h
    · exact .inr (.inr h)
theorem set_ne_of {α : Type} {l : List α} {i j : Nat} {a b : α} (h : (l.set i a)[j]? = some b) (hn : a ≠ b) : j ≠ i := fun z => by
  subst z
  have hl : j < l.length := by
    have := (List.getElem?_eq_some_iff.mp h).1
    rw [List.length_set] at this; exact this
  rw [List.getElem?_set_self hl] at h
  exact hn (Option.some.inj h)
theorem set_at {α : Type} {l : List α} {i : Nat} {a b : α} (h : (l.set i a)[i]? = some b) : i < l.length ∧ a = b := by
  have hl : i < l.length := by
    have := (List.getElem?_eq_some_iff.mp h).1
    rw [List.length_set] at this; exact this
  rw [List.getElem?_set_self hl] at h
  exact ⟨hl, Option.some.inj h⟩
theorem RSt.alloc {D : Dm} {H H' : Hp} {σ : St} {O W : List Addr} {p : Addr} {xs : List V} {ds : List DV} (R : RSt D H σ δ O W) (s : Same H H') (hp : H p = none) (hp' : H' p = some (.lst xs)) (r : RepL D (L2.wo (p :: (O ++ W)) H') ds xs) (i : Nat) :
    RSt D H' (σ.set i (some (.ref p))) (δ.set i (.own (.lst ds))) O (p :: W) := by
  have old : Same (L2.wo (O ++ W) H) (L2.wo (O ++ p :: W) H') := fun b o e => by
    obtain ⟨hb, e⟩ := wo_some e
    have hbp : b ≠ p := ne_of_none e hp
    rw [wo_out (fun z => by rcases List.mem_cons.mp (hid_cons.mp z) with z | z; exact hbp z; exact hb z)]
    exact s b o e
  have eqv : Same (L2.wo (p :: (O ++ W)) H') (L2.wo (O ++ p :: W) H') := wo_sub fun b hb => hid_cons.mp hb
  refine ⟨fun j d h => ?_, fun j ds' h => ?_, fun j k a d1 d2 h1 h2 e1 e2 => ?_, fun j d h => ?_, by rw [List.length_set, List.length_set]; exact R.len, ⟨fun a ha => ?_, Same.refl _, fun a ha => ?_, fun a ha => ?_⟩⟩
  · have hj := set_ne_of h (by intro z; cases z)
    rw [List.getElem?_set_ne (Ne.symm hj)] at h ⊢
    obtain ⟨v, e1, e2⟩ := R.val j d h
    exact ⟨v, e1, e2.mono old⟩
  · by_cases hj : j = i
    · subst hj
      obtain ⟨hl, e⟩ := set_at h
      cases e
      exact ⟨p, xs, ds, rfl, List.getElem?_set_self (by rw [R.len]; exact hl), List.mem_cons_self, hp', r.mono eqv⟩
    · rw [List.getElem?_set_ne (Ne.symm hj)] at h ⊢
      obtain ⟨a, ys, ds1, e0, e1, e2, e3, e4⟩ := R.own j ds' h
      exact ⟨a, ys, ds1, e0, e1, List.mem_cons_of_mem _ e2, s _ _ e3, e4.mono old⟩
  · have key : ∀ {j : Nat} {d1 : DV}, (δ.set i (.own (.lst ds)))[j]? = some (.own d1) → (σ.set i (some (.ref p)))[j]? = some (some (V.ref a)) → (j = i ∧ a = p) ∨ (j ≠ i ∧ δ[j]? = some (.own d1) ∧ σ[j]? = some (some (V.ref a)) ∧ a ≠ p) := fun {j d1} h e => by
      by_cases hj : j = i
      · subst hj
        obtain ⟨_, z⟩ := set_at e
        cases z
        exact .inl ⟨rfl, rfl⟩
      · rw [List.getElem?_set_ne (Ne.symm hj)] at h e
        refine .inr ⟨hj, h, e, fun z => ?_⟩
        obtain ⟨a', ys, ds1, _, q1, _, q3, _⟩ := R.own j d1 h
        rw [e] at q1; cases q1
        rw [z, hp] at q3; cases q3
    rcases key h1 e1 with ⟨z1, z2⟩ | ⟨z1, z2, z3, z4⟩ <;> rcases key h2 e2 with ⟨y1, y2⟩ | ⟨y1, y2, y3, y4⟩
    · rw [z1, y1]
    · exact absurd z2 y4
    · exact absurd y2 z4
    · exact R.inj j k a d1 d2 z2 y2 z3 y3
  · have hj := set_ne_of h (by intro z; cases z)
    rw [List.getElem?_set_ne (Ne.symm hj)] at h ⊢
    obtain ⟨⟨t, ts, p1, ys, ds1, es, e0, e1, e2, e3, e4, e5, e6, e7⟩, u⟩ := R.ot j d h
    refine ⟨⟨t, ts, p1, ys, ds1, es, e0, e1, old.tseq e2, List.mem_cons_of_mem _ e3, s _ _ e4, e5.mono old, e6.mono old, fun k d2 q => ?_⟩, fun k d2 q => ?_⟩
    · by_cases hk : k = i
      · subst hk
        intro z
        obtain ⟨_, z⟩ := set_at z
        cases z
        rw [hp] at e4
        cases e4
      · rw [List.getElem?_set_ne (Ne.symm hk)] at q ⊢
        exact e7 k d2 q
    · have hk := set_ne_of q (by intro z; cases z)
      rw [List.getElem?_set_ne (Ne.symm hk)] at q
      exact u k d2 q
  · rcases List.mem_cons.mp (hid_cons.mp ha) with z | z
    · rw [z, hp']; intro q; cases q
    · intro q; exact R.hid.ot a z (s.free q)
  · rcases List.mem_cons.mp ha with z | z
    · exact ⟨xs, by rw [z]; exact hp'⟩
    · obtain ⟨ys, q⟩ := R.hid.wl a z; exact ⟨ys, s _ _ q⟩
  · rcases List.mem_cons.mp ha with z | z
    · intro q; exact R.hid.ot p (List.mem_append_left _ (by rw [← z]; exact q)) hp
    · exact R.hid.dj a z
theorem noOt_of {i : Nat} {δ : List Sv} (h : noOt i δ = true) {j : Nat} {d : DV} (q : δ[j]? = some (.ot d)) : j = i := by
  unfold noOt at h
  rw [List.all_eq_true] at h
  have hj : j < δ.length := (List.getElem?_eq_some_iff.mp q).1
  have := h j (List.mem_range.mpr hj)
  rw [q] at this
  simpa using this
/-- a tuple whose first item is a new list -/
theorem RSt.allocT {D : Dm} {H H' : Hp} {σ : St} {O W : List Addr} {t p : Addr} {ts xs : List V} {ds es : List DV} (R : RSt D H σ δ O W) (s : Same H H') (ht : SqT D.K (L2.wo (O ++ W) H') t (.ref p :: ts)) (hp : H p = none) (hp' : H' p = some (.lst xs)) (r : RepL D (L2.wo (p :: (O ++ W)) H') ds xs) (r2 : RepL D (L2.wo (p :: (O ++ W)) H') es ts) (i : Nat) (hno : noOt i δ = true) :
    RSt D H' (σ.set i (some (.ref t))) (δ.set i (.ot (.tup (.lst ds :: es)))) O (p :: W) := by
  have old : Same (L2.wo (O ++ W) H) (L2.wo (O ++ p :: W) H') := fun b o e => by
    obtain ⟨hb, e⟩ := wo_some e
    have hbp : b ≠ p := ne_of_none e hp
    rw [wo_out (fun z => by rcases List.mem_cons.mp (hid_cons.mp z) with z | z; exact hbp z; exact hb z)]
    exact s b o e
  have eqv : Same (L2.wo (p :: (O ++ W)) H') (L2.wo (O ++ p :: W) H') := wo_sub fun b hb => hid_cons.mp hb
  have ht' : SqT D.K (L2.wo (O ++ p :: W) H') t (.ref p :: ts) := by
    have ne : ∀ {o : HO}, L2.wo (O ++ W) H' t = some o → (∀ ys, o ≠ .lst ys) → L2.wo (O ++ p :: W) H' t = some o := fun {o} e ho => by
      obtain ⟨hb, e⟩ := wo_some e
      rw [wo_out (fun z => by
        rcases List.mem_cons.mp (hid_cons.mp z) with z | z
        · rw [z, hp'] at e; cases e; exact ho _ rfl
        · exact hb z)]
      exact e
    rcases ht with (h | ⟨o, h⟩) | h
    · exact .inl (.inl (ne h (by intro ys z; cases z)))
    · exact .inl (.inr ⟨o, ne h (by intro ys z; cases z)⟩)
    · exact .inr h
  refine ⟨fun j d h => ?_, fun j ds' h => ?_, fun j k a d1 d2 h1 h2 e1 e2 => ?_, fun j d h => ?_, by rw [List.length_set, List.length_set]; exact R.len, ⟨fun a ha => ?_, Same.refl _, fun a ha => ?_, fun a ha => ?_⟩⟩
  · have hj := set_ne_of h (by intro z; cases z)
    rw [List.getElem?_set_ne (Ne.symm hj)] at h ⊢
    obtain ⟨v, e1, e2⟩ := R.val j d h
    exact ⟨v, e1, e2.mono old⟩
  · have hj := set_ne_of h (by intro z; cases z)
    rw [List.getElem?_set_ne (Ne.symm hj)] at h ⊢
    obtain ⟨a, ys, ds1, e0, e1, e2, e3, e4⟩ := R.own j ds' h
    exact ⟨a, ys, ds1, e0, e1, List.mem_cons_of_mem _ e2, s _ _ e3, e4.mono old⟩
  · have n1 := set_ne_of h1 (by intro z; cases z)
    have n2 := set_ne_of h2 (by intro z; cases z)
    rw [List.getElem?_set_ne (Ne.symm n1)] at h1 e1
    rw [List.getElem?_set_ne (Ne.symm n2)] at h2 e2
    exact R.inj j k a d1 d2 h1 h2 e1 e2
  · have hj : j = i := by
      by_cases hj : j = i
      · exact hj
      · rw [List.getElem?_set_ne (Ne.symm hj)] at h
        exact noOt_of hno h
    subst hj
    obtain ⟨hl, e⟩ := set_at h
    cases e
    refine ⟨⟨t, ts, p, xs, ds, es, rfl, List.getElem?_set_self (by rw [R.len]; exact hl), ht', List.mem_cons_self, hp', r.mono eqv, r2.mono eqv, fun k d2 q => ?_⟩, fun k d2 q => ?_⟩
    · have hk := set_ne_of q (by intro z; cases z)
      rw [List.getElem?_set_ne (Ne.symm hk)] at q ⊢
      intro z
      obtain ⟨a, ys, ds1, f0, f1, f2, f3, f4⟩ := R.own k d2 q
      rw [z] at f1
      cases f1
      rw [hp] at f3
      cases f3
    · by_cases hk : k = j
      · exact hk
      · rw [List.getElem?_set_ne (Ne.symm hk)] at q
        exact noOt_of hno q
  · rcases List.mem_cons.mp (hid_cons.mp ha) with z | z
    · rw [z, hp']; intro q; cases q
    · intro q; exact R.hid.ot a z (s.free q)
  · rcases List.mem_cons.mp ha with z | z
    · exact ⟨xs, by rw [z]; exact hp'⟩
    · obtain ⟨ys, q⟩ := R.hid.wl a z; exact ⟨ys, s _ _ q⟩
  · rcases List.mem_cons.mp ha with z | z
    · intro q; exact R.hid.ot p (List.mem_append_left _ (by rw [← z]; exact q)) hp
    · exact R.hid.dj a z
/-- the list within is changed; the name is not used any more -/
theorem RSt.writeT {D : Dm} {H : Hp} {σ : St} {O W : List Addr} {t p : Addr} {xs' : List V} {d : DV} (R : RSt D H σ δ O W) (hi : δ[i]? = some (.ot d)) (ha : σ[i]? = some (some (.ref t))) (hw : p ∈ W) (hown : ∀ (j : Nat) d', δ[j]? = some (.own d') → σ[j]? ≠ some (some (.ref p))) :
    RSt D (upd H p (.lst xs')) σ (δ.set i .no) O W := by
  have old : Same (L2.wo (O ++ W) H) (L2.wo (O ++ W) (upd H p (.lst xs'))) := fun b o e => by
    obtain ⟨hb, e⟩ := wo_some e
    rw [wo_out hb, upd_ne fun z => hb (by rw [z]; exact List.mem_append_right _ hw)]
    exact e
  obtain ⟨_, u⟩ := R.ot i d hi
  refine ⟨fun j d h => ?_, fun j ds'' h => ?_, fun j k b d1 d2 h1 h2 q1 q2 => ?_, fun j d2 h => ?_, by rw [List.length_set]; exact R.len, ⟨fun b hb q => ?_, Same.refl _, fun b hb => ?_, R.hid.dj⟩⟩
  · have hj := set_ne_of h (by intro z; cases z)
    rw [List.getElem?_set_ne (Ne.symm hj)] at h
    obtain ⟨v, q1, q2⟩ := R.val j d h
    exact ⟨v, q1, q2.mono old⟩
  · have hj := set_ne_of h (by intro z; cases z)
    rw [List.getElem?_set_ne (Ne.symm hj)] at h
    obtain ⟨b, ys, ds1, q0, q1, q2, q3, q4⟩ := R.own j ds'' h
    refine ⟨b, ys, ds1, q0, q1, q2, ?_, q4.mono old⟩
    rw [upd_ne fun z => hown j _ h (by rw [← z]; exact q1)]
    exact q3
  · have n1 := set_ne_of h1 (by intro z; cases z)
    have n2 := set_ne_of h2 (by intro z; cases z)
    rw [List.getElem?_set_ne (Ne.symm n1)] at h1
    rw [List.getElem?_set_ne (Ne.symm n2)] at h2
    exact R.inj j k b d1 d2 h1 h2 q1 q2
  · have hj := set_ne_of h (by intro z; cases z)
    rw [List.getElem?_set_ne (Ne.symm hj)] at h
    exact absurd (u j d2 h) hj
  · by_cases hba : b = p
    · rw [hba, upd_same] at q; cases q
    · rw [upd_ne hba] at q; exact R.hid.ot b hb q
  · by_cases hba : b = p
    · exact ⟨xs', by rw [hba]; exact upd_same⟩
    · obtain ⟨ys, q⟩ := R.hid.wl b hb; exact ⟨ys, by rw [upd_ne hba]; exact q⟩
theorem RSt.write {D : Dm} {H : Hp} {σ : St} {O W : List Addr} {a : Addr} {xs' : List V} {ds ds' : List DV} (R : RSt D H σ δ O W) (hi : δ[i]? = some (.own (.lst ds))) (ha : σ[i]? = some (some (.ref a))) (r : RepL D (L2.wo (O ++ W) H) ds' xs') :
    RSt D (upd H a (.lst xs')) σ (δ.set i (.own (.lst ds'))) O W := by
  obtain ⟨a', xs, ds0, e0, e1, e2, e3, e4⟩ := R.own i _ hi
  rw [ha] at e1; cases e1
  have old : Same (L2.wo (O ++ W) H) (L2.wo (O ++ W) (upd H a (.lst xs'))) := fun b o e => by
    obtain ⟨hb, e⟩ := wo_some e
    rw [wo_out hb, upd_ne fun z => hb (by rw [z]; exact List.mem_append_right _ e2)]
    exact e
  have hl : i < δ.length := (List.getElem?_eq_some_iff.mp hi).1
  refine ⟨fun j d h => ?_, fun j ds'' h => ?_, fun j k b d1 d2 h1 h2 q1 q2 => ?_, fun j d h => ?_, by rw [List.length_set]; exact R.len, ⟨fun b hb q => ?_, Same.refl _, fun b hb => ?_, R.hid.dj⟩⟩
  · have hj := set_ne_of h (by intro z; cases z)
    rw [List.getElem?_set_ne (Ne.symm hj)] at h
    obtain ⟨v, q1, q2⟩ := R.val j d h
    exact ⟨v, q1, q2.mono old⟩
  · by_cases hj : j = i
    · subst hj
      obtain ⟨_, e⟩ := set_at h
      cases e
      exact ⟨a, xs', ds', rfl, ha, e2, upd_same, r.mono old⟩
    · rw [List.getElem?_set_ne (Ne.symm hj)] at h
      obtain ⟨b, ys, ds1, q0, q1, q2, q3, q4⟩ := R.own j ds'' h
      refine ⟨b, ys, ds1, q0, q1, q2, ?_, q4.mono old⟩
      rw [upd_ne fun z => hj (R.inj j i a ds'' _ h hi (by rw [← z]; exact q1) ha)]
      exact q3
  · have key : ∀ {j : Nat} {d1 : DV}, (δ.set i (.own (.lst ds')))[j]? = some (.own d1) → ∃ d0, δ[j]? = some (.own d0) := fun {j d1} h => by
      by_cases hj : j = i
      · subst hj; exact ⟨_, hi⟩
      · rw [List.getElem?_set_ne (Ne.symm hj)] at h; exact ⟨d1, h⟩
    obtain ⟨d1', z1⟩ := key h1
    obtain ⟨d2', z2⟩ := key h2
    exact R.inj j k b d1' d2' z1 z2 q1 q2
  · have hj := set_ne_of h (by intro z; cases z)
    rw [List.getElem?_set_ne (Ne.symm hj)] at h
    obtain ⟨⟨t, ts, p1, ys, ds1, es, f0, f1, f2, f3, f4, f5, f6, f7⟩, u⟩ := R.ot j d h
    refine ⟨⟨t, ts, p1, ys, ds1, es, f0, f1, old.tseq f2, f3, ?_, f5.mono old, f6.mono old, fun k d2 q => ?_⟩, fun k d2 q => ?_⟩
    · rw [upd_ne fun z => f7 i _ hi (by rw [z]; exact ha)]
      exact f4
    · by_cases hk : k = i
      · subst hk
        exact f7 k _ hi
      · rw [List.getElem?_set_ne (Ne.symm hk)] at q
        exact f7 k d2 q
    · have hk := set_ne_of q (by intro z; cases z)
      rw [List.getElem?_set_ne (Ne.symm hk)] at q
      exact u k d2 q
  · by_cases hba : b = a
    · rw [hba, upd_same] at q; cases q
    · rw [upd_ne hba] at q; exact R.hid.ot b hb q
  · by_cases hba : b = a
    · exact ⟨xs', by rw [hba]; exact upd_same⟩
    · obtain ⟨ys, q⟩ := R.hid.wl b hb; exact ⟨ys, by rw [upd_ne hba]; exact q⟩
theorem same_write {H0 H : Hp} {a : Addr} {o : HO} (h : Same H0 H) (ha : H0 a = none) : Same H0 (upd H a o) := fun b u e => by
  rw [upd_ne (ne_of_none e ha)]
  exact h b u e
/-- the name is given the value -/
theorem setEnd {Dn : Ends} {σ : St} {H H0 : Hp} {O W : List Addr} {own : Bool} {d : DV} {cl : Cl} {D : Dm} (h : (if own then setOwn i δ d cl else (if stro d cl then some (.nx (δ.set i (.val d))) else none)) = some o)
    (R : RSt D H σ δ O W) (fr : ∀ a ∈ W, H0 a = none) (sm : Same H0 H) (k : dEnd D E H0 O Dn o) : ∀ v H', Same H H' → Got D O W H H' d cl v → Dn.nx (σ.set i (some v)) H' := fun v H1 s1 g => by
  cases own with
  | true =>
    simp only [if_true] at h
    unfold setOwn at h
    split at h
    · cases h
      obtain ⟨p, xs, ds, e1, e2, e3, e4, e5⟩ := g
      subst e1 e2
      exact k _ H1 (p :: W) (R.alloc s1 e3 e4 e5 i) (fun a ha => by
        rcases List.mem_cons.mp ha with z | z
        · rw [z]; exact sm.free e3
        · exact fr a z) (sm.trans s1)
    · split at h
      · rename_i hno
        cases h
        obtain ⟨t, ts, p, xs, ds, es, e1, e2, e0, e3, e4, e5, e6⟩ := g
        subst e1 e2
        exact k _ H1 (p :: W) (R.allocT s1 e0 e3 e4 e5 e6 i hno) (fun a ha => by
          rcases List.mem_cons.mp ha with z | z
          · rw [z]; exact sm.free e3
          · exact fr a z) (sm.trans s1)
      · cases h
    · cases h
  | false =>
    simp only [Bool.false_eq_true, if_false] at h
    split at h
    · rename_i m
      cases h
      exact k _ H1 W ((R.mono s1).setVal (g.stro (R.hid.mono s1) m) i) fr (sm.trans s1)
    · cases h
theorem dss_set {own : Bool} (hN : X.N.Nodup) (hi : X.N[i]? = some x) (hx : Loc X.env.scope x) (hf : X.fn x = true ∨ X.env.scope.names.lookup x = some .local) (ha : ∀ q, ra = some q → PE X e (dE X.D E δ q)) (hc : swapsWith e (some (.Name x pos')) pos.line X.env = pure false)
    (h : (Re.thnS δ ra fun d c => if own then setOwn i δ d c else (if stro d c then some (.nx (δ.set i (.val d))) else none)) = some o) : PS X (.Assign [.Name x pos'] e pos) (dS X.D E δ o) := by
  cases hra : ra with
  | none => rw [hra] at h; cases h
  | some q =>
    rw [hra] at h
    have A := ha q hra
    cases q with
    | ex c => cases h; exact (ps_set hN hi hx A hc hf).weak fun Dn σ H ⟨H0, O, W, R, fr, fo, sm, k⟩ => ⟨O, W, R, exEnd R fr sm k⟩
    | ok d cl => exact (ps_set hN hi hx A hc hf).weak fun Dn σ H ⟨H0, O, W, R, fr, fo, sm, k⟩ => ⟨O, W, R, setEnd h R fr sm k⟩
/-- x = [.. for ..], stored by the comprehension itself -/
theorem dss_setcomp {own : Bool} {tgE iter elt : Expr} {ifs : List Expr} {scope : Scope} {N' : List Str} {fr : List (Option Nat)} {tg : Tg} {re : Re} (S : CompScope X.N N' scope X.env.scope fr) (hc : X.calm = true) (hN : X.N.Nodup) (hi : X.N[i]? = some x) (hx : X.env.scope.names.lookup x = some .local)
    (P : CompParts X E δ tgE iter ifs elt scope N' fr tg re) (hG : ∀ C cells s₂ H₂ fp, PG (cxComp X scope N' C cells s₂ H₂ fp) tgE (gT X.K tg)) (hset : isSet iter = false) {cpos : Pos} (hsw : swapsWith (.ListComp elt [⟨tgE, iter, ifs, 0⟩] scope cpos) (some (.Name x pos')) pos.line X.env = pure true)
    (h : (Re.thnS δ (some re) fun d c => if own then setOwn i δ d c else (if stro d c then some (.nx (δ.set i (.val d))) else none)) = some o) : PS X (.Assign [.Name x pos'] (.ListComp elt [⟨tgE, iter, ifs, 0⟩] scope cpos) pos) (dS X.D E δ o) := by
  obtain ⟨wi, tc, te, h1, h2, h3, h4⟩ := P
  refine (ps_setcomp S hc hN hi hx h1 hG h2 h3 hsw (fold_of hset)).weak fun Dn σ H ⟨H0, O, W, R, fr, fo, sm, k⟩ => h4 σ H _ ⟨O, W, R, ?_⟩
  cases re with
  | ex c => cases h; exact exEnd R fr sm k
  | ok d cl => exact setEnd h R fr sm k

/-! ### own lists change -/
theorem dss_append {apos cpos npos : Pos} (hv : PE X (.Name x npos) (tVar i)) (he : ∀ q, ra = some q → PE X e (dE X.D E δ q)) (hs : isStar e = false) (hline : (apos.endLine == cpos.line) = true)
    (h : (match δ[i]? with
      | some (.own (.lst ds)) => Re.thnS δ ra fun d c => if stro d c ∧ ds.length < mostLen then some (.nx (δ.set i (.own (.lst (ds ++ [d]))))) else none
      | _ => none) = some o) : PS X (.Expr (.Call (.Attribute (.Name x npos) "append" apos) [e] [] cpos) pos) (dS X.D E δ o) := by
  split at h
  · rename_i ds hi
    have C := fun t (hA : PE X e t) => ps_expr (pos := pos) (pe_bm PySem.F.plainAttrs_list PySem.F.slot_list_append PySem.F.type_list_append mt_append hv (pa_cons hA pa_nil (star_of hs)) rfl (by rw [star_of hs]; rfl) hline (star_of hs) rfl) rfl
    cases hra : ra with
    | none => rw [hra] at h; cases h
    | some q =>
      rw [hra] at h
      have A := he q hra
      cases q with
      | ex c =>
        cases h
        exact (C _ A).weak fun Dn σ H ⟨H0, O, W, R, fr, fo, sm, k⟩ => by
          obtain ⟨a, xs, ds0, e0, e1, e2, e3, e4⟩ := R.own i _ hi
          exact ⟨.ref a, e1, .inl ⟨rfl, xs, SqL.of e3⟩, O, W, R, exEnd (Q := fun _ _ => False) R fr sm k⟩
      | ok d cl =>
        have h' : (if stro d cl ∧ ds.length < mostLen then some (Out.nx (δ.set i (.own (.lst (ds ++ [d]))))) else none) = some o := h
        split at h'
        · rename_i m
          cases h'
          exact (C _ A).weak fun Dn σ H ⟨H0, O, W, R, fr, fo, sm, k⟩ => by
            obtain ⟨a, xs, ds0, e0, e1, e2, e3, e4⟩ := R.own i _ hi
            cases e0
            refine ⟨.ref a, e1, .inl ⟨rfl, xs, SqL.of e3⟩, O, W, R, fun v H1 s1 g => ?_⟩
            have R1 := R.mono s1
            refine ⟨a, xs, v, rfl, rfl, s1 _ _ e3, by rw [e4.length]; exact Nat.lt_of_lt_of_le m.2 (by decide), ?_⟩
            exact k σ _ W (R1.write hi e1 ((e4.mono s1.wo).append (RepL.one (g.stro (R.hid.mono s1) m.1)))) fr (same_write (sm.trans s1) (fr a e2))
        · cases h'
  · cases h
theorem dss_setix {npos spos : Pos} {ix : Expr} {rb : Option Re} (hv : PE X (.Name x npos) (tVar i)) (he : ∀ q, ra = some q → PE X e (dE X.D E δ q)) (hx : ∀ q, rb = some q → PE X ix (dE X.D E δ q)) (hsl : isSlice ix = false)
    (h : (match δ[i]? with
      | some (.own (.lst ds)) => Re.thnS δ ra fun d c => Re.thnS δ rb fun k _ => (match k with
        | .int k => (match ixNat ds.length k with
          | some j => if stro d c then some (.nx (δ.set i (.own (.lst (ds.set j d))))) else none
          | none => none)
        | _ => none)
      | _ => none) = some o) : PS X (.Assign [.Subscript (.Name x npos) ix spos] e pos) (dS X.D E δ o) := by
  have sub : ∀ v, assign (.Subscript (.Name x npos) ix spos) X.env v = (do
      let ov ← holding [v] (eval (.Name x npos) X.env)
      let iv ← holding [v, ov] (eval ix X.env)
      standAt spos
      holding [v, ov, iv] (setItem ov iv v)
      release [v, ov, iv] []) := by cases ix <;> first | (intro _; rfl) | cases hsl
  have C := fun t tk (hA : PE X e t) (hK : PE X ix tk) => ps_asg (pos := pos) hA (pg_sub hv hK set_list sub) (by cases e <;> rfl) (by cases e <;> rfl) rfl
  split at h
  · rename_i ds hi
    cases hra : ra with
    | none => rw [hra] at h; cases h
    | some q =>
      rw [hra] at h
      have A := he q hra
      cases q with
      | ex c =>
        cases h
        exact (C _ _ A pe_none).weak fun Dn σ H ⟨H0, O, W, R, fr, fo, sm, k⟩ => ⟨O, W, R, exEnd (Q := fun _ _ => False) R fr sm k⟩
      | ok d cl =>
        cases hrb : rb with
        | none => rw [hrb] at h; cases h
        | some q =>
          rw [hrb] at h
          have B := hx q hrb
          cases q with
          | ex c =>
            cases h
            exact (C _ _ A B).weak fun Dn σ H ⟨H0, O, W, R, fr, fo, sm, k⟩ => ⟨O, W, R, fun v H1 s1 g => by
              have R1 := R.mono s1
              obtain ⟨a, xs, ds0, e0, e1, e2, e3, e4⟩ := R1.own i _ hi
              exact ⟨.ref a, e1, O, W, R1, exEnd (Q := fun _ _ => False) R1 fr (sm.trans s1) k⟩⟩
          | ok dk ck =>
            have h' : (match (generalizing := false) dk with
              | .int k => (match ixNat ds.length k with
                | some j => if stro d cl then some (Out.nx (δ.set i (.own (.lst (ds.set j d))))) else none
                | none => none)
              | _ => none) = some o := h
            split at h'
            · rename_i k0
              split at h'
              · rename_i j hj
                split at h'
                · rename_i m
                  cases h'
                  exact (C _ _ A B).weak fun Dn σ H ⟨H0, O, W, R, fr, fo, sm, k⟩ => ⟨O, W, R, fun v H1 s1 g => by
                    have R1 := R.mono s1
                    obtain ⟨a, xs, ds0, e0, e1, e2, e3, e4⟩ := R1.own i _ hi
                    cases e0
                    refine ⟨.ref a, e1, O, W, R1, fun y H2 s2 g2 => ?_⟩
                    have R2 := R1.mono s2
                    refine ⟨a, xs, k0, j, rfl, g2.int (R1.hid.mono s2), s2 _ _ e3, by rw [e4.length]; exact hj, ?_⟩
                    exact k σ _ W (R2.write hi e1 (RepL.set ((g.mono s2).stro ((R.hid.mono s1).mono s2) m) j (e4.mono s2.wo))) fr (same_write ((sm.trans s1).trans s2) (fr a e2))⟩
                · cases h'
              · cases h'
            · cases h'
  · cases h
/-- the name's own list is a value as any other from here on -/
theorem RSt.freeze {D : Dm} {H : Hp} {σ : St} {O W : List Addr} {d : DV} (R : RSt D H σ δ O W) (hi : δ[i]? = some (.own d)) : ∃ W', (∀ a ∈ W', a ∈ W) ∧ RSt D H σ (δ.set i (.val d)) O W' := by
  obtain ⟨a, xs, ds, e0, e1, e2, e3, e4⟩ := R.own i d hi
  subst e0
  have hl : i < δ.length := (List.getElem?_eq_some_iff.mp hi).1
  have sub : ∀ b ∈ O ++ W.filter (fun b => decide (b ≠ a)), b ∈ O ++ W := fun b hb => by
    rcases List.mem_append.mp hb with z | z
    · exact List.mem_append_left _ z
    · exact List.mem_append_right _ (List.mem_filter.mp z).1
  have hao : a ∉ O ++ W.filter (fun b => decide (b ≠ a)) := fun z => by
    rcases List.mem_append.mp z with z | z
    · exact R.hid.dj a e2 z
    · exact absurd rfl (of_decide_eq_true (List.mem_filter.mp z).2)
  refine ⟨W.filter fun b => decide (b ≠ a), fun b hb => (List.mem_filter.mp hb).1, ⟨fun j d h => ?_, fun j ds' h => ?_, fun j k b d1 d2 h1 h2 q1 q2 => ?_, fun j d h => ?_, by rw [List.length_set]; exact R.len,
    ⟨fun b hb => R.hid.ot b (sub b hb), Same.refl _, fun b hb => R.hid.wl b (List.mem_filter.mp hb).1, fun b hb => R.hid.dj b (List.mem_filter.mp hb).1⟩⟩⟩
  · by_cases hj : j = i
    · subst hj
      obtain ⟨_, e⟩ := set_at h
      cases e
      exact ⟨.ref a, e1, rep_lst.mpr ⟨a, xs, rfl, by rw [wo_out hao]; exact e3, e4.mono (wo_sub sub)⟩⟩
    · rw [List.getElem?_set_ne (Ne.symm hj)] at h
      obtain ⟨v, q1, q2⟩ := R.val j d h
      exact ⟨v, q1, q2.mono (wo_sub sub)⟩
  · have hj := set_ne_of h (by intro z; cases z)
    rw [List.getElem?_set_ne (Ne.symm hj)] at h
    obtain ⟨b, ys, ds1, q0, q1, q2, q3, q4⟩ := R.own j ds' h
    refine ⟨b, ys, ds1, q0, q1, List.mem_filter.mpr ⟨q2, decide_eq_true fun z => hj (R.inj j i a ds' _ h hi (by rw [← z]; exact q1) e1)⟩, q3, q4.mono (wo_sub sub)⟩
  · have n1 := set_ne_of h1 (by intro z; cases z)
    have n2 := set_ne_of h2 (by intro z; cases z)
    rw [List.getElem?_set_ne (Ne.symm n1)] at h1
    rw [List.getElem?_set_ne (Ne.symm n2)] at h2
    exact R.inj j k b d1 d2 h1 h2 q1 q2
  · have hj := set_ne_of h (by intro z; cases z)
    rw [List.getElem?_set_ne (Ne.symm hj)] at h
    obtain ⟨⟨t, ts, p1, ys, ds1, es, f0, f1, f2, f3, f4, f5, f6, f7⟩, u⟩ := R.ot j d h
    refine ⟨⟨t, ts, p1, ys, ds1, es, f0, f1, (wo_sub sub).tseq f2, List.mem_filter.mpr ⟨f3, decide_eq_true fun z => f7 i _ hi (by rw [z]; exact e1)⟩, f4, f5.mono (wo_sub sub), f6.mono (wo_sub sub), fun k d2 q => ?_⟩, fun k d2 q => ?_⟩
    · have hk := set_ne_of q (by intro z; cases z)
      rw [List.getElem?_set_ne (Ne.symm hk)] at q
      exact f7 k d2 q
    · have hk := set_ne_of q (by intro z; cases z)
      rw [List.getElem?_set_ne (Ne.symm hk)] at q
      exact u k d2 q
theorem dss_freeze {d : DV} (hi : δ[i]? = some (.own d)) (h : PSs X rest (dS X.D E (δ.set i (.val d)) o)) : PSs X rest (dS X.D E δ o) := h.weak fun Dn σ H ⟨H0, O, W, R, fr, fo, sm, k⟩ => by
  obtain ⟨W', hs, R'⟩ := R.freeze hi
  exact ⟨H0, O, W', R', fun a ha => fr a (hs a ha), fo, sm, k⟩
end
end L2

end
section

set_option Elab.async false
set_option linter.all false
set_option maxRecDepth 100000
set_option maxHeartbeats 4000000

/-! xs.extend(e); a, b = e. -/
namespace L2
open PySem PySem.Spec PyProof.Rows
section
variable {X : Cx} {E : St → XK} {δ δ1 : List Sv} {o : Out} {e c : Expr} {pos pos' : Pos} {ra : Option Re} {i : Nat} {x : Str}
theorem Got.seq {D : Dm} {O W : List Addr} {H0 H : Hp} {d : DV} {ys : List DV} {b : Bool} {c : Cl} {v : V} (g : Got D O W H0 H d c v) (hd : Hid O W H0 H) (hc : c = .strong ∨ c = .fresh) (hk : kindD d = some (b, ys)) : ∃ a xs, v = .ref a ∧ (SqL D.K H a xs ∨ SqT D.K H a xs) ∧ RepL D (L2.wo (O ++ W) H) ys xs := by
  have hw : c ≠ .weak := by rcases hc with z | z <;> (rw [z]; intro q; cases q)
  unfold kindD at hk
  split at hk
  · cases hk
    obtain ⟨a, xs, e1, e2, e3⟩ := g.items hd hw
    exact ⟨a, xs, e1, .inl (SqL.of e2), e3⟩
  · cases hk
    obtain ⟨a, xs, e1, e2, e3⟩ := g.itemsT hd hw
    exact ⟨a, xs, e1, .inr e2, e3⟩
  · cases hk
theorem dss_extend {apos cpos npos : Pos} (hv : PE X (.Name x npos) (tVar i)) (he : ∀ q, ra = some q → PE X e (dE X.D E δ q)) (hs : isStar e = false) (hline : (apos.endLine == cpos.line) = true)
    (h : (match δ[i]? with
      | some (.own (.lst ds)) => Re.thnS δ ra fun d c => if c = .strong ∨ c = .fresh then (match kindD d with
        | some (_, ys) => if ds.length + ys.length ≤ mostLen then some (.nx (δ.set i (.own (.lst (ds ++ ys))))) else none
        | none => none) else none
      | _ => none) = some o) : PS X (.Expr (.Call (.Attribute (.Name x npos) "extend" apos) [e] [] cpos) pos) (dS X.D E δ o) := by
  split at h
  · rename_i ds hi
    have C := fun t (hA : PE X e t) => ps_expr (pos := pos) (pe_bm PySem.F.plainAttrs_list PySem.F.slot_list_extend PySem.F.type_list_extend mt_ext hv (pa_cons hA pa_nil (star_of hs)) rfl (by rw [star_of hs]; rfl) hline (star_of hs) rfl) rfl
    cases hra : ra with
    | none => rw [hra] at h; cases h
    | some q =>
      rw [hra] at h
      have A := he q hra
      cases q with
      | ex c =>
        cases h
        exact (C _ A).weak fun Dn σ H ⟨H0, O, W, R, fr, fo, sm, k⟩ => by
          obtain ⟨a, xs, ds0, e0, e1, e2, e3, e4⟩ := R.own i _ hi
          exact ⟨.ref a, e1, .inl ⟨rfl, xs, SqL.of e3⟩, O, W, R, exEnd (Q := fun _ _ => False) R fr sm k⟩
      | ok d cl =>
        have h' : (if cl = .strong ∨ cl = .fresh then (match kindD d with
          | some (_, ys) => if ds.length + ys.length ≤ mostLen then some (Out.nx (δ.set i (.own (.lst (ds ++ ys))))) else none
          | none => none) else none) = some o := h
        split at h'
        · rename_i hcl
          split at h'
          · rename_i b ys hk
            split at h'
            · rename_i m
              cases h'
              exact (C _ A).weak fun Dn σ H ⟨H0, O, W, R, fr, fo, sm, k⟩ => by
                obtain ⟨a, xs, ds0, e0, e1, e2, e3, e4⟩ := R.own i _ hi
                cases e0
                refine ⟨.ref a, e1, .inl ⟨rfl, xs, SqL.of e3⟩, O, W, R, fun v H1 s1 g => ?_⟩
                have R1 := R.mono s1
                obtain ⟨a2, xs2, f1, f2, f3⟩ := g.seq (R.hid.mono s1) hcl hk
                refine ⟨a, a2, xs, xs2, rfl, by rw [f1], s1 _ _ e3, f2, by rw [e4.length, f3.length]; exact Nat.le_trans m (by decide), ?_⟩
                exact k σ _ W (R1.write hi e1 ((e4.mono s1.wo).append f3)) fr (same_write (sm.trans s1) (fr a e2))
            · cases h'
          · cases h'
        · cases h'
  · cases h
theorem swapped_none {ts : List Expr} {k : Nat} {p : Pos} {v : Expr} {env : Env} (h : (asTup v).isNone = true) : swappedStores [.Tuple ts k p] v env = pure none := by
  cases v <;> first | rfl | cases h
theorem dss_sett {ts : List Expr} {kk : Nat} {tp : Pos} {is : List Nat} (hg : PG X (.Tuple ts kk tp) (gSeq X.K is.length (gNames is))) (he : ∀ q, ra = some q → PE X e (dE X.D E δ q)) (hc : isComp e = false) (ht : (asTup e).isNone = true)
    (h : (Re.thnS δ ra fun d c => if c = .strong ∨ c = .fresh then (match kindD d with
      | some (_, ds) => (setAll δ is ds).map Out.nx
      | none => none) else none) = some o) : PS X (.Assign [.Tuple ts kk tp] e pos) (dS X.D E δ o) := by
  have C := fun t (hA : PE X e t) => ps_asg (pos := pos) hA hg (by show swapsWith e (some (.Tuple ts kk tp)) pos.line X.env = pure false; exact swaps_none hc) (swapped_none ht) rfl
  cases hra : ra with
  | none => rw [hra] at h; cases h
  | some q =>
    rw [hra] at h
    have A := he q hra
    cases q with
    | ex c =>
      cases h
      exact (C _ A).weak fun Dn σ H ⟨H0, O, W, R, fr, fo, sm, k⟩ => ⟨O, W, R, exEnd (Q := fun x H1 => gSeq X.K is.length (gNames is) x σ H1 Dn.nx) R fr sm k⟩
    | ok d cl =>
      have h' : (if cl = .strong ∨ cl = .fresh then (match kindD d with
        | some (_, ds) => (setAll δ is ds).map Out.nx
        | none => none) else none) = some o := h
      split at h'
      · rename_i hcl
        split at h'
        · rename_i b ds hk
          obtain ⟨δ', q1, q2⟩ := Option.map_eq_some_iff.mp h'
          subst q2
          exact (C _ A).weak fun Dn σ H ⟨H0, O, W, R, fr, fo, sm, k⟩ => ⟨O, W, R, fun v H1 s1 g => by
            obtain ⟨a2, xs2, f1, f2, f3⟩ := g.seq (R.hid.mono s1) hcl hk
            exact ⟨a2, xs2, f1, f2, by rw [f3.length, (setAll_length q1).1], setAll_ok (R.mono s1) f3 q1 fun σ' R' => k σ' H1 W R' fr (sm.trans s1)⟩⟩
        · cases h'
      · cases h'
theorem dss_ret0 {es : List Expr} {kk : Nat} {tp : Pos} {rs : Option Rs} (ha : ∀ q, rs = some q → PA X es (dA X.D E δ q)) (h : (Rs.thnS δ rs fun l => ret0D l) = some o) : PS X (.Return (some (.Tuple es kk tp)) pos) (dS X.D E δ o) := by
  cases hrs : rs with
  | none => rw [hrs] at h; cases h
  | some q =>
    rw [hrs] at h
    have A := ha q hrs
    cases q with
    | ex c => cases h; exact (ps_ret (pe_tup A)).weak fun Dn σ H ⟨H0, O, W, R, fr, fo, sm, k⟩ => ⟨O, W, R, exEnd (Q := fun _ _ => False) R fr sm k⟩
    | ok l =>
      have h' : ret0D l = some o := h
      unfold ret0D at h'
      split at h'
      · rename_i ds l'
        split at h'
        · rename_i hb
          cases h'
          refine (ps_ret (pe_tup A)).weak fun Dn σ H ⟨H0, O, W, R, fr, fo, sm, k⟩ => ⟨O, W, R, fun vs H1 s1 g => ?_⟩
          have hd := R.hid.mono s1
          cases g with
          | cons g0 g1 =>
            rename_i v vs
            obtain ⟨a, xs, e1, e0, e2, e3⟩ := g0
            have r1 := g1.stros hd hb.2
            subst e1
            refine ⟨?_, fun q hq => ?_⟩
            · rw [List.length_cons, g1.length]
              exact Nat.le_trans hb.1 (by decide)
            · have hqo : q ∉ O := fun z => hd.ot q (List.mem_append_left _ z) (s1.free hq)
              have ha1 : H1 a = some (.lst xs) := wo_le _ _ e2
              have up : ∀ {Z : List Addr}, Same (L2.wo Z H1) (L2.wo Z (upd H1 q (.tup (.ref a :: vs)))) := fun {Z} => (same_upd hq).wo
              have sub : Same (L2.wo (O ++ W) H1) (L2.wo (a :: O) H1) := wo_sub fun b hb => by
                rcases List.mem_cons.mp hb with z | z
                · rw [z]; exact List.mem_append_right _ e0
                · exact List.mem_append_left _ z
              refine (k : dEnd X.D E H0 O Dn (.rtt (.tup (.lst ds :: l'.map (·.1))))) (.ref q) _ ((sm.trans s1).trans (same_upd hq)) ⟨q, vs, a, xs, ds, _, rfl, rfl, SqT.of (by rw [wo_out hqo]; exact upd_same), fr a e0, same_upd hq _ _ ha1, (e3.mono sub).mono up, (r1.mono sub).mono up⟩
        · cases h'
      · cases h'
theorem atI_zero {x : V} {xs : List V} : atI (x :: xs) 0 = some x := by
  unfold atI ixN
  rw [List.length_cons]
  simp
theorem dss_app0 {apos cpos npos spos ipos : Pos} {j : Nat} (hv : PE X (.Name x npos) (tVar i)) (he : ∀ q, ra = some q → PE X e (dE X.D E δ q)) (hs : isStar e = false) (hline : (apos.endLine == cpos.line) = true)
    (h : (match δ[i]? with
      | some (.ot (.tup (.lst ds :: _))) => Re.thnS δ ra fun d c => if stro d c ∧ ds.length < mostLen then some (.nx (δ.set i .no)) else none
      | _ => none) = some o) : PS X (.Expr (.Call (.Attribute (.Subscript (.Name x npos) (.Constant (.int 0) j ipos) spos) "append" apos) [e] [] cpos) pos) (dS X.D E δ o) := by
  split at h
  · rename_i ds es0 hi
    have S : PE X (.Subscript (.Name x npos) (.Constant (.int 0) j ipos) spos) (tOp (rIxT X.K) (tVar i) (tC (.int 0))) := pe_ix ix_tup hv pe_int (by intro _ _; rfl)
    have C := fun t (hA : PE X e t) => ps_expr (pos := pos) (pe_bm PySem.F.plainAttrs_list PySem.F.slot_list_append PySem.F.type_list_append mt_append S (pa_cons hA pa_nil (star_of hs)) rfl (by rw [star_of hs]; rfl) hline (star_of hs) rfl) rfl
    cases hra : ra with
    | none => rw [hra] at h; cases h
    | some q =>
      rw [hra] at h
      have A := he q hra
      cases q with
      | ex c =>
        cases h
        exact (C _ A).weak fun Dn σ H ⟨H0, O, W, R, fr, fo, sm, k⟩ => by
          obtain ⟨⟨t, ts, p, xs, ds1, es1, e0, e1, e2, e3, e4, e5, e6, e7⟩, u⟩ := R.ot i _ hi
          exact ⟨.ref t, e1, t, _, 0, .ref p, rfl, rfl, wo_le.tseq e2, atI_zero, .inl ⟨rfl, xs, SqL.of e4⟩, O, W, R, exEnd (Q := fun _ _ => False) R fr sm k⟩
      | ok d cl =>
        have h' : (if stro d cl ∧ ds.length < mostLen then some (Out.nx (δ.set i .no)) else none) = some o := h
        split at h'
        · rename_i m
          cases h'
          exact (C _ A).weak fun Dn σ H ⟨H0, O, W, R, fr, fo, sm, k⟩ => by
            obtain ⟨⟨t, ts, p, xs, ds1, es1, e0, e1, e2, e3, e4, e5, e6, e7⟩, u⟩ := R.ot i _ hi
            cases e0
            refine ⟨.ref t, e1, t, _, 0, .ref p, rfl, rfl, wo_le.tseq e2, atI_zero, .inl ⟨rfl, xs, SqL.of e4⟩, O, W, R, fun v H1 s1 g => ?_⟩
            have R1 := R.mono s1
            refine ⟨p, xs, v, rfl, rfl, s1 _ _ e4, by rw [e5.length]; exact Nat.lt_of_lt_of_le m.2 (by decide), ?_⟩
            exact k σ _ W (R1.writeT hi e1 e3 e7) fr (same_write (sm.trans s1) (fr p e3))
        · cases h'
  · cases h
end
end L2

end
section

set_option Elab.async false
set_option linter.all false
set_option maxRecDepth 100000
set_option maxHeartbeats 4000000

/-! Loops. -/
namespace L2
open PySem PySem.Spec PyProof.Rows

theorem PSs.any {X : Cx} {body : List Stmt} {ι : Sort _} {t : ι → TS} (h : ∀ k, PSs X body (t k)) : PSs X body (fun D σ H => ∃ k, t k D σ H) := fun pins s σ H D I ⟨k, q⟩ => h k pins s σ H D I q
theorem PT.any {X : Cx} {e : Expr} {ι : Sort _} {t : ι → TT} (h : ∀ k, PT X e (t k)) : PT X e (fun σ H Q => ∃ k, t k σ H Q) := fun pins s σ H Q I ⟨k, q⟩ => h k pins s σ H Q I q
/-- the heap without the names' own lists: what stays through a loop -/
structure Lp (H0 H1 : Hp) (O W : List Addr) : Prop where
  out : ∀ {H : Hp}, Same (L2.wo W H1) H → Same H0 H
  outW : ∀ {a : Addr}, L2.wo W H1 a = none → H0 a = none
  in1 : ∀ a ∈ W, L2.wo W H1 a = none
  in2 : ∀ a ∈ O, L2.wo W H1 a ≠ none
  wsame : ∀ {H : Hp}, Same (L2.wo W H1) H → Same (L2.wo (O ++ W) H1) (L2.wo (O ++ W) H)
theorem Lp.mk' {H0 H1 : Hp} {O W : List Addr} (fr : ∀ a ∈ W, H0 a = none) (fo : ∀ a ∈ O, H0 a ≠ none) (sm : Same H0 H1) : Lp H0 H1 O W where
  out := fun {H} s b u e => s b u (by
    rw [wo_out fun z => by rw [fr b z] at e; cases e]
    exact sm b u e)
  outW := fun {a} q => by
    by_cases z : a ∈ W
    · exact fr a z
    · rw [wo_out z] at q; exact sm.free q
  in1 := fun a ha => wo_in ha
  in2 := fun a ha => by
    rw [wo_out fun z => fo a ha (fr a z)]
    intro q
    exact fo a ha (sm.free q)
  wsame := fun {H} s b u e => by
    obtain ⟨hb, e⟩ := wo_some e
    rw [wo_out hb]
    exact s b u (by rw [wo_out fun z => hb (List.mem_append_right _ z)]; exact e)
theorem Lp.gotR {H0 H1 : Hp} {O W : List Addr} {D : Dm} {H : Hp} {d : DV} {fr : Bool} {v : V} (L : Lp H0 H1 O W) (g : GotR D O (L2.wo W H1) H d fr v) : GotR D O H0 H d fr v := by
  cases fr with
  | false => exact g
  | true =>
    obtain ⟨p, xs, ds, e1, e2, e3, e4, e5⟩ := g
    exact ⟨p, xs, ds, e1, e2, L.outW e3, e4, e5⟩
theorem Lp.gotT {H0 H1 : Hp} {O W : List Addr} {D : Dm} {H : Hp} {d : DV} {v : V} (L : Lp H0 H1 O W) (g : GotT D O (L2.wo W H1) H d v) : GotT D O H0 H d v := by
  obtain ⟨t, ts, p, xs, ds, es, e1, e2, e0, e3, e4, e5, e6⟩ := g
  exact ⟨t, ts, p, xs, ds, es, e1, e2, e0, L.outW e3, e4, e5, e6⟩
section
variable {X : Cx} {E : St → XK} {δ : List Sv} {tgE iter c : Expr} {body : List Stmt} {o : Out} {pos : Pos} {tg : Tg} {ri : Option Ri} {evB : List Sv → Option Out} {evC : List Sv → Option Rt}
theorem dss_for (hp : PassesOwn (model X.prog X.w) X.A X.env X.xe) (hc : X.calm = true) (hi : ∀ q, ri = some q → PI X tgE iter (dI X.D E δ q)) (hG : PG X tgE (gT X.K tg)) (hb : ∀ δ' o, evB δ' = some o → PSs X body (dS X.D E δ' o)) (hset : isSet iter = false)
    (h : (Ri.thnS δ ri fun ds c => if c = .strong ∨ c = .fresh then forGo tg evB ds δ else none) = some o) : PS X (.For tgE iter body [] pos) (dS X.D E δ o) := by
  have B : PSs X body (fun D σ H => ∃ k : { p : List Sv × Out // evB p.1 = some p.2 }, dS X.D E k.1.1 k.1.2 D σ H) := PSs.any fun k => hb k.1.1 k.1.2 k.2
  cases hri : ri with
  | none => rw [hri] at h; cases h
  | some q =>
    rw [hri] at h
    have A := hi q hri
    cases q with
    | ex c => cases h; exact (ps_for hp hc A hG B (fold_of hset)).weak fun Dn σ H ⟨H0, O, W, R, fr, fo, sm, k⟩ => ⟨O, W, R, fun H' C m s => k σ H' W C m (R.mono s) fr (sm.trans s)⟩
    | ok ds c =>
      have h' : (if c = .strong ∨ c = .fresh then forGo tg evB ds δ else none) = some o := h
      split at h'
      · rename_i m
        refine (ps_for hp hc A hG B (fold_of hset)).weak fun Dn σ H ⟨H0, O, W, R, fr, fo, sm, k⟩ => ⟨O, W, R, fun J H1 s1 w => ?_⟩
        have R1 := R.mono s1
        have L := Lp.mk' fr fo (sm.trans s1)
        have w : Wk X.D J ds (O ++ W) (O ++ W) H1 := by
          rcases m with m | m <;> subst m <;> exact w
        refine ⟨fun i n σ H => n = ds.length - i ∧ i ≤ ds.length ∧ ∃ δi W', forGo tg evB (ds.drop i) δi = some o ∧ RSt X.D H σ δi O W' ∧ (∀ a ∈ W', L2.wo W H1 a = none) ∧ Same (L2.wo W H1) H,
          ⟨ds.length, rfl, Nat.zero_le _, δ, W, h', R1, L.in1, wo_le⟩, ?_⟩
        rintro i n σ2 H2 ⟨rfl, hi, δi, W2, hgo, R2, b1, b2⟩
        by_cases hlt : i < ds.length
        · refine .inr ⟨w.go i H2 (L.wsame b2) hlt, fun σ H => ∃ δi W', forGo tg evB (ds.drop (i + 1)) δi = some o ∧ RSt X.D H σ δi O W' ∧ (∀ a ∈ W', L2.wo W H1 a = none) ∧ Same (L2.wo W H1) H,
            fun σ' H' q => ⟨ds.length - (i + 1), by omega, rfl, hlt, q⟩, fun x H3 y => ?_⟩
          have y1 := w.same i H2 x H3 y
          have y3 : Rep X.D (L2.wo (O ++ W2) H3) ds[i] x := w.yld i H2 x H3 _ (O ++ W2) (L.wsame b2) (L.wsame b2) y (List.getElem?_eq_getElem hlt) fun a ha => ⟨R2.hid.ot a ha, by
            rcases List.mem_append.mp ha with z | z
            · exact .inl (List.mem_append_left _ z)
            · have q := b1 a z
              by_cases hw : a ∈ W
              · exact .inl (List.mem_append_right _ hw)
              · rw [wo_out hw] at q; exact .inr q⟩
          rw [List.drop_eq_getElem_cons hlt] at hgo
          unfold forGo at hgo
          split at hgo
          · cases hgo
          · rename_i δ1 hb1
            refine bind_ok (R2.mono y1) y3 hb1 fun σ3 R3 => ?_
            split at hgo
            · rename_i δ2 hev
              exact ⟨⟨⟨δ1, .nx δ2⟩, hev⟩, L2.wo W H1, O, W2, R3, b1, L.in2, b2.trans y1, fun σ' H' W' R' fr' sm' => ⟨δ2, W', hgo, R', fr', sm'⟩⟩
            · rename_i hne
              refine ⟨⟨⟨δ1, o⟩, hgo⟩, L2.wo W H1, O, W2, R3, b1, L.in2, b2.trans y1, ?_⟩
              cases o with
              | nx δ2 => exact absurd hgo (hne δ2)
              | rt d fr' => exact fun v H' s' g => k v H' (L.out s') (L.gotR g)
              | rtt d => exact fun v H' s' g => k v H' (L.out s') (L.gotT g)
              | ex c' δ' => exact fun σ' H' W' C m R' fr' sm' => k σ' H' W' C m R' (fun a ha => L.outW (fr' a ha)) (L.out sm')
        · have e : i = ds.length := by omega
          subst e
          rw [List.drop_length] at hgo
          cases hgo
          exact .inl ⟨w.stop H2 (L.wsame b2), k σ2 H2 W2 R2 (fun a ha => L.outW (b1 a ha)) (L.out b2)⟩
      · cases h'
theorem dss_while {n : Nat} (hp : PassesOwn (model X.prog X.w) X.A X.env X.xe) (hc : ∀ δ' r, evC δ' = some r → PT X c (dT X.D E δ' r)) (hb : ∀ δ' o, evB δ' = some o → PSs X body (dS X.D E δ' o)) (h : whileGo evC evB n δ = some o) : PS X (.While c body [] pos) (dS X.D E δ o) := by
  have B : PSs X body (fun D σ H => ∃ k : { p : List Sv × Out // evB p.1 = some p.2 }, dS X.D E k.1.1 k.1.2 D σ H) := PSs.any fun k => hb k.1.1 k.1.2 k.2
  have T : PT X c (fun σ H Q => ∃ k : { p : List Sv × Rt // evC p.1 = some p.2 }, dT X.D E k.1.1 k.1.2 σ H Q) := PT.any fun k => hc k.1.1 k.1.2 k.2
  refine (ps_while hp T B).weak fun Dn σ H ⟨H0, O, W, R, fr, fo, sm, k⟩ => ?_
  have L := Lp.mk' fr fo sm
  refine ⟨fun m σ H2 => ∃ δi W', whileGo evC evB m δi = some o ∧ RSt X.D H2 σ δi O W' ∧ (∀ a ∈ W', L2.wo W H a = none) ∧ Same (L2.wo W H) H2, ⟨n, δ, W, h, R, L.in1, wo_le⟩, ?_⟩
  rintro m σ2 H2 ⟨δi, W2, hgo, R2, b1, b2⟩
  cases m with
  | zero => cases hgo
  | succ m =>
    unfold whileGo at hgo
    split at hgo
    · cases hgo
    · rename_i c' hev
      cases hgo
      exact ⟨⟨⟨δi, .ex c'⟩, hev⟩, O, W2, R2, fun H' C m s => k σ2 H' W2 C m (R2.mono s) (fun a ha => L.outW (b1 a ha)) (L.out (b2.trans s))⟩
    · rename_i hev
      cases hgo
      refine ⟨⟨⟨δi, .ok false⟩, hev⟩, O, W2, R2, fun H' s => iteF ?_⟩
      exact k σ2 H' W2 (R2.mono s) (fun a ha => L.outW (b1 a ha)) (L.out (b2.trans s))
    · rename_i hev
      refine ⟨⟨⟨δi, .ok true⟩, hev⟩, O, W2, R2, fun H' s => iteT ?_⟩
      refine ⟨fun σ H2 => ∃ δi W', whileGo evC evB m δi = some o ∧ RSt X.D H2 σ δi O W' ∧ (∀ a ∈ W', L2.wo W H a = none) ∧ Same (L2.wo W H) H2, fun σ' H' q => ⟨m, Nat.lt_succ_self m, q⟩, ?_⟩
      split at hgo
      · rename_i δ2 hev2
        exact ⟨⟨⟨δi, .nx δ2⟩, hev2⟩, L2.wo W H, O, W2, R2.mono s, b1, L.in2, b2.trans s, fun σ' H' W' R' fr' sm' => ⟨δ2, W', hgo, R', fr', sm'⟩⟩
      · rename_i hne
        refine ⟨⟨⟨δi, o⟩, hgo⟩, L2.wo W H, O, W2, R2.mono s, b1, L.in2, b2.trans s, ?_⟩
        cases o with
        | nx δ2 => exact absurd hgo (hne δ2)
        | rt d fr' => exact fun v H' s' g => k v H' (L.out s') (L.gotR g)
        | rtt d => exact fun v H' s' g => k v H' (L.out s') (L.gotT g)
        | ex c' δ' => exact fun σ' H' W' C m R' fr' sm' => k σ' H' W' C m R' (fun a ha => L.outW (fr' a ha)) (L.out sm')
end
end L2

end
section

set_option Elab.async false
set_option linter.all false
set_option maxRecDepth 100000
set_option maxHeartbeats 4000000

/-! Exceptions: isinstance, raise, try. -/
namespace L2
open PySem PySem.Spec PyProof.Rows

/-- an exception of the class C can be raised -/
def RaiseK (K : PySem.W.Frag) (C : Addr) : Prop := ∃ B newId initId bmB, ExcBaseFacts B newId initId bmB ∧ PySem.W.excIn K C bmB newId = true
structure XOne (K : PySem.W.Frag) (mg : Str → Option Value) (G : Gs) (cl : List Str) (c : Str) (C : Addr) : Prop where
  mc : mg c = some (.ref C)
  ck : ClsK K C
  rk : RaiseK K C
  own : ∀ t ∈ cl, ∀ Ct, mg t = some (.ref Ct) → PySem.W.kitOne K (.ref C) (.ref Ct) = some (catches G c t) ∧ (catches G c t = true → PySem.W.exmOne K (.ref C) (.ref Ct) = some true)
  blt : PySem.W.kitOne K (.ref C) (.type "ValueError") = some (catches G c "ValueError")
/-- what is known of the text's own exceptions -/
structure XFacts (K : PySem.W.Frag) (mg : Str → Option Value) (G : Gs) (cl : List Str) : Prop where
  one : ∀ c, (G.cls.lookup c).isSome = true → ∃ C, XOne K mg G cl c C
  all : ∀ t ∈ cl, ∃ Ct, mg t = some (.ref Ct)
section
variable {X : Cx} {E : St → XK} {δ : List Sv} {e : Expr} {pos p p' : Pos} {re : Re} {ra : Option Re} {G : Gs} {cl : List Str} {t : Str} {o : Out}
def rIsx (X : Cx) : List V → Hp → VK → Prop := fun xs H Q => ∃ (a C : Addr) (y : V) (c : Value) (b : Bool), xs = [.ref a, y] ∧ H a = some (excO a (.ref C)) ∧ ClsK X.K C ∧ ((∃ Ct, y = .ref Ct ∧ c = .ref Ct) ∨ ∃ n, y = .ty n ∧ c = .type n) ∧ PySem.W.kitOne X.K (.ref C) c = some b ∧ Q (.bl b) H
theorem call_isx : CallR X (.builtin "isinstance") (rIsx X) := by
  intro pins s σ H xs us Q I r h
  obtain ⟨a, C, y, c, b, rfl, ea, ck, hy, hk, q⟩ := h
  obtain ⟨u, w', rfl, ru, rw'⟩ := vals2 r
  cases (show u = Value.ref a from ru)
  obtain ⟨⟨oe, vs, h1, h2, _⟩, _⟩ := (show ObjOk X.prog X.w H s.heap a (excO a (.ref C)) from I.hok a _ ea)
  have hw : w' = c := by
    rcases hy with ⟨Ct, rfl, rfl⟩ | ⟨n, rfl, rfl⟩
    · exact rw'
    · exact rw'
  subst hw
  exact isi_exc ck I.kIn ⟨oe, h1, h2⟩ hk fun tk => ⟨.bl b, H, I.tok tk, rfl, q⟩
theorem boot_valueError : bootBuiltins "ValueError" = some (.type "ValueError") := by decide +kernel
theorem snd_isx (F : XFacts X.K X.mg G cl) (hg : Gl X "isinstance") (hm : X.mg "isinstance" = none) (hgt : Gl X t) (ht : (t ∈ cl ∧ (t == ("__debug__" : Str)) = false) ∨ (X.mg t = none ∧ t = "ValueError"))
    (ha : ∀ q, ra = some q → PE X e (dE X.D E δ q)) (hs : isStar e = false) (h : (Re.thn ra fun y _ => (isxD G y t).map fun k => .ok (.bl k) .strong) = some re) : PE X (.Call (.Name "isinstance" p) [e, .Name t p'] [] pos) (dE X.D E δ re) := by
  have T : ∃ (v : V) (c : Value), PE X (.Name t p') (tC v) ∧ ((∃ Ct, v = .ref Ct ∧ c = .ref Ct) ∨ ∃ n, v = .ty n ∧ c = .type n) ∧ ∀ c' C, XOne X.K X.mg G cl c' C → PySem.W.kitOne X.K (.ref C) c = some (catches G c' t) := by
    rcases ht with ⟨h1, h2⟩ | ⟨h1, h2⟩
    · obtain ⟨Ct, hC⟩ := F.all t h1
      exact ⟨.ref Ct, .ref Ct, pe_glob hgt hC rfl h2, .inl ⟨Ct, rfl, rfl⟩, fun c' C x => (x.own t h1 Ct hC).1⟩
    · subst h2
      exact ⟨.ty "ValueError", .type "ValueError", pe_bltn hgt h1 boot_valueError rfl (by decide +kernel) (by decide +kernel), .inr ⟨_, rfl, rfl⟩, fun c' C x => x.blt⟩
  obtain ⟨v, c, T, hv, hk⟩ := T
  have C := fun ta (hA : PE X e ta) => pe_callB (p := p) (pos := pos) call_isx hg hm boot_isinstance (pa_cons hA (pa_cons T pa_nil) (star_of hs)) (by decide) (by decide) (star_of hs)
  cases hra : ra with
  | none => rw [hra] at h; cases h
  | some q =>
    rw [hra] at h
    have A := ha q hra
    cases q with
    | ex c => cases h; exact (C _ A).weak fun σ H Q ⟨O, W, R, p⟩ => ⟨O, W, R, p⟩
    | ok d dc =>
      obtain ⟨k, e1, e2⟩ := Option.map_eq_some_iff.mp (show ((isxD G d t).map fun k => Re.ok (.bl k) .strong) = some re from h)
      cases e2
      unfold isxD at e1
      split at e1
      · rename_i c'
        split at e1
        · rename_i hc
          cases e1
          obtain ⟨C0, x⟩ := F.one c' hc
          refine (C _ A).weak fun σ H Q ⟨O, W, R, p⟩ => ⟨O, W, R, fun v1 H1 s1 g1 => ?_⟩
          obtain ⟨a, C1, z1, z2, z3⟩ := rep_exc.mp (g1.all (R.hid.mono s1))
          rw [show C1 = Value.ref C0 from Option.some.inj (z2.symm.trans x.mc)] at z3
          exact ⟨a, C0, v, c, _, by rw [z1], z3, x.ck, hv, hk c' C0 x, p _ H1 s1 got_bl⟩
        · cases e1
      · cases e1
/-! ### raise -/
theorem dss_raise {c : Str} {np cpos : Pos} (F : XFacts X.K X.mg G cl) (hc : X.calm = true) (hg : Gl X c) (hd : (c == ("__debug__" : Str)) = false) (hR : RaisesTo X E) (ha : ∀ q, ra = some q → PE X e (dE X.D E δ q)) (hs : isStar e = false)
    (h : (if (G.cls.lookup c).isSome then Re.thnS δ ra fun _ _ => some (.ex c δ) else none) = some o) : PS X (.Raise (some (.Call (.Name c np) [e] [] cpos)) none pos) (dS X.D E δ o) := by
  split at h
  · rename_i hc'
    obtain ⟨C, x⟩ := F.one c hc'
    obtain ⟨B, newId, initId, bmB, FB, hx⟩ := x.rk
    cases hra : ra with
    | none => rw [hra] at h; cases h
    | some q =>
      rw [hra] at h
      have A := ha q hra
      have P := ps_raise (np := np) (cpos := cpos) (pos := pos) FB hc hg x.mc hx hR (pa_cons A pa_nil (star_of hs)) hd (star_of hs) rfl
      cases q with
      | ex c2 => cases h; exact P.weak fun Dn σ H ⟨H0, O, W, R, fr, fo, sm, k⟩ => ⟨O, W, R, exEnd R fr sm k⟩
      | ok d dc => cases h; exact P.weak fun Dn σ H ⟨H0, O, W, R, fr, fo, sm, k⟩ => ⟨O, W, R, fun v H1 s1 g => ⟨by show 1 ≤ sizeLine; decide, k σ H1 W _ x.mc (R.mono s1) fr (sm.trans s1)⟩⟩
  · cases h
/-! ### try -/
theorem RSt.unset {D : Dm} {H : Hp} {σ : St} {O W : List Addr} (R : RSt D H σ δ O W) (i : Nat) : RSt D H (σ.set i none) (δ.set i .no) O W where
  val := fun j d h => by
    by_cases hj : j = i
    · subst hj
      have hl : j < δ.length := by
        have := (List.getElem?_eq_some_iff.mp h).1
        rw [List.length_set] at this; exact this
      rw [List.getElem?_set_self hl] at h
      cases h
    · rw [List.getElem?_set_ne (Ne.symm hj)] at h ⊢
      exact R.val j d h
  own := fun j d h => by
    by_cases hj : j = i
    · subst hj
      have hl : j < δ.length := by
        have := (List.getElem?_eq_some_iff.mp h).1
        rw [List.length_set] at this; exact this
      rw [List.getElem?_set_self hl] at h
      cases h
    · rw [List.getElem?_set_ne (Ne.symm hj)] at h ⊢
      exact R.own j d h
  inj := fun j k a d d' h1 h2 h3 h4 => by
    have ne : ∀ (j : Nat) d, (δ.set i .no)[j]? = some (.own d) → j ≠ i := fun j d h z => by
      subst z
      have hl : j < δ.length := by
        have := (List.getElem?_eq_some_iff.mp h).1
        rw [List.length_set] at this; exact this
      rw [List.getElem?_set_self hl] at h
      cases h
    have nj := ne j d h1
    have nk := ne k d' h2
    rw [List.getElem?_set_ne (Ne.symm nj)] at h1 h3
    rw [List.getElem?_set_ne (Ne.symm nk)] at h2 h4
    exact R.inj j k a d d' h1 h2 h3 h4
  ot := fun j d h => by
    have nj := set_ne_of h (by intro z; cases z)
    rw [List.getElem?_set_ne (Ne.symm nj)] at h ⊢
    obtain ⟨⟨t, ts, p, xs, ds, es, e0, e1, e2, e3, e4, e5, e6, e7⟩, u⟩ := R.ot j d h
    refine ⟨⟨t, ts, p, xs, ds, es, e0, e1, e2, e3, e4, e5, e6, fun k d2 q => ?_⟩, fun k d2 q => ?_⟩
    · have nk := set_ne_of q (by intro z; cases z)
      rw [List.getElem?_set_ne (Ne.symm nk)] at q ⊢
      exact e7 k d2 q
    · have nk := set_ne_of q (by intro z; cases z)
      rw [List.getElem?_set_ne (Ne.symm nk)] at q
      exact u k d2 q
  len := by rw [List.length_set, List.length_set]; exact R.len
  hid := R.hid
theorem dss_try {body : List Stmt} {c n x : Str} {np hpos tp vp ap : Pos} {ie ic : Nat} {ob : Option Out} (F : XFacts X.K X.mg G cl) (hst : X.stack = X.env :: X.outer) (hfr : X.env.frame = some X.env.locals) (hex : X.ex = []) (hgl : Gl X c) (hc : c ∈ cl) (hd : (c == ("__debug__" : Str)) = false) (hN : X.N.Nodup) (hi : X.N[ie]? = some n) (hl : X.env.scope.names.lookup n = some .local)
    (hn1 : (n == ("__debug__" : Str)) = false) (hn2 : (n == ("__classdict__" : Str)) = false) (hi2 : X.N[ic]? = some x) (hx : Loc X.env.scope x) (hf : X.fn x = true ∨ X.env.scope.names.lookup x = some .local)
    (hb : ∀ pins (E' : St → Value → Hp → Prop) q, ob = some q → PSs (X.tryIn pins E') body (dS X.D (fun σ C _ H => E' σ C H) δ q))
    (h : tryD G c ie ic ob = some o) :
    PS X (.Try body [.ExceptHandler (some (.Name c np)) (some n) [.Assign [.Name x tp] (.Name n vp) ap] hpos] [] [] pos) (dS X.D E δ o) := by
  obtain ⟨Ct, hCt⟩ := F.all c hc
  cases hob : ob with
  | none => rw [hob] at h; cases h
  | some q =>
    rw [hob] at h
    have S : ∀ ea, PSs (X.inExc ea) [.Assign [.Name x tp] (.Name n vp) ap] (tAsg (tVar ie) (gName ic)) := fun ea => pss_one (ps_set (X := X.inExc ea) hN hi2 hx (pe_var (X := X.inExc ea) hi (.inl hl) hn1 hn2) rfl hf)
    refine (ps_try (i := ie) (cv := .ref Ct) (tb := fun E' => dS X.D (fun σ C _ H => E' σ C H) δ q) hst hfr hex hgl hCt hN hi hl (fun pins E' => hb pins E' q hob) S hd).weak fun Dn σ H ⟨H0, O, W, R, fr, fo, sm, k⟩ => ⟨H0, O, W, R, fr, fo, sm, ?_⟩
    cases q with
    | nx δ' => cases h; exact k
    | rt d f => cases h; exact k
    | rtt d => cases h; exact k
    | ex c' δ' =>
      have h' : (if (G.cls.lookup c').isSome ∧ catches G c' c ∧ ie < δ'.length ∧ ie ≠ ic then some (Out.nx ((δ'.set ic (.val (.exc c'))).set ie .no)) else none) = some o := h
      split at h'
      · rename_i hh
        cases h'
        obtain ⟨hh1, hh2, hh3, hh4⟩ := hh
        obtain ⟨C0, xo⟩ := F.one c' hh1
        intro σ' H' W' C hm R' fr' sm'
        rw [show C = Value.ref C0 from Option.some.inj (hm.symm.trans xo.mc)]
        refine ⟨(xo.own c hc Ct hCt).2 hh2, fun ea hea => ?_⟩
        have hout : ea ∉ O ++ W' := R'.hid.newOut hea
        have R1 := R'.mono (same_upd (o := excO ea (.ref C0)) hea)
        have rp : Rep X.D (L2.wo (O ++ W') (upd H' ea (excO ea (.ref C0)))) (.exc c') (.ref ea) := rep_exc.mpr ⟨ea, _, rfl, xo.mc, by rw [wo_out hout]; exact upd_same⟩
        refine ⟨.ref ea, List.getElem?_set_self (by rw [R'.len]; exact hh3), ?_⟩
        refine k _ _ W' ?_ fr' (sm'.trans (same_upd hea))
        have R2 := ((R1.setVal rp ie).setVal rp ic).unset ie
        rw [show ((δ'.set ie (Sv.val (.exc c'))).set ic (Sv.val (.exc c'))).set ie Sv.no = (δ'.set ic (Sv.val (.exc c'))).set ie Sv.no by rw [List.set_comm _ _ hh4, List.set_set]] at R2
        exact R2
      · cases h'
end
end L2

end
section

set_option Elab.async false
set_option linter.all false
set_option maxRecDepth 100000
set_option maxHeartbeats 4000000

/-! The evaluator is sound: expressions. -/
namespace L2
open PySem PySem.Spec PyProof.Rows

/-- a dict of texts at the text's top -/
def DictK (K : PySem.W.Frag) (w : World) (mg : Str → Option Value) (x : Str) (kvs : List (Str × Str)) : Prop :=
  ∃ a es n, mg x = some (.ref a) ∧ K.lookup a = some ⟨.type "dict", none, .dict es n, #[]⟩ ∧ PySem.W.KeysLit w.params es.toList ∧ ∀ k v, kvs.lookup k = some v → v.length ≤ sizeLine ∧ ∃ t, PySem.W.nsIn K a k = some (some (.str v t))
def rIxK (X : Cx) : R2 := fun x y H Q => ∃ (a : Addr) (es : Array DictEntry) (n : Nat) (k v : Str) (t : Tok), x = .ref a ∧ y = .str k ∧ X.K.lookup a = some ⟨.type "dict", none, .dict es n, #[]⟩ ∧ PySem.W.KeysLit X.w.params es.toList ∧ PySem.W.nsIn X.K a k = some (some (.str v t)) ∧ Q (.str v) H
theorem ix_K {X : Cx} : IxR X (rIxK X) := by
  intro value slice pins s σ H x y v u Q I rx ry q hs
  obtain ⟨a, es, n, k, v', t, rfl, rfl, hl, hk, e, q⟩ := q
  cases rx
  obtain ⟨t', rfl⟩ := ry
  have hm := PySem.W.mapOf_K (prog := X.prog) (w := X.w) I.kIn hl hk
  exact tail_any hm.typeIs slot_dict_getitem.lookup (wpAny_getItem_of (strKind_is X.prog X.w k t') hm (PySem.W.find_K hl e) ⟨.str v', H, I.tok _, ⟨_, rfl⟩, q⟩) hs
structure Good (sg : Sg) (G : Gs) (F : Nat → List DV → Option Ou) (X : Cx) (E : St → XK) : Prop where
  N : X.N = sg.N
  nd : X.N.Nodup
  vis : ∀ x, visB sg x = true → Vis X.env.scope x
  glo : ∀ x, gloB sg x = true → Gl X x
  loc : ∀ x, locB sg x = true → Loc X.env.scope x ∧ (X.fn x = true ∨ X.env.scope.names.lookup x = some .local)
  lcl : ∀ x, sg.sc.lookup x = some .local → X.env.scope.names.lookup x = some .local
  cel : ∀ x, (sg.sc.lookup x = some .cell ∨ sg.sc.lookup x = some .free) → X.env.scope.names.lookup x = some .cell ∨ X.env.scope.names.lookup x = some .free
  calm : X.calm = true
  hu : X.A.units + 64 < cLine
  fns : ∀ f x, sg.fn[f]? = some x → ∃ k fa fd ps, Room k X.A ∧ X.mg x = some (.ref fa) ∧ PySem.W.keepIn X.K (.ref fa) = true ∧ Binds X.K fd ps [] ∧ (∀ ds o, F f ds = some o → ds.length = ps.length) ∧
    FnOk X.prog X.w X.K X.mg X.base (CXx X.prog X.w X.base) k fa fd ps (spF X.D ps.length (F f))
  blt : ∀ x ∈ sg.bl, X.mg x = none
  pas : PassesS (CXx X.prog X.w X.base) X E
  con : ∀ x d, G.con.lookup x = some d → ∃ u v, X.mg x = some u ∧ RelV v u ∧ ∀ H, Rep X.D H d v
  own : sg.lp = true → PassesOwn (model X.prog X.w) X.A X.env X.xe
  xf : XFacts X.K X.mg G sg.cl
  st : sg.top = true → X.stack = X.env :: X.outer ∧ X.env.frame = some X.env.locals ∧ X.ex = [] ∧ RaisesTo X E
  dcs : ∀ x kvs, G.dcs.lookup x = some kvs → DictK X.K X.w X.mg x kvs

theorem nodupB_of : ∀ {l : List Str}, nodupB l = true → l.Nodup
  | [], _ => List.nodup_nil
  | x :: r, h => by
    unfold nodupB at h
    rw [Bool.and_eq_true] at h
    refine List.nodup_cons.mpr ⟨fun z => ?_, nodupB_of h.2⟩
    have := h.1
    rw [List.contains_iff_mem.mpr z] at this
    cases this
section
variable {sg : Sg} {G : Gs} {F : Nat → List DV → Option Ou} {X : Cx} {E : St → XK} {tg : Tg} {sc : Scope} {N' : List Str} {fr : List (Option Nat)}
theorem block_scope (g : Good sg G F X E) (h : blockOk sg N' fr sc tg = true) : CompScope X.N N' sc X.env.scope fr ∧ (∀ (j k i : Nat), fr[j]? = some (some i) → fr[k]? = some (some i) → j = k) ∧ ∀ i ∈ tgSlots tg, fr[i]? = some none := by
  unfold blockOk at h
  simp only [Bool.and_eq_true, List.all_eq_true, beq_iff_eq] at h
  obtain ⟨⟨⟨⟨⟨⟨h0, h1⟩, h2⟩, h3⟩, h4⟩, h5⟩, h6⟩ := h
  have h5' : ∀ (j i : Nat), fr[j]? = some (some i) → ∃ x, N'[j]? = some x ∧ sg.N[i]? = some x ∧ (x, NameKind.free) ∈ sc.names := fun j i e => by
    have hj : j < fr.length := (List.getElem?_eq_some_iff.mp e).1
    have hj' : j < N'.length := by rw [← h4]; exact hj
    have hz : (some i, N'[j]) ∈ fr.zip N' := by
      refine List.mem_of_getElem? (i := j) ?_
      rw [List.getElem?_zip_eq_some]
      exact ⟨e, List.getElem?_eq_getElem hj'⟩
    have q := h5 _ hz
    simp only [Bool.and_eq_true, beq_iff_eq, List.contains_iff_mem] at q
    exact ⟨_, List.getElem?_eq_getElem hj', q.1, q.2⟩
  refine ⟨⟨h1, nodupB_of h2, nodupB_of h3, h4, fun j i e => ?_, fun y hy hk => ?_⟩, fun j k i e1 e2 => ?_, h0⟩
  · obtain ⟨x, a, b, c⟩ := h5' j i e
    exact ⟨x, a, by rw [g.N]; exact b, c⟩
  · have q := h6 y hy
    rw [if_pos hk] at q
    simp only [Bool.or_eq_true, beq_iff_eq] at q
    exact g.cel _ q
  · obtain ⟨x, a, b, _⟩ := h5' j i e1
    obtain ⟨x', a', b', _⟩ := h5' k i e2
    rw [b] at b'; cases b'
    exact nodup_ix (nodupB_of h2) a a'
theorem good_comp (g : Good sg G F X E) (h : blockOk sg N' fr sc tg = true) (C : Addr) (cells : List (Str × Addr)) (s₂ : Shared) (H₂ : Hp) (fp : List Addr) : Good ⟨N', sc.names, sg.fn, sg.bl, sg.cl, false, true⟩ G F (cxComp X sc N' C cells s₂ H₂ fp) E0s := by
  obtain ⟨S, _, _⟩ := block_scope g h
  have look : ∀ x, (cxComp X sc N' C cells s₂ H₂ fp).env.scope.names.lookup x = (sc.names.lookup x).map fun k => if (k == NameKind.free && X.env.scope.kind == .function && X.env.kindOf x == some .cell) = true then NameKind.cell else k := fun x => lookup_relabel
  have one : ∀ x k, sc.names.lookup x = some k → k ≠ .free → (cxComp X sc N' C cells s₂ H₂ fp).env.scope.names.lookup x = some k := fun x k e hk => by
    rw [look, e, Option.map_some, if_neg]
    intro z
    simp only [Bool.and_eq_true, beq_iff_eq] at z
    exact hk z.1.1
  have two : ∀ x, sc.names.lookup x = some .free → (cxComp X sc N' C cells s₂ H₂ fp).env.scope.names.lookup x = some .cell ∨ (cxComp X sc N' C cells s₂ H₂ fp).env.scope.names.lookup x = some .free := fun x e => by
    rw [look, e, Option.map_some]
    split
    · exact .inl rfl
    · exact .inr rfl
  refine ⟨rfl, S.nd, fun x hx => ?_, fun x hx => ?_, fun x hx => ?_, fun x hx => one x _ hx (by intro z; cases z), fun x hx => ?_, g.calm, g.hu, g.fns, g.blt, ?_, g.con, fun _ => .never, g.xf, (fun z => nomatch z), g.dcs⟩
  · unfold visB at hx
    simp only [Bool.or_eq_true, beq_iff_eq] at hx
    rcases hx with (hx | hx) | hx
    · exact .inl (one x _ hx (by intro z; cases z))
    · exact .inr (.inl (one x _ hx (by intro z; cases z)))
    · exact .inr (two x hx)
  · unfold gloB at hx
    rw [beq_iff_eq] at hx
    exact one x _ hx (by intro z; cases z)
  · unfold locB at hx
    simp only [Bool.or_eq_true, beq_iff_eq] at hx
    rcases hx with hx | hx
    · exact ⟨.inl (one x _ hx (by intro z; cases z)), .inr (one x _ hx (by intro z; cases z))⟩
    · exact ⟨.inr (one x _ hx (by intro z; cases z)), .inl (by show (sc.names.lookup x == some .cell) = true; rw [hx]; rfl)⟩
  · rcases hx with hx | hx
    · exact .inl (one x _ hx (by intro z; cases z))
    · exact two x hx
  · intro pins σ H s e s' I z
    obtain ⟨_, _, _, _, _, _, _, _, _, _, q⟩ := z
    exact q.elim

theorem slot_of (g : Good sg G F X E) {i : Nat} {x : Str} (h : slotB sg i x = true) : X.N[i]? = some x ∧ Vis X.env.scope x ∧ (x == ("__debug__" : Str)) = false ∧ (x == ("__classdict__" : Str)) = false := by
  unfold slotB at h
  simp only [Bool.and_eq_true, beq_iff_eq, bne_iff_ne, ne_eq] at h
  obtain ⟨⟨⟨h1, h2⟩, h3⟩, h4⟩ := h
  exact ⟨by rw [g.N]; exact h1, g.vis x h2, beq_eq_false_iff_ne.mpr h3, beq_eq_false_iff_ne.mpr h4⟩
theorem blt_of (g : Good sg G F X E) {x : Str} {f : Expr} (h : bltB sg x f = true) : (∃ p, f = .Name x p) ∧ Gl X x ∧ X.mg x = none := by
  unfold bltB at h
  simp only [Bool.and_eq_true, beq_iff_eq, List.contains_iff_mem] at h
  obtain ⟨⟨h1, h2⟩, h3⟩ := h
  exact ⟨asName_eq h1, g.glo x h2, g.blt x h3⟩
/-- in the body of a try -/
theorem good_try (g : Good sg G F X E) (pins : List (Addr × Obj)) (E' : St → Value → Hp → Prop) : Good ⟨sg.N, sg.sc, sg.fn, sg.bl, sg.cl, false, false⟩ G F (X.tryIn pins E') (fun σ C _ H => E' σ C H) :=
  ⟨g.N, g.nd, g.vis, g.glo, g.loc, g.lcl, g.cel, g.calm, g.hu, g.fns, g.blt, passes_try, g.con, (fun z => nomatch z), g.xf, (fun z => nomatch z), g.dcs⟩
/-- targets -/
theorem pgs_names (g : Good sg G F X E) : ∀ (is : List Nat) (es : List Expr), es.length = is.length → ((is.zip es).all fun p => match asName p.2 with | some x => sg.N[p.1]? == some x && locB sg x | none => false) = true →
    PGs X es (gNames is) ∧ (assignEach es X.env).length = is.length ∧ (assignEach es X.env).findIdx? (·.1) = none
  | [], [], _, _ => ⟨pgs_nil, rfl, rfl⟩
  | [], _ :: _, h, _ => by cases h
  | _ :: _, [], h, _ => by cases h
  | i :: is, e :: es, hl, h => by
    rw [List.zip_cons_cons, List.all_cons, Bool.and_eq_true] at h
    obtain ⟨h1, h2⟩ := h
    obtain ⟨A, B, C⟩ := pgs_names g is es (by simpa using hl) h2
    split at h1
    · rename_i x q
      obtain ⟨p, rfl⟩ := asName_eq q
      simp only [Bool.and_eq_true, beq_iff_eq] at h1
      have l := g.loc x h1.2
      refine ⟨pgs_cons (pg_name g.nd (by rw [g.N]; exact h1.1) l.1 l.2) A rfl, ?_, ?_⟩
      · show (assignEach es X.env).length + 1 = is.length + 1
        rw [B]
      · show ((false, assign (.Name x p) X.env) :: assignEach es X.env).findIdx? (·.1) = none
        rw [List.findIdx?_cons, C]; rfl
    · cases h1
theorem pg_of (g : Good sg G F X E) {tgE : Expr} (h : tgOk sg tg tgE = true) : PG X tgE (gT X.K tg) := by
  cases tg with
  | one i =>
    unfold tgOk at h
    dsimp only at h
    split at h
    · rename_i x q
      obtain ⟨p, rfl⟩ := asName_eq q
      simp only [Bool.and_eq_true, beq_iff_eq] at h
      have l := g.loc x h.2
      exact pg_name g.nd (by rw [g.N]; exact h.1) l.1 l.2
    · cases h
  | many is =>
    unfold tgOk at h
    dsimp only at h
    split at h
    · rename_i es q
      obtain ⟨k, p, rfl⟩ := asTup_eq q
      rw [Bool.and_eq_true, Bool.and_eq_true, beq_iff_eq] at h
      obtain ⟨A, B, C⟩ := pgs_names g is es h.1.1 h.2
      exact pg_tup g.calm A B C
    · cases h
end

section
variable (G : Gs) (F : Nat → List DV → Option Ou)
def SE (m : ME) : Prop := ∀ {sg : Sg} {X : Cx} {E : St → XK} {e : Expr} {δ : List Sv} {r : Re}, Good sg G F X E → corE sg false m e = true → evE G F m δ = some r → PE X e (dE X.D E δ r)
def ST (m : ME) : Prop := ∀ {sg : Sg} {X : Cx} {E : St → XK} {e : Expr} {δ : List Sv} {r : Rt}, Good sg G F X E → corE sg false m e = true → tstD (evE G F m δ) = some r → PT X e (dT X.D E δ r)
def SI (m : ME) : Prop := ∀ {sg : Sg} {X : Cx} {E : St → XK} {e tg : Expr} {δ : List Sv} {r : Ri}, Good sg G F X E → corE sg true m e = true → (isZp m = true → (asTup tg).isSome = true) → walkD (evE G F m δ) = some r → PI X tg e (dI X.D E δ r)
def SEs (ms : List ME) : Prop := ∀ {sg : Sg} {X : Cx} {E : St → XK} {es : List Expr} {δ : List Sv} {r : Rs}, Good sg G F X E → corEs sg ms es = true → evEs G F ms δ = some r → PA X es (dA X.D E δ r)
def SAnd (ms : List ME) : Prop := ∀ {sg : Sg} {X : Cx} {E : St → XK} {es : List Expr} {δ : List Sv} {pos : Pos}, Good sg G F X E → corEs sg ms es = true →
  (∀ r, evAnd G F ms δ = some r → PE X (.BoolOp .And es pos) (dE X.D E δ r)) ∧ (∀ r, tstD (evAnd G F ms δ) = some r → PW X (.BoolOp .And es pos) (dT X.D E δ r))
def SOr (ms : List ME) : Prop := ∀ {sg : Sg} {X : Cx} {E : St → XK} {es : List Expr} {δ : List Sv} {pos : Pos}, Good sg G F X E → corEs sg ms es = true →
  (∀ r, evOr G F ms δ = some r → PE X (.BoolOp .Or es pos) (dE X.D E δ r)) ∧ (∀ r, tstD (evOr G F ms δ) = some r → PW X (.BoolOp .Or es pos) (dT X.D E δ r))
def S1 (m : ME) : Prop := SE G F m ∧ ST G F m ∧ SI G F m
end
section
variable {G : Gs} {F : Nat → List DV → Option Ou}
/-- an expression whose truth is that of its value -/
theorem S1.of {m : ME} (h : SE G F m) (hw : ∀ sg e, corE sg true m e = corE sg false m e) (ht : ∀ sg e env, corE sg false m e = true → ∀ whole, isTrue e env whole = (do let v ← whole; standAt e.pos; holding [v] (truthy v))) : S1 G F m :=
  ⟨h, fun {sg X E e δ r} g hc q => snd_truth (fun z hz => h g hc hz) (ht sg e X.env hc) q, fun {sg X E e tg δ r} g hc _ q => snd_iter (fun z hz => h g (by rw [← hw]; exact hc) hz) q⟩
theorem S1.of2 {m : ME} (h : SE G F m) (ht : ST G F m) (hw : ∀ sg e, corE sg true m e = corE sg false m e) : S1 G F m :=
  ⟨h, ht, fun {sg X E e tg δ r} g hc _ q => snd_iter (fun z hz => h g (by rw [← hw]; exact hc) hz) q⟩
end
end L2

end
section

set_option Elab.async false
set_option linter.all false
set_option maxRecDepth 100000
set_option maxHeartbeats 4000000

/-! The evaluator is sound: the induction over expressions. -/
namespace L2
open PySem PySem.Spec PyProof.Rows

def plainT : Expr → Bool
  | .UnaryOp .Not _ _ => false | .BoolOp _ _ _ => false | .IfExp _ _ _ _ => false | .Compare _ _ _ _ => false
  | _ => true
theorem isTrue_plainT {e : Expr} (h : plainT e = true) (env : Env) : ∀ whole, isTrue e env whole = (do let v ← whole; standAt e.pos; holding [v] (truthy v)) := by
  cases e with
  | UnaryOp o a p => cases o <;> first | (intro _; rfl) | cases h
  | BoolOp _ _ _ => cases h
  | IfExp _ _ _ _ => cases h
  | Compare _ _ _ _ => cases h
  | _ => intro _; rfl
section
variable {G : Gs} {F : Nat → List DV → Option Ou} {a b c : ME}
theorem s_var {i : Nat} : S1 G F (.var i) := by
  refine .of (fun {sg X E e δ r} g hc h => ?_) (fun _ _ => rfl) (fun sg e env hc => ?_)
  · unfold corE at hc
    split at hc
    · rename_i x q
      obtain ⟨p, rfl⟩ := asName_eq q
      obtain ⟨h1, h2, h3, h4⟩ := slot_of g hc
      exact snd_var h1 h2 h3 h4 (by unfold evE at h; exact h)
    · cases hc
  · unfold corE at hc
    split at hc
    · rename_i x q
      obtain ⟨p, rfl⟩ := asName_eq q
      exact isTrue_plainT rfl env
    · cases hc
theorem s_const {m : ME} {k : Const} {d : DV} (hm : ∀ sg w e, corE sg w m e = true → asConst e = some k) (he : ∀ δ, evE G F m δ = some (.ok d .strong)) (hw : ∀ sg e, corE sg true m e = corE sg false m e)
    (hp : ∀ {X : Cx} {E : St → XK} {δ : List Sv} {j : Nat} {pos : Pos} sg e, corE sg false m e = true → PE X (.Constant k j pos) (dE X.D E δ (.ok d .strong))) : S1 G F m := by
  refine .of (fun {sg X E e δ r} g hc h => ?_) hw (fun sg e env hc => ?_)
  · obtain ⟨j, p, rfl⟩ := asConst_eq (hm sg false e hc)
    rw [he] at h; cases h
    exact hp sg _ hc
  · obtain ⟨j, p, rfl⟩ := asConst_eq (hm sg false e hc)
    exact isTrue_plainT rfl env
theorem s_int {i : Int} : S1 G F (.int i) := s_const (fun sg w e h => by unfold corE at h; exact beq_iff_eq.mp h) (fun δ => by unfold evE; rfl) (fun _ _ => rfl) fun _ _ _ => snd_int
theorem s_bl {i : Bool} : S1 G F (.bl i) := s_const (fun sg w e h => by unfold corE at h; exact beq_iff_eq.mp h) (fun δ => by unfold evE; rfl) (fun _ _ => rfl) fun _ _ _ => snd_bl
theorem s_non : S1 G F .non := s_const (fun sg w e h => by unfold corE at h; exact beq_iff_eq.mp h) (fun δ => by unfold evE; rfl) (fun _ _ => rfl) fun _ _ _ => snd_non
theorem s_str {i : Str} : S1 G F (.str i) := s_const (fun sg w e h => by unfold corE at h; rw [Bool.and_eq_true] at h; exact beq_iff_eq.mp h.1) (fun δ => by unfold evE; rfl) (fun _ _ => rfl) fun _ _ h => by
  unfold corE at h
  rw [Bool.and_eq_true, decide_eq_true_eq] at h
  exact snd_str (Nat.le_trans h.2 (by decide))
theorem s_glb {x : Str} : S1 G F (.glb x) := by
  refine .of (fun {sg X E e δ r} g hc h => ?_) (fun _ _ => rfl) (fun sg e env hc => ?_)
  · unfold corE at hc
    simp only [Bool.and_eq_true, beq_iff_eq, bne_iff_ne, ne_eq] at hc
    obtain ⟨p, rfl⟩ := asName_eq hc.1.1
    unfold evE at h
    obtain ⟨d, h1, h2⟩ := Option.map_eq_some_iff.mp h
    cases h2
    obtain ⟨u, v, m, rv, rp⟩ := g.con x d h1
    exact (pe_glob (g.glo x hc.1.2) m rv (beq_eq_false_iff_ne.mpr hc.2)).weak fun σ H Q ⟨O, W, R, p⟩ => p v H (Same.refl H) (rp _)
  · unfold corE at hc
    simp only [Bool.and_eq_true, beq_iff_eq] at hc
    obtain ⟨p, rfl⟩ := asName_eq hc.1.1
    exact isTrue_plainT rfl env
theorem s_gdx {x : Str} (hb : S1 G F b) : S1 G F (.gdx x b) := by
  refine .of (fun {sg X E e δ r} g hc h => ?_) (fun _ _ => rfl) (fun sg e env hc => ?_)
  · unfold corE at hc
    split at hc
    · rename_i ea eb q
      obtain ⟨sp, rfl⟩ := asSub_eq q
      simp only [Bool.and_eq_true, beq_iff_eq, bne_iff_ne, ne_eq, Bool.not_eq_true'] at hc
      obtain ⟨⟨⟨⟨h1, h2⟩, h3⟩, h4⟩, h5⟩ := hc
      obtain ⟨p, rfl⟩ := asName_eq h1
      unfold evE at h
      split at h
      case isFalse => cases h
      rename_i hsome
      cases hr : evE G F b δ with
      | none => rw [hr] at h; cases h
      | some rb =>
        rw [hr] at h
        have B := hb.1 g h4 hr
        have C : ∀ {v : V} {u : Value} (m : X.mg x = some u) (rv : RelV v u) t, PE X eb t → PE X (.Subscript (.Name x p) eb sp) (tOp (rIxK X) (tC v) t) := fun m rv t hB =>
          pe_ix ix_K (pe_glob (g.glo x h2) m rv (beq_eq_false_iff_ne.mpr h3)) hB (by cases eb <;> first | (intro _ _; rfl) | cases h5)
        cases rb with
        | ex c =>
          cases h
          cases hl : G.dcs.lookup x with
          | none => rw [hl] at hsome; cases hsome
          | some kvs =>
            obtain ⟨a, es, n, m, e1, e2, e3⟩ := g.dcs x kvs hl
            exact (C m (v := .ref a) rfl _ B).weak fun σ H Q ⟨O, W, R, p⟩ => ⟨O, W, R, p⟩
        | ok y cy =>
          have h' : ((gdxD G x y).map fun d => Re.ok d .strong) = some r := h
          obtain ⟨d, q1, q2⟩ := Option.map_eq_some_iff.mp h'
          cases q2
          unfold gdxD at q1
          split at q1
          · rename_i kvs k hl
            obtain ⟨v, q3, q4⟩ := Option.map_eq_some_iff.mp q1
            subst q4
            obtain ⟨a, es, n, m, e1, e2, e3⟩ := g.dcs x kvs hl
            obtain ⟨z, t, e4⟩ := e3 k v q3
            exact (C m (v := .ref a) rfl _ B).weak fun σ H Q ⟨O, W, R, p⟩ => ⟨O, W, R, fun w H1 s1 gy => ⟨a, es, n, k, v, t, rfl, (gy.str (R.hid.mono s1)).1, e1, e2, e4, p _ H1 s1 (rep_str.mpr ⟨rfl, z⟩ : Rep X.D (L2.wo (O ++ W) H1) (.str v) (.str v))⟩⟩
          · cases q1
    · cases hc
  · unfold corE at hc
    split at hc
    · rename_i ea eb q
      obtain ⟨sp, rfl⟩ := asSub_eq q
      exact isTrue_plainT rfl env
    · cases hc
theorem s_bin {op : Operator} (ha : S1 G F a) (hb : S1 G F b) : S1 G F (.bin op a b) := by
  refine .of (fun {sg X E e δ r} g hc h => ?_) (fun _ _ => rfl) (fun sg e env hc => ?_)
  · unfold corE at hc
    split at hc
    · rename_i ea o eb q
      obtain ⟨p, rfl⟩ := asBin_eq q
      simp only [Bool.and_eq_true, beq_iff_eq] at hc
      obtain ⟨⟨h1, h2⟩, h3⟩ := hc
      subst h1
      unfold evE at h
      exact snd_bin (fun z hz => ha.1 g h2 hz) (fun z hz => hb.1 g h3 hz) h
    · cases hc
  · unfold corE at hc
    split at hc
    · rename_i q; obtain ⟨p, rfl⟩ := asBin_eq q; exact isTrue_plainT rfl env
    · cases hc
theorem s_neg (ha : S1 G F a) : S1 G F (.neg a) := by
  refine .of (fun {sg X E e δ r} g hc h => ?_) (fun _ _ => rfl) (fun sg e env hc => ?_)
  · unfold corE at hc
    split at hc
    · rename_i o ea q
      obtain ⟨p, rfl⟩ := asUn_eq q
      simp only [Bool.and_eq_true, beq_iff_eq] at hc
      obtain ⟨h1, h2⟩ := hc
      subst h1
      unfold evE at h
      exact snd_neg (fun z hz => ha.1 g h2 hz) h
    · cases hc
  · unfold corE at hc
    split at hc
    · rename_i q; obtain ⟨p, rfl⟩ := asUn_eq q
      simp only [Bool.and_eq_true, beq_iff_eq] at hc
      obtain ⟨h1, h2⟩ := hc
      subst h1
      exact isTrue_plainT rfl env
    · cases hc
theorem s_inv (ha : S1 G F a) : S1 G F (.inv a) := by
  refine .of (fun {sg X E e δ r} g hc h => ?_) (fun _ _ => rfl) (fun sg e env hc => ?_)
  · unfold corE at hc
    split at hc
    · rename_i o ea q
      obtain ⟨p, rfl⟩ := asUn_eq q
      simp only [Bool.and_eq_true, beq_iff_eq] at hc
      obtain ⟨h1, h2⟩ := hc
      subst h1
      unfold evE at h
      exact snd_inv (fun z hz => ha.1 g h2 hz) h
    · cases hc
  · unfold corE at hc
    split at hc
    · rename_i q; obtain ⟨p, rfl⟩ := asUn_eq q
      simp only [Bool.and_eq_true, beq_iff_eq] at hc
      obtain ⟨h1, h2⟩ := hc
      subst h1
      exact isTrue_plainT rfl env
    · cases hc
theorem s_not (ha : S1 G F a) : S1 G F (.not a) := by
  refine .of2 (fun {sg X E e δ r} g hc h => ?_) (fun {sg X E e δ r} g hc h => ?_) (fun _ _ => rfl)
  · unfold corE at hc
    split at hc
    · rename_i o ea q
      obtain ⟨p, rfl⟩ := asUn_eq q
      simp only [Bool.and_eq_true, beq_iff_eq] at hc
      obtain ⟨h1, h2⟩ := hc
      subst h1
      unfold evE at h
      exact snd_not (fun z hz => ha.1 g h2 hz) h
    · cases hc
  · unfold corE at hc
    split at hc
    · rename_i o ea q
      obtain ⟨p, rfl⟩ := asUn_eq q
      simp only [Bool.and_eq_true, beq_iff_eq] at hc
      obtain ⟨h1, h2⟩ := hc
      subst h1
      unfold evE at h
      exact snd_tnot (fun z hz => ha.2.1 g h2 hz) h
    · cases hc
theorem s_cmp {op : CmpOp} (ha : S1 G F a) (hb : S1 G F b) : S1 G F (.cmp op a b) := by
  refine .of2 (fun {sg X E e δ r} g hc h => ?_) (fun {sg X E e δ r} g hc h => ?_) (fun _ _ => rfl)
  · unfold corE at hc
    split at hc
    · rename_i ea o eb q
      obtain ⟨p, rfl⟩ := asCmp_eq q
      simp only [Bool.and_eq_true, beq_iff_eq, Bool.not_eq_true'] at hc
      obtain ⟨⟨⟨h1, h2⟩, h3⟩, h4⟩ := hc
      subst h1
      unfold evE at h
      exact snd_cmp g.hu (fun z hz => ha.1 g h2 hz) (fun z hz => hb.1 g h3 hz) h4 h
    · cases hc
  · unfold corE at hc
    split at hc
    · rename_i ea o eb q
      obtain ⟨p, rfl⟩ := asCmp_eq q
      simp only [Bool.and_eq_true, beq_iff_eq, Bool.not_eq_true'] at hc
      obtain ⟨⟨⟨h1, h2⟩, h3⟩, h4⟩ := hc
      subst h1
      unfold evE at h
      exact snd_tcmp g.hu (fun z hz => ha.1 g h2 hz) (fun z hz => hb.1 g h3 hz) h4 h
    · cases hc
theorem s_chain {op op' : CmpOp} (ha : S1 G F a) (hb : S1 G F b) (hcc : S1 G F c) : S1 G F (.chain op op' a b c) := by
  refine .of2 (fun {sg X E e δ r} g hc h => ?_) (fun {sg X E e δ r} g hc h => ?_) (fun _ _ => rfl)
  · unfold corE at hc
    split at hc
    · rename_i ea o o' eb ec q
      obtain ⟨p, rfl⟩ := asCmp_eq q
      simp only [Bool.and_eq_true, beq_iff_eq, Bool.not_eq_true'] at hc
      obtain ⟨⟨⟨⟨⟨h1, h1'⟩, h2⟩, h3⟩, h4⟩, h5⟩ := hc
      subst h1 h1'
      unfold evE at h
      exact snd_chain g.hu (fun z hz => ha.1 g h2 hz) (fun z hz => hb.1 g h3 hz) (fun z hz => hcc.1 g h4 hz) h5 h
    · cases hc
  · unfold corE at hc
    split at hc
    · rename_i ea o o' eb ec q
      obtain ⟨p, rfl⟩ := asCmp_eq q
      simp only [Bool.and_eq_true, beq_iff_eq, Bool.not_eq_true'] at hc
      obtain ⟨⟨⟨⟨⟨h1, h1'⟩, h2⟩, h3⟩, h4⟩, h5⟩ := hc
      subst h1 h1'
      unfold evE at h
      exact snd_tchain g.hu (fun z hz => ha.1 g h2 hz) (fun z hz => hb.1 g h3 hz) (fun z hz => hcc.1 g h4 hz) h5 h
    · cases hc
theorem s_ite (hcc : S1 G F c) (ha : S1 G F a) (hb : S1 G F b) : S1 G F (.ite c a b) := by
  refine .of2 (fun {sg X E e δ r} g hc h => ?_) (fun {sg X E e δ r} g hc h => ?_) (fun _ _ => rfl)
  · unfold corE at hc
    split at hc
    · rename_i ec ea eb q
      obtain ⟨p, rfl⟩ := asIf_eq q
      simp only [Bool.and_eq_true] at hc
      obtain ⟨⟨h1, h2⟩, h3⟩ := hc
      unfold evE at h
      exact snd_ite (fun z hz => hcc.2.1 g h1 hz) (fun z hz => ha.1 g h2 hz) (fun z hz => hb.1 g h3 hz) h
    · cases hc
  · unfold corE at hc
    split at hc
    · rename_i ec ea eb q
      obtain ⟨p, rfl⟩ := asIf_eq q
      simp only [Bool.and_eq_true] at hc
      obtain ⟨⟨h1, h2⟩, h3⟩ := hc
      unfold evE at h
      exact snd_tite (fun z hz => hcc.2.1 g h1 hz) (fun z hz => ha.2.1 g h2 hz) (fun z hz => hb.2.1 g h3 hz) h
    · cases hc
theorem s_ix (ha : S1 G F a) (hb : S1 G F b) : S1 G F (.ix a b) := by
  refine .of (fun {sg X E e δ r} g hc h => ?_) (fun _ _ => rfl) (fun sg e env hc => ?_)
  · unfold corE at hc
    split at hc
    · rename_i ea eb q
      obtain ⟨p, rfl⟩ := asSub_eq q
      simp only [Bool.and_eq_true, Bool.not_eq_true'] at hc
      obtain ⟨⟨h1, h2⟩, h3⟩ := hc
      unfold evE at h
      exact snd_ix (fun z hz => ha.1 g h1 hz) (fun z hz => hb.1 g h2 hz) h3 h
    · cases hc
  · unfold corE at hc
    split at hc
    · rename_i q; obtain ⟨p, rfl⟩ := asSub_eq q; exact isTrue_plainT rfl env
    · cases hc
theorem s_sl (ha : S1 G F a) (hb : S1 G F b) (hcc : S1 G F c) : S1 G F (.sl a b c) := by
  refine .of (fun {sg X E e δ r} g hc h => ?_) (fun _ _ => rfl) (fun sg e env hc => ?_)
  · unfold corE at hc
    split at hc
    · rename_i ea es q
      obtain ⟨p, rfl⟩ := asSub_eq q
      split at hc
      · rename_i q2
        obtain ⟨p2, rfl⟩ := asSlice_eq q2
        simp only [Bool.and_eq_true] at hc
        obtain ⟨⟨h1, h2⟩, h3⟩ := hc
        unfold evE at h
        exact snd_sl (fun z hz => ha.1 g h1 hz) (fun z hz => hb.1 g h2 hz) (fun z hz => hcc.1 g h3 hz) h
      · cases hc
    · cases hc
  · unfold corE at hc
    split at hc
    · rename_i q; obtain ⟨p, rfl⟩ := asSub_eq q; exact isTrue_plainT rfl env
    · cases hc
theorem s_slf (ha : S1 G F a) (hb : S1 G F b) : S1 G F (.slf a b) := by
  refine .of (fun {sg X E e δ r} g hc h => ?_) (fun _ _ => rfl) (fun sg e env hc => ?_)
  · unfold corE at hc
    split at hc
    · rename_i ea es q
      obtain ⟨p, rfl⟩ := asSub_eq q
      split at hc
      · rename_i q2
        obtain ⟨p2, rfl⟩ := asSlice_eq q2
        simp only [Bool.and_eq_true] at hc
        obtain ⟨h1, h2⟩ := hc
        unfold evE at h
        exact snd_slf (fun z hz => ha.1 g h1 hz) (fun z hz => hb.1 g h2 hz) h
      · cases hc
    · cases hc
  · unfold corE at hc
    split at hc
    · rename_i q; obtain ⟨p, rfl⟩ := asSub_eq q; exact isTrue_plainT rfl env
    · cases hc
theorem s_slt (ha : S1 G F a) (hb : S1 G F b) : S1 G F (.slt a b) := by
  refine .of (fun {sg X E e δ r} g hc h => ?_) (fun _ _ => rfl) (fun sg e env hc => ?_)
  · unfold corE at hc
    split at hc
    · rename_i ea es q
      obtain ⟨p, rfl⟩ := asSub_eq q
      split at hc
      · rename_i q2
        obtain ⟨p2, rfl⟩ := asSlice_eq q2
        simp only [Bool.and_eq_true] at hc
        obtain ⟨h1, h2⟩ := hc
        unfold evE at h
        exact snd_slt (fun z hz => ha.1 g h1 hz) (fun z hz => hb.1 g h2 hz) h
      · cases hc
    · cases hc
  · unfold corE at hc
    split at hc
    · rename_i q; obtain ⟨p, rfl⟩ := asSub_eq q; exact isTrue_plainT rfl env
    · cases hc
/-- no value: nothing to show -/
theorem s_none {m : ME} (h : ∀ δ, evE G F m δ = none) : S1 G F m := by
  refine ⟨fun {sg X E e δ r} g hc q => ?_, fun {sg X E e δ r} g hc q => ?_, fun {sg X E e tg δ r} g hc _ q => ?_⟩ <;> (rw [h] at q; cases q)
variable {ms : List ME}
theorem noStars : ∀ {sg : Sg} {ms : List ME} {es : List Expr}, corEs sg ms es = true → es.any isStar = false
  | _, [], [], _ => rfl
  | _, [], _ :: _, h => by unfold corEs at h; cases h
  | _, _ :: _, [], h => by unfold corEs at h; cases h
  | sg, m :: ms, e :: es, h => by
    unfold corEs at h
    simp only [Bool.and_eq_true, Bool.not_eq_true'] at h
    rw [List.any_cons, h.1.2, noStars h.2]; rfl
theorem s_lst (ha : SEs G F ms) : S1 G F (.lst ms) := by
  refine .of (fun {sg X E e δ r} g hc h => ?_) (fun _ _ => rfl) (fun sg e env hc => ?_)
  · unfold corE at hc
    split at hc
    · rename_i es q
      obtain ⟨p, rfl⟩ := asList_eq q
      unfold evE at h
      exact snd_lst (fun z hz => ha g hc hz) h
    · cases hc
  · unfold corE at hc
    split at hc
    · rename_i q; obtain ⟨p, rfl⟩ := asList_eq q; exact isTrue_plainT rfl env
    · cases hc
theorem s_tup (ha : SEs G F ms) : S1 G F (.tup ms) := by
  refine .of (fun {sg X E e δ r} g hc h => ?_) (fun _ _ => rfl) (fun sg e env hc => ?_)
  · unfold corE at hc
    split at hc
    · rename_i es q
      obtain ⟨k, p, rfl⟩ := asTup_eq q
      unfold evE at h
      exact snd_tup (fun z hz => ha g hc hz) h
    · cases hc
  · unfold corE at hc
    split at hc
    · rename_i q; obtain ⟨k, p, rfl⟩ := asTup_eq q; exact isTrue_plainT rfl env
    · cases hc
theorem s_call {f : Nat} (ha : SEs G F ms) : S1 G F (.call f ms) := by
  refine .of (fun {sg X E e δ r} g hc h => ?_) (fun _ _ => rfl) (fun sg e env hc => ?_)
  · unfold corE at hc
    split at hc
    · rename_i ef es pos q
      have := asCall_eq q
      subst this
      rw [Bool.and_eq_true, Bool.and_eq_true] at hc
      obtain ⟨⟨h1, h2⟩, h3⟩ := hc
      split at h1
      · rename_i x qx
        obtain ⟨p, rfl⟩ := asName_eq qx
        simp only [Bool.and_eq_true, beq_iff_eq, bne_iff_ne, ne_eq] at h1
        obtain ⟨k, fa, fd, ps, hr, hm, hk, hb, hl, fo⟩ := g.fns f x h1.1.1
        cases es with
        | nil => cases h2
        | cons y ys =>
          have ns := noStars h3
          rw [List.any_cons, Bool.or_eq_false_iff] at ns
          unfold evE at h
          exact snd_call fo hl hr (g.glo x h1.1.2) hm hk hb g.pas (fun z hz => ha g h3 hz) (beq_eq_false_iff_ne.mpr h1.2) ns.1 ns.2 h
      · cases h1
    · cases hc
  · unfold corE at hc
    split at hc
    · rename_i q; have := asCall_eq q; subst this; exact isTrue_plainT rfl env
    · cases hc
theorem s_bi {f : Bi} (ha : SEs G F ms) : S1 G F (.bi f ms) := by
  refine .of (fun {sg X E e δ r} g hc h => ?_) (fun _ _ => rfl) (fun sg e env hc => ?_)
  · unfold corE at hc
    split at hc
    · rename_i ef es pos q
      have := asCall_eq q
      subst this
      rw [Bool.and_eq_true, Bool.and_eq_true] at hc
      obtain ⟨⟨h1, h2⟩, h3⟩ := hc
      obtain ⟨⟨p, rfl⟩, hg, hm⟩ := blt_of g h1
      unfold evE at h
      cases es with
      | nil => cases h2
      | cons y ys =>
        have go : corEs sg ms (y :: ys) = true → (∀ q, evEs G F ms δ = some q → PA X (y :: ys) (dA X.D E δ q)) ∧ isStar y = false ∧ ys.any isStar = false := fun z => by
          have ns := noStars z
          rw [List.any_cons, Bool.or_eq_false_iff] at ns
          exact ⟨fun w hw => ha g z hw, ns.1, ns.2⟩
        cases f with
        | len => obtain ⟨A, s1, s2⟩ := go h3; exact snd_bi bi_len okD_len hg hm boot_len (by decide) (by decide) A s1 s2 h
        | abs => obtain ⟨A, s1, s2⟩ := go h3; exact snd_bi bi_abs okD_abs hg hm boot_abs (by decide) (by decide) A s1 s2 h
        | min => obtain ⟨A, s1, s2⟩ := go h3; exact snd_bi (bi_min g.calm) okD_min hg hm boot_min (by decide) (by decide) A s1 s2 h
        | max => obtain ⟨A, s1, s2⟩ := go h3; exact snd_bi (bi_max g.calm) okD_max hg hm boot_max (by decide) (by decide) A s1 s2 h
        | int => obtain ⟨A, s1, s2⟩ := go h3; exact snd_biT bi_int okD_int hg hm boot_int (by decide) (by decide) A s1 s2 h
        | list => obtain ⟨A, s1, s2⟩ := go h3; exact snd_biT bi_list okD_list hg hm boot_list (by decide) (by decide) A s1 s2 h
        | tuple => obtain ⟨A, s1, s2⟩ := go h3; exact snd_biT bi_tuple okD_tuple hg hm boot_tuple (by decide) (by decide) A s1 s2 h
        | sset =>
          dsimp only at h3
          split at h3
          · rename_i e1 q2
            split at h3
            · rename_i ef' es' pos' q3
              have q4 := asCall_eq q3
              cases q2
              subst q4
              rw [Bool.and_eq_true, Bool.and_eq_true] at h3
              obtain ⟨⟨p', rfl⟩, hg', hm'⟩ := blt_of g h3.1.1
              cases es' with
              | nil => cases h3.1.2
              | cons y' ys' =>
                have ns := noStars h3.2
                rw [List.any_cons, Bool.or_eq_false_iff] at ns
                cases ys' with
                | nil => exact snd_sset g.calm hg hm hg' hm' (fun w hw => ha g h3.2 hw) ns.1 h
                | cons y2 yr =>
                  have z := beq_iff_eq.mp h3.1.2
                  simp at z
            · cases h3
          · cases h3
        | _ => cases h
    · cases hc
  · unfold corE at hc
    split at hc
    · rename_i q; have := asCall_eq q; subst this; exact isTrue_plainT rfl env
    · cases hc
theorem tyName_of {x : Str} (h : pyTypes.contains x = true) : ∃ t, tyName x = some t := by
  have key : ∀ x ∈ pyTypes, ∃ t, tyName x = some t := by
    intro x hx
    simp only [pyTypes, List.mem_cons, List.not_mem_nil, or_false] at hx
    rcases hx with rfl | rfl | rfl | rfl | rfl | rfl
    · exact ⟨"int", by decide +kernel⟩
    · exact ⟨"bool", by decide +kernel⟩
    · exact ⟨"str", by decide +kernel⟩
    · exact ⟨"list", by decide +kernel⟩
    · exact ⟨"tuple", by decide +kernel⟩
    · exact ⟨"dict", by decide +kernel⟩
  exact key x (List.contains_iff_mem.mp h)
theorem pyTypes_names : ∀ x ∈ pyTypes, x ≠ "__name__" ∧ (x == ("__debug__" : Str)) = false := by
  intro x hx
  simp only [pyTypes, List.mem_cons, List.not_mem_nil, or_false] at hx
  rcases hx with rfl | rfl | rfl | rfl | rfl | rfl <;> exact ⟨by decide +kernel, by decide +kernel⟩
def rBits : V → List V → Hp → VK → Prop := fun x xs H Q => ∃ i, x = .int i ∧ xs = [] ∧ Q (.int (bitLen i)) H
theorem bits_eq (i : Int) : ((Builtin.Int.intBits i : Nat) : Int) = bitLen i := by
  unfold Builtin.Int.intBits bitLen
  by_cases h : i = 0
  · subst h; rfl
  · rw [if_neg (by simpa using h), if_neg h]; push_cast; rfl
theorem mt_bits {X : Cx} : MtR X "int.bit_length" rBits := by
  intro pins s σ H x xs v us Q I rx rv h
  obtain ⟨i, rfl, rfl, q⟩ := h
  obtain ⟨t, rfl⟩ := (show ∃ t, v = Value.int i t from rx)
  cases rv
  exact PyProof.Rows.call_int_bit_length ⟨.int (bitLen i), H, I.tok _, by rw [← bits_eq]; exact ⟨_, rfl⟩, q⟩
theorem s_meth {m : Mt} {es : List ME} (ha : S1 G F a) : S1 G F (.meth m a es) := by
  refine .of (fun {sg X E e δ r} g hc h => ?_) (fun _ _ => rfl) (fun sg e env hc => ?_)
  · unfold corE at hc
    split at hc
    · rename_i ef pos q
      have := asCall_eq q
      subst this
      split at hc
      · rename_i ea n apos q2
        have := asAttr_eq q2
        subst this
        simp only [Bool.and_eq_true, beq_iff_eq] at hc
        obtain ⟨⟨⟨⟨h1, h2⟩, h3⟩, h4⟩, h5⟩ := hc
        subst h1
        obtain ⟨y, hy⟩ := Option.isSome_iff_exists.mp h3
        obtain ⟨np, rfl⟩ := asName_eq hy
        unfold evE at h
        cases m with
        | bitLength =>
          rw [if_pos rfl] at h
          have P := fun t (hA : PE X (.Name y np) t) => pe_bm0 (apos := apos) (cpos := pos) PySem.F.plainAttrs_int PySem.F.slot_int_bit_length PySem.F.type_int_bit_length mt_bits hA rfl (by rw [beq_iff_eq]; exact h4)
          cases hra : evE G F a δ with
          | none => rw [hra] at h; cases h
          | some q =>
            rw [hra] at h
            have A := ha.1 g h2 hra
            cases q with
            | ex c => cases h; exact (P _ A).weak fun σ H Q ⟨O, W, R, p⟩ => ⟨O, W, R, p⟩
            | ok d dc =>
              have h' : mtD .bitLength d = some r := h
              unfold mtD at h'
              split at h'
              · rename_i i _
                cases h'
                exact (P _ A).weak fun σ H Q ⟨O, W, R, p⟩ => ⟨O, W, R, fun v H1 s1 g1 => by
                  have hv := g1.int (R.hid.mono s1)
                  subst hv
                  exact ⟨rfl, i, rfl, rfl, p _ H1 s1 got_int⟩⟩
              · cases h'
        | index => rw [if_neg (by decide)] at h; cases h
        | get => rw [if_neg (by decide)] at h; cases h
      · cases hc
    · cases hc
  · unfold corE at hc
    split at hc
    · rename_i q
      have := asCall_eq q
      subst this
      exact isTrue_plainT rfl env
    · cases hc
theorem s_isx {t : Str} (ha : S1 G F a) : S1 G F (.isx a t) := by
  refine .of (fun {sg X E e δ r} g hc h => ?_) (fun _ _ => rfl) (fun sg e env hc => ?_)
  · unfold corE at hc
    split at hc
    · rename_i ef ea et pos q
      have := asCall_eq q
      subst this
      simp only [Bool.and_eq_true, Bool.not_eq_true', beq_iff_eq, Bool.or_eq_true, List.contains_iff_mem, bne_iff_ne, ne_eq] at hc
      obtain ⟨⟨⟨⟨⟨⟨h1, h2⟩, h3⟩, h4⟩, h5⟩, h6⟩, h7⟩ := hc
      obtain ⟨⟨p, rfl⟩, hg, hm⟩ := blt_of g h1
      obtain ⟨p', rfl⟩ := asName_eq h5
      unfold evE at h
      refine snd_isx g.xf hg hm (g.glo t h6) ?_ (fun z hz => ha.1 g h2 hz) h3 h
      rcases h7 with ⟨k1, k2⟩ | ⟨k1, k2⟩
      · exact .inl ⟨k1, beq_eq_false_iff_ne.mpr k2⟩
      · refine .inr ⟨g.blt t k1, ?_⟩
        simp only [exTypes, List.mem_cons, List.not_mem_nil, or_false] at k2
        exact k2
    · cases hc
  · unfold corE at hc
    split at hc
    · rename_i q
      have := asCall_eq q
      subst this
      exact isTrue_plainT rfl env
    · cases hc
theorem s_isi {ts : List Str} (ha : S1 G F a) : S1 G F (.isi a ts) := by
  refine .of (fun {sg X E e δ r} g hc h => ?_) (fun _ _ => rfl) (fun sg e env hc => ?_)
  · unfold corE at hc
    split at hc
    · rename_i ef ea et pos q
      have := asCall_eq q
      subst this
      simp only [Bool.and_eq_true, Bool.not_eq_true'] at hc
      obtain ⟨⟨⟨⟨h1, h2⟩, h3⟩, h4⟩, h5⟩ := hc
      obtain ⟨⟨p, rfl⟩, hg, hm⟩ := blt_of g h1
      split at h5
      · rename_i t
        simp only [Bool.and_eq_true, beq_iff_eq, List.contains_iff_mem] at h5
        obtain ⟨⟨⟨k1, k2⟩, k3⟩, k4⟩ := h5
        obtain ⟨p', rfl⟩ := asName_eq k1
        obtain ⟨T, hT⟩ := tyName_of (List.contains_iff_mem.mpr k4)
        obtain ⟨n1, n2⟩ := pyTypes_names t k4
        unfold evE at h
        exact snd_isi hT hg hm (g.glo t k2) (g.blt t k3) n1 n2 (fun z hz => ha.1 g h2 hz) h3 h
      · cases h5
    · cases hc
  · unfold corE at hc
    split at hc
    · rename_i q; have := asCall_eq q; subst this; exact isTrue_plainT rfl env
    · cases hc
theorem evEs_length : ∀ {ms : List ME} {δ : List Sv} {l : List (DV × Cl)}, evEs G F ms δ = some (.ok l) → l.length = ms.length
  | [], _, _, h => by unfold evEs at h; cases h; rfl
  | m :: ms, δ, l, h => by
    unfold evEs at h
    split at h
    · cases h
    · cases h
    · split at h
      · cases h
      · cases h
      · rename_i l' q
        cases h
        rw [List.length_cons, List.length_cons, evEs_length q]
theorem corEs_length : ∀ {sg : Sg} {ms : List ME} {es : List Expr}, corEs sg ms es = true → ms.length = es.length
  | _, [], [], _ => rfl
  | _, [], _ :: _, h => by unfold corEs at h; cases h
  | _, _ :: _, [], h => by unfold corEs at h; cases h
  | sg, m :: ms, e :: es, h => by
    unfold corEs at h
    simp only [Bool.and_eq_true] at h
    rw [List.length_cons, List.length_cons, corEs_length h.2]
theorem s_rng (ha : SEs G F ms) : S1 G F (.rng ms) := by
  refine ⟨fun {sg X E e δ r} g hc h => ?_, fun {sg X E e δ r} g hc h => ?_, fun {sg X E e tg δ r} g hc _ h => ?_⟩
  · unfold corE at hc; rw [Bool.false_and] at hc; cases hc
  · unfold corE at hc; rw [Bool.false_and] at hc; cases hc
  · unfold corE at hc
    rw [Bool.true_and] at hc
    split at hc
    · rename_i ef es pos q
      have := asCall_eq q
      subst this
      rw [Bool.and_eq_true, decide_eq_true_eq] at hc
      obtain ⟨hc, hle⟩ := hc
      rw [Bool.and_eq_true] at hc
      obtain ⟨⟨p, rfl⟩, hg, hm⟩ := blt_of g hc.1
      have l1 := corEs_length hc.2
      have ns := noStars hc.2
      unfold evE at h
      cases es with
      | nil =>
        exfalso
        cases ms with
        | nil => unfold evEs at h; cases h
        | cons _ _ => cases l1
      | cons y ys =>
        rw [List.any_cons, Bool.or_eq_false_iff] at ns
        cases ys with
        | nil => exact snd_range1 hg hm (fun z hz => ha g hc.2 hz) ns.1 h fun l hl => by rw [evEs_length hl, l1]; rfl
        | cons z zs =>
          cases zs with
          | nil =>
            have ns2 := ns.2
            rw [List.any_cons, Bool.or_eq_false_iff] at ns2
            exact snd_range2 hg hm (fun z hz => ha g hc.2 hz) ns.1 ns2.1 h fun l hl => by rw [evEs_length hl, l1]; rfl
          | cons u us => simp at hle
    · cases hc
theorem s_zp (ha : S1 G F a) (hb : S1 G F b) : S1 G F (.zp a b) := by
  refine ⟨fun {sg X E e δ r} g hc h => ?_, fun {sg X E e δ r} g hc h => ?_, fun {sg X E e tg δ r} g hc ht h => ?_⟩
  · unfold corE at hc; rw [Bool.false_and] at hc; cases hc
  · unfold corE at hc; rw [Bool.false_and] at hc; cases hc
  · unfold corE at hc
    rw [Bool.true_and] at hc
    split at hc
    · rename_i ef ea eb pos q
      have := asCall_eq q
      subst this
      simp only [Bool.and_eq_true, Bool.not_eq_true'] at hc
      obtain ⟨⟨⟨⟨h1, h2⟩, h3⟩, h4⟩, h5⟩ := hc
      obtain ⟨⟨p, rfl⟩, hg, hm⟩ := blt_of g h1
      have t := ht rfl
      cases q2 : asTup tg with
      | none => rw [q2] at t; cases t
      | some elts =>
        obtain ⟨k, tp, rfl⟩ := asTup_eq q2
        unfold evE at h
        exact snd_zip hg hm h4 h5 (fun z hz => ha.1 g h2 hz) (fun z hz => hb.1 g h3 hz) h
    · cases hc
/-- a comprehension's parts -/
theorem comp_of {sg : Sg} {X : Cx} {E : St → XK} {e : Expr} {δ : List Sv} {r : Re} {tg : Tg} {fr : List (Option Nat)} {cp : CParts} {tn : List Str} (ha : S1 G F a) (hb : S1 G F b) (g : Good sg G F X E) (hemp : cp.ifs = [])
    (h2 : corE sg true b cp.it = true) (hz : isZp b = true → (asTup cp.tg).isSome = true) (h4 : blockOk sg (blockN sg tn fr) fr cp.sc tg = true) (h5 : tgOk ⟨blockN sg tn fr, cp.sc.names, sg.fn, sg.bl, sg.cl, false, true⟩ tg cp.tg = true) (h6 : corE ⟨blockN sg tn fr, cp.sc.names, sg.fn, sg.bl, sg.cl, false, true⟩ false a cp.elt = true)
    (h : evE G F (.comp a tg b fr) δ = some r) : CompParts X E δ cp.tg cp.it cp.ifs cp.elt cp.sc (blockN sg tn fr) fr tg r := by
  obtain ⟨S, nd, sl⟩ := block_scope g h4
  rw [hemp]
  unfold evE at h
  exact snd_comp_parts S g.calm nd sl (fun z hz' => hb.2.2 g h2 hz hz') (fun C cells s₂ H₂ fp => pg_of (good_comp g h4 C cells s₂ H₂ fp) h5) (fun δ' r' hr C cells s₂ H₂ fp => ha.1 (good_comp g h4 C cells s₂ H₂ fp) h6 hr) h
theorem compi_of {sg : Sg} {X : Cx} {E : St → XK} {e cd : Expr} {δ : List Sv} {r : Re} {tg : Tg} {fr : List (Option Nat)} {cp : CParts} {tn : List Str} (ha : S1 G F a) (hb : S1 G F b) (hcc : S1 G F c) (g : Good sg G F X E) (hemp : cp.ifs = [cd])
    (h2 : corE sg true b cp.it = true) (hz : isZp b = true → (asTup cp.tg).isSome = true) (h4 : blockOk sg (blockN sg tn fr) fr cp.sc tg = true) (h5 : tgOk ⟨blockN sg tn fr, cp.sc.names, sg.fn, sg.bl, sg.cl, false, true⟩ tg cp.tg = true) (h6 : corE ⟨blockN sg tn fr, cp.sc.names, sg.fn, sg.bl, sg.cl, false, true⟩ false a cp.elt = true)
    (h7 : corE ⟨blockN sg tn fr, cp.sc.names, sg.fn, sg.bl, sg.cl, false, true⟩ false c cd = true) (h : evE G F (.compi a tg b c fr) δ = some r) : CompParts X E δ cp.tg cp.it cp.ifs cp.elt cp.sc (blockN sg tn fr) fr tg r := by
  obtain ⟨S, nd, sl⟩ := block_scope g h4
  rw [hemp]
  unfold evE at h
  exact snd_compi_parts S g.calm nd sl (fun z hz' => hb.2.2 g h2 hz hz') (fun C cells s₂ H₂ fp => pg_of (good_comp g h4 C cells s₂ H₂ fp) h5) (fun δ' r' hr C cells s₂ H₂ fp => ha.1 (good_comp g h4 C cells s₂ H₂ fp) h6 hr)
    (fun δ' r' hr C cells s₂ H₂ fp => hcc.2.1 (good_comp g h4 C cells s₂ H₂ fp) h7 hr) h
/-- what the text's comprehension answers to -/
def CompIs (G : Gs) (F : Nat → List DV → Option Ou) (m : ME) : Prop := ∀ {sg : Sg} {X : Cx} {E : St → XK} {e : Expr} {δ : List Sv} {r : Re}, Good sg G F X E → corE sg false m e = true → evE G F m δ = some r →
  ∃ (cp : CParts) (N' : List Str) (fr : List (Option Nat)) (tg : Tg) (p : Pos), e = .ListComp cp.elt [⟨cp.tg, cp.it, cp.ifs, 0⟩] cp.sc p ∧ CompScope X.N N' cp.sc X.env.scope fr ∧ CompParts X E δ cp.tg cp.it cp.ifs cp.elt cp.sc N' fr tg r ∧
    (∀ C cells s₂ H₂ fp, PG (cxComp X cp.sc N' C cells s₂ H₂ fp) cp.tg (gT X.K tg)) ∧ isSet cp.it = false
theorem CompIs.s1 {m : ME} (h : CompIs G F m) (hw : ∀ sg e, corE sg true m e = corE sg false m e) (hl : ∀ sg e, corE sg false m e = true → (cparts e).isSome = true) : S1 G F m := by
  refine .of (fun {sg X E e δ r} g hc q => ?_) hw (fun sg e env hc => ?_)
  · obtain ⟨cp, N', fr, tg, p, rfl, S, P, hG, hs⟩ := h g hc q
    exact P.pe S g.calm hG hs
  · have := hl sg e hc
    cases z : cparts e with
    | none => rw [z] at this; cases this
    | some cp => obtain ⟨p, rfl⟩ := cparts_eq z; exact isTrue_plainT rfl env
theorem c_comp {tg : Tg} {fr : List (Option Nat)} (ha : S1 G F a) (hb : S1 G F b) : CompIs G F (.comp a tg b fr) := by
  intro sg X E e δ r g hc h
  unfold corE at hc
  split at hc
  · rename_i cp q
    obtain ⟨p, rfl⟩ := cparts_eq q
    simp only [Bool.and_eq_true, Bool.not_eq_true', Bool.or_eq_true] at hc
    obtain ⟨⟨⟨h1, h2, h3⟩, h4⟩, h5⟩ := hc
    split at h5
    · rename_i tn qt
      simp only [Bool.and_eq_true] at h5
      refine ⟨cp, _, fr, tg, p, rfl, (block_scope g h5.1.1).1, comp_of (e := .ListComp cp.elt [⟨cp.tg, cp.it, cp.ifs, 0⟩] cp.sc p) ha hb g (List.isEmpty_iff.mp h1) h2 (fun z => ?_) h5.1.1 h5.1.2 h5.2 h, fun C cells s₂ H₂ fp => pg_of (good_comp g h5.1.1 C cells s₂ H₂ fp) h5.1.2, h4⟩
      rcases h3 with w | w
      · rw [z] at w; cases w
      · exact w
    · cases h5
  · cases hc
theorem c_compi {tg : Tg} {fr : List (Option Nat)} (ha : S1 G F a) (hb : S1 G F b) (hcc : S1 G F c) : CompIs G F (.compi a tg b c fr) := by
  intro sg X E e δ r g hc h
  unfold corE at hc
  split at hc
  · rename_i cp q
    obtain ⟨p, rfl⟩ := cparts_eq q
    simp only [Bool.and_eq_true, Bool.not_eq_true', Bool.or_eq_true] at hc
    obtain ⟨⟨⟨h2, h3⟩, h4⟩, h5⟩ := hc
    split at h5
    · rename_i tn ec qt qi
      simp only [Bool.and_eq_true] at h5
      refine ⟨cp, _, fr, tg, p, rfl, (block_scope g h5.1.1.1).1, compi_of (e := .ListComp cp.elt [⟨cp.tg, cp.it, cp.ifs, 0⟩] cp.sc p) ha hb hcc g qi h2 (fun z => ?_) h5.1.1.1 h5.1.1.2 h5.1.2 h5.2 h, fun C cells s₂ H₂ fp => pg_of (good_comp g h5.1.1.1 C cells s₂ H₂ fp) h5.1.1.2, h4⟩
      rcases h3 with w | w
      · rw [z] at w; cases w
      · exact w
    · cases h5
  · cases hc
theorem s_comp {tg : Tg} {fr : List (Option Nat)} (ha : S1 G F a) (hb : S1 G F b) : S1 G F (.comp a tg b fr) := CompIs.s1 (fun {sg X E e δ r} => c_comp ha hb) (fun _ _ => rfl) fun sg e hc => by
  unfold corE at hc
  split at hc
  · rename_i q; rw [q]; rfl
  · cases hc
theorem s_compi {tg : Tg} {fr : List (Option Nat)} (ha : S1 G F a) (hb : S1 G F b) (hcc : S1 G F c) : S1 G F (.compi a tg b c fr) := CompIs.s1 (fun {sg X E e δ r} => c_compi ha hb hcc) (fun _ _ => rfl) fun sg e hc => by
  unfold corE at hc
  split at hc
  · rename_i q; rw [q]; rfl
  · cases hc
/-! ### lists of expressions -/
theorem l_nil : SEs G F [] := fun {sg X E es δ r} g hc h => by
  cases es with
  | nil => unfold evEs at h; cases h; exact snd_anil
  | cons _ _ => unfold corEs at hc; cases hc
theorem l_cons (ha : S1 G F a) (hb : SEs G F ms) : SEs G F (a :: ms) := fun {sg X E es δ r} g hc h => by
  cases es with
  | nil => unfold corEs at hc; cases hc
  | cons e es =>
    unfold corEs at hc
    simp only [Bool.and_eq_true, Bool.not_eq_true'] at hc
    unfold evEs at h
    exact snd_acons hc.1.2 (fun z hz => ha.1 g hc.1.1 hz) (fun z hz => hb g hc.2 hz) h
theorem and_nil : SAnd G F [] := fun {sg X E es δ pos} g hc => ⟨fun r h => (by unfold evAnd at h; cases h), fun r h => (by unfold evAnd at h; cases h)⟩
theorem or_nil : SOr G F [] := fun {sg X E es δ pos} g hc => ⟨fun r h => (by unfold evOr at h; cases h), fun r h => (by unfold evOr at h; cases h)⟩
theorem and_cons (ha : S1 G F a) (hb : SAnd G F ms) : SAnd G F (a :: ms) := fun {sg X E es δ pos} g hc => by
  cases es with
  | nil => unfold corEs at hc; cases hc
  | cons e es =>
    unfold corEs at hc
    simp only [Bool.and_eq_true, Bool.not_eq_true'] at hc
    cases ms with
    | nil =>
      cases es with
      | nil =>
        refine ⟨fun r h => ?_, fun r h => ?_⟩
        · unfold evAnd at h; exact pe_one (ha.1 g hc.1.1 h)
        · unfold evAnd at h; exact pw_and1 (ha.2.1 g hc.1.1 h)
      | cons _ _ => have := hc.2; unfold corEs at this; cases this
    | cons m ms =>
      cases es with
      | nil => have := hc.2; unfold corEs at this; cases this
      | cons e' es =>
        have B := @hb sg X E (e' :: es) δ pos g hc.2
        refine ⟨fun r h => ?_, fun r h => ?_⟩
        · unfold evAnd at h; exact snd_and (fun z hz => ha.1 g hc.1.1 hz) (fun z hz => B.1 z hz) h
        · unfold evAnd at h; exact snd_tand (fun z hz => ha.2.1 g hc.1.1 hz) (fun z hz => B.2 z hz) h
theorem or_cons (ha : S1 G F a) (hb : SOr G F ms) : SOr G F (a :: ms) := fun {sg X E es δ pos} g hc => by
  cases es with
  | nil => unfold corEs at hc; cases hc
  | cons e es =>
    unfold corEs at hc
    simp only [Bool.and_eq_true, Bool.not_eq_true'] at hc
    cases ms with
    | nil =>
      cases es with
      | nil =>
        refine ⟨fun r h => ?_, fun r h => ?_⟩
        · unfold evOr at h; exact pe_one (ha.1 g hc.1.1 h)
        · unfold evOr at h; exact pw_or1 (ha.2.1 g hc.1.1 h)
      | cons _ _ => have := hc.2; unfold corEs at this; cases this
    | cons m ms =>
      cases es with
      | nil => have := hc.2; unfold corEs at this; cases this
      | cons e' es =>
        have B := @hb sg X E (e' :: es) δ pos g hc.2
        refine ⟨fun r h => ?_, fun r h => ?_⟩
        · unfold evOr at h; exact snd_or (fun z hz => ha.1 g hc.1.1 hz) (fun z hz => B.1 z hz) h
        · unfold evOr at h; exact snd_tor (fun z hz => ha.2.1 g hc.1.1 hz) (fun z hz => B.2 z hz) h
theorem s_and (ha : SAnd G F ms) : S1 G F (.and ms) := by
  refine .of2 (fun {sg X E e δ r} g hc h => ?_) (fun {sg X E e δ r} g hc h => ?_) (fun _ _ => rfl)
  · unfold corE at hc
    split at hc
    · rename_i o es q
      obtain ⟨p, rfl⟩ := asBool_eq q
      simp only [Bool.and_eq_true, beq_iff_eq] at hc
      obtain ⟨h1, h2⟩ := hc
      subst h1
      unfold evE at h
      exact (ha g h2).1 r h
    · cases hc
  · unfold corE at hc
    split at hc
    · rename_i o es q
      obtain ⟨p, rfl⟩ := asBool_eq q
      simp only [Bool.and_eq_true, beq_iff_eq] at hc
      obtain ⟨h1, h2⟩ := hc
      subst h1
      unfold evE at h
      exact ((ha g h2).2 r h).pt
    · cases hc
theorem s_or (ha : SOr G F ms) : S1 G F (.or ms) := by
  refine .of2 (fun {sg X E e δ r} g hc h => ?_) (fun {sg X E e δ r} g hc h => ?_) (fun _ _ => rfl)
  · unfold corE at hc
    split at hc
    · rename_i o es q
      obtain ⟨p, rfl⟩ := asBool_eq q
      simp only [Bool.and_eq_true, beq_iff_eq] at hc
      obtain ⟨h1, h2⟩ := hc
      subst h1
      unfold evE at h
      exact (ha g h2).1 r h
    · cases hc
  · unfold corE at hc
    split at hc
    · rename_i o es q
      obtain ⟨p, rfl⟩ := asBool_eq q
      simp only [Bool.and_eq_true, beq_iff_eq] at hc
      obtain ⟨h1, h2⟩ := hc
      subst h1
      unfold evE at h
      exact ((ha g h2).2 r h).pt
    · cases hc
end
section
variable {G : Gs} {F : Nat → List DV → Option Ou}
mutual
theorem snd : ∀ m : ME, S1 G F m
  | .var _ => s_var
  | .int _ => s_int
  | .bl _ => s_bl
  | .str _ => s_str
  | .non => s_non
  | .glb _ => s_glb
  | .bin _ a b => s_bin (snd a) (snd b)
  | .neg a => s_neg (snd a)
  | .inv a => s_inv (snd a)
  | .not a => s_not (snd a)
  | .cmp _ a b => s_cmp (snd a) (snd b)
  | .chain _ _ a b c => s_chain (snd a) (snd b) (snd c)
  | .and es => s_and (sndAnd es)
  | .or es => s_or (sndOr es)
  | .ite c a b => s_ite (snd c) (snd a) (snd b)
  | .lst es => s_lst (sndL es)
  | .tup es => s_tup (sndL es)
  | .dct _ _ => s_none fun δ => by unfold evE; rfl
  | .ix a b => s_ix (snd a) (snd b)
  | .sl a b c => s_sl (snd a) (snd b) (snd c)
  | .slf a b => s_slf (snd a) (snd b)
  | .slt a b => s_slt (snd a) (snd b)
  | .call _ es => s_call (sndL es)
  | .bi _ es => s_bi (sndL es)
  | .isi a _ => s_isi (snd a)
  | .isx a _ => s_isx (snd a)
  | .meth _ a _ => s_meth (snd a)
  | .comp a _ b _ => s_comp (snd a) (snd b)
  | .compi a _ b c _ => s_compi (snd a) (snd b) (snd c)
  | .gdx _ b => s_gdx (snd b)
  | .rng es => s_rng (sndL es)
  | .zp a b => s_zp (snd a) (snd b)
  | .enu _ => s_none fun δ => by unfold evE; rfl
  | .itm _ => s_none fun δ => by unfold evE; rfl
  | .rvs _ => s_none fun δ => by unfold evE; rfl
theorem sndL : ∀ ms : List ME, SEs G F ms
  | [] => l_nil
  | a :: ms => l_cons (snd a) (sndL ms)
theorem sndAnd : ∀ ms : List ME, SAnd G F ms
  | [] => and_nil
  | a :: ms => and_cons (snd a) (sndAnd ms)
theorem sndOr : ∀ ms : List ME, SOr G F ms
  | [] => or_nil
  | a :: ms => or_cons (snd a) (sndOr ms)
end
end
end L2

end
section

set_option Elab.async false
set_option linter.all false
set_option maxRecDepth 100000
set_option maxHeartbeats 4000000

/-! The evaluator is sound: statements, defs, the text. -/
namespace L2
open PySem PySem.Spec PyProof.Rows

section
variable (G : Gs) (F : Nat → List DV → Option Ou) (fu : Nat)
def SS (m : MS) : Prop := ∀ {sg : Sg} {X : Cx} {E : St → XK} {st : Stmt} {δ : List Sv} {o : Out}, Good sg G F X E → corS sg m st = true → evS G F fu m δ = some o → PS X st (dS X.D E δ o)
def SSs (ms : List MS) : Prop := ∀ {sg : Sg} {X : Cx} {E : St → XK} {sts : List Stmt} {δ : List Sv} {o : Out}, Good sg G F X E → corSs sg ms sts = true → evSs G F fu ms δ = some o → PSs X sts (dS X.D E δ o)
end
section
variable {G : Gs} {F : Nat → List DV → Option Ou} {fu : Nat} {e k : ME} {i : Nat}
theorem compIs : ∀ {e : ME}, isCompM e = true → CompIs G F e
  | .comp a _ b _, _ => c_comp (snd a) (snd b)
  | .compi a _ b c _, _ => c_compi (snd a) (snd b) (snd c)
theorem t_set {own : Bool} : SS G F fu (.set i own e) := by
  intro sg X E st δ o g hc h
  unfold corS at hc
  split at hc
  · rename_i t v pos
    split at hc
    · rename_i x pt
      simp only [Bool.and_eq_true, beq_iff_eq, Bool.or_eq_true, Bool.not_eq_true'] at hc
      obtain ⟨⟨⟨h1, h2⟩, h3⟩, h4⟩ := hc
      have l := g.loc x h2
      have hN : X.N[i]? = some x := by rw [g.N]; exact h1
      unfold evS at h
      cases hv : isComp v with
      | false => exact dss_set g.nd hN l.1 l.2 (fun z hz => (snd e).1 g h3 hz) (swaps_none hv) h
      | true =>
        rcases h4 with h4 | h5
        · rw [hv] at h4; cases h4
        · cases hr : evE G F e δ with
          | none => rw [hr] at h; cases h
          | some r =>
            obtain ⟨cp, N', fr, tg, p, rfl, S, P, hG, hs⟩ := compIs h5 g h3 hr
            cases hb : (X.env.blockKind == .function && X.env.kindOf x == some .local && pt.line == (Expr.ListComp cp.elt [⟨cp.tg, cp.it, cp.ifs, 0⟩] cp.sc p).pos.line && !(cp.sc.names.any fun (n, k) => n == x && (k == .local || k == .cell))) with
            | false =>
              have hsw : swapsWith (.ListComp cp.elt [⟨cp.tg, cp.it, cp.ifs, 0⟩] cp.sc p) (some (.Name x pt)) pos.line X.env = pure false := by
                show (pure (X.env.blockKind == .function && X.env.kindOf x == some .local && pt.line == (Expr.ListComp cp.elt [⟨cp.tg, cp.it, cp.ifs, 0⟩] cp.sc p).pos.line && !(cp.sc.names.any fun (n, k) => n == x && (k == .local || k == .cell))) : Sem Bool) = pure false
                rw [hb]
              exact dss_set g.nd hN l.1 l.2 (fun z hz => (snd e).1 g h3 hz) hsw h
            | true =>
              have hsw : swapsWith (.ListComp cp.elt [⟨cp.tg, cp.it, cp.ifs, 0⟩] cp.sc p) (some (.Name x pt)) pos.line X.env = pure true := by
                show (pure (X.env.blockKind == .function && X.env.kindOf x == some .local && pt.line == (Expr.ListComp cp.elt [⟨cp.tg, cp.it, cp.ifs, 0⟩] cp.sc p).pos.line && !(cp.sc.names.any fun (n, k) => n == x && (k == .local || k == .cell))) : Sem Bool) = pure true
                rw [hb]
              rw [hr] at h
              have h4 : X.env.kindOf x = some .local := by
                simp only [Bool.and_eq_true, beq_iff_eq] at hb
                exact hb.1.1.2
              exact dss_setcomp S g.calm g.nd hN h4 P hG hs hsw h
    · cases hc
  · cases hc
theorem t_app : SS G F fu (.app i e) := by
  intro sg X E st δ o g hc h
  unfold corS at hc
  split at hc
  · rename_i v pos
    split at hc
    · rename_i ef ea cpos q
      have := asCall_eq q
      subst this
      split at hc
      · rename_i ob n apos q2
        have := asAttr_eq q2
        subst this
        simp only [Bool.and_eq_true, Bool.not_eq_true'] at hc
        obtain ⟨⟨⟨⟨h1, h2⟩, h3⟩, h4⟩, h5⟩ := hc
        split at h2
        · rename_i x q3
          obtain ⟨np, rfl⟩ := asName_eq q3
          obtain ⟨s1, s2, s3, s4⟩ := slot_of g h2
          have hn : n = "append" := beq_iff_eq.mp h1
          subst hn
          unfold evS at h
          exact dss_append (pe_var s1 s2 s3 s4) (fun z hz => (snd e).1 g h3 hz) h4 h5 h
        · cases h2
      · cases hc
    · cases hc
  · cases hc
theorem t_ext : SS G F fu (.ext i e) := by
  intro sg X E st δ o g hc h
  unfold corS at hc
  split at hc
  · rename_i v pos
    split at hc
    · rename_i ef ea cpos q
      have := asCall_eq q
      subst this
      split at hc
      · rename_i ob n apos q2
        have := asAttr_eq q2
        subst this
        simp only [Bool.and_eq_true, Bool.not_eq_true'] at hc
        obtain ⟨⟨⟨⟨h1, h2⟩, h3⟩, h4⟩, h5⟩ := hc
        split at h2
        · rename_i x q3
          obtain ⟨np, rfl⟩ := asName_eq q3
          obtain ⟨s1, s2, s3, s4⟩ := slot_of g h2
          have hn : n = "extend" := beq_iff_eq.mp h1
          subst hn
          unfold evS at h
          exact dss_extend (pe_var s1 s2 s3 s4) (fun z hz => (snd e).1 g h3 hz) h4 h5 h
        · cases h2
      · cases hc
    · cases hc
  · cases hc
theorem t_sett {is : List Nat} : SS G F fu (.sett is e) := by
  intro sg X E st δ o g hc h
  unfold corS at hc
  split at hc
  · rename_i t v pos
    simp only [Bool.and_eq_true, Bool.not_eq_true'] at hc
    obtain ⟨⟨⟨h1, h2⟩, h3⟩, h4⟩ := hc
    unfold tgOk at h1
    dsimp only at h1
    split at h1
    · rename_i es q
      obtain ⟨kk, tp, rfl⟩ := asTup_eq q
      rw [Bool.and_eq_true, Bool.and_eq_true, beq_iff_eq] at h1
      obtain ⟨A, B, C⟩ := pgs_names g is es h1.1.1 h1.2
      unfold evS at h
      exact dss_sett (pg_seq g.calm A B C) (fun z hz => (snd e).1 g h2 hz) h4 h3 h
    · cases h1
  · cases hc
theorem t_seti : SS G F fu (.seti i k e) := by
  intro sg X E st δ o g hc h
  unfold corS at hc
  split at hc
  · rename_i t v pos
    split at hc
    · rename_i ob ek q
      obtain ⟨sp, rfl⟩ := asSub_eq q
      simp only [Bool.and_eq_true, Bool.not_eq_true'] at hc
      obtain ⟨⟨⟨h2, h3⟩, h4⟩, h5⟩ := hc
      split at h2
      · rename_i x q3
        obtain ⟨np, rfl⟩ := asName_eq q3
        obtain ⟨s1, s2, s3, s4⟩ := slot_of g h2
        unfold evS at h
        exact dss_setix (pe_var s1 s2 s3 s4) (fun z hz => (snd e).1 g h5 hz) (fun z hz => (snd k).1 g h3 hz) h4 h
      · cases h2
    · cases hc
  · cases hc
theorem t_exp : SS G F fu (.exp e) := by
  intro sg X E st δ o g hc h
  unfold corS at hc
  split at hc
  · simp only [Bool.and_eq_true, Bool.not_eq_true'] at hc
    unfold evS at h
    exact dss_exp (fun z hz => (snd e).1 g hc.1 hz) hc.2 h
  · cases hc
theorem t_ret : SS G F fu (.ret e) := by
  intro sg X E st δ o g hc h
  unfold corS at hc
  split at hc
  · unfold evS at h
    exact dss_ret (fun z hz => (snd e).1 g hc hz) h
  · cases hc
theorem t_ret0 {es : List ME} : SS G F fu (.ret0 es) := by
  intro sg X E st δ o g hc h
  unfold corS at hc
  split at hc
  · rename_i v pos
    split at hc
    · rename_i es' q
      obtain ⟨kk, tp, rfl⟩ := asTup_eq q
      unfold evS at h
      exact dss_ret0 (fun z hz => sndL es g hc hz) h
    · cases hc
  · cases hc
theorem t_app0 : SS G F fu (.app0 i e) := by
  intro sg X E st δ o g hc h
  unfold corS at hc
  split at hc
  · rename_i v pos
    split at hc
    · rename_i ef ea cpos q
      have := asCall_eq q
      subst this
      split at hc
      · rename_i ob n apos q2
        have := asAttr_eq q2
        subst this
        simp only [Bool.and_eq_true, Bool.not_eq_true'] at hc
        obtain ⟨⟨⟨⟨h1, h2⟩, h3⟩, h4⟩, h5⟩ := hc
        split at h2
        · rename_i oa oi q3
          obtain ⟨sp, rfl⟩ := asSub_eq q3
          rw [Bool.and_eq_true] at h2
          obtain ⟨h2, h6⟩ := h2
          split at h2
          · rename_i x q4
            obtain ⟨np, rfl⟩ := asName_eq q4
            obtain ⟨jj, ip, rfl⟩ := asConst_eq (beq_iff_eq.mp h6)
            obtain ⟨s1, s2, s3, s4⟩ := slot_of g h2
            have hn : n = "append" := beq_iff_eq.mp h1
            subst hn
            unfold evS at h
            exact dss_app0 (pe_var s1 s2 s3 s4) (fun z hz => (snd e).1 g h3 hz) h4 h5 h
          · cases h2
        · cases h2
      · cases hc
    · cases hc
  · cases hc
theorem t_retn : SS G F fu .retn := by
  intro sg X E st δ o g hc h
  unfold corS at hc
  split at hc
  · unfold evS at h
    cases h
    exact dss_retn
  · cases hc
theorem t_pas : SS G F fu .pas := by
  intro sg X E st δ o g hc h
  unfold corS at hc
  split at hc
  · unfold evS at h
    cases h
    exact dss_pass
  · cases hc
theorem t_rse {c : Str} : SS G F fu (.rse c e) := by
  intro sg X E st δ o g hc h
  unfold corS at hc
  split at hc
  · rename_i v pos
    split at hc
    · rename_i ef ea cpos q
      have := asCall_eq q
      subst this
      simp only [Bool.and_eq_true, Bool.not_eq_true', beq_iff_eq, bne_iff_ne, ne_eq] at hc
      obtain ⟨⟨⟨⟨⟨h0, h1⟩, h2⟩, h3⟩, h4⟩, h5⟩ := hc
      obtain ⟨np, rfl⟩ := asName_eq h1
      unfold evS at h
      exact dss_raise g.xf g.calm (g.glo c h2) (beq_eq_false_iff_ne.mpr h3) (g.st h0).2.2.2 (fun z hz => (snd e).1 g h4 hz) h5 h
    · cases hc
  · cases hc
theorem t_try {body : List MS} {c : Str} {ie ic : Nat} (hb : SSs G F fu body) : SS G F fu (.tryc body c ie ic) := by
  intro sg X E st δ o g hc h
  unfold corS at hc
  split at hc
  · rename_i b hd pos
    cases hd with
    | ExceptHandler t n bd hp =>
    simp only [Bool.and_eq_true, asHandler] at hc
    obtain ⟨⟨h0, h1⟩, h2⟩ := hc
    split at h2
    · rename_i t' n' t2 v2 ap q
      simp only [Option.some.injEq, Prod.mk.injEq] at q
      obtain ⟨rfl, rfl, rfl⟩ := q
      simp only [Bool.and_eq_true, beq_iff_eq, bne_iff_ne, ne_eq, List.contains_iff_mem] at h2
      obtain ⟨⟨⟨⟨⟨⟨⟨⟨⟨⟨k1, k2⟩, k3⟩, k4⟩, k5⟩, k6⟩, k7⟩, k8⟩, k9⟩, k10⟩, k11⟩ := h2
      split at k10
      · rename_i x q2
        simp only [Bool.and_eq_true, beq_iff_eq] at k10
        obtain ⟨tp, rfl⟩ := asName_eq q2
        obtain ⟨vp, rfl⟩ := asName_eq k9
        obtain ⟨np, rfl⟩ := asName_eq k1
        have l := g.loc x k10.2
        obtain ⟨s1, s2, s3, _⟩ := g.st h0
        unfold evS at h
        exact dss_try g.xf s1 s2 s3 (g.glo c k2) k4 (beq_eq_false_iff_ne.mpr k3) g.nd (by rw [g.N]; exact k5) (g.lcl _ k6) (beq_eq_false_iff_ne.mpr k7) (beq_eq_false_iff_ne.mpr k8) (by rw [g.N]; exact k10.1) l.1 l.2
          (fun pins E' q hq => hb (good_try g pins E') h1 hq) h
      · cases k10
    · cases h2
  · cases hc
theorem t_none {m : MS} (h : ∀ δ, evS G F fu m δ = none) : SS G F fu m := by
  intro sg X E st δ o g hc q
  rw [h] at q; cases q
theorem t_frz : SS G F fu (.frz i) := by
  intro sg X E st δ o g hc h
  unfold corS at hc
  cases hc
variable {a b body : List MS} {c : ME} {tg : Tg}
theorem t_iff (ha : SSs G F fu a) (hb : SSs G F fu b) : SS G F fu (.iff c a b) := by
  intro sg X E st δ o g hc h
  unfold corS at hc
  split at hc
  · simp only [Bool.and_eq_true] at hc
    unfold evS at h
    exact dss_if (fun z hz => (snd c).2.1 g hc.1.1 hz) (fun z hz => ha g hc.1.2 hz) (fun z hz => hb g hc.2 hz) h
  · cases hc
theorem t_fo (hb : SSs G F fu body) : SS G F fu (.fo tg e body) := by
  intro sg X E st δ o g hc h
  unfold corS at hc
  split at hc
  · simp only [Bool.and_eq_true, Bool.not_eq_true', Bool.or_eq_true] at hc
    obtain ⟨⟨⟨⟨h0, h1⟩, h2, h3⟩, h4⟩, h5⟩ := hc
    unfold evS at h
    exact dss_for (g.own h0) g.calm (fun z hz => (snd e).2.2 g h2 (fun w => by
      rcases h3 with q | q
      · rw [w] at q; cases q
      · exact q) hz) (pg_of g h1) (fun δ' o' ho => hb g h5 ho) h4 h
  · cases hc
theorem t_wh (hb : SSs G F fu body) : SS G F fu (.wh c body) := by
  intro sg X E st δ o g hc h
  unfold corS at hc
  split at hc
  · simp only [Bool.and_eq_true] at hc
    unfold evS at h
    exact dss_while (g.own hc.1.1) (fun δ' r hr => (snd c).2.1 g hc.1.2 hr) (fun δ' o' ho => hb g hc.2 ho) h
  · cases hc
theorem ts_nil : SSs G F fu [] := by
  intro sg X E sts δ o g hc h
  cases sts with
  | nil => unfold evSs at h; cases h; exact dss_nil
  | cons a b => unfold corSs at hc; cases hc
theorem ts_frz {ms : List MS} (hb : SSs G F fu ms) : SSs G F fu (.frz i :: ms) := by
  intro sg X E sts δ o g hc h
  have hc' : corSs sg ms sts = true := by unfold corSs at hc; exact hc
  unfold evSs at h
  have key : evS G F fu (.frz i) δ = (match δ[i]? with | some (.own d) => some (.nx (δ.set i (.val d))) | _ => some (.nx δ)) := by unfold evS; rfl
  rw [key] at h
  cases q : δ[i]? with
  | none => rw [q] at h; exact hb g hc' h
  | some sv =>
    rw [q] at h
    cases sv with
    | own d => exact dss_freeze q (hb g hc' h)
    | no => exact hb g hc' h
    | val d => exact hb g hc' h
    | ot d => exact hb g hc' h
theorem ts_cons {m : MS} {ms : List MS} (ha : SS G F fu m) (hb : SSs G F fu ms) (hm : ∀ i, m ≠ .frz i) : SSs G F fu (m :: ms) := by
  intro sg X E sts δ o g hc h
  cases sts with
  | nil =>
    exfalso
    cases m <;> first | exact hm _ rfl | (unfold corSs at hc; cases hc)
  | cons st sts =>
    have hc' : corS sg m st = true ∧ corSs sg ms sts = true := by
      cases m <;> first | exact absurd rfl (hm _) | (unfold corSs at hc; rw [Bool.and_eq_true] at hc; exact hc)
    unfold evSs at h
    split at h
    · rename_i δ' q
      exact dss_cons (ha g hc'.1 q) (hb g hc'.2 h)
    · rename_i hne
      have A := ha g hc'.1 h
      cases o with
      | nx δ' => exact absurd h (hne δ')
      | rt d fr => exact dss_rt A
      | rtt d => exact dss_rtt A
      | ex c δ' => exact dss_ex A
end
section
variable {G : Gs} {F : Nat → List DV → Option Ou} {fu : Nat}
mutual
theorem sndS : ∀ m : MS, SS G F fu m
  | .set _ _ _ => t_set
  | .sett _ _ => t_sett
  | .par _ _ => t_none fun δ => by unfold evS; rfl
  | .aug _ _ => t_none fun δ => by unfold evS; rfl
  | .app _ _ => t_app
  | .ext _ _ => t_ext
  | .seti _ _ _ => t_seti
  | .clr _ => t_none fun δ => by unfold evS; rfl
  | .pop _ _ => t_none fun δ => by unfold evS; rfl
  | .exp _ => t_exp
  | .ret _ => t_ret
  | .retn => t_retn
  | .ret0 _ => t_ret0
  | .app0 _ _ => t_app0
  | .iff _ a b => t_iff (sndSs a) (sndSs b)
  | .fo _ _ body => t_fo (sndSs body)
  | .wh _ body => t_wh (sndSs body)
  | .rse _ _ => t_rse
  | .tryc body _ _ _ => t_try (sndSs body)
  | .pas => t_pas
  | .frz _ => t_frz
theorem sndSs : ∀ ms : List MS, SSs G F fu ms
  | [] => ts_nil
  | .frz _ :: ms => ts_frz (sndSs ms)
  | .set i o e :: ms => ts_cons (sndS (.set i o e)) (sndSs ms) (by intro i z; cases z)
  | .sett i o :: ms => ts_cons (sndS (.sett i o)) (sndSs ms) (by intro i z; cases z)
  | .par i o :: ms => ts_cons (sndS (.par i o)) (sndSs ms) (by intro i z; cases z)
  | .aug i o :: ms => ts_cons (sndS (.aug i o)) (sndSs ms) (by intro i z; cases z)
  | .app i o :: ms => ts_cons (sndS (.app i o)) (sndSs ms) (by intro i z; cases z)
  | .ext i o :: ms => ts_cons (sndS (.ext i o)) (sndSs ms) (by intro i z; cases z)
  | .seti i k o :: ms => ts_cons (sndS (.seti i k o)) (sndSs ms) (by intro i z; cases z)
  | .clr i :: ms => ts_cons (sndS (.clr i)) (sndSs ms) (by intro i z; cases z)
  | .pop i o :: ms => ts_cons (sndS (.pop i o)) (sndSs ms) (by intro i z; cases z)
  | .exp e :: ms => ts_cons (sndS (.exp e)) (sndSs ms) (by intro i z; cases z)
  | .ret e :: ms => ts_cons (sndS (.ret e)) (sndSs ms) (by intro i z; cases z)
  | .retn :: ms => ts_cons (sndS .retn) (sndSs ms) (by intro i z; cases z)
  | .ret0 e :: ms => ts_cons (sndS (.ret0 e)) (sndSs ms) (by intro i z; cases z)
  | .app0 i e :: ms => ts_cons (sndS (.app0 i e)) (sndSs ms) (by intro i z; cases z)
  | .iff c a b :: ms => ts_cons (sndS (.iff c a b)) (sndSs ms) (by intro i z; cases z)
  | .fo t i b :: ms => ts_cons (sndS (.fo t i b)) (sndSs ms) (by intro i z; cases z)
  | .wh c b :: ms => ts_cons (sndS (.wh c b)) (sndSs ms) (by intro i z; cases z)
  | .rse c e :: ms => ts_cons (sndS (.rse c e)) (sndSs ms) (by intro i z; cases z)
  | .tryc a b c d :: ms => ts_cons (sndS (.tryc a b c d)) (sndSs ms) (by intro i z; cases z)
  | .pas :: ms => ts_cons (sndS .pas) (sndSs ms) (by intro i z; cases z)
end
end
end L2

end
section

set_option Elab.async false
set_option linter.all false
set_option maxRecDepth 100000
set_option maxHeartbeats 4000000

/-! Defs: the evaluator's run is what the text's defs do. -/
namespace L2
open PySem PySem.Spec PyProof.Rows

theorem RSt.start {D : Dm} {H : Hp} {N : List Str} {ds : List DV} {vs : List V} {O : List Addr} {n : Nat} (hn : n = N.length) (r : RepL D (L2.wo O H) ds vs) (ho : ∀ a ∈ O, H a ≠ none) : RSt D H (L2.start N vs) (startS n ds) O [] := by
  subst hn
  have ino : ∀ (i : Nat) ds', (startS N.length ds)[i]? ≠ some (.own ds') := fun i ds' h => by
    unfold startS at h
    by_cases hi : i < (ds.map Sv.val).length
    · rw [List.getElem?_append_left hi, List.getElem?_map] at h
      cases q : ds[i]? with
      | none => rw [q] at h; cases h
      | some d => rw [q] at h; cases h
    · rw [List.getElem?_append_right (by omega), List.getElem?_replicate] at h
      split at h <;> cases h
  have iot : ∀ (i : Nat) ds', (startS N.length ds)[i]? ≠ some (.ot ds') := fun i ds' h => by
    unfold startS at h
    by_cases hi : i < (ds.map Sv.val).length
    · rw [List.getElem?_append_left hi, List.getElem?_map] at h
      cases q : ds[i]? with
      | none => rw [q] at h; cases h
      | some d => rw [q] at h; cases h
    · rw [List.getElem?_append_right (by omega), List.getElem?_replicate] at h
      split at h <;> cases h
  refine ⟨fun i d h => ?_, fun i ds' h => absurd h (ino i ds'), fun i j a d1 d2 h => absurd h (ino i d1), fun i d h => absurd h (iot i d), ?_, ⟨fun a ha => ho a (by simpa using ha), Same.refl _, fun a ha => (nomatch ha), fun a ha => (nomatch ha)⟩⟩
  · unfold startS at h
    by_cases hi : i < (ds.map Sv.val).length
    · rw [List.getElem?_append_left hi, List.getElem?_map] at h
      cases q : ds[i]? with
      | none => rw [q] at h; cases h
      | some d' =>
        rw [q] at h
        cases h
        obtain ⟨v, e1, e2⟩ := r.get q
        refine ⟨v, ?_, by rw [List.append_nil]; exact e2⟩
        unfold L2.start
        rw [List.getElem?_append_left (by rw [List.length_map]; exact (List.getElem?_eq_some_iff.mp e1).1), List.getElem?_map, e1]
        rfl
    · rw [List.getElem?_append_right (by omega), List.getElem?_replicate] at h
      split at h <;> cases h
  · unfold L2.start startS
    rw [List.length_append, List.length_append, List.length_map, List.length_map, List.length_replicate, List.length_replicate, r.length]

/-- a def of the table stands in the text as x -/
structure Stands (K : PySem.W.Frag) (mg : Str → Option Value) (fn bl cl : List Str) (d : FD) (x : Str) (fa : Addr) (fd : FuncData) (ps : List Str) : Prop where
  mg : mg x = some (.ref fa)
  kp : PySem.W.keepIn K (.ref fa) = true
  bi : Binds K fd ps []
  np : d.np = ps.length
  ex : ∃ qual st N, Fun K x qual st fa fd ∧ FnScope N ps (defScope st) ∧ d.n = N.length ∧ corSs ⟨N, (defScope st).names, fn, bl, cl, true, true⟩ d.body (defBody st) = true

section
variable {P : Program} {w : World} {K : PySem.W.Frag} {mg : Str → Option Value} {base : Heap} {G : Gs} {T : List FD} {fu : Nat} {fn bl cl : List Str}
theorem run_ok (hT : T.length = fn.length) (hs : ∀ (i : Nat) d x, T[i]? = some d → fn[i]? = some x → ∃ fa fd ps, Stands K mg fn bl cl d x fa fd ps) (hbl : ∀ x ∈ bl, mg x = none) (hxf : XFacts K mg G cl)
    (hcon : ∀ x d, G.con.lookup x = some d → ∃ u v, mg x = some u ∧ RelV v u ∧ ∀ H, Rep ⟨K, mg⟩ H d v) (hdc : ∀ x kvs, G.dcs.lookup x = some kvs → DictK K w mg x kvs) : ∀ (k i : Nat) d x fa fd ps, T[i]? = some d → fn[i]? = some x → Stands K mg fn bl cl d x fa fd ps →
    FnOk P w K mg base (CXx P w base) k fa fd ps (spF ⟨K, mg⟩ ps.length (run G T fu k i))
  | 0, i, d, x, fa, fd, ps, h1, h2, S => by
    refine ⟨fun vs H Q E h => ?_, fun A outer s H args us vs Q E hr he hb hv h => ?_⟩
    · obtain ⟨_, _, _, _, _, _, q, _⟩ := h
      cases q
    · obtain ⟨_, _, _, _, _, _, q, _⟩ := h
      cases q
  | k + 1, i, d, x, fa, fd, ps, h1, h2, S => by
    obtain ⟨qual, st, N, F, FS, hn, hc⟩ := S.ex
    refine F.okX FS (fun vs H Q E h => ?_) (fun cdv A outer s H vs Q E hr h => ?_)
    · obtain ⟨O, ds, o, _, e1, e2, _⟩ := h
      rw [e2.length, e1]
    · obtain ⟨O, ds, o, ho, e1, e2, e3, e4⟩ := h
      have e3' : (match T[i]? with | none => none | some fd => if ds.length = fd.np then Ou.of (evSs G (run G T fu k) fu fd.body (startS fd.n ds)) else none) = some o := e3
      rw [h1] at e3'
      have e3'' : (if ds.length = d.np then Ou.of (evSs G (run G T fu k) fu d.body (startS d.n ds)) else none) = some o := e3'
      rw [if_pos (e1.trans S.np.symm)] at e3''
      have g : Good ⟨N, (defScope st).names, fn, bl, cl, true, true⟩ G (run G T fu k) (cxD P w K mg base N qual (defScope st) fa cdv A outer s H E) (fun _ => E) := by
        refine ⟨rfl, FS.nd, fun y hy => ?_, fun y hy => ?_, fun y hy => ⟨?_, .inl rfl⟩, fun y hy => hy, fun y hy => hy, rfl, hr.units, fun f y hy => ?_, hbl, passes_def.s, hcon, fun _ => PassesOwn.leaving, hxf, fun _ => ⟨rfl, rfl, rfl, raises_def⟩, hdc⟩
        · unfold visB at hy
          simp only [Bool.or_eq_true, beq_iff_eq] at hy
          rcases hy with (hy | hy) | hy
          · exact .inl hy
          · exact .inr (.inl hy)
          · exact .inr (.inr hy)
        · unfold gloB at hy
          rw [beq_iff_eq] at hy
          exact hy
        · unfold locB at hy
          simp only [Bool.or_eq_true, beq_iff_eq] at hy
          exact hy
        · have hf : f < T.length := by rw [hT]; exact (List.getElem?_eq_some_iff.mp hy).1
          obtain ⟨d', hd'⟩ : ∃ d', T[f]? = some d' := ⟨_, List.getElem?_eq_getElem hf⟩
          obtain ⟨fa', fd', ps', S'⟩ := hs f d' y hd' hy
          refine ⟨k, fa', fd', ps', hr, S'.mg, S'.kp, S'.bi, fun ds o q => ?_, run_ok hT hs hbl hxf hcon hdc k f d' y fa' fd' ps' hd' hy S'⟩
          cases k with
          | zero => cases q
          | succ k =>
            have q' : (match T[f]? with | none => none | some fd => if ds.length = fd.np then Ou.of (evSs G (run G T fu k) fu fd.body (startS fd.n ds)) else none) = some o := q
            rw [hd'] at q'
            have q'' : (if ds.length = d'.np then Ou.of (evSs G (run G T fu k) fu d'.body (startS d'.n ds)) else none) = some o := q'
            split at q''
            · rename_i z; rw [z, S'.np]
            · cases q''
      cases ho' : evSs G (run G T fu k) fu d.body (startS d.n ds) with
      | none => rw [ho'] at e3''; cases e3''
      | some oo =>
        rw [ho'] at e3''
        refine ⟨_, sndSs d.body g hc ho', H, O, [], RSt.start hn e2 ho, (fun a ha => (nomatch ha)), ho, Same.refl H, ?_⟩
        cases oo with
        | nx δ => cases e3''; exact fun σ' H' W R fr sm => e4 .non H' sm (show Rep ⟨K, mg⟩ (L2.wo O H') .non .non by unfold Rep; rfl)
        | rt d fr => cases e3''; exact fun v H' sm gt => e4 v H' sm gt
        | rtt d => cases e3''; exact fun v H' sm gt => e4 v H' sm gt
        | ex c δ => cases e3''; exact fun σ' H' W C hm R fr sm => e4 H' C hm sm
end
end L2

end
section

set_option Elab.async false
set_option linter.all false
set_option maxRecDepth 100000
set_option maxHeartbeats 4000000

/-! From the evaluator's run of law to the law. -/
namespace L2
open PySem PySem.Spec PyProof.Rows

/-- what the text's def and its inner form must agree in -/
def okD (fn bl cl : List Str) (d : FD) (N ps : List Str) (st : Stmt) : Bool :=
  (defScope st).kind == .function && !(defScope st).isCoroutine && !(defScope st).isGenerator && nodupB N && (N.take ps.length == ps) &&
  ps.all (fun x => (defScope st).names.lookup x == some .local || (defScope st).names.lookup x == some .cell) && (defScope st).names.all (fun y => !(y.2 == .free)) &&
  d.n == N.length && d.np == ps.length && corSs ⟨N, (defScope st).names, fn, bl, cl, true, true⟩ d.body (defBody st)
section
variable {P : Program} {w : World} {K : PySem.W.Frag} {mg : Str → Option Value} {base h : Heap} {G : Gs} {T : List FD} {fu : Nat} {fn bl cl : List Str}
theorem stands_mk {d : FD} {x : Str} {N ps : List Str} {st : Stmt} {f : Addr} {oc : Value} {od an : Option Addr} {osl : Array (Option Value)} {kV doc pm cdv ct : Value} (X : K.In h) (Ns : h.Ns mainGlobals mg) (ok : okD fn bl cl d N ps st = true)
    (a : PySem.W.nsIn K mainGlobals x = some (some (.ref f))) (l : K.lookup f = some ⟨oc, od, .func (PySem.W.fnOf x x (defArgs st) (defBody st) (defScope st) .none kV doc pm an cdv ct), osl⟩)
    (c : PySem.W.codeIn K cdv x = true) (k : PySem.W.keepIn K (.ref f) = true)
    (hb : ∀ (kV doc pm : Value) (an : Option Addr) (cdv ct : Value) (us : List Value), us.length = ps.length → bindArgs (PySem.W.fnOf x x (defArgs st) (defBody st) (defScope st) .none kV doc pm an cdv ct) ⟨us, []⟩ = pure (ps.zip us)) :
    Stands K mg fn bl cl d x f (PySem.W.fnOf x x (defArgs st) (defBody st) (defScope st) .none kV doc pm an cdv ct) ps := by
  have F := fun_mk (st := st) l c k
  unfold okD at ok
  simp only [Bool.and_eq_true, beq_iff_eq, Bool.not_eq_true', List.all_eq_true, Bool.or_eq_true, beq_eq_false_iff_ne] at ok
  obtain ⟨⟨⟨⟨⟨⟨⟨⟨⟨h1, h2⟩, h3⟩, h4⟩, h5⟩, h6⟩, h7⟩, h8⟩, h9⟩, h10⟩ := ok
  exact ⟨PySem.W.mg_of X Ns a, k, F.binds hb, h9, x, st, N, F, ⟨h1, h2, h3, nodupB_of h4, h5, h6, h7⟩, h8, h10⟩

def HS (K : PySem.W.Frag) (mg : Str → Option Value) (fn bl cl : List Str) (T : List FD) (fs : List Str) : Prop := ∀ (i : Nat) d x, T[i]? = some d → fs[i]? = some x → ∃ fa fd ps, Stands K mg fn bl cl d x fa fd ps
theorem hs_nil {fs : List Str} : HS K mg fn bl cl [] fs := fun i d x h => by cases h
theorem hs_cons {d : FD} {x : Str} {fs : List Str} {fa : Addr} {fd : FuncData} {ps : List Str} (h : Stands K mg fn bl cl d x fa fd ps) (t : HS K mg fn bl cl T fs) : HS K mg fn bl cl (d :: T) (x :: fs) := fun i d' x' h1 h2 => by
  cases i with
  | zero => cases h1; cases h2; exact ⟨_, _, _, h⟩
  | succ i => exact t i d' x' h1 h2

theorem wo_nil {H : Hp} : L2.wo [] H = H := by
  funext b
  unfold L2.wo
  simp
/-- the text's names that hold plain values -/
def HC (K : PySem.W.Frag) (mg : Str → Option Value) (c : List (Str × DV)) : Prop := ∀ x d, c.lookup x = some d → ∃ u v, mg x = some u ∧ RelV v u ∧ ∀ H, Rep ⟨K, mg⟩ H d v
theorem con_nil : HC K mg [] := fun x d h => by cases h
theorem con_cons {c : List (Str × DV)} {y : Str} {d : DV} (h : ∃ u v, mg y = some u ∧ RelV v u ∧ ∀ H, Rep ⟨K, mg⟩ H d v) (t : HC K mg c) : HC K mg ((y, d) :: c) := fun x d' q => by
  rw [List.lookup_cons] at q
  split at q
  · rename_i e
    cases q
    rw [eq_of_beq e]
    exact h
  · exact t x d' q
/-- the text's own exceptions -/
def OneL (K : PySem.W.Frag) (mg : Str → Option Value) (G : Gs) (cl : List Str) (l : List (Str × List Str)) : Prop := ∀ c, (l.lookup c).isSome = true → ∃ C, XOne K mg G cl c C
theorem one_nil {cl : List Str} : OneL K mg G cl [] := fun c h => by cases h
theorem one_cons {cl : List Str} {c : Str} {b : List Str} {l : List (Str × List Str)} (h : ∃ C, XOne K mg G cl c C) (t : OneL K mg G cl l) : OneL K mg G cl ((c, b) :: l) := fun c' q => by
  rw [List.lookup_cons] at q
  split at q
  · rename_i e
    rw [eq_of_beq e]
    exact h
  · exact t c' q
def AllL (mg : Str → Option Value) (l : List Str) : Prop := ∀ t ∈ l, ∃ Ct, mg t = some (.ref Ct)
theorem all_nil : AllL mg [] := fun t h => by cases h
theorem all_cons {t : Str} {l : List Str} (h : ∃ Ct, mg t = some (.ref Ct)) (r : AllL mg l) : AllL mg (t :: l) := fun t' q => by
  rcases List.mem_cons.mp q with e | e
  · rw [e]; exact h
  · exact r t' e
def OwnL (K : PySem.W.Frag) (mg : Str → Option Value) (G : Gs) (c : Str) (C : Addr) (l : List Str) : Prop := ∀ t ∈ l, ∀ Ct, mg t = some (.ref Ct) → PySem.W.kitOne K (.ref C) (.ref Ct) = some (catches G c t) ∧ (catches G c t = true → PySem.W.exmOne K (.ref C) (.ref Ct) = some true)
theorem own_nil {c : Str} {C : Addr} : OwnL K mg G c C [] := fun t h => by cases h
theorem own_cons {c t : Str} {C Ct : Addr} {l : List Str} (m : mg t = some (.ref Ct)) (h : PySem.W.kitOne K (.ref C) (.ref Ct) = some (catches G c t) ∧ (catches G c t = true → PySem.W.exmOne K (.ref C) (.ref Ct) = some true)) (r : OwnL K mg G c C l) : OwnL K mg G c C (t :: l) := fun t' q Ct' m' => by
  rcases List.mem_cons.mp q with e | e
  · subst e
    cases m.symm.trans m'
    exact h
  · exact r t' e Ct' m'
/-- what law(script) promises -/
def spS (K : PySem.W.Frag) : Sp := fun vs H Q _ => ∃ (a : Addr) (ns : List Int), vs = [.ref a] ∧ ns.length ≤ 63 ∧ SqS K H a (ns.map V.int) ∧ ∀ H', Q (.bl true) H'
def DCL (K : PySem.W.Frag) (w : World) (mg : Str → Option Value) (l : List (Str × List (Str × Str))) : Prop := ∀ x kvs, l.lookup x = some kvs → DictK K w mg x kvs
theorem dcl_nil {w : World} : DCL K w mg [] := fun x kvs h => by cases h
theorem dcl_cons {w : World} {y : Str} {kv : List (Str × Str)} {l : List (Str × List (Str × Str))} (h : DictK K w mg y kv) (t : DCL K w mg l) : DCL K w mg ((y, kv) :: l) := fun x kvs q => by
  rw [List.lookup_cons] at q
  split at q
  · rename_i e
    cases q
    rw [beq_iff_eq.mp e]
    exact h
  · exact t x kvs q
def KVL (K : PySem.W.Frag) (a : Addr) (l : List (Str × Str)) : Prop := ∀ k v, l.lookup k = some v → v.length ≤ sizeLine ∧ ∃ t, PySem.W.nsIn K a k = some (some (.str v t))
theorem kvl_nil {a : Addr} : KVL K a [] := fun k v h => by cases h
theorem kvl_cons {a : Addr} {k v : Str} {t : Tok} {l : List (Str × Str)} (h1 : v.length ≤ sizeLine) (h2 : PySem.W.nsIn K a k = some (some (.str v t))) (r : KVL K a l) : KVL K a ((k, v) :: l) := fun k' v' q => by
  rw [List.lookup_cons] at q
  split at q
  · rename_i e
    cases q
    rw [beq_iff_eq.mp e]
    exact ⟨h1, t, h2⟩
  · exact r k' v' q
theorem law_fnok {k i : Nat} {d : FD} {x p : Str} {fa : Addr} {fd : FuncData} (hT : T.length = fn.length) (hs : HS K mg fn bl cl T fn) (hbl : ∀ x ∈ bl, mg x = none) (hxf : XFacts K mg G cl)
    (hcon : ∀ x d, G.con.lookup x = some d → ∃ u v, mg x = some u ∧ RelV v u ∧ ∀ H, Rep ⟨K, mg⟩ H d v) (hdc : ∀ x kvs, G.dcs.lookup x = some kvs → DictK K w mg x kvs) (h1 : T[i]? = some d) (h2 : fn[i]? = some x) (S : Stands K mg fn bl cl d x fa fd [p])
    (law : ∀ ns : List Int, ns.length ≤ 63 → run G T fu k i [.scr ns] = some (.v (.bl true) false)) : FnOk P w K mg base CX0 k fa fd [p] (spS K) := by
  have R := run_ok (P := P) (w := w) (base := base) (fu := fu) hT hs hbl hxf hcon hdc k i d x fa fd [p] h1 h2 S
  refine ⟨fun vs H Q E h => ?_, fun A outer s H args us vs Q E hr he hb hv h => ?_⟩
  · obtain ⟨a, ns, rfl, _⟩ := h
    rfl
  · obtain ⟨a, ns, rfl, hl, hS, hq⟩ := h
    refine codeAny_mono (R.run A outer s H args us [.ref a] Q E0 hr he hb hv ⟨[], [.scr ns], _, (fun a ha => (nomatch ha)), rfl, ?_, law ns hl, fun v H' _ g => ?_⟩) fun r s' q => ?_
    · refine RepL.one (rep_scr.mpr ⟨a, rfl, ?_⟩)
      rw [wo_nil]
      exact hS
    · have g' : Rep ⟨K, mg⟩ (L2.wo [] H') (.bl true) v := g
      rw [rep_bl] at g'
      subst g'
      exact hq H'
    · cases r with
      | error e =>
        obtain ⟨_, _, _, _, _, _, _, _, _, _, z⟩ := (q : CXx P w base outer H s E0 e s')
        exact z.elim
      | ok fl => cases fl <;> first | exact False.elim q | exact q
end
/-- THE LAW, from the promise of its def -/
theorem walkE {l : PySem.W.OpenLaw} {q : Program} {loose : List Str} {XP : (Str → Option Value) → Heap → Prop} {YP : World → Heap → Prop} {d : DefRec} {K : Params → PySem.W.Frag} {k : Nat} {p : Str} (hn : l.most = some 63) (hdf : d.params.defaults = []) (hr : Room k callerA)
    (hY : ∀ (w : World) (h : Heap), YP w h → (K w.params).In h)
    (F : ∀ (w : World) (mg : Str → Option Value) (fa : Addr) (h : Heap), (K w.params).In h → h.Ns mainGlobals mg → mg d.name = some (.ref fa) →
      ∃ fd : FuncData, (∀ (s : Shared) (u : Value), BindsTo s fd ⟨[u], []⟩ [(p, u)]) ∧ ∀ base : Heap, (K w.params).In base → base.Ns mainGlobals mg → FnOk l.prog w (K w.params) mg base CX0 k fa fd [p] (spS (K w.params))) :
    PySem.W.WalkO q loose XP YP l.row.toRowW d [] (fun f vs => PySem.call f vs) :=
  L2.walk_of (n := 63) (k := k) (x := p) (CX := fun _ => CX0) (sp := fun w => spS (K w.params)) hn (by decide) hdf hr hY F (fun _ _ a ns hl hO hS => ⟨a, ns, rfl, hl, SqS.of hO hS, fun _ => rfl⟩) fun _ _ _ _ _ z => z
end L2

end
section

set_option Elab.async false
set_option linter.all false
set_option maxRecDepth 100000
set_option maxHeartbeats 4000000

/-! Steps of the evaluator, as equations. -/
namespace L2
open PySem
section
variable {G : Gs} {F : Nat → List DV → Option Ou} {fu : Nat} {δ : List Sv}
theorem thn_ok {d : DV} {c : Cl} {k : DV → Cl → Option Re} : Re.thn (some (.ok d c)) k = k d c := rfl
theorem thns_ok {l : List (DV × Cl)} {k : List (DV × Cl) → Option Re} : Rs.thn (some (.ok l)) k = k l := rfl
theorem thnS_ok {d : DV} {c : Cl} {k : DV → Cl → Option Out} : Re.thnS δ (some (.ok d c)) k = k d c := rfl
theorem seq_nx {m : MS} {r : List MS} {δ' : List Sv} (h : evS G F fu m δ = some (.nx δ')) : evSs G F fu (m :: r) δ = evSs G F fu r δ' := by
  rw [show evSs G F fu (m :: r) δ = (match evS G F fu m δ with | some (.nx δ') => evSs G F fu r δ' | o => o) from rfl, h]
theorem seq_rt {m : MS} {r : List MS} {d : DV} {fr : Bool} (h : evS G F fu m δ = some (.rt d fr)) : evSs G F fu (m :: r) δ = some (.rt d fr) := by
  rw [show evSs G F fu (m :: r) δ = (match evS G F fu m δ with | some (.nx δ') => evSs G F fu r δ' | o => o) from rfl, h]
theorem run_of {T : List FD} {k f : Nat} {ds : List DV} {fd : FD} (h : T[f]? = some fd) (hl : ds.length = fd.np) : run G T fu (k + 1) f ds = Ou.of (evSs G (run G T fu k) fu fd.body (startS fd.n ds)) := by
  show (match T[f]? with | none => none | some fd => if ds.length = fd.np then Ou.of (evSs G (run G T fu k) fu fd.body (startS fd.n ds)) else none) = _
  rw [h]
  exact if_pos hl
end
end L2
namespace L2
open PySem
/-- a loop that keeps I -/
theorem forGo_all {I : List Sv → Prop} {tg : Tg} {body : List Sv → Option Out} : ∀ {ds : List DV} {δ : List Sv}, (∀ d ∈ ds, ∀ δ, I δ → ∃ δ1 δ2, tg.bind d δ = some δ1 ∧ body δ1 = some (.nx δ2) ∧ I δ2) → I δ → ∃ δ', forGo tg body ds δ = some (.nx δ') ∧ I δ'
  | [], δ, _, i => ⟨δ, rfl, i⟩
  | d :: r, δ, h, i => by
    obtain ⟨δ1, δ2, e1, e2, i2⟩ := h d (List.mem_cons_self ..) δ i
    obtain ⟨δ', e3, i3⟩ := forGo_all (ds := r) (fun d hd => h d (List.mem_cons_of_mem _ hd)) i2
    refine ⟨δ', ?_, i3⟩
    show (match tg.bind d δ with | none => none | some δ1 => (match body δ1 with | some (.nx δ2) => forGo tg body r δ2 | o => o)) = _
    rw [e1]
    show (match body δ1 with | some (.nx δ2) => forGo tg body r δ2 | o => o) = _
    rw [e2]
    exact e3
end L2
namespace L2
open PySem
section
variable {G : Gs} {F : Nat → List DV → Option Ou} {fu : Nat} {δ δ' : List Sv} {m : MS} {r a b body : List MS} {o : Option Out} {c it : ME} {d : DV} {fr : Bool} {tg : Tg} {ds : List DV} {cl : Cl}
theorem of_rt (h : evSs G F fu r δ = some (.rt d fr)) : Ou.of (evSs G F fu r δ) = some (.v d fr) := by rw [h]; rfl
theorem of_nx (h : evSs G F fu r δ = some (.nx δ')) : Ou.of (evSs G F fu r δ) = some (.v .non false) := by rw [h]; rfl
theorem go_nx (h : evS G F fu m δ = some (.nx δ')) (h2 : evSs G F fu r δ' = o) : evSs G F fu (m :: r) δ = o := (seq_nx h).trans h2
theorem go_rt (h : evS G F fu m δ = some (.rt d fr)) : evSs G F fu (m :: r) δ = some (.rt d fr) := seq_rt h
theorem ev_if {bb : Bool} (hc : tstD (evE G F c δ) = some (.ok bb)) : evS G F fu (.iff c a b) δ = if bb then evSs G F fu a δ else evSs G F fu b δ := by
  show Rt.thnS δ (tstD (evE G F c δ)) (fun k => if k then evSs G F fu a δ else evSs G F fu b δ) = _
  rw [hc]; rfl
theorem go_ift (hc : tstD (evE G F c δ) = some (.ok true)) (h : evSs G F fu a δ = some (.nx δ')) (h2 : evSs G F fu r δ' = o) : evSs G F fu (.iff c a b :: r) δ = o := go_nx ((ev_if hc).trans h) h2
theorem go_iff (hc : tstD (evE G F c δ) = some (.ok false)) (h : evSs G F fu b δ = some (.nx δ')) (h2 : evSs G F fu r δ' = o) : evSs G F fu (.iff c a b :: r) δ = o := go_nx ((ev_if hc).trans h) h2
theorem go_ifr (hc : tstD (evE G F c δ) = some (.ok true)) (h : evSs G F fu a δ = some (.rt d fr)) : evSs G F fu (.iff c a b :: r) δ = some (.rt d fr) := go_rt ((ev_if hc).trans h)
theorem go_ife (hc : tstD (evE G F c δ) = some (.ok false)) (h2 : evSs G F fu r δ = o) : evSs G F fu (.iff c a [] :: r) δ = o := go_iff hc rfl h2
theorem go_fo (hw : walkD (evE G F it δ) = some (.ok ds cl)) (hc : cl = .strong ∨ cl = .fresh) (h : forGo tg (fun δ' => evSs G F fu body δ') ds δ = some (.nx δ')) (h2 : evSs G F fu r δ' = o) : evSs G F fu (.fo tg it body :: r) δ = o := by
  refine go_nx ?_ h2
  show Ri.thnS δ (walkD (evE G F it δ)) (fun ds c => if c = .strong ∨ c = .fresh then forGo tg (fun δ' => evSs G F fu body δ') ds δ else none) = _
  rw [hw]
  show (if cl = .strong ∨ cl = .fresh then forGo tg (fun δ' => evSs G F fu body δ') ds δ else none) = _
  rw [if_pos hc]
  exact h
theorem ev_set {i : Nat} {e : ME} (h : evE G F e δ = some (.ok d cl)) (hs : stro d cl = true) : evS G F fu (.set i false e) δ = some (.nx (δ.set i (.val d))) := by
  show Re.thnS δ (evE G F e δ) (fun d c => if false then setOwn i δ d c else (if stro d c then some (.nx (δ.set i (.val d))) else none)) = _
  rw [h]
  show (if stro d cl then some (Out.nx (δ.set i (.val d))) else none) = _
  rw [if_pos hs]
theorem ev_own {i : Nat} {e : ME} (h : evE G F e δ = some (.ok d .fresh)) : evS G F fu (.set i true e) δ = some (.nx (δ.set i (.own d))) := by
  show Re.thnS δ (evE G F e δ) (fun d c => if true then setOwn i δ d c else (if stro d c then some (.nx (δ.set i (.val d))) else none)) = _
  rw [h]
  rfl
theorem ev_ret {e : ME} (h : evE G F e δ = some (.ok d cl)) (hc : cl ≠ .ft := by first | decide | (intro z; cases z)) : evS G F fu (.ret e) δ = some (.rt d (frD d cl)) := by
  show Re.thnS δ (evE G F e δ) (fun d c => some (retD d c)) = _
  rw [h]
  show some (retD d cl) = _
  cases cl <;> first | rfl | exact absurd rfl hc
theorem ev_rtt {e : ME} (h : evE G F e δ = some (.ok d .ft)) : evS G F fu (.ret e) δ = some (.rtt d) := by
  show Re.thnS δ (evE G F e δ) (fun d c => some (retD d c)) = _
  rw [h]
  rfl
theorem ev_exp {e : ME} (h : evE G F e δ = some (.ok d cl)) : evS G F fu (.exp e) δ = some (.nx δ) := by
  show Re.thnS δ (evE G F e δ) (fun _ _ => some (.nx δ)) = _
  rw [h]; rfl
/-- a call whose arguments hang on no list of the names' own -/
theorem ev_call {f : Nat} {es : List ME} {l : List (DV × Cl)} (ha : evEs G F es δ = some (.ok l)) (hs : (l.all fun p => p.2 == .strong || p.2 == .fresh) = true) (h : F f (l.map (·.1)) = some (.v d fr)) : evE G F (.call f es) δ = some (.ok d (if fr then .fresh else .strong)) := by
  show Rs.thn (evEs G F es δ) (fun l => callD F f l) = _
  rw [ha]
  show callD F f l = _
  unfold callD
  rw [h, hs]
  rfl
theorem ev_callw {f : Nat} {es : List ME} {l : List (DV × Cl)} (ha : evEs G F es δ = some (.ok l)) (hs : (l.all fun p => p.2 == .strong || p.2 == .fresh) = false) (h : F f (l.map (·.1)) = some (.v d fr)) : evE G F (.call f es) δ = some (.ok d .weak) := by
  show Rs.thn (evEs G F es δ) (fun l => callD F f l) = _
  rw [ha]
  show callD F f l = _
  unfold callD
  rw [h, hs]
  rfl
theorem tst_bl {e : ME} {x : Bool} (h : evE G F e δ = some (.ok (.bl x) cl)) : tstD (evE G F e δ) = some (.ok x) := by rw [h]; rfl
theorem ev_not {e : ME} {x : Bool} (h : evE G F e δ = some (.ok (.bl x) cl)) : evE G F (.not e) δ = some (.ok (.bl (!x)) .strong) := by
  show Re.thn (evE G F e δ) (fun x _ => (truth x).map fun k => .ok (.bl (!k)) .strong) = _
  rw [h]; rfl
end
end L2
namespace L2
open PySem
section
variable {G : Gs} {F : Nat → List DV → Option Ou} {fu : Nat} {δ δ' : List Sv} {a b : ME} {x y : DV} {cx cy : Cl}
theorem ev_bin {op : Operator} {r : Option Re} (ha : evE G F a δ = some (.ok x cx)) (hb : evE G F b δ = some (.ok y cy)) (h : binD op x y cx cy = r) : evE G F (.bin op a b) δ = r := by
  show Re.thn (evE G F a δ) (fun x cx => Re.thn (evE G F b δ) fun y cy => binD op x y cx cy) = _
  rw [ha, thn_ok, hb, thn_ok, h]
theorem ev_cmp {op : CmpOp} {t : Bool} (ha : evE G F a δ = some (.ok x cx)) (hb : evE G F b δ = some (.ok y cy)) (h : cmpD op x y = some t) : evE G F (.cmp op a b) δ = some (.ok (.bl t) .strong) := by
  show Re.thn (evE G F a δ) (fun x _ => Re.thn (evE G F b δ) fun y _ => (cmpD op x y).map fun k => .ok (.bl k) .strong) = _
  rw [ha, thn_ok, hb, thn_ok, h]; rfl
theorem ev_ix {d : DV} (ha : evE G F a δ = some (.ok x cx)) (hb : evE G F b δ = some (.ok y cy)) (h : ixD x y = some d) : evE G F (.ix a b) δ = some (.ok d cx.item) := by
  show Re.thn (evE G F a δ) (fun x cx => Re.thn (evE G F b δ) fun y _ => (ixD x y).map fun d => .ok d cx.item) = _
  rw [ha, thn_ok, hb, thn_ok, h]; rfl
theorem ev_and2f {t : Bool} (ha : evE G F a δ = some (.ok (.bl false) cx)) : evE G F (.and [a, b]) δ = some (.ok (.bl false) cx) := by
  show Re.thn (evE G F a δ) (fun x c => andD x c (evE G F b δ)) = _
  rw [ha]; rfl
theorem ev_and2t {o : Option Re} (ha : evE G F a δ = some (.ok (.bl true) cx)) (hb : evE G F b δ = o) : evE G F (.and [a, b]) δ = o := by
  show Re.thn (evE G F a δ) (fun x c => andD x c (evE G F b δ)) = _
  rw [ha]; exact hb
theorem ev_or2f {o : Option Re} (ha : evE G F a δ = some (.ok (.bl false) cx)) (hb : evE G F b δ = o) : evE G F (.or [a, b]) δ = o := by
  show Re.thn (evE G F a δ) (fun x c => orD x c (evE G F b δ)) = _
  rw [ha]; exact hb
theorem ev_or2t (ha : evE G F a δ = some (.ok (.bl true) cx)) : evE G F (.or [a, b]) δ = some (.ok (.bl true) cx) := by
  show Re.thn (evE G F a δ) (fun x c => orD x c (evE G F b δ)) = _
  rw [ha]; rfl
theorem evs_nil : evEs G F [] δ = some (.ok []) := rfl
theorem evs_cons {es : List ME} {l : List (DV × Cl)} (ha : evE G F a δ = some (.ok x cx)) (h : evEs G F es δ = some (.ok l)) : evEs G F (a :: es) δ = some (.ok ((x, cx) :: l)) := by
  unfold evEs
  rw [ha, h]
end
end L2
namespace L2
open PySem
section
variable {G : Gs} {F : Nat → List DV → Option Ou} {fu : Nat} {δ δ' : List Sv} {a b c e : ME} {x y d : DV} {cx cy cl : Cl} {i : Nat} {ds : List DV}
theorem ev_ite {t : Bool} (h : tstD (evE G F c δ) = some (.ok t)) : evE G F (.ite c a b) δ = if t then evE G F a δ else evE G F b δ := by
  show Rt.thn (tstD (evE G F c δ)) (fun k => if k then evE G F a δ else evE G F b δ) = _
  rw [h]; rfl
theorem ev_app (h0 : δ[i]? = some (.own (.lst ds))) (h : evE G F e δ = some (.ok d cl)) (hs : stro d cl = true) (hl : ds.length < mostLen) : evS G F fu (.app i e) δ = some (.nx (δ.set i (.own (.lst (ds ++ [d]))))) := by
  unfold evS
  rw [h0]
  show Re.thnS δ (evE G F e δ) (fun d c => if stro d c ∧ ds.length < mostLen then some (.nx (δ.set i (.own (.lst (ds ++ [d]))))) else none) = _
  rw [h]
  exact if_pos ⟨hs, hl⟩
theorem ev_seti {k : ME} {n : Int} {j : Nat} (h0 : δ[i]? = some (.own (.lst ds))) (h : evE G F e δ = some (.ok d cl)) (hk : evE G F k δ = some (.ok (.int n) cx)) (hs : stro d cl = true) (hj : ixNat ds.length n = some j) : evS G F fu (.seti i k e) δ = some (.nx (δ.set i (.own (.lst (ds.set j d))))) := by
  unfold evS
  rw [h0]
  show Re.thnS δ (evE G F e δ) (fun d c => Re.thnS δ (evE G F k δ) fun k _ => (match k with | .int k => (match ixNat ds.length k with | some j => if stro d c then some (.nx (δ.set i (.own (.lst (ds.set j d))))) else none | none => none) | _ => none)) = _
  rw [h, thnS_ok, hk, thnS_ok]
  show (match ixNat ds.length n with | some j => if stro d cl then some (Out.nx (δ.set i (.own (.lst (ds.set j d))))) else none | none => none) = _
  rw [hj]
  exact if_pos hs
theorem while_f {test : List Sv → Option Rt} {body : List Sv → Option Out} {n : Nat} (h : test δ = some (.ok false)) : whileGo test body (n + 1) δ = some (.nx δ) := by
  unfold whileGo
  rw [h]
theorem while_t {test : List Sv → Option Rt} {body : List Sv → Option Out} {n : Nat} {o : Option Out} (h : test δ = some (.ok true)) (hb : body δ = some (.nx δ')) (hr : whileGo test body n δ' = o) : whileGo test body (n + 1) δ = o := by
  unfold whileGo
  rw [h, hb]
  exact hr
theorem go_wh {body r : List MS} {o : Option Out} (h : whileGo (fun δ' => tstD (evE G F c δ')) (fun δ' => evSs G F fu body δ') fu δ = some (.nx δ')) (h2 : evSs G F fu r δ' = o) : evSs G F fu (.wh c body :: r) δ = o := go_nx h h2
end
end L2
namespace L2
open PySem
section
variable {G : Gs} {F : Nat → List DV → Option Ou} {fu : Nat} {δ δ' : List Sv} {a b c e : ME} {x y d : DV} {cx cy cl : Cl} {i : Nat} {ds : List DV}
/-- a loop over lo, lo + 1, .. that keeps I -/
theorem forGo_cnt {I : Nat → List Sv → Prop} {body : List Sv → Option Out} : ∀ (n : Nat) (lo : Int) {δ : List Sv}, (∀ j < n, ∀ δ, I j δ → ∃ δ2, body (δ.set i (.val (.int (lo + j)))) = some (.nx δ2) ∧ I (j + 1) δ2) → I 0 δ → ∃ δ', forGo (.one i) body (upTo lo n) δ = some (.nx δ') ∧ I n δ'
  | 0, _, δ, _, i0 => ⟨δ, rfl, i0⟩
  | n + 1, lo, δ, h, i0 => by
    have e : upTo lo (n + 1) = .int lo :: upTo (lo + 1) n := by
      unfold upTo
      rw [List.range_succ_eq_map, List.map_cons, List.map_map]
      congr 1
      · congr 1; omega
      · apply List.map_congr_left
        intro a _
        show DV.int _ = DV.int _
        congr 1
        push_cast
        omega
    obtain ⟨δ2, h0, i1⟩ := h 0 (by omega) δ i0
    rw [show lo + ((0 : Nat) : Int) = lo by omega] at h0
    obtain ⟨δ', h1, i2⟩ := forGo_cnt (I := fun j => I (j + 1)) n (lo + 1) (δ := δ2) (fun j hj δ q => by
      obtain ⟨δ3, q1, q2⟩ := h (j + 1) (by omega) δ q
      refine ⟨δ3, ?_, q2⟩
      rw [show lo + 1 + ((j : Nat) : Int) = lo + ((j + 1 : Nat) : Int) by push_cast; omega]
      exact q1) i1
    refine ⟨δ', ?_, i2⟩
    rw [e]
    show (match body (δ.set i (.val (.int lo))) with | some (.nx δ2) => forGo (.one i) body (upTo (lo + 1) n) δ2 | o => o) = _
    rw [h0]
    exact h1
theorem at_nat {l : List Int} {j : Nat} (h : j < l.length) : ixD (.lst (l.map DV.int)) (.int j) = some (.int l[j]) := by
  have hh : (j : Int) < ((l.map DV.int).length : Int) := by rw [List.length_map]; exact_mod_cast h
  simp only [ixD, atD, ixNat, if_pos (Int.natCast_nonneg j), if_pos hh, Option.bind_some, Int.toNat_natCast, List.getElem?_map, List.getElem?_eq_getElem h, Option.map_some]
theorem at_int {l : List Int} {i : Int} (h0 : 0 ≤ i) (h : i < l.length) : ∃ v, ixD (.lst (l.map DV.int)) (.int i) = some (.int v) := by
  obtain ⟨j, rfl⟩ := Int.eq_ofNat_of_zero_le h0
  exact ⟨_, at_nat (by omega)⟩
end
end L2
namespace L2
open PySem
section
variable {G : Gs} {F : Nat → List DV → Option Ou} {fu : Nat} {δ δ' : List Sv} {r body : List MS} {it : ME} {cl : Cl} {ds : List DV} {tg : Tg} {o : Option Out}
end
end L2
namespace L2
open PySem
section
variable {G : Gs} {F : Nat → List DV → Option Ou} {fu : Nat} {δ δ' : List Sv} {a b : ME} {i j : Int} {cx cy : Cl}
theorem ev_int : evE G F (.int i) δ = some (.ok (.int i) .strong) := rfl
theorem ev_var {n : Nat} {d : DV} (h : δ[n]? = some (.val d)) : evE G F (.var n) δ = some (.ok d .strong) := by unfold evE; rw [h]
theorem ev_vown {n : Nat} {d : DV} (h : δ[n]? = some (.own d)) : evE G F (.var n) δ = some (.ok d .top) := by unfold evE; rw [h]
theorem i_add (ha : evE G F a δ = some (.ok (.int i) cx)) (hb : evE G F b δ = some (.ok (.int j) cy)) : evE G F (.bin .Add a b) δ = some (.ok (.int (i + j)) .strong) := ev_bin ha hb rfl
theorem i_sub (ha : evE G F a δ = some (.ok (.int i) cx)) (hb : evE G F b δ = some (.ok (.int j) cy)) : evE G F (.bin .Sub a b) δ = some (.ok (.int (i - j)) .strong) := ev_bin ha hb rfl
theorem i_mul (ha : evE G F a δ = some (.ok (.int i) cx)) (hb : evE G F b δ = some (.ok (.int j) cy)) (h : mulOk i j = true) : evE G F (.bin .Mult a b) δ = some (.ok (.int (i * j)) .strong) := ev_bin ha hb (if_pos h)
theorem i_mod (ha : evE G F a δ = some (.ok (.int i) cx)) (hb : evE G F b δ = some (.ok (.int j) cy)) (h : 0 < j) : evE G F (.bin .Mod a b) δ = some (.ok (.int (i % j)) .strong) := ev_bin ha hb (if_pos h)
theorem i_div (ha : evE G F a δ = some (.ok (.int i) cx)) (hb : evE G F b δ = some (.ok (.int j) cy)) (h : 0 < j ∧ j < 1073741824) : evE G F (.bin .FloorDiv a b) δ = some (.ok (.int (i / j)) .strong) := ev_bin ha hb (if_pos h)
theorem b_eq (ha : evE G F a δ = some (.ok (.int i) cx)) (hb : evE G F b δ = some (.ok (.int j) cy)) : evE G F (.cmp .Eq a b) δ = some (.ok (.bl (i == j)) .strong) := ev_cmp ha hb rfl
theorem b_lt (ha : evE G F a δ = some (.ok (.int i) cx)) (hb : evE G F b δ = some (.ok (.int j) cy)) : evE G F (.cmp .Lt a b) δ = some (.ok (.bl (decide (i < j))) .strong) := ev_cmp ha hb rfl
end
end L2
namespace L2
open PySem
section
variable {G : Gs} {F : Nat → List DV → Option Ou} {fu : Nat} {δ δ' : List Sv} {es : List ME} {l : List (DV × Cl)}
theorem ev_str {x : Str} : evE G F (.str x) δ = some (.ok (.str x) .strong) := rfl
theorem ev_tup (h : evEs G F es δ = some (.ok l)) (hl : l.length ≤ mostLen) (hs : stros l = true) : evE G F (.tup es) δ = some (.ok (.tup (l.map (·.1))) .strong) := by
  show Rs.thn (evEs G F es δ) (fun l => if l.length ≤ mostLen then some (.ok (.tup (l.map (·.1))) (if stros l then .strong else .weak)) else none) = _
  rw [h, thns_ok, if_pos hl, hs]
  rfl
end
end L2
namespace L2
open PySem
theorem forGo_append {tg : Tg} {body : List Sv → Option Out} : ∀ {ds es : List DV} {δ δ' : List Sv}, forGo tg body ds δ = some (.nx δ') → forGo tg body (ds ++ es) δ = forGo tg body es δ'
  | [], es, δ, δ', h => by cases h; rfl
  | d :: r, es, δ, δ', h => by
    show (match tg.bind d δ with | none => none | some δ1 => (match body δ1 with | some (.nx δ2) => forGo tg body (r ++ es) δ2 | o => o)) = _
    have h' : (match tg.bind d δ with | none => none | some δ1 => (match body δ1 with | some (.nx δ2) => forGo tg body r δ2 | o => o)) = some (.nx δ') := h
    cases e1 : tg.bind d δ with
    | none => rw [e1] at h'; cases h'
    | some δ1 =>
      rw [e1] at h'
      have h'' : (match body δ1 with | some (.nx δ2) => forGo tg body r δ2 | o => o) = some (.nx δ') := h'
      show (match body δ1 with | some (.nx δ2) => forGo tg body (r ++ es) δ2 | o => o) = _
      cases e2 : body δ1 with
      | none => rw [e2] at h''; cases h''
      | some o =>
        rw [e2] at h''
        cases o with
        | nx δ2 => exact forGo_append h''
        | rt d fr => cases h''
        | ex c δ2 => cases h''
        | rtt d => cases h''
end L2
namespace L2
open PySem
theorem forGo_last {tg : Tg} {body : List Sv → Option Out} {d : DV} {δ δ1 δ2 : List Sv} (h1 : tg.bind d δ = some δ1) (h2 : body δ1 = some (.nx δ2)) : forGo tg body [d] δ = some (.nx δ2) := by
  unfold forGo
  rw [h1]
  simp only [h2]
  rfl
end L2

end
section
set_option Elab.async false
set_option linter.all false
set_option maxRecDepth 100000
set_option maxHeartbeats 4000000
namespace k12
open PySem L2
/-- is_int: thing, least, most -/
def d_is_int : FD := { n := 3, np := 3, dfl := [], body := [.ret (.and [.isi (.var 0) ["int"], .not (.isi (.var 0) ["bool"]), .chain .LtE .LtE (.var 1) (.var 0) (.var 2)])] }
/-- check_card: card, size -/
def d_check_card : FD := { n := 2, np := 2, dfl := [], body := [.iff (.not (.call 0 [.var 0, .int 0, .bin .Sub (.var 1) (.int 1)])) [.rse "NoCard" (.str "a card is an int from 0 on, less than the number of its side's cards")] []] }
/-- run: plan, row, column -/
def d_run : FD := { n := 3, np := 3, dfl := [], body := [.exp (.call 1 [.var 1, .glb "MOST_LINES"]), .exp (.call 1 [.var 2, .glb "MOST_LINES"]), .ret (.call 3 [.var 0, .var 1, .var 2])] }
/-- way: plan, row, column, bits, place, card, bit -/
def d_way : FD := { n := 7, np := 3, dfl := [], body := [.set 3 true (.lst []), .set 4 false (.var 0), .wh (.cmp .Eq (.ix (.var 4) (.int 0)) (.str "ask")) [.set 5 false (.ite (.cmp .Eq (.ix (.var 4) (.int 1)) (.str "row")) (.var 1) (.var 2)), .set 6 false (.bin .BitAnd (.bin .RShift (.ix (.var 4) (.int 2)) (.var 5)) (.int 1)), .app 3 (.var 6), .set 4 false (.ite (.cmp .Eq (.var 6) (.int 1)) (.ix (.var 4) (.int 4)) (.ix (.var 4) (.int 3)))], .ret0 [.var 3, .ix (.var 4) (.int 1)]] }
/-- flipped_plan: plan -/
def d_flipped_plan : FD := { n := 1, np := 1, dfl := [], body := [.iff (.cmp .Eq (.ix (.var 0) (.int 0)) (.str "end")) [.ret (.var 0)] [], .ret (.tup [.str "ask", .gdx "OTHER_SIDE" (.ix (.var 0) (.int 1)), .ix (.var 0) (.int 2), .call 4 [.ix (.var 0) (.int 3)], .call 4 [.ix (.var 0) (.int 4)]])] }
/-- _law_int: _law_found -/
def d__law_int : FD := { n := 1, np := 1, dfl := [], body := [.ret (.and [.isi (.var 0) ["int"], .not (.isi (.var 0) ["bool"])])] }
/-- _law_cell_at: _law_script, _law_k -/
def d__law_cell_at : FD := { n := 2, np := 2, dfl := [], body := [.iff (.cmp .Lt (.var 1) (.bi .len [.var 0])) [.ret (.ix (.var 0) (.var 1))] [], .ret (.int 0)] }
/-- _law_stream: _law_cell, _law_many, _law_found, _law_number, _law_k -/
def d__law_stream : FD := { n := 5, np := 2, dfl := [], body := [.set 2 true (.lst []), .set 3 false (.bin .Add (.bin .Mod (.var 0) (.int 2147483647)) (.int 48271)), .fo (.one 4) (.rng [.var 1]) [.set 3 false (.bin .Mod (.bin .Add (.bin .Add (.bin .Mult (.var 3) (.int 48271)) (.bin .Mult (.var 4) (.var 4))) (.int 11)) (.int 2147483647)), .app 2 (.bin .FloorDiv (.var 3) (.int 7))], .ret (.var 2)] }
/-- _law_plan: _law_xs, _law_at, _law_depth, _law_wide, _law_number, _law_side, _law_cards, _law_no -/
def d__law_plan : FD := { n := 8, np := 4, dfl := [], body := [.set 4 false (.ix (.var 0) (.bin .Mod (.var 1) (.bi .len [.var 0]))), .iff (.or [.cmp .Eq (.var 2) (.int 0), .and [.cmp .Eq (.bin .Mod (.var 4) (.int 7)) (.int 0), .cmp .Lt (.var 2) (.var 3)]]) [.ret (.tup [.str "end", .bin .Mod (.bin .FloorDiv (.var 4) (.int 7)) (.int 10)])] [], .set 5 false (.ix (.lst [.str "row", .str "column"]) (.bin .Mod (.bin .FloorDiv (.var 4) (.int 7)) (.int 2))), .set 6 false (.bin .Add (.int 1) (.bin .Mod (.bin .FloorDiv (.var 4) (.int 14)) (.int 255))), .set 7 false (.call 8 [.var 0, .bin .Add (.bin .Mult (.int 2) (.var 1)) (.int 1), .bin .Sub (.var 2) (.int 1), .var 3]), .ret (.tup [.str "ask", .var 5, .var 6, .var 7, .call 8 [.var 0, .bin .Add (.bin .Mult (.int 2) (.var 1)) (.int 2), .bin .Sub (.var 2) (.int 1), .var 3]])] }
/-- _law_long: _law_xs, _law_plan_here, _law_k, _law_other -/
def d__law_long : FD := { n := 4, np := 1, dfl := [], body := [.set 1 false (.tup [.str "end", .bin .Mod (.ix (.var 0) (.int 0)) (.int 10)]), .fo (.one 2) (.rng [.int 12]) [.set 3 false (.tup [.str "end", .bin .Mod (.ix (.var 0) (.bin .Add (.var 2) (.int 1))) (.int 10)]), .set 1 false (.tup [.str "ask", .ix (.lst [.str "row", .str "column"]) (.bin .Mod (.ix (.var 0) (.var 2)) (.int 2)), .bin .Add (.int 1) (.bin .Mod (.ix (.var 0) (.var 2)) (.int 255)), .var 1, .var 3])], .ret (.var 1)] }
/-- _law_due: _law_plan_here, _law_row, _law_column, _law_bits, _law_card, _law_bit -/
def d__law_due : FD := { n := 6, np := 3, dfl := [], body := [.set 3 true (.lst []), .wh (.cmp .Eq (.ix (.var 0) (.int 0)) (.str "ask")) [.set 4 false (.var 2), .iff (.cmp .Eq (.ix (.var 0) (.int 1)) (.str "row")) [.set 4 false (.var 1)] [], .set 5 false (.bin .Mod (.bin .FloorDiv (.ix (.var 0) (.int 2)) (.ix (.lst [.int 1, .int 2, .int 4, .int 8, .int 16, .int 32, .int 64, .int 128]) (.var 4))) (.int 2)), .app 3 (.var 5), .set 0 false (.ix (.var 0) (.bin .Add (.int 3) (.var 5)))], .ret0 [.var 3, .ix (.var 0) (.int 1)]] }
/-- _law_told: _law_found, _law_due_here, _law_number -/
def d__law_told : FD := { n := 3, np := 2, dfl := [], body := [.iff (.or [.not (.isi (.var 0) ["tuple"]), .cmp .NotEq (.bi .len [.var 0]) (.int 2), .not (.isi (.ix (.var 0) (.int 0)) ["list"])]) [.ret (.bl false)] [], .fo (.one 2) (.bin .Add (.ix (.var 0) (.int 0)) (.lst [.ix (.var 0) (.int 1)])) [.iff (.not (.call 5 [.var 2])) [.ret (.bl false)] []], .ret (.cmp .Eq (.var 0) (.var 1))] }
/-- _law_refused: _law_plan_here, _law_row, _law_column, _law_caught, error -/
def d__law_refused : FD := { n := 5, np := 3, dfl := [], body := [.set 3 false (.non), .tryc [.exp (.call 2 [.var 0, .var 1, .var 2])] "TalkError" 4 3, .iff (.or [.cmp .Is (.var 3) (.non), .not (.isx (.var 3) "NoCard"), .not (.isx (.var 3) "ValueError")]) [.ret (.bl false)] [], .ret (.and [.not (.isx (.var 3) "NoPlan"), .not (.isx (.var 3) "NoTable")])] }
/-- law: _law_script, _law_xs, _law_k, _law_plan_here, _law_other, _law_cell, _law_row, _law_column, _law_due_here, _law_found, _law_bad -/
def d_law : FD := { n := 11, np := 1, dfl := [], body := [.set 1 true (.call 7 [.call 6 [.var 0, .int 0], .int 60]), .fo (.one 2) (.rng [.bi .min [.int 50, .bi .max [.int 0, .bin .Sub (.bi .len [.var 0]) (.int 3)]]]) [.seti 1 (.bin .Add (.int 8) (.var 2)) (.bin .Mod (.ix (.var 0) (.bin .Add (.int 3) (.var 2))) (.int 2147483647))], .set 3 false (.call 8 [.var 1, .int 0, .bin .Mod (.ix (.var 1) (.int 1)) (.int 7), .int 5]), .iff (.cmp .Eq (.bin .Mod (.ix (.var 1) (.int 2)) (.int 4)) (.int 0)) [.set 3 false (.call 9 [.var 1])] [], .set 4 false (.call 4 [.var 3]), .iff (.cmp .NotEq (.call 4 [.var 4]) (.var 3)) [.ret (.bl false)] [], .fo (.one 5) (.bin .Add (.lst [.call 6 [.var 0, .int 1], .call 6 [.var 0, .int 2]]) (.sl (.var 0) (.int 3) (.int 43))) [.set 6 false (.bin .Mod (.var 5) (.int 8)), .set 7 false (.bin .Mod (.bin .FloorDiv (.var 5) (.int 8)) (.int 8)), .set 8 false (.call 10 [.var 3, .var 6, .var 7]), .set 9 true (.call 2 [.var 3, .var 6, .var 7]), .iff (.or [.not (.call 11 [.var 9, .var 8]), .not (.call 11 [.call 2 [.var 4, .var 7, .var 6], .var 8])]) [.ret (.bl false)] [], .app0 9 (.int 2), .iff (.not (.call 11 [.call 2 [.var 3, .var 6, .var 7], .var 8])) [.ret (.bl false)] []], .set 10 false (.ix (.lst [.int 8, .neg (.int 1), .int 10000, .bl true, .bl false, .non, .str "1", .lst [.int 1]]) (.bin .Mod (.ix (.var 1) (.int 3)) (.int 8))), .iff (.not (.call 12 [.var 3, .var 10, .bin .Mod (.ix (.var 1) (.int 4)) (.int 8)])) [.ret (.bl false)] [], .ret (.call 12 [.var 3, .bin .Mod (.ix (.var 1) (.int 4)) (.int 8), .var 10])] }
def T : List FD := [d_is_int, d_check_card, d_run, d_way, d_flipped_plan, d__law_int, d__law_cell_at, d__law_stream, d__law_plan, d__law_long, d__law_due, d__law_told, d__law_refused, d_law]
def G : Gs := { dcs := [("OTHER_SIDE", [("row", "column"), ("column", "row")])], con := [("MOST_LINES", .int 8)], cls := [("TalkError", ["ValueError", "Exception", "BaseException", "object"]), ("NoTable", ["TalkError", "ValueError", "Exception", "BaseException", "object"]), ("NoCard", ["TalkError", "ValueError", "Exception", "BaseException", "object"]), ("NoPlan", ["TalkError", "ValueError", "Exception", "BaseException", "object"])] }
end k12
namespace k12
open PySem L2
variable {fu k : Nat} {F : Nat → List DV → Option Ou} {δ : List Sv}
theorem isi_int_int {x : Int} : isiD G (.int x) ["int"] = some true := rfl
theorem isi_int_bool {x : Int} : isiD G (.int x) ["bool"] = some false := rfl
theorem isi_lst {x : List DV} : isiD G (.lst x) ["list"] = some true := rfl
theorem isi_tup {x : List DV} : isiD G (.tup x) ["tuple"] = some true := rfl
theorem cmp_ee : cmpD .Eq (.str "end") (.str "end") = some true := by decide +kernel
theorem cmp_ae : cmpD .Eq (.str "ask") (.str "end") = some false := by decide +kernel
theorem cmp_aa : cmpD .Eq (.str "ask") (.str "ask") = some true := by decide +kernel
theorem cmp_ea : cmpD .Eq (.str "end") (.str "ask") = some false := by decide +kernel
theorem cmp_rr : cmpD .Eq (.str "row") (.str "row") = some true := by decide +kernel
theorem cmp_cr : cmpD .Eq (.str "column") (.str "row") = some false := by decide +kernel
theorem cmp_ii {a b : Int} : cmpD .Eq (.int a) (.int b) = some (a == b) := rfl
theorem e_is_int {x a b : Int} (h1 : a ≤ x) (h2 : x ≤ b) : run G T fu (k + 1) 0 [.int x, .int a, .int b] = some (.v (.bl true) false) := by
  rw [run_of (fd := d_is_int) rfl rfl]
  simp [d_is_int, startS, evSs, evS, evE, evAnd, Re.thnS, thn_ok, isi_int_int, isi_int_bool, andD, truth, cmpD, h1, h2, Ou.of, frD, retD, Cl.item]
theorem band_nat (r o : Nat) : Builtin.bitAnd r o = ((r &&& o : Nat) : Int) := by
  unfold Builtin.bitAnd
  rw [decide_eq_true (Int.natCast_nonneg r), decide_eq_true (Int.natCast_nonneg o)]
  rfl
theorem pow8 {j : Nat} (hj : j < 8) : ixD (.lst [.int 1, .int 2, .int 4, .int 8, .int 16, .int 32, .int 64, .int 128]) (.int j) = some (.int ((2 ^ j : Nat) : Int)) := by
  have : j = 0 ∨ j = 1 ∨ j = 2 ∨ j = 3 ∨ j = 4 ∨ j = 5 ∨ j = 6 ∨ j = 7 := by omega
  rcases this with rfl | rfl | rfl | rfl | rfl | rfl | rfl | rfl <;> rfl
inductive Pl where
  | fin (v : Int) | ask (row : Bool) (c : Nat) (a b : Pl)
def side (r : Bool) : DV := if r then .str "row" else .str "column"
def dv : Pl → DV
  | .fin v => .tup [.str "end", .int v]
  | .ask r c a b => .tup [.str "ask", side r, .int c, dv a, dv b]
def ht : Pl → Nat
  | .fin _ => 0
  | .ask _ _ a b => max (ht a) (ht b) + 1
def lv : Pl → Nat
  | .fin _ => 1
  | .ask _ _ a b => lv a + lv b
theorem lv_pos : ∀ p, 0 < lv p
  | .fin _ => Nat.one_pos
  | .ask _ _ a b => by unfold lv; have := lv_pos a; omega
theorem dv_imm : ∀ p, (dv p).immut = true
  | .fin _ => rfl
  | .ask r c a b => by
    have h1 := dv_imm a
    have h2 := dv_imm b
    unfold dv
    cases r <;> simp [DV.immut, DV.immuts, side, h1, h2]
theorem e_int {x : Int} : run G T fu (k + 1) 5 [.int x] = some (.v (.bl true) false) := by
  rw [run_of (fd := d__law_int) rfl rfl]
  rfl
/-- where the row and the column end -/
def vl : Pl → Nat → Nat → Int
  | .fin v, _, _ => v
  | .ask s o a b, i, j => if o.testBit (if s then i else j) then vl b i j else vl a i j
theorem bit_of (o i : Nat) : binD .BitAnd (.int ((o : Int) / 2 ^ ((i : Int).toNat))) (.int 1) .strong .strong = some (.ok (.int (if o.testBit i then 1 else 0)) .strong) := by
  show some (Re.ok (DV.int (Builtin.bitAnd _ 1)) Cl.strong) = _
  have e : (o : Int) / 2 ^ ((i : Int).toNat) = ((o / 2 ^ i : Nat) : Int) := by
    rw [Int.toNat_natCast]; push_cast; rfl
  rw [e, show (1 : Int) = ((1 : Nat) : Int) from rfl, band_nat, Nat.and_one_is_mod, Nat.testBit_eq_decide_div_mod_eq]
  have : o / 2 ^ i % 2 = 0 ∨ o / 2 ^ i % 2 = 1 := by omega
  rcases this with h | h <;> rw [h] <;> rfl
def wayC : ME := .cmp .Eq (.ix (.var 4) (.int 0)) (.str "ask")
def wayB : List MS := [.set 5 false (.ite (.cmp .Eq (.ix (.var 4) (.int 1)) (.str "row")) (.var 1) (.var 2)), .set 6 false (.bin .BitAnd (.bin .RShift (.ix (.var 4) (.int 2)) (.var 5)) (.int 1)), .app 3 (.var 6), .set 4 false (.ite (.cmp .Eq (.var 6) (.int 1)) (.ix (.var 4) (.int 4)) (.ix (.var 4) (.int 3)))]
theorem way_step (q : DV) (s : Bool) (o : Nat) (a b : Pl) (i j : Nat) (bs : List DV) (c d : Sv) (hl : bs.length ≤ 10000) (t : Bool) (ht : o.testBit (if s then i else j) = t) :
    evSs G (run G T fu k) fu wayB [.val q, .val (.int i), .val (.int j), .own (.lst bs), .val (dv (.ask s o a b)), c, d] = some (.nx [.val q, .val (.int i), .val (.int j), .own (.lst (bs ++ [.int (if t then 1 else 0)])), .val (dv (if t then b else a)), .val (.int ((if s then i else j : Nat) : Int)), .val (.int (if t then 1 else 0))]) := by
  have hbl : bs.length < mostLen := Nat.lt_of_le_of_lt hl (by decide)
  have hb := bit_of o (if s then i else j)
  rw [ht] at hb
  unfold wayB
  refine go_nx (ev_set (d := .int ((if s then i else j : Nat) : Int)) (cl := .strong) ?_ rfl) (go_nx (ev_set (d := .int (if t then 1 else 0)) (cl := .strong) (ev_bin (x := .int ((o : Int) / 2 ^ (((if s then i else j : Nat) : Int).toNat))) (cx := .strong) ?_ rfl hb) rfl) (go_nx (ev_app (d := .int (if t then 1 else 0)) (cl := .strong) rfl rfl rfl hbl) (go_nx (ev_set (d := dv (if t then b else a)) (cl := .strong) ?_ rfl) rfl)))
  · cases s
    · exact (ev_ite (t := false) (tst_bl (cl := .strong) (by simp [evE, dv, thn_ok, ixD, atD, ixNat, side, cmp_cr]))).trans rfl
    · exact (ev_ite (t := true) (tst_bl (cl := .strong) (by simp [evE, dv, thn_ok, ixD, atD, ixNat, side, cmp_rr]))).trans rfl
  · simp [evE, dv, thn_ok, ixD, atD, ixNat, binD]
  · cases t
    · exact (ev_ite (t := false) (tst_bl (cl := .strong) rfl)).trans (by simp [evE, dv, thn_ok, ixD, atD, ixNat, Cl.item])
    · exact (ev_ite (t := true) (tst_bl (cl := .strong) rfl)).trans (by simp [evE, dv, thn_ok, ixD, atD, ixNat, Cl.item])
theorem e_card {x : Nat} (h : x < 8) : run G T fu (k + 2) 1 [.int x, .int 8] = some (.v .non false) := by
  rw [run_of (fd := d_check_card) rfl rfl]
  unfold d_check_card
  exact of_nx (go_ife (tst_bl (cl := .strong) (ev_not (x := true) (cl := .strong) (ev_call (l := [(.int x, .strong), (.int 0, .strong), (.int 7, .strong)]) rfl rfl (e_is_int (by omega) (by omega))))) rfl)
theorem e_cell (ns : List Int) (j : Nat) : ∃ v : Int, run G T fu (k + 1) 6 [.scr ns, .int j] = some (.v (.int v) false) := by
  rw [run_of (fd := d__law_cell_at) rfl rfl]
  unfold d__law_cell_at
  by_cases h : j < ns.length
  · refine ⟨ns[j], of_rt (go_ifr (tst_bl (cl := .strong) ?_) (go_rt ?_))⟩
    · have : (j : Int) < (ns.length : Int) := by omega
      simp [evE, evEs, thn_ok, thns_ok, startS, biOk, biD, lenD, cmpD, h]
    · simp [evS, evE, thn_ok, startS, ixD, ixNat, h, Re.thnS, frD, retD, Cl.item]
  · refine ⟨0, of_rt (go_ife (tst_bl (cl := .strong) ?_) (go_rt rfl))⟩
    simp [evE, evEs, thn_ok, thns_ok, startS, biOk, biD, lenD, cmpD]
    omega
theorem map_snoc (xs : List Int) (v : Int) : xs.map DV.int ++ [.int v] = (xs ++ [v]).map DV.int := by rw [List.map_append]; rfl
theorem ix_of {n j : Nat} (h : j < n) : ixNat n (j : Int) = some j := by
  unfold ixNat
  rw [if_pos (Int.natCast_nonneg j), if_pos (by omega), Int.toNat_natCast]
theorem rng_n {F : Nat → List DV → Option Ou} {δ : List Sv} {e : ME} {n : Nat} {cl : Cl} (h : evE G F e δ = some (.ok (.int n) cl)) (hn : n ≤ 1000) : walkD (evE G F (.rng [e]) δ) = some (.ok (upTo 0 n) .fresh) := by
  show walkD (Rs.thn (evEs G F [e] δ) (fun l => (rngD l).map fun ds => .ok (.lst ds) .fresh)) = _
  rw [evs_cons h evs_nil, thns_ok]
  have hs : (small62 (n : Int) && decide ((n : Int) ≤ (mostLen : Int))) = true := by
    rw [Bool.and_eq_true, decide_eq_true_iff]
    refine ⟨?_, Int.le_trans (show (n : Int) ≤ 1000 by omega) (by decide)⟩
    unfold small62
    rw [Bool.and_eq_true, decide_eq_true_iff, decide_eq_true_iff]
    exact ⟨Int.le_trans (by decide) (Int.natCast_nonneg n), Int.lt_of_le_of_lt (show (n : Int) ≤ 1000 by omega) (by decide)⟩
  show walkD ((if small62 (n : Int) && decide ((n : Int) ≤ (mostLen : Int)) then some (upTo 0 (n : Int).toNat) else none).map fun ds => .ok (.lst ds) .fresh) = _
  rw [if_pos hs, Int.toNat_natCast]
  rfl
theorem sq_ok {j : Nat} (hj : j < 1000) : mulOk (j : Int) (j : Int) = true := by unfold mulOk; simp; omega
theorem m48 (x : Int) : mulOk x 48271 = true := by unfold mulOk; simp
theorem e_stream (c : Int) (n : Nat) (hn : n ≤ 1000) : ∃ xs : List Int, xs.length = n ∧ run G T fu (k + 1) 7 [.int c, .int n] = some (.v (.lst (xs.map DV.int)) true) := by
  rw [run_of (fd := d__law_stream) rfl rfl]
  obtain ⟨δ1, h1, xs, num, z, hl, rfl⟩ := forGo_cnt (i := 4) (I := fun j δ => ∃ (xs : List Int) (num : Int) (z : Sv), xs.length = j ∧ δ = [.val (.int c), .val (.int n), .own (.lst (xs.map DV.int)), .val (.int num), z])
    (body := fun δ' => evSs G (run G T fu k) fu [.set 3 false (.bin .Mod (.bin .Add (.bin .Add (.bin .Mult (.var 3) (.int 48271)) (.bin .Mult (.var 4) (.var 4))) (.int 11)) (.int 2147483647)), .app 2 (.bin .FloorDiv (.var 3) (.int 7))] δ') n 0 (δ := [.val (.int c), .val (.int n), .own (.lst []), .val (.int (c % 2147483647 + 48271)), .no])
    (fun j hj δ I => by
      obtain ⟨xs, num, z, hl, rfl⟩ := I
      rw [show (0 : Int) + (j : Int) = j by omega]
      obtain ⟨N, hN⟩ : ∃ N : Int, (num * 48271 + (j : Int) * j + 11) % 2147483647 = N := ⟨_, rfl⟩
      obtain ⟨D, hD⟩ : ∃ D : Int, N / 7 = D := ⟨_, rfl⟩
      refine ⟨_, go_nx (ev_set (d := .int N) (cl := .strong) ?_ rfl) (go_nx (ev_app (d := .int D) (cl := .strong) rfl ?_ rfl (by rw [List.length_map, hl]; exact Nat.lt_of_lt_of_le (Nat.lt_of_lt_of_le hj hn) (by decide))) rfl), xs ++ [D], N, .val (.int j), by rw [List.length_append, hl]; rfl, ?_⟩
      · rw [← hN]; exact i_mod (i_add (i_add (i_mul (ev_var rfl) ev_int (m48 _)) (i_mul (ev_var rfl) (ev_var rfl) (sq_ok (by omega)))) ev_int) ev_int (by decide)
      · rw [← hD]; exact i_div (ev_var rfl) ev_int (by decide)
      · rw [← map_snoc]; rfl) ⟨[], _, .no, rfl, rfl⟩
  refine ⟨xs, hl, ?_⟩
  unfold d__law_stream
  exact of_rt (go_nx (ev_own rfl) (go_nx (ev_set (d := .int (c % 2147483647 + 48271)) (cl := .strong) (i_add (i_mod (ev_var rfl) ev_int (by decide)) ev_int) rfl) (go_fo (rng_n (n := n) (ev_var rfl) hn) (.inr rfl) h1 (go_rt rfl))))
theorem ev_callx {f : Nat} {es : List ME} {l : List (DV × Cl)} {c : Str} (ha : evEs G F es δ = some (.ok l)) (h : F f (l.map (·.1)) = some (.x c)) : evE G F (.call f es) δ = some (.ex c) := by
  show Rs.thn (evEs G F es δ) (fun l => callD F f l) = _
  rw [ha]
  show callD F f l = _
  unfold callD
  rw [h]
theorem ev_expx {e : ME} {c : Str} (h : evE G F e δ = some (.ex c)) : evS G F fu (.exp e) δ = some (.ex c δ) := by
  show Re.thnS δ (evE G F e δ) (fun _ _ => some (.nx δ)) = _
  rw [h]; rfl
theorem go_ex {m : MS} {r : List MS} {c : Str} {δ' : List Sv} (h : evS G F fu m δ = some (.ex c δ')) : evSs G F fu (m :: r) δ = some (.ex c δ') := by
  unfold evSs
  rw [h]
theorem of_ex {r : List MS} {c : Str} {δ' : List Sv} (h : evSs G F fu r δ = some (.ex c δ')) : Ou.of (evSs G F fu r δ) = some (.x c) := by rw [h]; rfl
theorem ev_lst {F : Nat → List DV → Option Ou} {δ : List Sv} {es : List ME} {l : List (DV × Cl)} (h : evEs G F es δ = some (.ok l)) (hl : l.length ≤ mostLen) (hs : stros l = true) : evE G F (.lst es) δ = some (.ok (.lst (l.map (·.1))) .fresh) := by
  have e : evE G F (.lst es) δ = Rs.thn (evEs G F es δ) (fun l => if l.length ≤ mostLen then some (.ok (.lst (l.map (·.1))) (if stros l then .fresh else .weak)) else none) := rfl
  rw [e, h, thns_ok, if_pos hl, hs]
  rfl
theorem few {α : Type} {l : List α} {n : Nat} (h : l.length = n) (hn : n ≤ 100) : l.length ≤ mostLen := by rw [h]; exact Nat.le_trans hn (by decide)
theorem side_at (n : Int) : ∃ s : Bool, ixD (.lst [.str "row", .str "column"]) (.int (n % 2)) = some (side s) := by
  have : n % 2 = 0 ∨ n % 2 = 1 := by omega
  rcases this with h | h
  · exact ⟨true, by rw [h]; rfl⟩
  · exact ⟨false, by rw [h]; rfl⟩
theorem cards_of (n : Int) : ∃ o : Nat, 1 + n % 255 = (o : Int) := ⟨(1 + n % 255).toNat, by omega⟩
theorem ev_rc {F : Nat → List DV → Option Ou} {δ : List Sv} : evE G F (.lst [.str "row", .str "column"]) δ = some (.ok (.lst [.str "row", .str "column"]) .fresh) := rfl
/-- a plan by its depth -/
theorem e_plan (xs : List Int) (hx : xs.length = 60) : ∀ (d : Nat) (at' : Int), ∃ p : Pl, ht p ≤ d ∧ lv p ≤ 2 ^ d ∧ ∀ k, d < k → run G T fu k 8 [.lst (xs.map DV.int), .int at', .int d, .int 5] = some (.v (dv p) false) := by
  intro d
  induction d with
  | zero =>
    intro at'
    obtain ⟨n, hn⟩ := at_int (l := xs) (i := at' % 60) (by omega) (by rw [hx]; omega)
    refine ⟨.fin (n / 7 % 10), Nat.le_refl _, Nat.le_refl _, fun k hk => ?_⟩
    obtain ⟨k, rfl⟩ : ∃ k', k = k' + 1 := ⟨k - 1, by omega⟩
    rw [run_of (fd := d__law_plan) rfl rfl]
    unfold d__law_plan
    have hlen : evE G (run G T fu k) (.bi .len [.var 0]) (startS 8 [.lst (xs.map DV.int), .int at', .int (0 : Nat), .int 5]) = some (.ok (.int 60) .strong) := by
      simp [evE, evEs, thns_ok, biOk, biD, lenD, startS, hx]
    refine of_rt (go_nx (ev_set (d := .int n) (cl := .strong) (ev_ix (ev_var rfl) (i_mod (ev_var rfl) hlen (by decide)) hn) rfl) (go_ifr (tst_bl (ev_or2t (b_eq (i := 0) (j := 0) (ev_var rfl) ev_int))) (go_rt (ev_ret (cl := .strong) ?_))))
    have e := i_mod (i_div (ev_var (G := G) (F := run G T fu k) (n := 4) (d := .int n) (δ := ((startS 8 [.lst (xs.map DV.int), .int at', .int (0 : Nat), .int 5]).set 4 (.val (.int n)))) rfl) (ev_int (i := 7)) (by decide)) (ev_int (i := 10)) (by decide)
    exact ev_tup (evs_cons ev_str (evs_cons e evs_nil)) (Nat.le_of_ble_eq_true rfl) rfl
  | succ d ih =>
    intro at'
    obtain ⟨n, hn⟩ := at_int (l := xs) (i := at' % 60) (by omega) (by rw [hx]; omega)
    obtain ⟨s, hs⟩ := side_at (n / 7)
    obtain ⟨o, ho⟩ := cards_of (n / 14)
    obtain ⟨a, a1, a2, a3⟩ := ih (2 * at' + 1)
    obtain ⟨b, b1, b2, b3⟩ := ih (2 * at' + 2)
    have hd : ((d + 1 : Nat) : Int) - 1 = (d : Int) := by omega
    by_cases hc : n % 7 = 0 ∧ ((d + 1 : Nat) : Int) < 5
    · refine ⟨.fin (n / 7 % 10), Nat.zero_le _, Nat.one_le_two_pow, fun k hk => ?_⟩
      obtain ⟨k, rfl⟩ : ∃ k', k = k' + 1 := ⟨k - 1, by omega⟩
      rw [run_of (fd := d__law_plan) rfl rfl]
      unfold d__law_plan
      have hlen : evE G (run G T fu k) (.bi .len [.var 0]) (startS 8 [.lst (xs.map DV.int), .int at', .int ((d + 1 : Nat) : Int), .int 5]) = some (.ok (.int 60) .strong) := by
        simp [evE, evEs, thns_ok, biOk, biD, lenD, startS, hx]
      have e1 : (((d + 1 : Nat) : Int) == 0) = false := by rw [beq_eq_false_iff_ne]; omega
      have e2 : (n % 7 == 0) = true := by rw [beq_iff_eq]; exact hc.1
      have e3 : decide (((d + 1 : Nat) : Int) < 5) = true := decide_eq_true hc.2
      have t1 := b_eq (ev_var (G := G) (F := run G T fu k) (n := 2) (d := .int ((d + 1 : Nat) : Int)) (δ := ((startS 8 [.lst (xs.map DV.int), .int at', .int ((d + 1 : Nat) : Int), .int 5]).set 4 (.val (.int n)))) rfl) (ev_int (i := 0))
      have t2 := b_eq (i_mod (ev_var (G := G) (F := run G T fu k) (n := 4) (d := .int n) (δ := ((startS 8 [.lst (xs.map DV.int), .int at', .int ((d + 1 : Nat) : Int), .int 5]).set 4 (.val (.int n)))) rfl) (ev_int (i := 7)) (by decide)) (ev_int (i := 0))
      have t3 := b_lt (ev_var (G := G) (F := run G T fu k) (n := 2) (d := .int ((d + 1 : Nat) : Int)) (δ := ((startS 8 [.lst (xs.map DV.int), .int at', .int ((d + 1 : Nat) : Int), .int 5]).set 4 (.val (.int n)))) rfl) (ev_var (n := 3) (d := .int 5) rfl)
      rw [e1] at t1
      rw [e2] at t2
      rw [e3] at t3
      refine of_rt (go_nx (ev_set (d := .int n) (cl := .strong) (ev_ix (ev_var rfl) (i_mod (ev_var rfl) hlen (by decide)) hn) rfl) (go_ifr (tst_bl (ev_or2f t1 (ev_and2t t2 t3))) (go_rt (ev_ret (cl := .strong) ?_))))
      have e := i_mod (i_div (ev_var (G := G) (F := run G T fu k) (n := 4) (d := .int n) (δ := ((startS 8 [.lst (xs.map DV.int), .int at', .int ((d + 1 : Nat) : Int), .int 5]).set 4 (.val (.int n)))) rfl) (ev_int (i := 7)) (by decide)) (ev_int (i := 10)) (by decide)
      exact ev_tup (evs_cons ev_str (evs_cons e evs_nil)) (Nat.le_of_ble_eq_true rfl) rfl
    · refine ⟨.ask s o a b, by unfold ht; omega, by unfold lv; rw [Nat.pow_succ]; omega, fun k hk => ?_⟩
      obtain ⟨k, rfl⟩ : ∃ k', k = k' + 1 := ⟨k - 1, by omega⟩
      have a4 := a3 k (by omega)
      have b4 := b3 k (by omega)
      rw [← hd] at a4 b4
      rw [run_of (fd := d__law_plan) rfl rfl]
      unfold d__law_plan
      have hlen : evE G (run G T fu k) (.bi .len [.var 0]) (startS 8 [.lst (xs.map DV.int), .int at', .int ((d + 1 : Nat) : Int), .int 5]) = some (.ok (.int 60) .strong) := by
        simp [evE, evEs, thns_ok, biOk, biD, lenD, startS, hx]
      have e1 : (((d + 1 : Nat) : Int) == 0) = false := by rw [beq_eq_false_iff_ne]; omega
      have t1 := b_eq (ev_var (G := G) (F := run G T fu k) (n := 2) (d := .int ((d + 1 : Nat) : Int)) (δ := ((startS 8 [.lst (xs.map DV.int), .int at', .int ((d + 1 : Nat) : Int), .int 5]).set 4 (.val (.int n)))) rfl) (ev_int (i := 0))
      have t2 := b_eq (i_mod (ev_var (G := G) (F := run G T fu k) (n := 4) (d := .int n) (δ := ((startS 8 [.lst (xs.map DV.int), .int at', .int ((d + 1 : Nat) : Int), .int 5]).set 4 (.val (.int n)))) rfl) (ev_int (i := 7)) (by decide)) (ev_int (i := 0))
      have t3 := b_lt (ev_var (G := G) (F := run G T fu k) (n := 2) (d := .int ((d + 1 : Nat) : Int)) (δ := ((startS 8 [.lst (xs.map DV.int), .int at', .int ((d + 1 : Nat) : Int), .int 5]).set 4 (.val (.int n)))) rfl) (ev_var (n := 3) (d := .int 5) rfl)
      rw [e1] at t1
      have t4 : evE G (run G T fu k) (.and [.cmp .Eq (.bin .Mod (.var 4) (.int 7)) (.int 0), .cmp .Lt (.var 2) (.var 3)]) ((startS 8 [.lst (xs.map DV.int), .int at', .int ((d + 1 : Nat) : Int), .int 5]).set 4 (.val (.int n))) = some (.ok (.bl false) .strong) := by
        cases z : (n % 7 == 0) with
        | false => rw [z] at t2; exact ev_and2f (t := true) t2
        | true =>
          rw [z] at t2
          rw [decide_eq_false (fun q => hc ⟨beq_iff_eq.mp z, q⟩)] at t3
          exact ev_and2t t2 t3
      have m2 : ∀ x : Int, mulOk 2 x = true := fun x => by unfold mulOk; simp
      refine of_rt (go_nx (ev_set (d := .int n) (cl := .strong) (ev_ix (ev_var rfl) (i_mod (ev_var rfl) hlen (by decide)) hn) rfl) (go_ife (tst_bl (ev_or2f t1 t4)) (go_nx (ev_set (d := side s) (cl := .strong) (ev_ix ev_rc (i_mod (i_div (ev_var rfl) ev_int (by decide)) ev_int (by decide)) hs) rfl)
        (go_nx (ev_set (d := .int o) (cl := .strong) (by rw [← ho]; exact i_add ev_int (i_mod (i_div (ev_var rfl) ev_int (by decide)) ev_int (by decide))) rfl)
        (go_nx (ev_set (d := dv a) (cl := .strong) (ev_call (evs_cons (ev_var rfl) (evs_cons (i_add (i_mul ev_int (ev_var rfl) (m2 _)) ev_int) (evs_cons (i_sub (ev_var rfl) ev_int) (evs_cons (ev_var rfl) evs_nil)))) rfl a4) rfl) (go_rt (ev_ret (cl := .strong) ?_)))))))
      exact ev_tup (evs_cons ev_str (evs_cons (ev_var rfl) (evs_cons (ev_var rfl) (evs_cons (ev_var rfl) (evs_cons (ev_call (evs_cons (ev_var rfl) (evs_cons (i_add (i_mul ev_int (ev_var rfl) (m2 _)) ev_int) (evs_cons (i_sub (ev_var rfl) ev_int) (evs_cons (ev_var rfl) evs_nil)))) rfl b4) evs_nil))))) (Nat.le_of_ble_eq_true rfl) rfl
theorem e_long (xs : List Int) (hx : xs.length = 60) : ∃ p : Pl, ht p ≤ 12 ∧ lv p ≤ 13 ∧ ∀ k, run G T fu (k + 1) 9 [.lst (xs.map DV.int)] = some (.v (dv p) false) := by
  have key : ∃ p : Pl, ht p ≤ 12 ∧ lv p ≤ 13 ∧ ∀ k, evSs G (run G T fu k) fu d__law_long.body (startS 4 [.lst (xs.map DV.int)]) = some (.rt (dv p) false) := by
    obtain ⟨n0, h0⟩ := at_int (l := xs) (i := 0) (by omega) (by rw [hx]; omega)
    have turn : ∀ (j : Nat), j < 12 → ∃ (s : Bool) (o : Nat) (v : Int), ∀ (k : Nat) (p : Pl) (w : Sv), evSs G (run G T fu k) fu [.set 3 false (.tup [.str "end", .bin .Mod (.ix (.var 0) (.bin .Add (.var 2) (.int 1))) (.int 10)]), .set 1 false (.tup [.str "ask", .ix (.lst [.str "row", .str "column"]) (.bin .Mod (.ix (.var 0) (.var 2)) (.int 2)), .bin .Add (.int 1) (.bin .Mod (.ix (.var 0) (.var 2)) (.int 255)), .var 1, .var 3])]
        [.val (.lst (xs.map DV.int)), .val (dv p), .val (.int j), w] = some (.nx [.val (.lst (xs.map DV.int)), .val (dv (.ask s o p (.fin v))), .val (.int j), .val (dv (.fin v))]) := by
      intro j hj
      obtain ⟨n, hn⟩ := at_int (l := xs) (i := j) (by omega) (by rw [hx]; omega)
      obtain ⟨n', hn'⟩ := at_int (l := xs) (i := j + 1) (by omega) (by rw [hx]; omega)
      obtain ⟨s, hs⟩ := side_at n
      obtain ⟨o, ho⟩ := cards_of n
      refine ⟨s, o, n' % 10, fun k p w => go_nx (ev_set (d := dv (.fin (n' % 10))) (cl := .strong) ?_ rfl) (go_nx (ev_set (d := dv (.ask s o p (.fin (n' % 10)))) (cl := .strong) ?_ rfl) rfl)⟩
      · exact ev_tup (evs_cons ev_str (evs_cons (i_mod (ev_ix (ev_var rfl) (i_add (ev_var rfl) ev_int) hn') ev_int (by decide)) evs_nil)) (Nat.le_of_ble_eq_true rfl) rfl
      · exact ev_tup (evs_cons ev_str (evs_cons (ev_ix ev_rc (i_mod (ev_ix (ev_var rfl) (ev_var rfl) hn) ev_int (by decide)) hs) (evs_cons (by rw [← ho]; exact i_add ev_int (i_mod (ev_ix (ev_var rfl) (ev_var rfl) hn) ev_int (by decide))) (evs_cons (ev_var rfl) (evs_cons (ev_var rfl) evs_nil))))) (Nat.le_of_ble_eq_true rfl) rfl
    -- the plan behind m turns
    have lp : ∀ m : Nat, m ≤ 12 → ∃ p : Pl, ht p ≤ m ∧ lv p ≤ m + 1 ∧ ∀ k, ∃ z w, forGo (.one 2) (fun δ' => evSs G (run G T fu k) fu [.set 3 false (.tup [.str "end", .bin .Mod (.ix (.var 0) (.bin .Add (.var 2) (.int 1))) (.int 10)]), .set 1 false (.tup [.str "ask", .ix (.lst [.str "row", .str "column"]) (.bin .Mod (.ix (.var 0) (.var 2)) (.int 2)), .bin .Add (.int 1) (.bin .Mod (.ix (.var 0) (.var 2)) (.int 255)), .var 1, .var 3])] δ') (upTo 0 m)
        [.val (.lst (xs.map DV.int)), .val (dv (.fin (n0 % 10))), .no, .no] = some (.nx [.val (.lst (xs.map DV.int)), .val (dv p), z, w]) := by
      intro m
      induction m with
      | zero => exact fun _ => ⟨.fin (n0 % 10), Nat.le_refl _, Nat.le_refl _, fun k => ⟨.no, .no, rfl⟩⟩
      | succ m ih =>
        intro hm
        obtain ⟨p, p1, p2, p3⟩ := ih (by omega)
        obtain ⟨s, o, v, t⟩ := turn m (by omega)
        refine ⟨.ask s o p (.fin v), by unfold ht; unfold ht at *; simp; omega, by unfold lv; unfold lv at *; simp; omega, fun k => ?_⟩
        obtain ⟨z, w, e⟩ := p3 k
        refine ⟨.val (.int m), .val (dv (.fin v)), ?_⟩
        rw [show upTo 0 (m + 1) = upTo 0 m ++ [.int m] by unfold L2.upTo; rw [List.range_succ, List.map_append]; simp]
        rw [forGo_append e]
        have q := t k p w
        exact forGo_last rfl q
    obtain ⟨p, p1, p2, p3⟩ := lp 12 (Nat.le_refl _)
    refine ⟨p, p1, p2, fun k => ?_⟩
    obtain ⟨z, w, e⟩ := p3 k
    unfold d__law_long
    exact go_nx (ev_set (d := dv (.fin (n0 % 10))) (cl := .strong) (ev_tup (evs_cons ev_str (evs_cons (i_mod (ev_ix (ev_var rfl) ev_int h0) ev_int (by decide)) evs_nil)) (Nat.le_of_ble_eq_true rfl) rfl) rfl) (go_fo (ds := upTo 0 12) (cl := .fresh) rfl (.inr rfl) e (go_rt ((ev_ret (cl := .strong) (ev_var (d := dv p) rfl)).trans (by cases p <;> rfl))))
  obtain ⟨p, p1, p2, p3⟩ := key
  refine ⟨p, p1, p2, fun k => ?_⟩
  rw [run_of (fd := d__law_long) rfl rfl]
  have e := of_rt (p3 k)
  exact e
theorem stro_dv (p : Pl) : stro (dv p) .weak = true := dv_imm p
end k12

end
section
set_option Elab.async false
set_option linter.all false
set_option maxRecDepth 100000
set_option maxHeartbeats 4000000
namespace k12
open PySem L2
section
variable {fu : Nat} {F : Nat → List DV → Option Ou} {δ : List Sv} {G : Gs} {d : DV} {r : List MS}
theorem of_rtt (h : evSs G F fu r δ = some (.rtt d)) : Ou.of (evSs G F fu r δ) = some (.t d) := by rw [h]; rfl
theorem go_rtt {m : MS} (h : evS G F fu m δ = some (.rtt d)) : evSs G F fu (m :: r) δ = some (.rtt d) := by
  unfold evSs
  rw [h]
theorem ev_ret0 {es : List ME} {ds : List DV} {l : List (DV × Cl)} (h : evEs G F es δ = some (.ok ((.lst ds, .top) :: l))) (hl : l.length < mostLen) (hs : stros l = true) : evS G F fu (.ret0 es) δ = some (.rtt (.tup (.lst ds :: l.map (·.1)))) := by
  show Rs.thnS δ (evEs G F es δ) (fun l => ret0D l) = _
  rw [h]
  exact if_pos ⟨hl, hs⟩
theorem ev_callt {f : Nat} {es : List ME} {l : List (DV × Cl)} (ha : evEs G F es δ = some (.ok l)) (hs : (l.all fun p => p.2 == .strong || p.2 == .fresh) = true) (h : F f (l.map (·.1)) = some (.t d)) : evE G F (.call f es) δ = some (.ok d .ft) := by
  show Rs.thn (evEs G F es δ) (fun l => callD F f l) = _
  rw [ha]
  show callD F f l = _
  unfold callD
  rw [h, hs]
  rfl
theorem ev_ot {i : Nat} {e : ME} (h : evE G F e δ = some (.ok d .ft)) (hn : noOt i δ = true) : evS G F fu (.set i true e) δ = some (.nx (δ.set i (.ot d))) := by
  show Re.thnS δ (evE G F e δ) (fun d c => if true then setOwn i δ d c else (if stro d c then some (.nx (δ.set i (.val d))) else none)) = _
  rw [h]
  exact if_pos hn
theorem ev_app0 {i : Nat} {e : ME} {ds r : List DV} {c : Cl} (h0 : δ[i]? = some (.ot (.tup (.lst ds :: r)))) (h : evE G F e δ = some (.ok d c)) (hs : stro d c = true) (hl : ds.length < mostLen) : evS G F fu (.app0 i e) δ = some (.nx (δ.set i .no)) := by
  unfold evS
  rw [h0]
  show Re.thnS δ (evE G F e δ) (fun d c => if stro d c ∧ ds.length < mostLen then some (.nx (δ.set i .no)) else none) = _
  rw [h]
  exact if_pos ⟨hs, hl⟩
theorem ev_vot {n : Nat} (h : δ[n]? = some (.ot d)) : evE G F (.var n) δ = some (.ok d .weak) := by unfold evE; rw [h]
end
variable {fu k : Nat} {F : Nat → List DV → Option Ou} {δ : List Sv}
/-- the bits told on the way -/
def bts : Pl → Nat → Nat → List Int
  | .fin _, _, _ => []
  | .ask s o a b, i, j => if o.testBit (if s then i else j) then 1 :: bts b i j else 0 :: bts a i j
theorem bts_len : ∀ p i j, (bts p i j).length ≤ ht p
  | .fin _, _, _ => Nat.le_refl _
  | .ask s o a b, i, j => by
    have h1 := bts_len a i j
    have h2 := bts_len b i j
    unfold bts ht
    by_cases q : o.testBit (if s then i else j) = true
    · rw [if_pos q, List.length_cons]; omega
    · rw [if_neg q, List.length_cons]; omega
def ans (p : Pl) (i j : Nat) : DV := .tup [.lst ((bts p i j).map DV.int), .int (vl p i j)]
theorem cat1 (bs cs : List Int) (v : Int) : (bs ++ [v]) ++ cs = bs ++ v :: cs := by simp
theorem way_all (q : DV) (i j : Nat) : ∀ (p : Pl) (bs : List Int) (c d : Sv) (n : Nat), ht p < n → bs.length + ht p ≤ 10000 → ∃ (c' d' : Sv),
    whileGo (fun δ' => tstD (evE G (run G T fu k) wayC δ')) (fun δ' => evSs G (run G T fu k) fu wayB δ') n [.val q, .val (.int i), .val (.int j), .own (.lst (bs.map DV.int)), .val (dv p), c, d] = some (.nx [.val q, .val (.int i), .val (.int j), .own (.lst ((bs ++ bts p i j).map DV.int)), .val (.tup [.str "end", .int (vl p i j)]), c', d'])
  | p, _, _, _, 0, h, _ => absurd h (Nat.not_lt_zero _)
  | .fin v, bs, c, d, n + 1, _, _ => ⟨c, d, by
      rw [show bts (.fin v) i j = [] from rfl, List.append_nil]
      exact while_f (tst_bl (cl := .strong) (by simp [wayC, evE, thn_ok, dv, ixD, atD, ixNat, cmp_ea]))⟩
  | .ask s o a b, bs, c, d, n + 1, h, hl => by
    unfold ht at h hl
    have st := fun t ht => way_step (fu := fu) (k := k) q s o a b i j (bs.map DV.int) c d (by rw [List.length_map]; omega) t ht
    cases t : o.testBit (if s then i else j) with
    | true =>
      obtain ⟨c', d', e⟩ := way_all q i j b (bs ++ [1]) (.val (.int ((if s then i else j : Nat) : Int))) (.val (.int 1)) n (by omega) (by rw [List.length_append, List.length_singleton]; omega)
      refine ⟨c', d', ?_⟩
      rw [show vl (.ask s o a b) i j = vl b i j by rw [vl, t]; rfl, show bts (.ask s o a b) i j = 1 :: bts b i j by rw [bts, t]; rfl, ← cat1]
      rw [← map_snoc] at e
      exact while_t (tst_bl (cl := .strong) (by simp [wayC, evE, thn_ok, dv, ixD, atD, ixNat, cmp_aa])) (st true t) e
    | false =>
      obtain ⟨c', d', e⟩ := way_all q i j a (bs ++ [0]) (.val (.int ((if s then i else j : Nat) : Int))) (.val (.int 0)) n (by omega) (by rw [List.length_append, List.length_singleton]; omega)
      refine ⟨c', d', ?_⟩
      rw [show vl (.ask s o a b) i j = vl a i j by rw [vl, t]; rfl, show bts (.ask s o a b) i j = 0 :: bts a i j by rw [bts, t]; rfl, ← cat1]
      rw [← map_snoc] at e
      exact while_t (tst_bl (cl := .strong) (by simp [wayC, evE, thn_ok, dv, ixD, atD, ixNat, cmp_aa])) (st false t) e
theorem e_way (p : Pl) (i j : Nat) (h : ht p < fu) (hl : ht p ≤ 10000) : run G T fu (k + 1) 3 [dv p, .int i, .int j] = some (.t (ans p i j)) := by
  obtain ⟨c', d', e⟩ := way_all (fu := fu) (k := k) (dv p) i j p [] .no .no fu h (by rw [List.length_nil]; omega)
  rw [List.nil_append] at e
  rw [run_of (fd := d_way) rfl rfl]
  unfold d_way
  exact of_rtt (go_nx (ev_own rfl) (go_nx (ev_set (d := dv p) (cl := .strong) rfl rfl) (go_wh e (go_rtt (ev_ret0 (l := [(.int (vl p i j), .strong)]) (evs_cons (ev_vown rfl) (evs_cons (ev_ix (ev_var rfl) ev_int rfl) evs_nil)) (Nat.lt_of_lt_of_le (Nat.lt_succ_self 1) (by decide)) rfl)))))
theorem e_run (p : Pl) (i j : Nat) (hi : i < 8) (hj : j < 8) (h : ht p < fu) (hl : ht p ≤ 10000) : run G T fu (k + 3) 2 [dv p, .int i, .int j] = some (.t (ans p i j)) := by
  have e := e_way (fu := fu) (k := k + 1) p i j h hl
  rw [run_of (fd := d_run) rfl rfl]
  unfold d_run
  exact of_rtt (go_nx (ev_exp (ev_call (l := [(.int i, .strong), (.int 8, .strong)]) rfl rfl (e_card hi))) (go_nx (ev_exp (ev_call (l := [(.int j, .strong), (.int 8, .strong)]) rfl rfl (e_card hj))) (go_rtt (ev_rtt (ev_callt (l := [(dv p, .strong), (.int i, .strong), (.int j, .strong)]) rfl rfl e)))))
/-! ### the law's own way -/
def dueC : ME := .cmp .Eq (.ix (.var 0) (.int 0)) (.str "ask")
def dueB : List MS := [.set 4 false (.var 2), .iff (.cmp .Eq (.ix (.var 0) (.int 1)) (.str "row")) [.set 4 false (.var 1)] [], .set 5 false (.bin .Mod (.bin .FloorDiv (.ix (.var 0) (.int 2)) (.ix (.lst [.int 1, .int 2, .int 4, .int 8, .int 16, .int 32, .int 64, .int 128]) (.var 4))) (.int 2)), .app 3 (.var 5), .set 0 false (.ix (.var 0) (.bin .Add (.int 3) (.var 5)))]
theorem bit_div (o i : Nat) (t : Bool) (h : o.testBit i = t) : (o : Int) / ((2 ^ i : Nat) : Int) % 2 = if t then 1 else 0 := by
  rw [Nat.testBit_eq_decide_div_mod_eq] at h
  have e : (o : Int) / ((2 ^ i : Nat) : Int) % 2 = ((o / 2 ^ i % 2 : Nat) : Int) := by push_cast; rfl
  rw [e]
  have : o / 2 ^ i % 2 = 0 ∨ o / 2 ^ i % 2 = 1 := by omega
  subst h
  rcases this with h | h <;> rw [h] <;> rfl
theorem due_step (s : Bool) (o : Nat) (a b : Pl) (i j : Nat) (hi : i < 8) (hj : j < 8) (bs : List DV) (c d : Sv) (hl : bs.length ≤ 10000) (t : Bool) (ht : o.testBit (if s then i else j) = t) :
    evSs G (run G T fu k) fu dueB [.val (dv (.ask s o a b)), .val (.int i), .val (.int j), .own (.lst bs), c, d] = some (.nx [.val (dv (if t then b else a)), .val (.int i), .val (.int j), .own (.lst (bs ++ [.int (if t then 1 else 0)])), .val (.int ((if s then i else j : Nat) : Int)), .val (.int (if t then 1 else 0))]) := by
  have hbl : bs.length < mostLen := Nat.lt_of_le_of_lt hl (by decide)
  have hc : (if s then i else j) < 8 := by split <;> assumption
  have hb := bit_div o (if s then i else j) t ht
  have p8 := pow8 hc
  have pw : (0 : Int) < ((2 ^ (if s then i else j) : Nat) : Int) ∧ ((2 ^ (if s then i else j) : Nat) : Int) < 1073741824 := by
    have h1 := Nat.two_pow_pos (if s then i else j)
    have h2 : 2 ^ (if s then i else j) ≤ 2 ^ 8 := Nat.pow_le_pow_right (by decide) (by omega)
    constructor <;> omega
  have tail : ∀ c', evSs G (run G T fu k) fu [.set 5 false (.bin .Mod (.bin .FloorDiv (.ix (.var 0) (.int 2)) (.ix (.lst [.int 1, .int 2, .int 4, .int 8, .int 16, .int 32, .int 64, .int 128]) (.var 4))) (.int 2)), .app 3 (.var 5), .set 0 false (.ix (.var 0) (.bin .Add (.int 3) (.var 5)))]
      [.val (dv (.ask s o a b)), .val (.int i), .val (.int j), .own (.lst bs), .val (.int ((if s then i else j : Nat) : Int)), c'] = some (.nx [.val (dv (if t then b else a)), .val (.int i), .val (.int j), .own (.lst (bs ++ [.int (if t then 1 else 0)])), .val (.int ((if s then i else j : Nat) : Int)), .val (.int (if t then 1 else 0))]) := fun c' => by
    refine go_nx (ev_set (d := .int (if t then 1 else 0)) (cl := .strong) ?_ rfl) (go_nx (ev_app (d := .int (if t then 1 else 0)) (cl := .strong) rfl rfl rfl hbl) (go_nx (ev_set (d := dv (if t then b else a)) (cl := .strong) ?_ rfl) rfl))
    · rw [← hb]
      exact i_mod (i_div (ev_ix (ev_var rfl) ev_int rfl) (ev_ix (x := .lst [.int 1, .int 2, .int 4, .int 8, .int 16, .int 32, .int 64, .int 128]) (cx := .fresh) rfl (ev_var rfl) p8) pw) ev_int (by decide)
    · exact ev_ix (ev_var rfl) (i_add ev_int (ev_var rfl)) (by cases t <;> rfl)
  unfold dueB
  refine go_nx (ev_set (d := .int j) (cl := .strong) rfl rfl) ?_
  cases s with
  | true => exact go_ift (tst_bl (cl := .strong) (by simp [evE, dv, thn_ok, ixD, atD, ixNat, side, cmp_rr])) (go_nx (ev_set (d := .int i) (cl := .strong) rfl rfl) rfl) (tail _)
  | false => exact go_ife (tst_bl (cl := .strong) (by simp [evE, dv, thn_ok, ixD, atD, ixNat, side, cmp_cr])) (tail _)
theorem due_all (i j : Nat) (hi : i < 8) (hj : j < 8) : ∀ (p : Pl) (bs : List Int) (c d : Sv) (n : Nat), ht p < n → bs.length + ht p ≤ 10000 → ∃ (c' d' : Sv),
    whileGo (fun δ' => tstD (evE G (run G T fu k) dueC δ')) (fun δ' => evSs G (run G T fu k) fu dueB δ') n [.val (dv p), .val (.int i), .val (.int j), .own (.lst (bs.map DV.int)), c, d] = some (.nx [.val (.tup [.str "end", .int (vl p i j)]), .val (.int i), .val (.int j), .own (.lst ((bs ++ bts p i j).map DV.int)), c', d'])
  | p, _, _, _, 0, h, _ => absurd h (Nat.not_lt_zero _)
  | .fin v, bs, c, d, n + 1, _, _ => ⟨c, d, by
      rw [show bts (.fin v) i j = [] from rfl, List.append_nil]
      exact while_f (tst_bl (cl := .strong) (by simp [dueC, evE, thn_ok, dv, ixD, atD, ixNat, cmp_ea]))⟩
  | .ask s o a b, bs, c, d, n + 1, h, hl => by
    unfold ht at h hl
    have st := fun t ht => due_step (fu := fu) (k := k) s o a b i j hi hj (bs.map DV.int) c d (by rw [List.length_map]; omega) t ht
    cases t : o.testBit (if s then i else j) with
    | true =>
      obtain ⟨c', d', e⟩ := due_all i j hi hj b (bs ++ [1]) (.val (.int ((if s then i else j : Nat) : Int))) (.val (.int 1)) n (by omega) (by rw [List.length_append, List.length_singleton]; omega)
      refine ⟨c', d', ?_⟩
      rw [show vl (.ask s o a b) i j = vl b i j by rw [vl, t]; rfl, show bts (.ask s o a b) i j = 1 :: bts b i j by rw [bts, t]; rfl, ← cat1]
      rw [← map_snoc] at e
      exact while_t (tst_bl (cl := .strong) (by simp [dueC, evE, thn_ok, dv, ixD, atD, ixNat, cmp_aa])) (st true t) e
    | false =>
      obtain ⟨c', d', e⟩ := due_all i j hi hj a (bs ++ [0]) (.val (.int ((if s then i else j : Nat) : Int))) (.val (.int 0)) n (by omega) (by rw [List.length_append, List.length_singleton]; omega)
      refine ⟨c', d', ?_⟩
      rw [show vl (.ask s o a b) i j = vl a i j by rw [vl, t]; rfl, show bts (.ask s o a b) i j = 0 :: bts a i j by rw [bts, t]; rfl, ← cat1]
      rw [← map_snoc] at e
      exact while_t (tst_bl (cl := .strong) (by simp [dueC, evE, thn_ok, dv, ixD, atD, ixNat, cmp_aa])) (st false t) e
theorem e_due (p : Pl) (i j : Nat) (hi : i < 8) (hj : j < 8) (h : ht p < fu) (hl : ht p ≤ 10000) : run G T fu (k + 1) 10 [dv p, .int i, .int j] = some (.t (ans p i j)) := by
  obtain ⟨c', d', e⟩ := due_all (fu := fu) (k := k) i j hi hj p [] .no .no fu h (by rw [List.length_nil]; omega)
  rw [List.nil_append] at e
  rw [run_of (fd := d__law_due) rfl rfl]
  unfold d__law_due
  exact of_rtt (go_nx (ev_own rfl) (go_wh e (go_rtt (ev_ret0 (l := [(.int (vl p i j), .strong)]) (evs_cons (ev_vown rfl) (evs_cons (ev_ix (ev_var rfl) ev_int rfl) evs_nil)) (Nat.lt_of_lt_of_le (Nat.lt_succ_self 1) (by decide)) rfl))))
/-! ### the plan with its sides exchanged -/
def flip : Pl → Pl
  | .fin v => .fin v
  | .ask s o a b => .ask (!s) o (flip a) (flip b)
theorem flip_flip : ∀ p, flip (flip p) = p
  | .fin _ => rfl
  | .ask s o a b => by
    show Pl.ask (!!s) o (flip (flip a)) (flip (flip b)) = _
    rw [flip_flip a, flip_flip b, Bool.not_not]
theorem ht_flip : ∀ p, ht (flip p) = ht p
  | .fin _ => rfl
  | .ask s o a b => by unfold flip ht; rw [ht_flip a, ht_flip b]
theorem ans_flip (p : Pl) (i j : Nat) : ans (flip p) j i = ans p i j := by
  have h1 : ∀ p, vl (flip p) j i = vl p i j := fun p => by
    induction p with
    | fin _ => rfl
    | ask s o a b ha hb => cases s <;> simp [flip, vl, ha, hb]
  have h2 : ∀ p, bts (flip p) j i = bts p i j := fun p => by
    induction p with
    | fin _ => rfl
    | ask s o a b ha hb => cases s <;> simp [flip, bts, ha, hb]
  unfold ans
  rw [h1, h2]
theorem other (s : Bool) : gdxD G "OTHER_SIDE" (side s) = some (side (!s)) := by cases s <;> rfl
theorem ev_other {e : ME} {c : Cl} (s : Bool) (h : evE G F e δ = some (.ok (side s) c)) : evE G F (.gdx "OTHER_SIDE" e) δ = some (.ok (side (!s)) .strong) := by
  have q : (G.dcs.lookup (Str.ofString "OTHER_SIDE")).isSome = true := rfl
  show (if (G.dcs.lookup (Str.ofString "OTHER_SIDE")).isSome then Re.thn (evE G F e δ) (fun y _ => (gdxD G (Str.ofString "OTHER_SIDE") y).map fun d => .ok d .strong) else none) = _
  rw [if_pos q, h, thn_ok, other]
  rfl
theorem e_flip : ∀ (p : Pl) (k : Nat), ht p < k → run G T fu k 4 [dv p] = some (.v (dv (flip p)) false)
  | p, 0, h => absurd h (Nat.not_lt_zero _)
  | .fin v, k + 1, _ => by
    rw [run_of (fd := d_flipped_plan) rfl rfl]
    unfold d_flipped_plan
    exact of_rt (go_ifr (tst_bl (cl := .strong) (by simp [evE, dv, startS, thn_ok, ixD, atD, ixNat, cmp_ee])) (go_rt rfl))
  | .ask s o a b, k + 1, h => by
    unfold ht at h
    have ha := e_flip a k (by omega)
    have hb := e_flip b k (by omega)
    rw [run_of (fd := d_flipped_plan) rfl rfl]
    unfold d_flipped_plan
    refine of_rt (go_ife (tst_bl (cl := .strong) (by simp [evE, dv, startS, thn_ok, ixD, atD, ixNat, cmp_ae])) (go_rt (ev_ret (cl := .strong) (ev_tup (l := [(.str "ask", .strong), (side (!s), .strong), (.int o, .strong), (dv (flip a), .strong), (dv (flip b), .strong)]) ?_ (show 5 ≤ mostLen by decide) rfl))))
    exact evs_cons ev_str (evs_cons (ev_other s (ev_ix (ev_var rfl) ev_int rfl)) (evs_cons (ev_ix (ev_var rfl) ev_int rfl) (evs_cons (ev_call (evs_cons (ev_ix (ev_var rfl) ev_int rfl) evs_nil) rfl ha) (evs_cons (ev_call (evs_cons (ev_ix (ev_var rfl) ev_int rfl) evs_nil) rfl hb) evs_nil))))
end k12

end
section
set_option Elab.async false
set_option linter.all false
set_option maxRecDepth 100000
set_option maxHeartbeats 4000000
namespace k12
open PySem L2
variable {fu k : Nat} {F : Nat → List DV → Option Ou} {δ : List Sv}
theorem deq_pl : ∀ p, deq (dv p) (dv p) = true
  | .fin v => by unfold dv; simp [deq, deqs]
  | .ask s o a b => by
    have h1 := deq_pl a
    have h2 := deq_pl b
    unfold dv
    cases s <;> simp [deq, deqs, side, h1, h2]
theorem plain_str (n : Nat) (x : Str) (h : x.cps.all (· < 0x110000) = true) : DV.plain n (.str x) = true := by
  cases n <;> (unfold DV.plain; exact h)
theorem plain_pl : ∀ (p : Pl) (n : Nat), ht p < n → (dv p).plain n = true
  | p, 0, h => absurd h (Nat.not_lt_zero _)
  | .fin v, n + 1, _ => by
    show DV.plains n [.str "end", .int v] = true
    have e : DV.plain n (.str "end") = true := plain_str n _ (by decide +kernel)
    have e2 : DV.plain n (.int v) = true := by cases n <;> (unfold DV.plain; rfl)
    unfold DV.plains DV.plains DV.plains
    rw [e, e2]; rfl
  | .ask s o a b, n + 1, h => by
    unfold ht at h
    have h1 := plain_pl a n (by omega)
    have h2 := plain_pl b n (by omega)
    show DV.plains n [.str "ask", side s, .int o, dv a, dv b] = true
    have e : DV.plain n (.str "ask") = true := plain_str n _ (by decide +kernel)
    have e1 : DV.plain n (side s) = true := by cases s <;> exact plain_str n _ (by decide +kernel)
    have e2 : DV.plain n (.int o) = true := by cases n <;> (unfold DV.plain; rfl)
    unfold DV.plains DV.plains DV.plains DV.plains DV.plains DV.plains
    rw [e, e1, e2, h1, h2]; rfl
theorem same_pl (p : Pl) (h : ht p < 60) : cmpD .NotEq (dv p) (dv p) = some false := by
  show (if (dv p).plain 60 && (dv p).plain 60 then some (!deq (dv p) (dv p)) else none) = _
  rw [plain_pl p 60 h, deq_pl]
  rfl
theorem plains_ints (n : Nat) : ∀ r : List Int, DV.plains n (r.map DV.int) = true
  | [] => by unfold DV.plains; rfl
  | x :: r => by
    have ih := plains_ints n r
    rw [List.map_cons]
    unfold DV.plains
    rw [ih, Bool.and_true]
    cases n <;> (unfold DV.plain; rfl)
theorem deqs_ints : ∀ r : List Int, deqs (r.map DV.int) (r.map DV.int) = true
  | [] => rfl
  | x :: r => by
    have ih := deqs_ints r
    rw [List.map_cons]
    unfold deqs
    rw [ih, Bool.and_true]
    simp [deq]
theorem same_ans (p : Pl) (i j : Nat) : cmpD .Eq (ans p i j) (ans p i j) = some true := by
  have h1 : (ans p i j).plain 60 = true := by
    show DV.plains 59 [.lst ((bts p i j).map DV.int), .int (vl p i j)] = true
    have e : DV.plain 59 (.lst ((bts p i j).map DV.int)) = true := plains_ints 58 _
    have e2 : DV.plain 59 (.int (vl p i j)) = true := rfl
    unfold DV.plains DV.plains DV.plains
    rw [e, e2]; rfl
  have h2 : deq (ans p i j) (ans p i j) = true := by
    show deqs [.lst ((bts p i j).map DV.int), .int (vl p i j)] [.lst ((bts p i j).map DV.int), .int (vl p i j)] = true
    have e : deq (.lst ((bts p i j).map DV.int)) (.lst ((bts p i j).map DV.int)) = true := deqs_ints _
    unfold deqs deqs deqs
    rw [e]
    simp [deq]
  show (if (ans p i j).plain 60 && (ans p i j).plain 60 then some (deq (ans p i j) (ans p i j)) else none) = _
  rw [h1, h2]
  rfl
theorem e_told (p : Pl) (i j : Nat) (hp : ht p ≤ 12) : run G T fu (k + 2) 11 [ans p i j, ans p i j] = some (.v (.bl true) false) := by
  rw [run_of (fd := d__law_told) rfl rfl]
  have hi : ∀ x : Int, run G T fu (k + 1) 5 [.int x] = some (.v (.bl true) false) := fun x => e_int
  have hb := bts_len p i j
  have lp : ∃ δ', forGo (.one 2) (fun δ' => evSs G (run G T fu (k + 1)) fu [.iff (.not (.call 5 [.var 2])) [.ret (.bl false)] []] δ') ((bts p i j).map DV.int ++ [.int (vl p i j)]) (startS 3 [ans p i j, ans p i j]) = some (.nx δ') ∧ ∃ a, δ' = [.val (ans p i j), .val (ans p i j), a] := by
    refine forGo_all (I := fun δ' => ∃ a, δ' = [.val (ans p i j), .val (ans p i j), a]) (fun d hd δ' I => ?_) ⟨.no, rfl⟩
    obtain ⟨a, rfl⟩ := I
    have : ∃ x : Int, d = .int x := by
      rcases List.mem_append.mp hd with h | h
      · obtain ⟨x, _, e⟩ := List.mem_map.mp h
        exact ⟨x, e.symm⟩
      · exact ⟨_, List.mem_singleton.mp h⟩
    obtain ⟨x, rfl⟩ := this
    exact ⟨[.val (ans p i j), .val (ans p i j), .val (.int x)], _, rfl, go_ife (tst_bl (ev_not (x := true) (ev_call (evs_cons (ev_var rfl) evs_nil) rfl (hi x)))) rfl, _, rfl⟩
  obtain ⟨δ', h1, a, h2⟩ := lp
  have hl : ((bts p i j).map DV.int).length + 1 ≤ mostLen := by rw [List.length_map]; exact Nat.le_trans (show (bts p i j).length + 1 ≤ 13 by omega) (by decide)
  have w : walkD (evE G (run G T fu (k + 1)) (.bin .Add (.ix (.var 0) (.int 0)) (.lst [.ix (.var 0) (.int 1)])) (startS 3 [ans p i j, ans p i j])) = some (.ok ((bts p i j).map DV.int ++ [.int (vl p i j)]) .fresh) := by
    have e : evE G (run G T fu (k + 1)) (.bin .Add (.ix (.var 0) (.int 0)) (.lst [.ix (.var 0) (.int 1)])) (startS 3 [ans p i j, ans p i j]) = some (.ok (.lst ((bts p i j).map DV.int ++ [.int (vl p i j)])) .fresh) :=
      ev_bin (x := .lst ((bts p i j).map DV.int)) (cx := .strong) (y := .lst [.int (vl p i j)]) (cy := .fresh) rfl rfl (if_pos hl)
    rw [e]
    rfl
  unfold d__law_told
  subst h2
  exact of_rt (go_ife (tst_bl (x := false) (cl := .strong) rfl) (go_fo w (.inr rfl) h1 (go_rt (ev_ret (cl := .strong) (ev_cmp (ev_var rfl) (ev_var rfl) (same_ans p i j))))))
/-! ### cards that are none -/
def badL : List DV := [.int 8, .int (-1), .int 10000, .bl true, .bl false, .non, .str "1", .lst [.int 1]]
theorem bad_int {d : DV} (h : d ∈ badL) : run G T fu (k + 1) 0 [d, .int 0, .int 7] = some (.v (.bl false) false) := by
  rw [run_of (fd := d_is_int) rfl rfl]
  unfold badL at h
  rcases List.mem_cons.mp h with rfl | h
  · rfl
  rcases List.mem_cons.mp h with rfl | h
  · rfl
  rcases List.mem_cons.mp h with rfl | h
  · rfl
  rcases List.mem_cons.mp h with rfl | h
  · rfl
  rcases List.mem_cons.mp h with rfl | h
  · rfl
  rcases List.mem_cons.mp h with rfl | h
  · rfl
  rcases List.mem_cons.mp h with rfl | h
  · rfl
  rcases List.mem_cons.mp h with rfl | h
  · rfl
  cases h
theorem card_bad {d : DV} (h : d ∈ badL) : run G T fu (k + 2) 1 [d, .int 8] = some (.x "NoCard") := by
  rw [run_of (fd := d_check_card) rfl rfl]
  unfold d_check_card
  have t := tst_bl (ev_not (x := false) (ev_call (G := G) (F := run G T fu (k + 1)) (f := 0) (δ := startS 2 [d, .int 8]) (es := [.var 0, .int 0, .bin .Sub (.var 1) (.int 1)]) (l := [(d, .strong), (.int 0, .strong), (.int 7, .strong)]) rfl rfl (bad_int h)))
  exact of_ex (go_ex ((ev_if t).trans rfl))
theorem run_bad1 {a b c : DV} (h : b ∈ badL) : run G T fu (k + 3) 2 [a, b, c] = some (.x "NoCard") := by
  rw [run_of (fd := d_run) rfl rfl]
  unfold d_run
  exact of_ex (go_ex (ev_expx (ev_callx (l := [(b, .strong), (.int 8, .strong)]) rfl (card_bad h))))
theorem run_bad2 {a c : DV} {i : Nat} (hi : i < 8) (h : c ∈ badL) : run G T fu (k + 3) 2 [a, .int i, c] = some (.x "NoCard") := by
  rw [run_of (fd := d_run) rfl rfl]
  unfold d_run
  exact of_ex (go_nx (ev_exp (ev_call (l := [(.int i, .strong), (.int 8, .strong)]) rfl rfl (e_card hi))) (go_ex (ev_expx (ev_callx (l := [(c, .strong), (.int 8, .strong)]) rfl (card_bad h)))))
theorem e_refused {t a b : DV} (h : run G T fu k 2 [t, a, b] = some (.x "NoCard")) : run G T fu (k + 1) 12 [t, a, b] = some (.v (.bl true) false) := by
  rw [run_of (fd := d__law_refused) rfl rfl]
  unfold d__law_refused
  have b1 : evSs G (run G T fu k) fu [.exp (.call 2 [.var 0, .var 1, .var 2])] [.val t, .val a, .val b, .val .non, .no] = some (.ex "NoCard" [.val t, .val a, .val b, .val .non, .no]) :=
    go_ex (ev_expx (ev_callx (evs_cons (ev_var rfl) (evs_cons (ev_var rfl) (evs_cons (ev_var rfl) evs_nil))) h))
  have b2 : evS G (run G T fu k) fu (.tryc [.exp (.call 2 [.var 0, .var 1, .var 2])] "TalkError" 4 3) [.val t, .val a, .val b, .val .non, .no] = some (.nx [.val t, .val a, .val b, .val (.exc "NoCard"), .no]) := by
    show tryD G "TalkError" 4 3 (evSs G (run G T fu k) fu [.exp (.call 2 [.var 0, .var 1, .var 2])] [.val t, .val a, .val b, .val .non, .no]) = _
    rw [b1]
    rfl
  exact of_rt (go_nx (ev_set (d := .non) (cl := .strong) rfl rfl) (go_nx b2 (go_ife (tst_bl (x := false) (cl := .strong) rfl) (go_rt rfl))))
end k12

end
section
set_option Elab.async false
set_option linter.all false
set_option maxRecDepth 100000
set_option maxHeartbeats 4000000
namespace k12
open PySem L2
theorem many (ns : List Int) : ∃ m : Nat, m ≤ 50 ∧ (0 < m → 3 + m ≤ ns.length) ∧ ∀ (F : Nat → List DV → Option Ou) (δ : List Sv), δ[0]? = some (.val (.scr ns)) → walkD (evE G F (.rng [.bi .min [.int 50, .bi .max [.int 0, .bin .Sub (.bi .len [.var 0]) (.int 3)]]]) δ) = some (.ok (upTo 0 m) .fresh) := by
  let x : Int := (ns.length : Int) - 3
  let mx : Int := if x > 0 then x else 0
  let mn : Int := if mx < 50 then mx else 50
  have h0 : 0 ≤ mn ∧ mn ≤ 50 ∧ (0 < mn → mn ≤ x) := by
    show 0 ≤ (if (if x > 0 then x else 0) < 50 then (if x > 0 then x else 0) else 50) ∧ _ ∧ _
    simp only [mn, mx]
    repeat' split
    all_goals omega
  refine ⟨mn.toNat, by omega, fun h => by have := h0.2.2 (by omega); simp only [x] at this; omega, fun F δ h0' => ?_⟩
  have e1 : evE G F (.bi .len [.var 0]) δ = some (.ok (.int ns.length) .strong) := by
    show (if biOk .len then Rs.thn (evEs G F [.var 0] δ) (fun l => biD .len l) else none) = _
    rw [evs_cons (ev_var h0') evs_nil]
    rfl
  have e2 := i_sub e1 (ev_int (i := 3))
  have e3 : evE G F (.bi .max [.int 0, .bin .Sub (.bi .len [.var 0]) (.int 3)]) δ = some (.ok (.int mx) .strong) := by
    show Rs.thn (evEs G F [.int 0, .bin .Sub (.bi .len [.var 0]) (.int 3)] δ) (fun l => maxD l) = _
    rw [evs_cons (ev_int (i := 0)) (evs_cons e2 evs_nil)]
    rfl
  have e4 : evE G F (.bi .min [.int 50, .bi .max [.int 0, .bin .Sub (.bi .len [.var 0]) (.int 3)]]) δ = some (.ok (.int mn) .strong) := by
    show Rs.thn (evEs G F [.int 50, .bi .max [.int 0, .bin .Sub (.bi .len [.var 0]) (.int 3)]] δ) (fun l => minD l) = _
    rw [evs_cons (ev_int (i := 50)) (evs_cons e3 evs_nil)]
    rfl
  show walkD (Rs.thn (evEs G F [.bi .min [.int 50, .bi .max [.int 0, .bin .Sub (.bi .len [.var 0]) (.int 3)]]] δ) (fun l => (rngD l).map fun ds => .ok (.lst ds) .fresh)) = _
  rw [evs_cons e4 evs_nil, thns_ok]
  have hs : (small62 mn && decide (mn ≤ (mostLen : Int))) = true := by
    rw [Bool.and_eq_true, decide_eq_true_iff]
    refine ⟨?_, Int.le_trans h0.2.1 (by decide)⟩
    unfold small62
    rw [Bool.and_eq_true, decide_eq_true_iff, decide_eq_true_iff]
    exact ⟨Int.le_trans (by decide) h0.1, Int.lt_of_le_of_lt h0.2.1 (by decide)⟩
  show walkD ((if small62 mn && decide (mn ≤ (mostLen : Int)) then some (upTo 0 mn.toNat) else none).map fun ds => .ok (.lst ds) .fresh) = _
  rw [if_pos hs]
  rfl

def tB : List MS := [.set 6 false (.bin .Mod (.var 5) (.int 8)), .set 7 false (.bin .Mod (.bin .FloorDiv (.var 5) (.int 8)) (.int 8)), .set 8 false (.call 10 [.var 3, .var 6, .var 7]), .set 9 true (.call 2 [.var 3, .var 6, .var 7]), .iff (.or [.not (.call 11 [.var 9, .var 8]), .not (.call 11 [.call 2 [.var 4, .var 7, .var 6], .var 8])]) [.ret (.bl false)] [], .app0 9 (.int 2), .iff (.not (.call 11 [.call 2 [.var 3, .var 6, .var 7], .var 8])) [.ret (.bl false)] []]
/-- one pair of cards -/
theorem turn (p : Pl) (hp : ht p ≤ 12) (v : Int) (s0 s1 s2 s6 s7 s8 s10 : Sv) (n0 : ∀ z, s0 ≠ .ot z) (n1 : ∀ z, s1 ≠ .ot z) (n2 : ∀ z, s2 ≠ .ot z) (n10 : ∀ z, s10 ≠ .ot z) :
    ∃ t6 t7 t8, evSs G (run G T 100 39) 100 tB [s0, s1, s2, .val (dv p), .val (dv (flip p)), .val (.int v), s6, s7, s8, .no, s10] = some (.nx [s0, s1, s2, .val (dv p), .val (dv (flip p)), .val (.int v), t6, t7, t8, .no, s10]) := by
  obtain ⟨i, hi⟩ : ∃ i : Nat, v % 8 = (i : Int) := ⟨(v % 8).toNat, by omega⟩
  obtain ⟨j, hj⟩ : ∃ j : Nat, v / 8 % 8 = (j : Int) := ⟨(v / 8 % 8).toNat, by omega⟩
  have hi8 : i < 8 := by omega
  have hj8 : j < 8 := by omega
  have r1 := e_run (fu := 100) (k := 36) p i j hi8 hj8 (by omega) (by omega)
  have r2 := e_run (fu := 100) (k := 36) (flip p) j i hj8 hi8 (by rw [ht_flip]; omega) (by rw [ht_flip]; omega)
  rw [ans_flip] at r2
  have d1 := e_due (fu := 100) (k := 38) p i j hi8 hj8 (by omega) (by omega)
  have t1 := e_told (fu := 100) (k := 37) p i j hp
  have bl := bts_len p i j
  have hb : ((bts p i j).map DV.int).length < mostLen := by rw [List.length_map]; exact Nat.lt_of_le_of_lt (show (bts p i j).length ≤ 12 by omega) (by decide)
  refine ⟨.val (.int i), .val (.int j), .val (ans p i j), ?_⟩
  unfold tB
  refine go_nx (ev_set (d := .int i) (cl := .strong) (by rw [← hi]; exact i_mod (ev_var rfl) ev_int (by decide)) rfl) (go_nx (ev_set (d := .int j) (cl := .strong) (by rw [← hj]; exact i_mod (i_div (ev_var rfl) ev_int (by decide)) ev_int (by decide)) rfl)
    (go_nx (ev_set (d := ans p i j) (cl := .ft) (ev_callt (evs_cons (ev_var rfl) (evs_cons (ev_var rfl) (evs_cons (ev_var rfl) evs_nil))) rfl d1) rfl)
    (go_nx (ev_ot (d := ans p i j) (ev_callt (evs_cons (ev_var rfl) (evs_cons (ev_var rfl) (evs_cons (ev_var rfl) evs_nil))) rfl r1) ?_)
    (go_ife (tst_bl (ev_or2f (ev_not (x := true) (ev_callw (evs_cons (ev_vot rfl) (evs_cons (ev_var rfl) evs_nil)) rfl t1)) (ev_not (x := true) (ev_callw (evs_cons (ev_callt (evs_cons (ev_var rfl) (evs_cons (ev_var rfl) (evs_cons (ev_var rfl) evs_nil))) rfl r2) (evs_cons (ev_var rfl) evs_nil)) rfl t1))))
    (go_nx (ev_app0 (i := 9) (ds := (bts p i j).map DV.int) (r := [.int (vl p i j)]) (c := .strong) rfl ev_int rfl hb)
    (go_ife (tst_bl (ev_not (x := true) (ev_callw (evs_cons (ev_callt (evs_cons (ev_var rfl) (evs_cons (ev_var rfl) (evs_cons (ev_var rfl) evs_nil))) rfl r1) (evs_cons (ev_var rfl) evs_nil)) rfl t1))) rfl))))))
  unfold noOt
  rw [List.all_eq_true]
  intro q hq
  have hq := List.mem_range.mp hq
  have hq : q < 11 := hq
  have : q = 0 ∨ q = 1 ∨ q = 2 ∨ q = 3 ∨ q = 4 ∨ q = 5 ∨ q = 6 ∨ q = 7 ∨ q = 8 ∨ q = 9 ∨ q = 10 := by omega
  rcases this with rfl | rfl | rfl | rfl | rfl | rfl | rfl | rfl | rfl | rfl | rfl
  · cases s0 <;> first | rfl | exact absurd rfl (n0 _)
  · cases s1 <;> first | rfl | exact absurd rfl (n1 _)
  · cases s2 <;> first | rfl | exact absurd rfl (n2 _)
  · rfl
  · rfl
  · rfl
  · rfl
  · rfl
  · rfl
  · rfl
  · cases s10 <;> first | rfl | exact absurd rfl (n10 _)
def bads : ME := .lst [.int 8, .neg (.int 1), .int 10000, .bl true, .bl false, .non, .str "1", .lst [.int 1]]
theorem ev_bads {F : Nat → List DV → Option Ou} {δ : List Sv} : evE G F bads δ = some (.ok (.lst badL) .fresh) := rfl
theorem bad_at (n : Int) : ∃ d ∈ badL, ixD (.lst badL) (.int (n % 8)) = some d := by
  have : n % 8 = 0 ∨ n % 8 = 1 ∨ n % 8 = 2 ∨ n % 8 = 3 ∨ n % 8 = 4 ∨ n % 8 = 5 ∨ n % 8 = 6 ∨ n % 8 = 7 := by omega
  unfold badL
  rcases this with h | h | h | h | h | h | h | h <;> rw [h] <;> exact ⟨_, by simp, rfl⟩
theorem law_run : ∀ ns : List Int, ns.length ≤ 63 → run G T 100 40 13 [.scr ns] = some (.v (.bl true) false) := by
  intro ns hns
  rw [run_of (fd := d_law) rfl rfl]
  have cells := fun j => e_cell (fu := 100) (k := 38) ns j
  obtain ⟨v0, c0⟩ := cells 0
  obtain ⟨v1, c1⟩ := cells 1
  obtain ⟨v2, c2⟩ := cells 2
  obtain ⟨xs0, hx0, st⟩ := e_stream (fu := 100) (k := 38) v0 60 (by decide)
  obtain ⟨m, m1, m2, m3⟩ := many ns
  obtain ⟨δ1, l1, xs, z, hz, hx, rfl⟩ := forGo_cnt (i := 2) (I := fun _ δ => ∃ (xs : List Int) (z : Sv), (∀ y, z ≠ .ot y) ∧ xs.length = 60 ∧ δ = [.val (.scr ns), .own (.lst (xs.map DV.int)), z, .no, .no, .no, .no, .no, .no, .no, .no])
    (body := fun δ' => evSs G (run G T 100 39) 100 [.seti 1 (.bin .Add (.int 8) (.var 2)) (.bin .Mod (.ix (.var 0) (.bin .Add (.int 3) (.var 2))) (.int 2147483647))] δ') m 0 (δ := [.val (.scr ns), .own (.lst (xs0.map DV.int)), .no, .no, .no, .no, .no, .no, .no, .no, .no])
    (fun j hj δ I => by
      obtain ⟨xs, z, hz, hx, rfl⟩ := I
      rw [show (0 : Int) + (j : Int) = j by omega]
      have hix : ∃ v, ixD (.scr ns) (.int (3 + (j : Int))) = some (.int v) := by
        have h3 : 3 + j < ns.length := by have := m2 (by omega); omega
        refine ⟨ns[3 + j], ?_⟩
        have : (3 : Int) + (j : Int) = ((3 + j : Nat) : Int) := by push_cast; rfl
        rw [this]
        show ((ixNat ns.length ((3 + j : Nat) : Int)).bind fun j => ns[j]?).map DV.int = _
        rw [ix_of h3, Option.bind_some, List.getElem?_eq_getElem h3]
        rfl
      obtain ⟨v, hv⟩ := hix
      obtain ⟨D, hD⟩ : ∃ D : Int, v % 2147483647 = D := ⟨_, rfl⟩
      refine ⟨_, go_nx (ev_seti (d := .int D) (cl := .strong) (n := 8 + (j : Int)) (cx := .strong) (j := 8 + j) rfl ?_ (i_add ev_int (ev_var rfl)) rfl ?_) rfl, xs.set (8 + j) D, .val (.int j), (fun y h => by cases h), by rw [List.length_set]; exact hx, ?_⟩
      · rw [← hD]; exact i_mod (ev_ix (ev_var rfl) (i_add ev_int (ev_var rfl)) hv) ev_int (by decide)
      · have : (8 : Int) + (j : Int) = ((8 + j : Nat) : Int) := by push_cast; rfl
        rw [this]
        exact ix_of (by rw [List.length_map, hx]; omega)
      · rw [List.map_set]
        rfl) ⟨xs0, .no, (fun y h => by cases h), hx0, rfl⟩
  obtain ⟨a1, h1⟩ := at_int (l := xs) (i := 1) (by omega) (by rw [hx]; omega)
  obtain ⟨a2, h2⟩ := at_int (l := xs) (i := 2) (by omega) (by rw [hx]; omega)
  obtain ⟨a3, h3⟩ := at_int (l := xs) (i := 3) (by omega) (by rw [hx]; omega)
  obtain ⟨a4, h4⟩ := at_int (l := xs) (i := 4) (by omega) (by rw [hx]; omega)
  obtain ⟨dp, hdp⟩ : ∃ d : Nat, a1 % 7 = (d : Int) := ⟨(a1 % 7).toNat, by omega⟩
  obtain ⟨p1, p11, p12, p13⟩ := e_plan (fu := 100) xs hx dp 0
  obtain ⟨p2, p21, p22, p23⟩ := e_long (fu := 100) xs hx
  have q1 := p13 39 (by omega)
  rw [← hdp] at q1
  obtain ⟨bad, bm, bh⟩ := bad_at a3
  obtain ⟨g, hg⟩ : ∃ g : Nat, a4 % 8 = (g : Int) := ⟨(a4 % 8).toNat, by omega⟩
  have hg8 : g < 8 := by omega
  obtain ⟨cut, hcut, hcl⟩ : ∃ ys : List Int, cutD (ns.map DV.int) (some 3) (some 43) = ys.map DV.int ∧ ys.length ≤ 63 := by
    refine ⟨(ns.drop (slIx (ns.map DV.int).length 0 (some 3))).take (slIx (ns.map DV.int).length (ns.map DV.int).length (some 43) - slIx (ns.map DV.int).length 0 (some 3)), ?_, ?_⟩
    · unfold cutD
      rw [List.map_take, List.map_drop]
    · rw [List.length_take, List.length_drop]
      omega
  have rest : ∀ p : Pl, ht p ≤ 12 → evSs G (run G T 100 39) 100 [.set 4 false (.call 4 [.var 3]), .iff (.cmp .NotEq (.call 4 [.var 4]) (.var 3)) [.ret (.bl false)] [], .fo (.one 5) (.bin .Add (.lst [.call 6 [.var 0, .int 1], .call 6 [.var 0, .int 2]]) (.sl (.var 0) (.int 3) (.int 43))) tB, .set 10 false (.ix bads (.bin .Mod (.ix (.var 1) (.int 3)) (.int 8))), .iff (.not (.call 12 [.var 3, .var 10, .bin .Mod (.ix (.var 1) (.int 4)) (.int 8)])) [.ret (.bl false)] [], .ret (.call 12 [.var 3, .bin .Mod (.ix (.var 1) (.int 4)) (.int 8), .var 10])]
      [.val (.scr ns), .own (.lst (xs.map DV.int)), z, .val (dv p), .no, .no, .no, .no, .no, .no, .no] = some (.rt (.bl true) false) := by
    intro p hp
    have f1 := e_flip (fu := 100) p 39 (by omega)
    have f2 := e_flip (fu := 100) (flip p) 39 (by rw [ht_flip]; omega)
    rw [flip_flip] at f2
    have w : walkD (evE G (run G T 100 39) (.bin .Add (.lst [.call 6 [.var 0, .int 1], .call 6 [.var 0, .int 2]]) (.sl (.var 0) (.int 3) (.int 43))) [.val (.scr ns), .own (.lst (xs.map DV.int)), z, .val (dv p), .val (dv (flip p)), .no, .no, .no, .no, .no, .no]) = some (.ok ([.int v1, .int v2] ++ cut.map DV.int) .fresh) := by
      have hl : 2 + (cut.map DV.int).length ≤ mostLen := by rw [List.length_map]; exact Nat.le_trans (show 2 + cut.length ≤ 65 by omega) (by decide)
      have e2 : evE G (run G T 100 39) (.sl (.var 0) (.int 3) (.int 43)) [.val (.scr ns), .own (.lst (xs.map DV.int)), z, .val (dv p), .val (dv (flip p)), .no, .no, .no, .no, .no, .no] = some (.ok (.lst (cut.map DV.int)) .fresh) := by
        rw [← hcut]
        rfl
      have e := ev_bin (op := .Add) (ev_lst (F := run G T 100 39) (es := [.call 6 [.var 0, .int 1], .call 6 [.var 0, .int 2]]) (δ := [.val (.scr ns), .own (.lst (xs.map DV.int)), z, .val (dv p), .val (dv (flip p)), .no, .no, .no, .no, .no, .no]) (evs_cons (ev_call (l := [(.scr ns, .strong), (.int 1, .strong)]) rfl rfl c1) (evs_cons (ev_call (l := [(.scr ns, .strong), (.int 2, .strong)]) rfl rfl c2) evs_nil)) (show 2 ≤ mostLen by decide) rfl) e2 (if_pos hl)
      rw [e]
      rfl
    have lp : ∃ δ', forGo (.one 5) (fun δ' => evSs G (run G T 100 39) 100 tB δ') ([.int v1, .int v2] ++ cut.map DV.int) [.val (.scr ns), .own (.lst (xs.map DV.int)), z, .val (dv p), .val (dv (flip p)), .no, .no, .no, .no, .no, .no] = some (.nx δ') ∧ ∃ s5 s6 s7 s8, δ' = [.val (.scr ns), .own (.lst (xs.map DV.int)), z, .val (dv p), .val (dv (flip p)), s5, s6, s7, s8, .no, .no] := by
      refine forGo_all (I := fun δ' => ∃ s5 s6 s7 s8, δ' = [.val (.scr ns), .own (.lst (xs.map DV.int)), z, .val (dv p), .val (dv (flip p)), s5, s6, s7, s8, .no, .no]) (fun d hd δ' I => ?_) ⟨.no, .no, .no, .no, rfl⟩
      obtain ⟨s5, s6, s7, s8, rfl⟩ := I
      have : ∃ v : Int, d = .int v := by
        rcases List.mem_append.mp hd with h | h
        · rcases List.mem_cons.mp h with h | h
          · exact ⟨_, h⟩
          · exact ⟨_, List.mem_singleton.mp h⟩
        · obtain ⟨x, _, e⟩ := List.mem_map.mp h
          exact ⟨x, e.symm⟩
      obtain ⟨v, rfl⟩ := this
      obtain ⟨t6, t7, t8, e⟩ := turn p hp v (.val (.scr ns)) (.own (.lst (xs.map DV.int))) z s6 s7 s8 .no (fun y h => by cases h) (fun y h => by cases h) hz (fun y h => by cases h)
      exact ⟨_, _, rfl, e, _, t6, t7, t8, rfl⟩
    obtain ⟨δ', l2, s5, s6, s7, s8, rfl⟩ := lp
    have k1 := e_refused (fu := 100) (k := 38) (t := dv p) (a := bad) (b := .int g) (run_bad1 (k := 35) bm)
    have k2 := e_refused (fu := 100) (k := 38) (t := dv p) (a := .int g) (b := bad) (run_bad2 (k := 35) hg8 bm)
    have g4 : ∀ δ : List Sv, δ[1]? = some (.own (.lst (xs.map DV.int))) → evE G (run G T 100 39) (.bin .Mod (.ix (.var 1) (.int 4)) (.int 8)) δ = some (.ok (.int g) .strong) := fun δ h => by
      rw [← hg]
      exact i_mod (ev_ix (ev_vown h) ev_int h4) ev_int (by decide)
    exact go_nx (ev_set (ev_call (evs_cons (ev_var rfl) evs_nil) rfl f1) rfl) (go_ife (tst_bl (ev_cmp (ev_call (evs_cons (ev_var rfl) evs_nil) rfl f2) (ev_var rfl) (same_pl p (by omega)))) (go_fo w (.inr rfl) l2
      (go_nx (ev_set (ev_ix ev_bads (i_mod (ev_ix (ev_vown rfl) ev_int h3) ev_int (by decide)) bh) rfl)
      (go_ife (tst_bl (ev_not (x := true) (ev_call (evs_cons (ev_var rfl) (evs_cons (ev_var rfl) (evs_cons (g4 _ rfl) evs_nil))) rfl k1)))
      (go_rt (ev_ret (ev_call (evs_cons (ev_var rfl) (evs_cons (g4 _ rfl) (evs_cons (ev_var rfl) evs_nil))) rfl k2)))))))
  have t := b_eq (i_mod (ev_ix (ev_vown (G := G) (F := run G T 100 39) (n := 1) (d := .lst (xs.map DV.int)) (δ := [.val (.scr ns), .own (.lst (xs.map DV.int)), z, .val (dv p1), .no, .no, .no, .no, .no, .no, .no]) rfl) (ev_int (i := 2)) h2) (ev_int (i := 4)) (by decide)) (ev_int (i := 0))
  unfold d_law
  refine of_rt (go_nx (ev_own (ev_call (evs_cons (ev_call (l := [(.scr ns, .strong), (.int 0, .strong)]) rfl rfl c0) (evs_cons ev_int evs_nil)) rfl st)) (go_fo (m3 _ _ rfl) (.inr rfl) l1 (go_nx (ev_set (d := dv p1) (cl := .weak) (ev_callw (evs_cons (ev_vown rfl) (evs_cons ev_int (evs_cons (i_mod (ev_ix (ev_vown rfl) ev_int h1) ev_int (by decide)) (evs_cons ev_int evs_nil)))) rfl q1) (stro_dv p1)) ?_)))
  cases w : (a2 % 4 == 0) with
  | true => rw [w] at t; exact go_ift (tst_bl t) (go_nx (ev_set (d := dv p2) (cl := .weak) (ev_callw (evs_cons (ev_vown rfl) evs_nil) rfl (p23 38)) (stro_dv p2)) rfl) (rest p2 p21)
  | false => rw [w] at t; exact go_ife (tst_bl t) (rest p1 (by omega))
end k12

end
section
set_option Elab.async false
set_option linter.all false
set_option maxRecDepth 100000
set_option maxHeartbeats 4000000
namespace k12
open PySem L2 PySem.Spec PyProof.Rows
def top (i : Nat) : Stmt := PySem.Challenge.pw_talkleast_k12_plans_run.main.body.getD i (.Pass ⟨0, 0, 0, 0⟩)
def fn : List Str := ["is_int", "check_card", "run", "way", "flipped_plan", "_law_int", "_law_cell_at", "_law_stream", "_law_plan", "_law_long", "_law_due", "_law_told", "_law_refused", "law"]
def bl : List Str := ["isinstance", "int", "bool", "len", "range", "tuple", "list", "ValueError", "min", "max"]
def cl : List Str := ["TalkError", "NoTable", "NoCard", "NoPlan"]
theorem ok0 : okD fn bl cl d_is_int ["thing", "least", "most"] ["thing", "least", "most"] (top 1) = true := by decide +kernel
theorem ok1 : okD fn bl cl d_check_card ["card", "size"] ["card", "size"] (top 9) = true := by decide +kernel
theorem ok2 : okD fn bl cl d_run ["plan", "row", "column"] ["plan", "row", "column"] (top 11) = true := by decide +kernel
theorem ok3 : okD fn bl cl d_way ["plan", "row", "column", "bits", "place", "card", "bit"] ["plan", "row", "column"] (top 12) = true := by decide +kernel
theorem ok4 : okD fn bl cl d_flipped_plan ["plan"] ["plan"] (top 15) = true := by decide +kernel
theorem ok5 : okD fn bl cl d__law_int ["_law_found"] ["_law_found"] (top 17) = true := by decide +kernel
theorem ok6 : okD fn bl cl d__law_cell_at ["_law_script", "_law_k"] ["_law_script", "_law_k"] (top 18) = true := by decide +kernel
theorem ok7 : okD fn bl cl d__law_stream ["_law_cell", "_law_many", "_law_found", "_law_number", "_law_k"] ["_law_cell", "_law_many"] (top 19) = true := by decide +kernel
theorem ok8 : okD fn bl cl d__law_plan ["_law_xs", "_law_at", "_law_depth", "_law_wide", "_law_number", "_law_side", "_law_cards", "_law_no"] ["_law_xs", "_law_at", "_law_depth", "_law_wide"] (top 20) = true := by decide +kernel
theorem ok9 : okD fn bl cl d__law_long ["_law_xs", "_law_plan_here", "_law_k", "_law_other"] ["_law_xs"] (top 21) = true := by decide +kernel
theorem ok10 : okD fn bl cl d__law_due ["_law_plan_here", "_law_row", "_law_column", "_law_bits", "_law_card", "_law_bit"] ["_law_plan_here", "_law_row", "_law_column"] (top 22) = true := by decide +kernel
theorem ok11 : okD fn bl cl d__law_told ["_law_found", "_law_due_here", "_law_number"] ["_law_found", "_law_due_here"] (top 23) = true := by decide +kernel
theorem ok12 : okD fn bl cl d__law_refused ["_law_plan_here", "_law_row", "_law_column", "_law_caught", "error"] ["_law_plan_here", "_law_row", "_law_column"] (top 24) = true := by decide +kernel
theorem ok13 : okD fn bl cl d_law ["_law_script", "_law_xs", "_law_k", "_law_plan_here", "_law_other", "_law_cell", "_law_row", "_law_column", "_law_due_here", "_law_found", "_law_bad"] ["_law_script"] (top 25) = true := by decide +kernel
theorem all_mk {l : PySem.W.OpenLaw} {w : World} {K : PySem.W.Frag} {h : Heap} {mg : Str → Option Value} {fa f0 f1 f2 f3 f4 f5 f6 f7 f8 f9 f10 f11 f12 f13 : Addr} (X : K.In h) (Ns : h.Ns mainGlobals mg) (hfa : mg "law" = some (.ref fa))
    {od0 an0 od1 an1 od2 an2 od3 an3 od4 an4 od5 an5 od6 an6 od7 an7 od8 an8 od9 an9 od10 an10 od11 an11 od12 an12 od13 an13 : Option Addr} {sl0 sl1 sl2 sl3 sl4 sl5 sl6 sl7 sl8 sl9 sl10 sl11 sl12 sl13 : Array (Option Value)} {oc0 kV0 dc0 pm0 cd0 ct0 oc1 kV1 dc1 pm1 cd1 ct1 oc2 kV2 dc2 pm2 cd2 ct2 oc3 kV3 dc3 pm3 cd3 ct3 oc4 kV4 dc4 pm4 cd4 ct4 oc5 kV5 dc5 pm5 cd5 ct5 oc6 kV6 dc6 pm6 cd6 ct6 oc7 kV7 dc7 pm7 cd7 ct7 oc8 kV8 dc8 pm8 cd8 ct8 oc9 kV9 dc9 pm9 cd9 ct9 oc10 kV10 dc10 pm10 cd10 ct10 oc11 kV11 dc11 pm11 cd11 ct11 oc12 kV12 dc12 pm12 cd12 ct12 oc13 kV13 dc13 pm13 cd13 ct13 : Value}
    (a0 : PySem.W.nsIn K mainGlobals "is_int" = some (some (.ref f0))) (l0 : K.lookup f0 = some ⟨oc0, od0, .func (PySem.W.fnOf "is_int" "is_int" (defArgs (top 1)) (defBody (top 1)) (defScope (top 1)) .none kV0 dc0 pm0 an0 cd0 ct0), sl0⟩) (c0 : PySem.W.codeIn K cd0 "is_int" = true) (k0 : PySem.W.keepIn K (.ref f0) = true)
    (a1 : PySem.W.nsIn K mainGlobals "check_card" = some (some (.ref f1))) (l1 : K.lookup f1 = some ⟨oc1, od1, .func (PySem.W.fnOf "check_card" "check_card" (defArgs (top 9)) (defBody (top 9)) (defScope (top 9)) .none kV1 dc1 pm1 an1 cd1 ct1), sl1⟩) (c1 : PySem.W.codeIn K cd1 "check_card" = true) (k1 : PySem.W.keepIn K (.ref f1) = true)
    (a2 : PySem.W.nsIn K mainGlobals "run" = some (some (.ref f2))) (l2 : K.lookup f2 = some ⟨oc2, od2, .func (PySem.W.fnOf "run" "run" (defArgs (top 11)) (defBody (top 11)) (defScope (top 11)) .none kV2 dc2 pm2 an2 cd2 ct2), sl2⟩) (c2 : PySem.W.codeIn K cd2 "run" = true) (k2 : PySem.W.keepIn K (.ref f2) = true)
    (a3 : PySem.W.nsIn K mainGlobals "way" = some (some (.ref f3))) (l3 : K.lookup f3 = some ⟨oc3, od3, .func (PySem.W.fnOf "way" "way" (defArgs (top 12)) (defBody (top 12)) (defScope (top 12)) .none kV3 dc3 pm3 an3 cd3 ct3), sl3⟩) (c3 : PySem.W.codeIn K cd3 "way" = true) (k3 : PySem.W.keepIn K (.ref f3) = true)
    (a4 : PySem.W.nsIn K mainGlobals "flipped_plan" = some (some (.ref f4))) (l4 : K.lookup f4 = some ⟨oc4, od4, .func (PySem.W.fnOf "flipped_plan" "flipped_plan" (defArgs (top 15)) (defBody (top 15)) (defScope (top 15)) .none kV4 dc4 pm4 an4 cd4 ct4), sl4⟩) (c4 : PySem.W.codeIn K cd4 "flipped_plan" = true) (k4 : PySem.W.keepIn K (.ref f4) = true)
    (a5 : PySem.W.nsIn K mainGlobals "_law_int" = some (some (.ref f5))) (l5 : K.lookup f5 = some ⟨oc5, od5, .func (PySem.W.fnOf "_law_int" "_law_int" (defArgs (top 17)) (defBody (top 17)) (defScope (top 17)) .none kV5 dc5 pm5 an5 cd5 ct5), sl5⟩) (c5 : PySem.W.codeIn K cd5 "_law_int" = true) (k5 : PySem.W.keepIn K (.ref f5) = true)
    (a6 : PySem.W.nsIn K mainGlobals "_law_cell_at" = some (some (.ref f6))) (l6 : K.lookup f6 = some ⟨oc6, od6, .func (PySem.W.fnOf "_law_cell_at" "_law_cell_at" (defArgs (top 18)) (defBody (top 18)) (defScope (top 18)) .none kV6 dc6 pm6 an6 cd6 ct6), sl6⟩) (c6 : PySem.W.codeIn K cd6 "_law_cell_at" = true) (k6 : PySem.W.keepIn K (.ref f6) = true)
    (a7 : PySem.W.nsIn K mainGlobals "_law_stream" = some (some (.ref f7))) (l7 : K.lookup f7 = some ⟨oc7, od7, .func (PySem.W.fnOf "_law_stream" "_law_stream" (defArgs (top 19)) (defBody (top 19)) (defScope (top 19)) .none kV7 dc7 pm7 an7 cd7 ct7), sl7⟩) (c7 : PySem.W.codeIn K cd7 "_law_stream" = true) (k7 : PySem.W.keepIn K (.ref f7) = true)
    (a8 : PySem.W.nsIn K mainGlobals "_law_plan" = some (some (.ref f8))) (l8 : K.lookup f8 = some ⟨oc8, od8, .func (PySem.W.fnOf "_law_plan" "_law_plan" (defArgs (top 20)) (defBody (top 20)) (defScope (top 20)) .none kV8 dc8 pm8 an8 cd8 ct8), sl8⟩) (c8 : PySem.W.codeIn K cd8 "_law_plan" = true) (k8 : PySem.W.keepIn K (.ref f8) = true)
    (a9 : PySem.W.nsIn K mainGlobals "_law_long" = some (some (.ref f9))) (l9 : K.lookup f9 = some ⟨oc9, od9, .func (PySem.W.fnOf "_law_long" "_law_long" (defArgs (top 21)) (defBody (top 21)) (defScope (top 21)) .none kV9 dc9 pm9 an9 cd9 ct9), sl9⟩) (c9 : PySem.W.codeIn K cd9 "_law_long" = true) (k9 : PySem.W.keepIn K (.ref f9) = true)
    (a10 : PySem.W.nsIn K mainGlobals "_law_due" = some (some (.ref f10))) (l10 : K.lookup f10 = some ⟨oc10, od10, .func (PySem.W.fnOf "_law_due" "_law_due" (defArgs (top 22)) (defBody (top 22)) (defScope (top 22)) .none kV10 dc10 pm10 an10 cd10 ct10), sl10⟩) (c10 : PySem.W.codeIn K cd10 "_law_due" = true) (k10 : PySem.W.keepIn K (.ref f10) = true)
    (a11 : PySem.W.nsIn K mainGlobals "_law_told" = some (some (.ref f11))) (l11 : K.lookup f11 = some ⟨oc11, od11, .func (PySem.W.fnOf "_law_told" "_law_told" (defArgs (top 23)) (defBody (top 23)) (defScope (top 23)) .none kV11 dc11 pm11 an11 cd11 ct11), sl11⟩) (c11 : PySem.W.codeIn K cd11 "_law_told" = true) (k11 : PySem.W.keepIn K (.ref f11) = true)
    (a12 : PySem.W.nsIn K mainGlobals "_law_refused" = some (some (.ref f12))) (l12 : K.lookup f12 = some ⟨oc12, od12, .func (PySem.W.fnOf "_law_refused" "_law_refused" (defArgs (top 24)) (defBody (top 24)) (defScope (top 24)) .none kV12 dc12 pm12 an12 cd12 ct12), sl12⟩) (c12 : PySem.W.codeIn K cd12 "_law_refused" = true) (k12 : PySem.W.keepIn K (.ref f12) = true)
    (a13 : PySem.W.nsIn K mainGlobals "law" = some (some (.ref f13))) (l13 : K.lookup f13 = some ⟨oc13, od13, .func (PySem.W.fnOf "law" "law" (defArgs (top 25)) (defBody (top 25)) (defScope (top 25)) .none kV13 dc13 pm13 an13 cd13 ct13), sl13⟩) (c13 : PySem.W.codeIn K cd13 "law" = true) (k13 : PySem.W.keepIn K (.ref f13) = true)
    (z0 : PySem.W.nsIn K mainGlobals "isinstance" = some none)
    (z1 : PySem.W.nsIn K mainGlobals "int" = some none)
    (z2 : PySem.W.nsIn K mainGlobals "bool" = some none)
    (z3 : PySem.W.nsIn K mainGlobals "len" = some none)
    (z4 : PySem.W.nsIn K mainGlobals "range" = some none)
    (z5 : PySem.W.nsIn K mainGlobals "tuple" = some none)
    (z6 : PySem.W.nsIn K mainGlobals "list" = some none)
    (z7 : PySem.W.nsIn K mainGlobals "ValueError" = some none)
    (z8 : PySem.W.nsIn K mainGlobals "min" = some none)
    (z9 : PySem.W.nsIn K mainGlobals "max" = some none)
    {C0 C1 C2 C3 : Addr}
    (xa0 : PySem.W.nsIn K mainGlobals "TalkError" = some (some (.ref C0))) (xg0 : PySem.W.findIn K (.ref C0) "__getattribute__" = some (some (.builtin "BaseException.__getattribute__"))) (xh0 : PySem.W.hasDictIn K C0 = true) (xf0 : PySem.W.findIn K (.ref C0) "__class__" = some (some (.builtin "object.__class__"))) (xm0 : PySem.W.mroIn K C0 (.type "object") = some true)
    (xe0 : PySem.W.excIn K C0 [.type "ValueError", .type "Exception", .type "BaseException", .type "object"] "ValueError.__new__" = true) (xv0 : PySem.W.kitOne K (.ref C0) (.type "ValueError") = some true)
    (xk0_0 : PySem.W.kitOne K (.ref C0) (.ref C0) = some true) (xx0_0 : PySem.W.exmOne K (.ref C0) (.ref C0) = some true)
    (xk0_1 : PySem.W.kitOne K (.ref C0) (.ref C1) = some false)
    (xk0_2 : PySem.W.kitOne K (.ref C0) (.ref C2) = some false)
    (xk0_3 : PySem.W.kitOne K (.ref C0) (.ref C3) = some false)
    (xt0 : PySem.W.findIn K (.ref C0) "__getattr__" = some none) (xb0 : PySem.W.mroIn K C0 (.type "BaseException") = some true)
    (xa1 : PySem.W.nsIn K mainGlobals "NoTable" = some (some (.ref C1))) (xg1 : PySem.W.findIn K (.ref C1) "__getattribute__" = some (some (.builtin "BaseException.__getattribute__"))) (xh1 : PySem.W.hasDictIn K C1 = true) (xf1 : PySem.W.findIn K (.ref C1) "__class__" = some (some (.builtin "object.__class__"))) (xm1 : PySem.W.mroIn K C1 (.type "object") = some true)
    (xe1 : PySem.W.excIn K C1 [.type "ValueError", .type "Exception", .type "BaseException", .type "object"] "ValueError.__new__" = true) (xv1 : PySem.W.kitOne K (.ref C1) (.type "ValueError") = some true)
    (xk1_0 : PySem.W.kitOne K (.ref C1) (.ref C0) = some true) (xx1_0 : PySem.W.exmOne K (.ref C1) (.ref C0) = some true)
    (xk1_1 : PySem.W.kitOne K (.ref C1) (.ref C1) = some true) (xx1_1 : PySem.W.exmOne K (.ref C1) (.ref C1) = some true)
    (xk1_2 : PySem.W.kitOne K (.ref C1) (.ref C2) = some false)
    (xk1_3 : PySem.W.kitOne K (.ref C1) (.ref C3) = some false)
    (xt1 : PySem.W.findIn K (.ref C1) "__getattr__" = some none) (xb1 : PySem.W.mroIn K C1 (.type "BaseException") = some true)
    (xa2 : PySem.W.nsIn K mainGlobals "NoCard" = some (some (.ref C2))) (xg2 : PySem.W.findIn K (.ref C2) "__getattribute__" = some (some (.builtin "BaseException.__getattribute__"))) (xh2 : PySem.W.hasDictIn K C2 = true) (xf2 : PySem.W.findIn K (.ref C2) "__class__" = some (some (.builtin "object.__class__"))) (xm2 : PySem.W.mroIn K C2 (.type "object") = some true)
    (xe2 : PySem.W.excIn K C2 [.type "ValueError", .type "Exception", .type "BaseException", .type "object"] "ValueError.__new__" = true) (xv2 : PySem.W.kitOne K (.ref C2) (.type "ValueError") = some true)
    (xk2_0 : PySem.W.kitOne K (.ref C2) (.ref C0) = some true) (xx2_0 : PySem.W.exmOne K (.ref C2) (.ref C0) = some true)
    (xk2_1 : PySem.W.kitOne K (.ref C2) (.ref C1) = some false)
    (xk2_2 : PySem.W.kitOne K (.ref C2) (.ref C2) = some true) (xx2_2 : PySem.W.exmOne K (.ref C2) (.ref C2) = some true)
    (xk2_3 : PySem.W.kitOne K (.ref C2) (.ref C3) = some false)
    (xt2 : PySem.W.findIn K (.ref C2) "__getattr__" = some none) (xb2 : PySem.W.mroIn K C2 (.type "BaseException") = some true)
    (xa3 : PySem.W.nsIn K mainGlobals "NoPlan" = some (some (.ref C3))) (xg3 : PySem.W.findIn K (.ref C3) "__getattribute__" = some (some (.builtin "BaseException.__getattribute__"))) (xh3 : PySem.W.hasDictIn K C3 = true) (xf3 : PySem.W.findIn K (.ref C3) "__class__" = some (some (.builtin "object.__class__"))) (xm3 : PySem.W.mroIn K C3 (.type "object") = some true)
    (xe3 : PySem.W.excIn K C3 [.type "ValueError", .type "Exception", .type "BaseException", .type "object"] "ValueError.__new__" = true) (xv3 : PySem.W.kitOne K (.ref C3) (.type "ValueError") = some true)
    (xk3_0 : PySem.W.kitOne K (.ref C3) (.ref C0) = some true) (xx3_0 : PySem.W.exmOne K (.ref C3) (.ref C0) = some true)
    (xk3_1 : PySem.W.kitOne K (.ref C3) (.ref C1) = some false)
    (xk3_2 : PySem.W.kitOne K (.ref C3) (.ref C2) = some false)
    (xk3_3 : PySem.W.kitOne K (.ref C3) (.ref C3) = some true) (xx3_3 : PySem.W.exmOne K (.ref C3) (.ref C3) = some true)
    (xt3 : PySem.W.findIn K (.ref C3) "__getattr__" = some none) (xb3 : PySem.W.mroIn K C3 (.type "BaseException") = some true)
    (xs0 : PySem.W.specialIn K (.builtin "object.__class__") "__get__" = some (some (.builtin "getset_descriptor.__get__"))) (xs1 : PySem.W.takesIn K (.builtin "object.__class__") = some true)
    {tg0 : _} (g0 : PySem.W.nsIn K mainGlobals "MOST_LINES" = some (some (.int 8 tg0)))
    {D0 : Addr} {es0 : Array DictEntry} {n0 : Nat} (da0 : PySem.W.nsIn K mainGlobals "OTHER_SIDE" = some (some (.ref D0))) (dl0 : K.lookup D0 = some ⟨.type "dict", none, .dict es0 n0, #[]⟩) (dk0 : PySem.W.KeysLit w.params es0.toList)
    {dt0_0 : _} (dv0_0 : PySem.W.nsIn K D0 "row" = some (some (.str "column" dt0_0)))
    {dt0_1 : _} (dv0_1 : PySem.W.nsIn K D0 "column" = some (some (.str "row" dt0_1)))
    : ∃ fd : FuncData, (∀ (s : Shared) (v : Value), BindsTo s fd ⟨[v], []⟩ [("_law_script", v)]) ∧ ∀ base : Heap, K.In base → base.Ns mainGlobals mg → FnOk l.prog w K mg base CX0 40 fa fd ["_law_script"] (spS K) := by
  have e := hfa.symm.trans (PySem.W.mg_of X Ns a13)
  cases e
  have S0 := stands_mk X Ns ok0 a0 l0 c0 k0 fun _ _ _ _ _ _ us hl => match us, hl with | [_, _, _], _ => rfl
  have S1 := stands_mk X Ns ok1 a1 l1 c1 k1 fun _ _ _ _ _ _ us hl => match us, hl with | [_, _], _ => rfl
  have S2 := stands_mk X Ns ok2 a2 l2 c2 k2 fun _ _ _ _ _ _ us hl => match us, hl with | [_, _, _], _ => rfl
  have S3 := stands_mk X Ns ok3 a3 l3 c3 k3 fun _ _ _ _ _ _ us hl => match us, hl with | [_, _, _], _ => rfl
  have S4 := stands_mk X Ns ok4 a4 l4 c4 k4 fun _ _ _ _ _ _ us hl => match us, hl with | [_], _ => rfl
  have S5 := stands_mk X Ns ok5 a5 l5 c5 k5 fun _ _ _ _ _ _ us hl => match us, hl with | [_], _ => rfl
  have S6 := stands_mk X Ns ok6 a6 l6 c6 k6 fun _ _ _ _ _ _ us hl => match us, hl with | [_, _], _ => rfl
  have S7 := stands_mk X Ns ok7 a7 l7 c7 k7 fun _ _ _ _ _ _ us hl => match us, hl with | [_, _], _ => rfl
  have S8 := stands_mk X Ns ok8 a8 l8 c8 k8 fun _ _ _ _ _ _ us hl => match us, hl with | [_, _, _, _], _ => rfl
  have S9 := stands_mk X Ns ok9 a9 l9 c9 k9 fun _ _ _ _ _ _ us hl => match us, hl with | [_], _ => rfl
  have S10 := stands_mk X Ns ok10 a10 l10 c10 k10 fun _ _ _ _ _ _ us hl => match us, hl with | [_, _, _], _ => rfl
  have S11 := stands_mk X Ns ok11 a11 l11 c11 k11 fun _ _ _ _ _ _ us hl => match us, hl with | [_, _], _ => rfl
  have S12 := stands_mk X Ns ok12 a12 l12 c12 k12 fun _ _ _ _ _ _ us hl => match us, hl with | [_, _, _], _ => rfl
  have S13 := stands_mk X Ns ok13 a13 l13 c13 k13 fun _ _ _ _ _ _ us hl => match us, hl with | [_], _ => rfl
  refine ⟨_, fun s v => .of_eq rfl, fun base _ _ => law_fnok (T := T) (G := G) (fu := 100) rfl (hs_cons S0 (hs_cons S1 (hs_cons S2 (hs_cons S3 (hs_cons S4 (hs_cons S5 (hs_cons S6 (hs_cons S7 (hs_cons S8 (hs_cons S9 (hs_cons S10 (hs_cons S11 (hs_cons S12 (hs_cons S13 hs_nil)))))))))))))) ?_ ?_ ?_ ?_ (i := 13) rfl rfl S13 law_run⟩
  · refine List.forall_mem_cons.mpr ⟨PySem.W.mg_none_of X Ns z0, ?_⟩; refine List.forall_mem_cons.mpr ⟨PySem.W.mg_none_of X Ns z1, ?_⟩; refine List.forall_mem_cons.mpr ⟨PySem.W.mg_none_of X Ns z2, ?_⟩; refine List.forall_mem_cons.mpr ⟨PySem.W.mg_none_of X Ns z3, ?_⟩; refine List.forall_mem_cons.mpr ⟨PySem.W.mg_none_of X Ns z4, ?_⟩; refine List.forall_mem_cons.mpr ⟨PySem.W.mg_none_of X Ns z5, ?_⟩; refine List.forall_mem_cons.mpr ⟨PySem.W.mg_none_of X Ns z6, ?_⟩; refine List.forall_mem_cons.mpr ⟨PySem.W.mg_none_of X Ns z7, ?_⟩; refine List.forall_mem_cons.mpr ⟨PySem.W.mg_none_of X Ns z8, ?_⟩; refine List.forall_mem_cons.mpr ⟨PySem.W.mg_none_of X Ns z9, ?_⟩; intro x hx; cases hx
  · refine ⟨one_cons ⟨_, PySem.W.mg_of X Ns xa0, ⟨xg0, xt0, xb0, xh0, xf0, xs0, xs1, xm0⟩, ⟨_, _, _, _, PySem.F.excBase_ValueError, xe0⟩, (own_cons (PySem.W.mg_of X Ns xa0) ⟨xk0_0, fun _ => xx0_0⟩ (own_cons (PySem.W.mg_of X Ns xa1) ⟨xk0_1, fun z => nomatch z⟩ (own_cons (PySem.W.mg_of X Ns xa2) ⟨xk0_2, fun z => nomatch z⟩ (own_cons (PySem.W.mg_of X Ns xa3) ⟨xk0_3, fun z => nomatch z⟩ own_nil)))), xv0⟩ (one_cons ⟨_, PySem.W.mg_of X Ns xa1, ⟨xg1, xt1, xb1, xh1, xf1, xs0, xs1, xm1⟩, ⟨_, _, _, _, PySem.F.excBase_ValueError, xe1⟩, (own_cons (PySem.W.mg_of X Ns xa0) ⟨xk1_0, fun _ => xx1_0⟩ (own_cons (PySem.W.mg_of X Ns xa1) ⟨xk1_1, fun _ => xx1_1⟩ (own_cons (PySem.W.mg_of X Ns xa2) ⟨xk1_2, fun z => nomatch z⟩ (own_cons (PySem.W.mg_of X Ns xa3) ⟨xk1_3, fun z => nomatch z⟩ own_nil)))), xv1⟩ (one_cons ⟨_, PySem.W.mg_of X Ns xa2, ⟨xg2, xt2, xb2, xh2, xf2, xs0, xs1, xm2⟩, ⟨_, _, _, _, PySem.F.excBase_ValueError, xe2⟩, (own_cons (PySem.W.mg_of X Ns xa0) ⟨xk2_0, fun _ => xx2_0⟩ (own_cons (PySem.W.mg_of X Ns xa1) ⟨xk2_1, fun z => nomatch z⟩ (own_cons (PySem.W.mg_of X Ns xa2) ⟨xk2_2, fun _ => xx2_2⟩ (own_cons (PySem.W.mg_of X Ns xa3) ⟨xk2_3, fun z => nomatch z⟩ own_nil)))), xv2⟩ (one_cons ⟨_, PySem.W.mg_of X Ns xa3, ⟨xg3, xt3, xb3, xh3, xf3, xs0, xs1, xm3⟩, ⟨_, _, _, _, PySem.F.excBase_ValueError, xe3⟩, (own_cons (PySem.W.mg_of X Ns xa0) ⟨xk3_0, fun _ => xx3_0⟩ (own_cons (PySem.W.mg_of X Ns xa1) ⟨xk3_1, fun z => nomatch z⟩ (own_cons (PySem.W.mg_of X Ns xa2) ⟨xk3_2, fun z => nomatch z⟩ (own_cons (PySem.W.mg_of X Ns xa3) ⟨xk3_3, fun _ => xx3_3⟩ own_nil)))), xv3⟩ (one_nil)))), all_cons ⟨_, PySem.W.mg_of X Ns xa0⟩ (all_cons ⟨_, PySem.W.mg_of X Ns xa1⟩ (all_cons ⟨_, PySem.W.mg_of X Ns xa2⟩ (all_cons ⟨_, PySem.W.mg_of X Ns xa3⟩ (all_nil))))⟩
  · intro x d h
    exact con_cons ⟨_, .int _, PySem.W.mg_of X Ns g0, ⟨_, rfl⟩, fun H => rep_int.mpr rfl⟩ (con_nil) x d h
  · intro x kvs h
    exact dcl_cons ⟨_, _, _, PySem.W.mg_of X Ns da0, dl0, dk0, kvl_cons (by decide) dv0_0 (kvl_cons (by decide) dv0_1 (kvl_nil))⟩ (dcl_nil) x kvs h
end k12
open PySem PySem.W PyProof.Rows
set_option maxRecDepth 100000 in
set_option maxHeartbeats 0 in
theorem PySem.Challenge.cw_talkleast_k12_plans_run_holds : PySem.Challenge.rw_talkleast_k12_plans_run.Holds := by
  w_on; o_law; k_head; (case hw => w_witness2)
  k_fill
  refine L2.walkE (l := PySem.Challenge.rw_talkleast_k12_plans_run) (k := 40) (p := "_law_script") rfl rfl ⟨rfl, by decide, by decide⟩ (fun w h Y => PySem.W.kIn_of Y) ?F
  case F =>
    intro w mg fa h KX G hmg
    refine' k12.all_mk KX G hmg ?a0 ?l0 ?c0 ?k0 ?a1 ?l1 ?c1 ?k1 ?a2 ?l2 ?c2 ?k2 ?a3 ?l3 ?c3 ?k3 ?a4 ?l4 ?c4 ?k4 ?a5 ?l5 ?c5 ?k5 ?a6 ?l6 ?c6 ?k6 ?a7 ?l7 ?c7 ?k7 ?a8 ?l8 ?c8 ?k8 ?a9 ?l9 ?c9 ?k9 ?a10 ?l10 ?c10 ?k10 ?a11 ?l11 ?c11 ?k11 ?a12 ?l12 ?c12 ?k12 ?a13 ?l13 ?c13 ?k13 ?z0 ?z1 ?z2 ?z3 ?z4 ?z5 ?z6 ?z7 ?z8 ?z9 ?xa0 ?xg0 ?xh0 ?xf0 ?xm0 ?xe0 ?xv0 ?xk0_0 ?xx0_0 ?xk0_1 ?xk0_2 ?xk0_3 ?xt0 ?xb0 ?xa1 ?xg1 ?xh1 ?xf1 ?xm1 ?xe1 ?xv1 ?xk1_0 ?xx1_0 ?xk1_1 ?xx1_1 ?xk1_2 ?xk1_3 ?xt1 ?xb1 ?xa2 ?xg2 ?xh2 ?xf2 ?xm2 ?xe2 ?xv2 ?xk2_0 ?xx2_0 ?xk2_1 ?xk2_2 ?xx2_2 ?xk2_3 ?xt2 ?xb2 ?xa3 ?xg3 ?xh3 ?xf3 ?xm3 ?xe3 ?xv3 ?xk3_0 ?xx3_0 ?xk3_1 ?xk3_2 ?xk3_3 ?xx3_3 ?xt3 ?xb3 ?xs0 ?xs1 ?ycon0 ?da0 ?dl0 ?dk0 ?dv0_0 ?dv0_1
    (case a0 => k_is); (case l0 => k_is); (case c0 => k_is); (case k0 => k_is)
    (case a1 => k_is); (case l1 => k_is); (case c1 => k_is); (case k1 => k_is)
    (case a2 => k_is); (case l2 => k_is); (case c2 => k_is); (case k2 => k_is)
    (case a3 => k_is); (case l3 => k_is); (case c3 => k_is); (case k3 => k_is)
    (case a4 => k_is); (case l4 => k_is); (case c4 => k_is); (case k4 => k_is)
    (case a5 => k_is); (case l5 => k_is); (case c5 => k_is); (case k5 => k_is)
    (case a6 => k_is); (case l6 => k_is); (case c6 => k_is); (case k6 => k_is)
    (case a7 => k_is); (case l7 => k_is); (case c7 => k_is); (case k7 => k_is)
    (case a8 => k_is); (case l8 => k_is); (case c8 => k_is); (case k8 => k_is)
    (case a9 => k_is); (case l9 => k_is); (case c9 => k_is); (case k9 => k_is)
    (case a10 => k_is); (case l10 => k_is); (case c10 => k_is); (case k10 => k_is)
    (case a11 => k_is); (case l11 => k_is); (case c11 => k_is); (case k11 => k_is)
    (case a12 => k_is); (case l12 => k_is); (case c12 => k_is); (case k12 => k_is)
    (case a13 => k_is); (case l13 => k_is); (case c13 => k_is); (case k13 => k_is)
    (case z0 => k_is)
    (case z1 => k_is)
    (case z2 => k_is)
    (case z3 => k_is)
    (case z4 => k_is)
    (case z5 => k_is)
    (case z6 => k_is)
    (case z7 => k_is)
    (case z8 => k_is)
    (case z9 => k_is)
    (case xa0 => k_is); (case xg0 => k_is); (case xh0 => k_is); (case xf0 => k_is); (case xm0 => k_is); (case xt0 => k_is); (case xb0 => k_is)
    (case xa1 => k_is); (case xg1 => k_is); (case xh1 => k_is); (case xf1 => k_is); (case xm1 => k_is); (case xt1 => k_is); (case xb1 => k_is)
    (case xa2 => k_is); (case xg2 => k_is); (case xh2 => k_is); (case xf2 => k_is); (case xm2 => k_is); (case xt2 => k_is); (case xb2 => k_is)
    (case xa3 => k_is); (case xg3 => k_is); (case xh3 => k_is); (case xf3 => k_is); (case xm3 => k_is); (case xt3 => k_is); (case xb3 => k_is)
    (case xe0 => kernel_rfl); (case xv0 => kernel_rfl)
    (case xk0_0 => kernel_rfl); (case xx0_0 => kernel_rfl)
    (case xk0_1 => kernel_rfl)
    (case xk0_2 => kernel_rfl)
    (case xk0_3 => kernel_rfl)
    (case xe1 => kernel_rfl); (case xv1 => kernel_rfl)
    (case xk1_0 => kernel_rfl); (case xx1_0 => kernel_rfl)
    (case xk1_1 => kernel_rfl); (case xx1_1 => kernel_rfl)
    (case xk1_2 => kernel_rfl)
    (case xk1_3 => kernel_rfl)
    (case xe2 => kernel_rfl); (case xv2 => kernel_rfl)
    (case xk2_0 => kernel_rfl); (case xx2_0 => kernel_rfl)
    (case xk2_1 => kernel_rfl)
    (case xk2_2 => kernel_rfl); (case xx2_2 => kernel_rfl)
    (case xk2_3 => kernel_rfl)
    (case xe3 => kernel_rfl); (case xv3 => kernel_rfl)
    (case xk3_0 => kernel_rfl); (case xx3_0 => kernel_rfl)
    (case xk3_1 => kernel_rfl)
    (case xk3_2 => kernel_rfl)
    (case xk3_3 => kernel_rfl); (case xx3_3 => kernel_rfl)
    (case xs0 => k_is); (case xs1 => k_is)
    (case ycon0 => k_is)
    (case da0 => k_is); (case dl0 => k_is); (case dk0 => exact ⟨⟨_, _, rfl, rfl⟩, ⟨_, _, rfl, rfl⟩, trivial⟩)
    (case dv0_0 => k_is)
    (case dv0_1 => k_is)

end

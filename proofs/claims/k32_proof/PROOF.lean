import PyProof.Rows.All
import Wide.All
import OpenK.AllK
import Wide.FinOn
import Lean
import PyProof.EqAt
import PyProof.EqKinds
import PyProof.TupleCall
import PyProof.ExcAttrAll.ValueError
import PyProof.ZipIter
import PyProof.TupleIter
import PyProof.P3In
import PyProof.Rows.SeqMore2
import PyProof.FactsAll.tuple_3
import PyProof.FactsAll.list_3
import PyProof.Rows.Range3
import KE.KRevIter
import PyProof.Rows.FactsT2
import PySem.Builtin.Int.W1All
import KE.KSortAsk
import PyProof.SetScanFacts
import PyProof.SetKind
import PyProof.DictKinds
import PyProof.DictStraight
import PyProof.Rows.SetFrom
import PyProof.CollectWalk
import PyProof.Seq
import PyProof.DictIter
import PyProof.Rows.Tup
import PyProof.FactsAll.set_1
import PyProof.FactsAll.set_2
import PyProof.Rows.SortWalk
import PyProof.ConsumeWalk
import PyProof.Rows.SumAny
import PySem.Syntax
import PySem.Eval
import KE.KLam
import PyProof.StrWalks
import PyProof.StrOps
import PyProof.StrCalls2
import PyProof.StrLawsTight
import PyProof.StrLawsFirst
import PyProof.StrLawsChain
import PyProof.StrLawsIn
import PyProof.Rows.StrJoin2
import PyProof.Rows.StrItems
import PyProof.CallStr
import KE.KIntText
import PyProof.SliceStr2
import PyProof.StrLaws
import PyProof.StrLawsIdx
import PyProof.DictTable
import PyProof.ListRange
import PyProof.EnumMake
import PyProof.DictItems
import PyProof.DictItemsLoops
import PyProof.MeetsDict
import PyProof.DictWalks
import PyProof.RulesTry
import PyProof.Rows.SortShell
import KE.KDictSum
import KE.KPairComp
import PySem.Challenge.RW_talkleast_k32_widest_blocks
set_option Elab.async false
set_option linter.all false
set_option bootstrap.genMatcherCode false
set_option genSizeOfSpec false
set_option compiler.extract_closed false
set_option maxRecDepth 100000
set_option maxHeartbeats 4000000
noncomputable section
namespace L2
open PySem
def q0H(s:Stmt):Arguments:=match s with
 | .FunctionDef _ a _ _ _ _ _ _ _ _=>a
 | _=>{posonlyargs:=[],args:=[],vararg:=none,kwonlyargs:=[],kw_defaults:=[],kwarg:=none,defaults:=[]}
def q0q(s:Stmt):List Stmt:=match s with
 | .FunctionDef _ _ b _ _ _ _ _ _ _=>b
 | _=>[]
def q0b(s:Stmt):Scope:=match s with
 | .FunctionDef _ _ _ _ _ _ sc _ _ _=>sc
 | _=>{kind:=.function,names:=[],isGenerator:=false,isCoroutine:=false}
end L2
namespace k32
open PySem PySem.W L2 PySem.Spec PyProof.Rows
def top(i:Nat):Stmt:=PySem.Challenge.pw_talkleast_k32_widest_blocks.main.body.getD i (.Pass ⟨0,0,0,0⟩)
def fo(n:Str)(i:Nat)(dV pm:Value)(cd:Addr):Obj:=⟨.type "function",none,.func (fnOf n n (q0H (top i)) (q0q (top i)) (q0b (top i)) dV .none .none pm none (.ref cd) .none),#[]⟩
def en(P:Params)(s:Str)(t:Nat)(v:Value):DictEntry:=⟨PyData.keyHash P s,.str s t,v⟩
def co(n:Str)(t:Nat)(ln na fl:Int)(a b c d e:Value)(q:Int)(r:Nat):Obj:=⟨.type "code",none,.fields #[.str n t,.str n (t+1),.str "/claim/cut.py" (t+2),.int ln 0,.int na 0,.int 0 0,.int 0 0,.int fl 0,a,.bool true,.int 181 0,b,.none,c,d,e,.int q 0,.int ln 0,.str "/claim/cut.py" r],#[]⟩
def kK(P:Params):Frag:=[(3,⟨.type "dict",none,.dict #[en P "__name__" 165 (.str "law_talkleast_k32_widest_blocks" 220),en P "__doc__" 166 .none,en P "__package__" 167 .none,en P "__loader__" 168 (.builtin "__main__.__loader__#opaque"),en P "__spec__" 169 .none,en P "__annotations__" 170 (.ref 6),en P "__builtins__" 171 (.ref 4),en P "__file__" 173 (.str "/claim/cut.py" 172),en P "__cached__" 174 .none,en P "cards_in" 194 (.ref 19),en P "widest" 207 (.ref 26),en P "columns_with" 213 (.ref 31),en P "rows_with" 219 (.ref 36),en P "_law_int" 228 (.ref 43),en P "_law_cell_at" 236 (.ref 50),en P "_law_stream" 247 (.ref 57),en P "_law_full_table" 253 (.ref 62),en P "_law_power" 262 (.ref 69),en P "_law_cards" 268 (.ref 74),en P "_law_set" 277 (.ref 81),en P "_law_all_widest" 283 (.ref 86),en P "_law_entries" 289 (.ref 91),en P "_law_pairs" 299 (.ref 98),en P "law" 305 (.ref 103)] 24,#[]⟩),
 (18,co "cards_in" 189 2 1 3 (.ref 15) (.ref 16) .none .none (.ref 17) 192 193),
 (19,fo "cards_in" 1 .none (.str "talkleast.tables" 187) 18),
 (25,co "widest" 197 5 2 3 (.ref 20) (.ref 21) (.ref 22) (.ref 23) (.ref 24) 205 206),
 (26,fo "widest" 3 .none (.str "talkleast.blocks" 195) 25),
 (30,co "columns_with" 208 12 3 3 (.ref 27) (.ref 28) .none .none (.ref 29) 211 212),
 (31,fo "columns_with" 4 .none (.str "talkleast.blocks" 195) 30),
 (35,co "rows_with" 214 15 3 3 (.ref 32) (.ref 33) .none .none (.ref 34) 217 218),
 (36,fo "rows_with" 5 .none (.str "talkleast.blocks" 195) 35),
 (42,co "_law_int" 222 19 1 3 (.ref 37) (.ref 38) (.ref 39) (.ref 40) (.ref 41) 226 227),
 (43,fo "_law_int" 7 .none (.str "law_talkleast_k32_widest_blocks" 220) 42),
 (49,co "_law_cell_at" 229 21 2 3 (.ref 44) (.ref 45) (.ref 46) (.ref 47) (.ref 48) 234 235),
 (50,fo "_law_cell_at" 8 .none (.str "law_talkleast_k32_widest_blocks" 220) 49),
 (56,co "_law_stream" 237 25 2 3 (.ref 51) (.ref 52) (.ref 53) (.ref 54) (.ref 55) 245 246),
 (57,fo "_law_stream" 9 .none (.str "law_talkleast_k32_widest_blocks" 220) 56),
 (61,co "_law_full_table" 248 32 2 3 (.ref 58) (.ref 59) .none .none (.ref 60) 251 252),
 (62,fo "_law_full_table" 10 .none (.str "law_talkleast_k32_widest_blocks" 220) 61),
 (68,co "_law_power" 254 43 1 3 (.ref 63) (.ref 64) (.ref 65) (.ref 66) (.ref 67) 260 261),
 (69,fo "_law_power" 11 .none (.str "law_talkleast_k32_widest_blocks" 220) 68),
 (73,co "_law_cards" 263 48 1 3 (.ref 70) (.ref 71) .none .none (.ref 72) 266 267),
 (74,fo "_law_cards" 12 .none (.str "law_talkleast_k32_widest_blocks" 220) 73),
 (80,co "_law_set" 269 50 1 3 (.ref 75) (.ref 76) (.ref 77) (.ref 78) (.ref 79) 275 276),
 (81,fo "_law_set" 13 .none (.str "law_talkleast_k32_widest_blocks" 220) 80),
 (85,co "_law_all_widest" 278 55 2 3 (.ref 82) (.ref 83) .none .none (.ref 84) 281 282),
 (86,fo "_law_all_widest" 14 .none (.str "law_talkleast_k32_widest_blocks" 220) 85),
 (97,co "_law_pairs" 290 69 2 3 (.ref 92) (.ref 93) (.ref 94) (.ref 95) (.ref 96) 297 298),
 (98,fo "_law_pairs" 16 .none (.str "law_talkleast_k32_widest_blocks" 220) 97),
 (102,co "law" 300 78 1 3 (.ref 99) (.ref 100) .none .none (.ref 101) 303 304),
 (103,fo "law" 17 .none (.str "law_talkleast_k32_widest_blocks" 220) 102)]
def kA:List Addr:=[3,18,19,25,26,30,31,35,36,42,43,49,50,56,57,61,62,68,69,73,74,80,81,85,86,97,98,102,103]
def kT:Frag:=[(16,⟨.none,none,.fields #[],#[]⟩),(21,⟨.none,none,.fields #[],#[]⟩),(28,⟨.none,none,.fields #[],#[]⟩),(33,⟨.none,none,.fields #[],#[]⟩),(38,⟨.none,none,.fields #[],#[]⟩),(45,⟨.none,none,.fields #[],#[]⟩),(52,⟨.none,none,.fields #[],#[]⟩),(59,⟨.none,none,.fields #[],#[]⟩),(64,⟨.none,none,.fields #[],#[]⟩),(71,⟨.none,none,.fields #[],#[]⟩),(76,⟨.none,none,.fields #[],#[]⟩),(83,⟨.none,none,.fields #[],#[]⟩),(93,⟨.none,none,.fields #[],#[]⟩),(100,⟨.none,none,.fields #[],#[]⟩)]
def kAll(P:Params):Frag:=kT++kK P
def kB:List Addr:=[16,21,28,33,38,45,52,59,64,71,76,83,93,100,3,18,19,25,26,30,31,35,36,42,43,49,50,56,57,61,62,68,69,73,74,80,81,85,86,97,98,102,103]
theorem kE:∀P,kB=(kAll P).map (·.1):=λ_=>by kernel_rfl
def kQ:Program:=view PySem.Challenge.pw_talkleast_k32_widest_blocks [1,3,4,5,7,8,9,10,11,12,13,14,15,16,17]
def kL:List Str:=[]
set_option maxHeartbeats 0 in
theorem kLeft:LeftO PySem.Challenge.pw_talkleast_k32_widest_blocks kQ kL (λs=>xlAt kQ [] s&&recOk (RowW.records (OpenRow.toRowW (OpenLaw.row PySem.Challenge.rw_talkleast_k32_widest_blocks))) s) (kHook kAll kB kE).obs (kHook kAll kB kE).val 1034:=by
 intro w
 kernel_rfl
end k32
end
noncomputable section
namespace L2
open PySem PySem.Spec PyProof.Rows
abbrev Key:=Sum Int Str
def q8z:Key->Value->Bool
 | .inl k,v=>Value.isInt k v
 | .inr x,v=>Value.isStrOf x v
def keyH(w:World):Key->Int
 | .inl k=>hashInt k
 | .inr x=>hashStr w x
theorem q0L:∀{k:Key} {v:Value},q8z k v=true->(∃i t,k=Sum.inl i/\v=Value.int i t)\/(∃x t,k=Sum.inr x/\v=Value.str x t)
 | .inl i,v,h=>by obtain⟨t,e⟩:=Value.isInt_shape (k:=i) (v:=v) h;exact .inl ⟨i,t,rfl,e⟩
 | .inr x,v,h=>by obtain⟨t,e⟩:=Value.isStrOf_shape (x:=x) (v:=v) h;exact .inr ⟨x,t,rfl,e⟩
theorem q9O(i:Int)(t:Tok):q8z (.inl i) (.int i t)=true:=by simp[q8z,Value.isInt]
theorem q8E(x:Str)(t:Tok):q8z (.inr x) (.str x t)=true:=by simp[q8z,Value.isStrOf]
theorem z6b(a b:Int):decide ((Sum.inl a:Key)=Sum.inl b)=(a==b):=by
 by_cases e:a=b
 ·subst e;simp
 ·have h:¬(Sum.inl a:Key)=Sum.inl b:=λq=>e (Sum.inl.inj q);rw[decide_eq_false h];exact(beq_eq_false_iff_ne.mpr e).symm
theorem z5Z(a b:Str):decide ((Sum.inr a:Key)=Sum.inr b)=decide (a=b):=by
 by_cases e:a=b
 ·subst e;simp
 ·have h:¬(Sum.inr a:Key)=Sum.inr b:=λq=>e (Sum.inr.inj q);rw[decide_eq_false h,decide_eq_false e]
theorem z4W(a:Int)(b:Str):decide ((Sum.inl a:Key)=Sum.inr b)=false:=decide_eq_false (λq=>nomatch q)
theorem z6t(a:Str)(b:Int):decide ((Sum.inr a:Key)=Sum.inl b)=false:=decide_eq_false (λq=>nomatch q)
def q1d(prog:Program)(w:World):PySem.KeyKind prog w Key where
 is:=q8z
 hash:=keyH w
 inj:=λv a b ha hb=>by
  rcases q0L ha with⟨i,t,rfl,rfl⟩ | ⟨x,t,rfl,rfl⟩
  ·rcases q0L hb with⟨j,u,rfl,e⟩ | ⟨y,u,rfl,e⟩
   ·injection e with e1 _;rw[e1]
   ·exact nomatch e
  ·rcases q0L hb with⟨j,u,rfl,e⟩ | ⟨y,u,rfl,e⟩
   ·exact nomatch e
   ·injection e with e1 _;rw[e1]
 byValue:=λk v h=>by rcases q0L h with⟨i,t,rfl,rfl⟩ | ⟨x,t,rfl,rfl⟩<;>rfl
 pyHash:=λhv h=>by
  rcases q0L hv with⟨i,t,rfl,rfl⟩ | ⟨x,t,rfl,rfl⟩
  ·exact wpAny_pyHash_int h
  ·exact wpAny_pyHash_str h
 eqBool:=λhu hv h=>by
  rcases q0L hu with⟨i,t,rfl,rfl⟩ | ⟨x,t,rfl,rfl⟩
  ·rcases q0L hv with⟨j,u,rfl,rfl⟩ | ⟨y,u,rfl,rfl⟩
   ·rw[z6b]at h;exact wpAny_eqBool_int h
   ·rw[z4W]at h;exact SeqAt.EqAt.int_str i t y u _ _ _ _ h
  ·rcases q0L hv with⟨j,u,rfl,rfl⟩ | ⟨y,u,rfl,rfl⟩
   ·rw[z6t]at h;exact SeqAt.EqAt.str_int x t j u _ _ _ _ h
   ·rw[z5Z]at h;exact wpAny_eqBool_str h
 «strs»:=λk x t v h=>by
  rcases q0L h with⟨i,u,rfl,e⟩ | ⟨y,u,rfl,e⟩
  ·exact nomatch e
  ·injection e with e1 _
   subst e1;cases v<;>rfl
theorem q6J(prog:Program)(w:World)(i:Int)(t:Tok):(q1d prog w).is (.inl i) (.int i t)=true:=q9O i t
theorem q6t(prog:Program)(w:World)(x:Str)(t:Tok):(q1d prog w).is (.inr x) (.str x t)=true:=q8E x t
end L2
namespace L2
open PySem PySem.Spec PyProof.Rows
inductive V where
 | non | bl (b:Bool) | int (i:Int) | str (x:Str) | byt (b:Array UInt8) | flt (b:UInt64) | ref (a:Addr) | ty (n:String)
 deriving DecidableEq
def RelV:V->Value->Prop
 | .non,u=>u=Value.none
 | .bl b,u=>u=Value.bool b
 | .int i,u=>∃t,u=Value.int i t
 | .str x,u=>∃t,u=Value.str x t
 | .byt b,u=>∃t,u=Value.bytes b t
 | .flt b,u=>∃t,u=Value.float b t
 | .ref a,u=>u=Value.ref a
 | .ty n,u=>u=Value.type n
abbrev Vals:List V->List Value->Prop:=Paired RelV
theorem Vals.length{xs:List V}{us:List Value}(r:Vals xs us):xs.length=us.length:=Paired.length r
theorem Vals.get:∀{xs:List V} {us:List Value} {i:Nat} {x:V},Vals xs us->xs[i]? = some x->∃u,us[i]? = some u/\RelV x u
 | _,_,_,_,.nil,e=>by simp at e
 | _,_,0,_,.cons r _,e=>by simp at e;subst e;exact⟨_,rfl,r⟩
 | _,_,i+1,x,.cons _ t,e=>by obtain⟨u,h1,h2⟩:=Vals.get (i:=i) (x:=x) t (by simpa using e);exact⟨u,by simpa using h1,h2⟩
theorem Vals.set{x:V}{u:Value}(r:RelV x u):∀{xs:List V} {us:List Value} (i:Nat),Vals xs us->Vals (xs.set i x) (us.set i u)
 | _,_,_,.nil=>.nil
 | _,_,0,.cons _ t=>.cons r t
 | _,_,i+1,.cons q t=>.cons q (Vals.set r i t)
theorem Vals.append:∀{xs ys:List V} {us ws:List Value},Vals xs us->Vals ys ws->Vals (xs++ys) (us++ws)
 | _,_,_,_,.nil,s=>s
 | _,_,_,_,.cons r t,s=>.cons r (Vals.append t s)
theorem Vals.take:∀{xs:List V} {us:List Value} (n:Nat),Vals xs us->Vals (xs.take n) (us.take n)
 | _,_,0,_=>.nil
 | _,_,_+1,.nil=>.nil
 | _,_,n+1,.cons r t=>.cons r (Vals.take n t)
theorem Vals.drop:∀{xs:List V} {us:List Value} (n:Nat),Vals xs us->Vals (xs.drop n) (us.drop n)
 | _,_,0,r=>r
 | _,_,_+1,.nil=>.nil
 | _,_,n+1,.cons _ t=>Vals.drop n t
def RelO:Option V->Option Value->Prop
 | some v,some u=>RelV v u
 | none,none=>True
 | _,_=>False
def KV{κ:Type}:List (κ×V)->List (κ×Value)->Prop:=Paired λ(p:κ×V) (q:κ×Value)=>p.1=q.1/\RelV p.2 q.2
def kV:Key->V
 | .inl i=>.int i
 | .inr x=>.str x
inductive HO where
 | lst (xs:List V)
 | tup (xs:List V)
 | dK (kvs:List (Key×V)) | dT (kvs:List (List Key×V))
 | set (S:Int->Bool) (n:Nat)
 | ins (C dx:Addr) (fs:List (Str×V))
 | own (x:Addr)
 | xd (fs:List (Str×V))
 | met (f x:Addr)
 | rng (lo hi:Int)
 | frz (o:Obj) (u:HO)
 | tbl (q:Str)
 | ext (φ:Heap->Prop)
abbrev Hp:=Addr->Option HO
def upd(H:Hp)(a:Addr)(o:HO):Hp:=λb=>if b=a then some o else H b
theorem q0n{H:Hp}{a:Addr}{o:HO}:upd H a o a=some o:=by unfold upd;rw[if_pos rfl]
theorem q0f{H:Hp}{a b:Addr}{o:HO}(h:b≠a):upd H a o b=H b:=by unfold upd;rw[if_neg h]
theorem z7E{H:Hp}{a b:Addr}{o u:HO}(h:H a=some o)(h':H b=some u)(d:o≠u):a≠b:=by
 intro e;subst e;rw[h]at h';exact d (Option.some.inj h')
theorem q0p{H:Hp}{a b:Addr}{o:HO}(h:H a=some o)(h':H b=none):a≠b:=by
 intro e;subst e;rw[h]at h';cases h'
def q2J(h:Heap)(a:Addr)(items:Array Value):Prop:=∃o,h.get? a=some o/\(o.cls=.type "tuple" /\ o.dict=none)/\∃n,o.data=.seq items n
theorem q2J.tup{h:Heap}{a items}(x:q2J h a items):IsTup h a items:=let ⟨o,ho,hc,r⟩:=x;⟨o,ho,hc.1,r⟩
theorem q2J.lt{h:Heap}{a items}(x:q2J h a items):a<h.objs.size:=let ⟨_,ho,_⟩:=x;Heap.lt_size ho
theorem q2J.new(h:Heap)(items:Array Value):q2J (h.push {cls:=.type "tuple",data:=.seq items}) h.objs.size items:=⟨_,Heap.get?_push_size _ rfl,⟨rfl,rfl⟩,_,rfl⟩
section
variable (P:Program) (w:World)
def q1f(H:Hp)(h:Heap)(a:Addr):HO->Prop
 | .lst xs=>xs.length<=sizeLine/\∃(its:List Value) (n:Nat),Vals xs its/\h.get? a=some {cls:=.type "list",data:=.seq its.toArray n}
 | .tup xs=>xs.length<=sizeLine/\∃its:List Value,Vals xs its/\q2J h a its.toArray
 | .dK kvs=>kvs.length<=sizeLine/\(a==sysModules)=false/\∃vs,KV kvs vs/\h.DictOf (q1d P w) a vs
 | .dT kvs=>kvs.length<=sizeLine/\(a==sysModules)=false/\∃xs:List (List Key×Addr×Value),
   Paired (λ(p:List Key×V) (q:List Key×Addr×Value)=>p.1=q.1/\H q.2.1=some (.tup (p.1.map kV))/\RelV p.2 q.2.2) kvs xs /\
   ∃o es ep,h.get? a=some o/\o.ExactDict/\o.data=.dict es ep/\es.toList=xs.map (entryOfKey (tupleKind (q1d P w)))/\(xs.map (·.1)).Nodup
 | .set S n=>h.SetOf (intKind P w) a S n
 | .ins C dx fs=>H dx=some (.own a)/\fs.length<=1000/\dx≠a/\h.get? a=some (PySem.W.instObj C dx) /\
   ∃mA,h.Ns1 dx mA/\(∀f,RelO (fs.lookup f) (mA f))/\PySem.Within mA (fs.map (·.1))
 | .own _=>∃o,h.get? a=some o
 | .xd fs=>∃mA,h.Ns1 a mA/\∀f,RelO (fs.lookup f) (mA f)
 | .rng lo hi=>∃t u v,h.get? a=some {cls:=.type "range",data:=.fields #[.int lo t,.int hi u,.int 1 v]}
 | .frz o u=>h.get? a=some o/\q1f H h a u
 | .tbl q=>∃ps:Array Value,h.get? a=some {cls:=.none,data:=.fields ps} /\ TriplesOk ps.toList/\∀pos cv,codeAmong pos ps.toList=some cv->∃c oc u vs t,cv=.ref c/\H c=some (.frz oc u)/\oc.data=.fields vs/\vs[1]? = some (.str q t)
 | .met f x=>h.get? a=some (PySem.W.methodObj (.ref f) (.ref x))
 | .ext φ=>φ h/\(∃o,h.get? a=some o)/\∀h1 h2:Heap,φ h1->(∀o,h1.get? a=some o->h2.get? a=some o)->φ h2
def HOk(H:Hp)(h:Heap):Prop:=∀a o,H a=some o->q1f P w H h a o
end
section
variable {P:Program} {w:World} {H H':Hp} {h h':Heap} {a:Addr} {o:HO}
theorem q1f.lt(x:q1f P w H h a o):a<h.objs.size:=by
 cases o with
 | lst xs=>obtain⟨_,_,_,_,e⟩:=x;exact Heap.lt_size e
 | tup xs=>obtain⟨_,_,_,p⟩:=x;exact p.lt
 | dK kvs=>obtain⟨_,_,_,_,o,_,_,e,_⟩:=x;exact Heap.lt_size e
 | dT kvs=>obtain⟨_,_,_,_,o,_,_,e,_⟩:=x;exact Heap.lt_size e
 | set S n=>obtain⟨o,_,_,_,e,_⟩:=x;exact Heap.lt_size e
 | ins C dx fs=>obtain⟨_,_,_,e,_⟩:=x;exact Heap.lt_size e
 | own y=>obtain⟨_,e⟩:=x;exact Heap.lt_size e
 | xd fs=>obtain⟨_,⟨_,_,_,e,_⟩,_⟩:=x;exact Heap.lt_size e
 | rng lo hi=>obtain⟨_,_,_,e⟩:=x;exact Heap.lt_size e
 | frz ob u=>obtain⟨e,_⟩:=x;exact Heap.lt_size e
 | tbl q=>obtain⟨_,e,_⟩:=x;exact Heap.lt_size e
 | met f y=>exact Heap.lt_size (show h.get? a=some _ from x)
 | ext φ=>obtain⟨_,⟨_,e⟩,_⟩:=x;exact Heap.lt_size e
theorem Paired.mapP{α β:Type}{F G:α->β->Prop}:∀{l₁:List α} {l₂:List β},Paired F l₁ l₂->(∀a b,F a b->G a b)->Paired G l₁ l₂
 | _,_,.nil,_=>.nil
 | _,_,.cons r t,f=>.cons (f _ _ r) (Paired.mapP t f)
theorem q1f.stay(x:q1f P w H h a o)(k:∀b u,(b=a\/H b=some (.own a))->h.get? b=some u->h'.get? b=some u)
  (ho:∀b,H b=some (.own a)->H' b=some (.own a)) (ht:∀b xs,H b=some (.tup xs)->H' b=some (.tup xs)) (hz:∀b o u vs,o.data=.fields vs->H b=some (.frz o u)->H' b=some (.frz o u)):q1f P w H' h' a o:=by
 induction o with
 | lst xs=>obtain⟨z,its,n,r,e⟩:=x;exact⟨z,its,n,r,k _ _ (.inl rfl) e⟩
 | tup xs=>obtain⟨z,its,r,ob,e,c⟩:=x;exact⟨z,its,r,ob,k _ _ (.inl rfl) e,c⟩
 | dK kvs=>obtain⟨z,y,vs,r,ob,es,ep,e,c⟩:=x;exact⟨z,y,vs,r,ob,es,ep,k _ _ (.inl rfl) e,c⟩
 | dT kvs=>
  obtain⟨z,y,xs,r,ob,es,ep,e,c⟩:=x;exact⟨z,y,xs,Paired.mapP r λp q z=>⟨z.1,ht _ _ z.2.1,z.2.2⟩,ob,es,ep,k _ _ (.inl rfl) e,c⟩
 | set S n=>obtain⟨ob,es,ep,t,e,c⟩:=x;exact⟨ob,es,ep,t,k _ _ (.inl rfl) e,c⟩
 | ins C dx fs=>
  obtain⟨d,z,ne,e,mA,⟨od,es,ep,e2,c⟩,r⟩:=x;exact⟨ho _ d,z,ne,k _ _ (.inl rfl) e,mA,⟨od,es,ep,k _ _ (.inr d) e2,c⟩,r⟩
 | own y=>obtain⟨ob,e⟩:=x;exact⟨ob,k _ _ (.inl rfl) e⟩
 | xd fs=>obtain⟨mA,⟨od,es,ep,e,c⟩,r⟩:=x;exact⟨mA,⟨od,es,ep,k _ _ (.inl rfl) e,c⟩,r⟩
 | rng lo hi=>obtain⟨t,u,v,e⟩:=x;exact⟨t,u,v,k _ _ (.inl rfl) e⟩
 | frz ob u ih=>obtain⟨e,q⟩:=x;exact⟨k _ _ (.inl rfl) e,ih q⟩
 | tbl q=>
  obtain⟨ps,e,t,f⟩:=x;refine⟨ps,k a _ (.inl rfl) e,t,λpos cv z=>?_⟩;obtain⟨c,oc,u,vs,t',e1,e2,e3,e4⟩:=f pos cv z;exact⟨c,oc,u,vs,t',e1,hz _ _ _ _ e3 e2,e3,e4⟩
 | met f y=>
  have e:h.get? a=some (PySem.W.methodObj (.ref f) (.ref y)):=x;show h'.get? a=some (PySem.W.methodObj (.ref f) (.ref y));exact k a _ (.inl rfl) e
 | ext φ=>obtain⟨p,⟨o,e⟩,st⟩:=x;exact⟨st _ _ p λo q=>k _ _ (.inl rfl) q,⟨o,k _ _ (.inl rfl) e⟩,st⟩
theorem HOk.lt(x:HOk P w H h)(e:H a=some o):a<h.objs.size:=(x a o e).lt
theorem HOk.fresh(x:HOk P w H h)(e:h.objs.size<=a):H a=none:=by
 cases q:H a with
 | none=>rfl
 | some u=>exact absurd (Nat.lt_of_lt_of_le (x.lt q) e) (Nat.lt_irrefl _)
theorem HOk.kept(x:HOk P w H h)(k:∀b u,h.get? b=some u->h'.get? b=some u):HOk P w H h':=λa o e=>
 (x a o e).stay (λb u _ q=>k b u q) (λ_ q=>q) (λ_ _ q=>q) λ_ _ _ _ _ q=>q
theorem HOk.laid(x:HOk P w H h)(k:∀b u,h.get? b=some u->h'.get? b=some u)(hp:h.objs.size<=a)(new:q1f P w (upd H a o) h' a o):HOk P w (upd H a o) h':=λb u e=>by
 have hn:=x.fresh hp;by_cases hb:b=a
 ·subst hb;rw[q0n]at e;cases e;exact new
 ·rw[q0f hb]at e;exact(x b u e).stay (λc v _ q=>k c v q) (λc q=>by rw[q0f (q0p q hn)];exact q) (λc xs q=>by rw[q0f (q0p q hn)];exact q) λc _ _ _ _ q=>by rw[q0f (q0p q hn)];exact q
end
def Rd(H:Hp)(a:Addr)(u:HO):Prop:=H a=some u\/∃o,H a=some (.frz o u)
theorem Rd.ok{P:Program}{w:World}{H:Hp}{h:Heap}{a:Addr}{u:HO}(r:Rd H a u)(x:HOk P w H h):q1f P w H h a u:=by
 rcases r with r | ⟨o,r⟩
 ·exact x a u r
 ·obtain⟨_,q⟩:=x a _ r;exact q
def Mut:Option HO->Prop
 | some (.lst _)=>True
 | some (.dK _)=>True
 | some (.dT _)=>True
 | some (.set _ _)=>True
 | some (.ins _ _ _)=>True
 | some (.ext _)=>True
 | _=>False
section
variable {P:Program} {w:World} {H:Hp} {h h':Heap} {x e:Addr} {o':HO}
theorem HOk.write(ok:HOk P w H h)(mu:Mut (H x))(he:e=x\/H e=some (.own x))(k:∀b u,b≠e->h.get? b=some u->h'.get? b=some u)(heo:∃u,h'.get? e=some u)
  (new:q1f P w (upd H x o') h' x o'):HOk P w (upd H x o') h':=λb u q=>by
 have nown:∀c y,H c=some (.own y)->c≠x:=λc y r z=>by subst z;rw[r]at mu;exact mu
 have ntup:∀c xs,H c=some (.tup xs)->c≠x:=λc xs r z=>by subst z;rw[r]at mu;exact mu
 by_cases hb:b=x
 ·subst hb;rw[q0n]at q;cases q;exact new
 ·rw[q0f hb]at q;by_cases hbe:b=e
  ·have q':H b=some (.own x):=by
    rcases he with z | z
    ·exact absurd (hbe.trans z) hb
    ·rw[hbe];exact z
   rw[q]at q';cases q';obtain⟨v,hv⟩:=heo;exact⟨v,by rw[hbe];exact hv⟩
  ·refine(ok b u q).stay (λc v hc r=>k c v ?_ r) (λc r=>by rw[q0f (nown c b r)];exact r) (λc xs r=>by rw[q0f (ntup c xs r)];exact r) λc o v _ _ r=>by rw[q0f λz=>by subst z;rw[r]at mu;exact mu];exact r
   rcases hc with rfl | hc
   ·exact hbe
   ·rintro rfl
    rcases he with z | z
    ·exact nown c b hc z
    ·rw[hc]at z;cases z;exact hb rfl
end
structure Un(fs ex:List Addr)(H H':Hp)(h h':Heap):Prop where
 keep:∀b o,h.get? b=some o->H b=none->b∉fs->b∉ex->h'.get? b=some o
 slot:∀b o,h.get? b=some o->H b=none->b∈fs->b∉ex->∃sl,h'.get? b=some {o with slots:=sl}
 free:∀b o,h.get? b=some o->H b=none->b∉ex->H' b=none
 there:∀b o,h.get? b=some o->b∉ex->∃o',h'.get? b=some o'
 tups:∀b xs,H b=some (.tup xs)->H' b=some (.tup xs)
 frzs:∀b o u,H b=some (.frz o u)->H' b=some (.frz o u)
 tbls:∀b q,H b=some (.tbl q)->H' b=some (.tbl q)
section
variable {fs fs' ex ex':List Addr} {H H1 H2:Hp} {h h1 h2 h':Heap} {a x e:Addr} {o:HO}
theorem Un.any(u:Un fs ex H H1 h h1){b:Addr}{ob:Obj}(q:h.get? b=some ob)(n:H b=none)(hx:b∉ex):∃sl,h1.get? b=some {ob with slots:=sl}:=by
 by_cases hb:b∈fs
 ·exact u.slot b ob q n hb hx
 ·exact⟨ob.slots,u.keep b ob q n hb hx⟩
theorem Un.kept(k:∀b u,h.get? b=some u->h'.get? b=some u):Un fs ex H H h h':=
 ⟨λb ob q _ _ _=>k b ob q,λb ob q _ _ _=>⟨ob.slots,k b ob q⟩,λ_ _ _ n _=>n,λb ob q _=>⟨ob,k b ob q⟩,λ_ _ q=>q,λ_ _ _ q=>q,λ_ _ q=>q⟩
theorem Un.refl:Un fs ex H H h h:=Un.kept λ_ _ q=>q
theorem Un.laid(k:∀b u,h.get? b=some u->h'.get? b=some u)(hp:h.objs.size<=a)(hn:H a=none):Un fs ex H (upd H a o) h h' where
 keep:=λb u q _ _ _=>k b u q
 slot:=λb u q _ _ _=>⟨u.slots,k b u q⟩
 free:=λb u q n _=>by rw[q0f (Nat.ne_of_lt (Nat.lt_of_lt_of_le (Heap.lt_size q) hp))];exact n
 there:=λb u q _=>⟨u,k b u q⟩
 tups:=λb xs q=>by rw[q0f (q0p q hn)];exact q
 frzs:=λb u xs q=>by rw[q0f (q0p q hn)];exact q
 tbls:=λb ps q=>by rw[q0f (q0p q hn)];exact q
theorem Un.write(mu:Mut (H x))(he:e=x\/H e=some (.own x))(k:∀b u,b≠e->h.get? b=some u->h'.get? b=some u)(heo:∃u,h'.get? e=some u):Un fs ex H (upd H x o) h h':=by
 have hx:∀b,H b=none->b≠x:=λb n z=>by subst z;rw[n]at mu;exact mu
 have hb:∀b,H b=none->b≠e:=λb n z=>by
  subst z;rcases he with r | r
  ·exact hx b n r
  ·rw[n]at r;cases r
 have hm:∀b u,H b=some u->¬Mut (some u)->b≠x:=λb u q nm z=>by subst z;rw[q]at mu;exact nm mu
 refine⟨λb u q n _ _=>k b u (hb b n) q,λb u q n _ _=>⟨u.slots,k b u (hb b n) q⟩,λb u q n _=>by rw[q0f (hx b n)];exact n,λb u q _=>?_,
  λb xs q=>by rw[q0f (hm b _ q λz=>z)];exact q,λb u xs q=>by rw[q0f (hm b _ q λz=>z)];exact q,λb ps q=>by rw[q0f (hm b _ q λz=>z)];exact q⟩
 by_cases hbe:b=e
 ·subst hbe;exact heo
 ·exact⟨u,k b u hbe q⟩
end
def trk(h:Heap)(H:Hp):List Addr:=(List.range h.objs.size).filter λa=>(H a).isSome
def hidT(h:Heap)(H:Hp):Heap:=PySem.W.hideAll h (trk h H)
theorem q8X(h:Heap)(H:Hp):(hidT h H).objs.size=h.objs.size:=PySem.W.hideAll_size _ _
theorem z0X{h:Heap}{H:Hp}{b:Addr}{o:Obj}(e:h.get? b=some o)(n:H b=none):(hidT h H).get? b=some o:=
 PySem.W.hideAll_get _ e λhm=>by have q:(H b).isSome=true:=(List.mem_filter.mp hm).2;rw[n]at q;simp at q
theorem z4c{h:Heap}{H:Hp}{b:Addr}{o:Obj}(e:(hidT h H).get? b=some o):h.get? b=some o/\H b=none:=by
 have e':h.get? b=some o:=PySem.W.of_hideAll (trk h H) e;refine⟨e',?_⟩;cases q:H b with
 | none=>rfl
 | some x=>
  have hm:b∈trk h H:=List.mem_filter.mpr ⟨List.mem_range.mpr (Heap.lt_size e'),by simp[q]⟩;have z:(hidT h H).get? b=none:=PySem.W.hideAll_none (trk h H) hm;rw[z]at e;cases e
def z2A(g h:Heap)(L:Addr):List (Addr×Obj):=(List.range h.objs.size).filterMap λa=>if a=L\/(g.get? a).isSome=true then none else(h.get? a).map λo=>(a,o)
def rest(g h:Heap)(L d:Addr):List (Addr×Obj):=(z2A g h L).filter λp=>decide (p.1≠d)
end L2
namespace L2
open PySem PySem.Spec PyProof.Rows
structure Mod(K:PySem.W.Frag)(mg:Str->Option Value)(base:Heap):Prop where
 kin:K.In base
 glob:base.Ns mainGlobals mg
 blt:∃mb,base.Ns builtinsNs mb/\∀x:Str,x ≠ "__name__" -> mb x=bootBuiltins x
 nolimit:base.NoLimit
 bmod:∃bm ob,mg "__builtins__" = some (.ref bm)/\bm≠builtinsNs/\base.get? bm=some ob/\ob.cls=.type "module" /\ ob.dict=some builtinsNs/\ob.data=.plain
structure Cx where
 prog:Program
 w:World
 K:PySem.W.Frag
 mg:Str->Option Value
 base:Heap
 A:Around
 N:List Str
 s₀:Shared
 H₀:Hp
 env:Env
 outer:List Env
 stack:List Env
 ex:List Addr
 fn:Str->Bool
 calm:Bool
 pn:List (Addr×Obj)
 xe:Value->Shared->Prop
def q0I(K:PySem.W.Frag):List (Addr×Str):=K.filterMap λp=>match p.2.cls,p.2.data with
 | .type "code",.fields vs=>(match(vs[11]?:Option Value),(vs[1]?:Option Value)with
  | some (.ref P),some (.str q _)=>if(K.lookup P).isNone then some (P,q ++ ".<locals>." ++ "<lambda>")else none
  | _,_=>none)
 | _,_=>none
def q6g(K:PySem.W.Frag)(H:Hp):Prop:=∀p∈q0I K,H p.1=some (.tbl p.2)
def frs(l:List Env):List Addr:=l.filterMap (·.frame)
abbrev Cx.fs(X:Cx):List Addr:=frs X.outer
def Vis(sc:Scope)(x:Str):Prop:=sc.names.lookup x=some .local\/sc.names.lookup x=some .cell\/sc.names.lookup x=some .free
def Loc(sc:Scope)(x:Str):Prop:=sc.names.lookup x=some .local\/sc.names.lookup x=some .cell
def Look(env:Env)(h:Heap)(m:Str->Option Value)(x:Str)(u:Value):Prop:=
 (env.kindOf x=some .local/\m x=some u)\/((env.kindOf x=some .cell\/env.kindOf x=some .free)/\∃c,env.cells.lookup x=some c/\h.IsCell c (some u))
structure Cx.Ok(X:Cx):Prop where
 mod:Mod X.K X.mg X.base
 kind:X.env.scope.kind=.function
 glob:X.env.globals=mainGlobals
 blt:X.env.builtins=builtinsNs
 above:X.s₀.heap.objs.size<=X.env.locals
 inj:∀x y c,X.env.cells.lookup x=some c->X.env.cells.lookup y=some c->x=y
 has:∀x,(X.env.kindOf x=some .cell\/X.env.kindOf x=some .free)->∃c,X.env.cells.lookup x=some c
 cab:∀x c,X.fn x=true->X.env.cells.lookup x=some c->X.s₀.heap.objs.size<=c
 hd:X.calm=true->X.A.handled=none
 frames:X.A.frames=some X.stack
 stk:X.stack=X.outer\/(X.stack=X.env::X.outer/\X.env.frame=some X.env.locals)
 exf:∀b∈X.ex,b≠X.env.locals/\∀x c,X.env.cells.lookup x=some c->c≠b
 bs:∀b o,X.base.get? b=some o->X.s₀.heap.get? b=some o/\X.H₀ b=none
 bsz:X.base.objs.size<=X.s₀.heap.objs.size
 noex:∀b o,X.base.get? b=some o->b∉X.ex
 exfs:∀b∈X.ex,b∉X.fs
 funs:X.s₀.heap.FunFrames X.base X.outer
 frf:(∀b∈X.fs,X.H₀ b=none)/\q6g X.K X.H₀
structure Inv(X:Cx)(pins:List (Addr×Obj))(σ:List (Option V))(H:Hp)(s:Shared):Prop where
 ok:X.Ok
 os:s.os=X.s₀.os
 bare:AllBare s.gens
 base:Un X.fs X.ex X.H₀ H X.s₀.heap s.heap
 loc:∃m,s.heap.Ns X.env.locals m/\∀(i:Nat) (x:Str) (v:V),X.N[i]? = some x->σ[i]? = some (some v)->Vis X.env.scope x->∃u,RelV v u/\Look X.env s.heap m x u
 cell:∀x c,X.env.cells.lookup x=some c->∃v,s.heap.IsCell c v
 free:H X.env.locals=none
 freeC:∀x c,X.env.cells.lookup x=some c->H c=none
 pin:∀p∈X.pn++pins,s.heap.get? p.1=some p.2/\H p.1=none/\p.1≠X.env.locals/\p.1∉X.fs/\∀v,p.2.data ≠ .cell v
 hok:HOk X.prog X.w H s.heap
 len:σ.length=X.N.length
section
variable {X:Cx} {pins:List (Addr×Obj)} {σ:List (Option V)} {H H':Hp} {s:Shared} {h':Heap}
theorem Cx.Ok.nofr(ok:X.Ok){b:Addr}{o:Obj}(e:X.base.get? b=some o):b∉X.fs:=λhb=>by
 have:=(ok.funs.mem hb).1;rw[e]at this;cases this
theorem Inv.bs(I:Inv X pins σ H s):∀b o,X.base.get? b=some o->s.heap.get? b=some o/\H b=none:=λb o e=>
 ⟨I.base.keep b o (I.ok.bs b o e).1 (I.ok.bs b o e).2 (I.ok.nofr e) (I.ok.noex b o e),I.base.free b o (I.ok.bs b o e).1 (I.ok.bs b o e).2 (I.ok.noex b o e)⟩
theorem Inv.bk(I:Inv X pins σ H s):∀b o,X.base.get? b=some o->s.heap.get? b=some o:=λb o e=>(I.bs b o e).1
theorem Inv.mod(I:Inv X pins σ H s):Mod X.K X.mg X.base:=I.ok.mod
theorem Inv.tabs(I:Inv X pins σ H s):q6g X.K H:=λp hp=>I.base.tbls p.1 p.2 (I.ok.frf.2 p hp)
theorem Inv.kIn(I:Inv X pins σ H s):X.K.In s.heap:=I.ok.mod.kin.keeps I.bk
theorem Inv.lt(I:Inv X pins σ H s):X.env.locals<s.heap.objs.size:=let ⟨_,hn,_⟩:=I.loc;hn.lt
theorem Inv.sz(I:Inv X pins σ H s):X.s₀.heap.objs.size<=s.heap.objs.size:=Nat.le_trans I.ok.above (Nat.le_of_lt I.lt)
theorem Inv.nofs(I:Inv X pins σ H s){a:Addr}(h:s.heap.objs.size<=a):a∉X.fs:=λhb=>by
 obtain⟨_,o,ho,_⟩:=I.ok.funs.mem hb
 exact absurd (Nat.lt_of_lt_of_le (Heap.lt_size ho) (Nat.le_trans I.sz h)) (Nat.lt_irrefl _)
theorem Inv.cne(I:Inv X pins σ H s):∀x c,X.env.cells.lookup x=some c->c≠X.env.locals:=λx c e z=>by
 obtain⟨v,o,ho,hd⟩:=I.cell x c e;obtain⟨m,⟨o',es,ep,ho',hd',_⟩,_⟩:=I.loc;rw[z,ho']at ho;cases ho;rw[hd']at hd;cases hd
theorem Inv.funs(I:Inv X pins σ H s):s.heap.FunFrames X.base X.outer:=by
 have all:∀(l:List Env),(∀b∈frs l,b∈X.fs)->X.s₀.heap.FunFrames X.base l->s.heap.FunFrames X.base l:=by
  intro l
  induction l with
  | nil=>intro _ _;trivial
  | cons env r ih=>
   intro hs hl;obtain⟨hk,⟨L,o,hf,hn,ho,hd⟩,hr⟩:=hl;have hL:L∈X.fs:=hs L (by unfold frs;rw[List.filterMap_cons,hf];exact List.mem_cons_self);obtain⟨sl,e⟩:=I.base.slot L o ho (I.ok.frf.1 L hL) hL λz=>I.ok.exfs L z hL
   exact⟨hk,⟨L,_,hf,hn,e,hd⟩,ih (λb hb=>hs b (by unfold frs;rw[List.filterMap_cons,hf];exact List.mem_cons_of_mem _ hb)) hr⟩
 exact all X.outer (λ_ hb=>hb) I.ok.funs
theorem Inv.stack(I:Inv X pins σ H s):s.heap.FunFrames X.base X.stack:=by
 rcases I.ok.stk with e | ⟨e,hf⟩
 ·rw[e];exact I.funs
 ·rw[e];obtain⟨m,hn,_⟩:=I.loc;refine .cons (by rw[I.ok.kind];decide) hf hn ?_ I.funs
  exact Heap.get?_none_of_le (Nat.le_trans I.ok.bsz I.ok.above)
theorem Inv.stkSub(I:Inv X pins σ H s):∀b∈frs X.stack,b∈X.env.locals::X.fs:=λb hb=>by
 rcases I.ok.stk with e | ⟨e,hf⟩
 ·rw[e]at hb;exact List.mem_cons_of_mem _ hb
 ·rw[e]at hb;unfold frs at hb;rw[List.filterMap_cons,hf]at hb;exact hb
theorem Inv.stkFree(I:Inv X pins σ H s):∀b∈frs X.stack,H b=none:=λb hb=>by
 rcases List.mem_cons.mp (I.stkSub b hb)with e | hb
 ·rw[e];exact I.free
 ·obtain⟨_,o,ho,_⟩:=I.ok.funs.mem hb
  exact I.base.free b o ho (I.ok.frf.1 b hb) λz=>I.ok.exfs b z hb
theorem Inv.step{g':Array GenState}{t':Nat}{d':Drawn}{ch:List Addr}(I:Inv X pins σ H s)
  (hch:∀b∈ch,(b∈X.ex\/X.s₀.heap.objs.size<=b)/\b≠X.env.locals/\(∀x c,X.env.cells.lookup x=some c->c≠b)/\∀p∈X.pn++pins,p.1≠b)
  (keep:∀b o,b≠X.env.locals->b∉X.fs->b∉ch->s.heap.get? b=some o->H b=none->h'.get? b=some o)
  (slot:∀b o,b≠X.env.locals->b∈X.fs->b∉ch->s.heap.get? b=some o->H b=none->∃sl,h'.get? b=some {o with slots:=sl}) (free:∀b o,b∉ch->s.heap.get? b=some o->H b=none->H' b=none)
  (there:∀b o,b∉ch->s.heap.get? b=some o->∃o',h'.get? b=some o')
  (tups:∀b xs,H b=some (.tup xs)->H' b=some (.tup xs)) (frzs:∀b o u,H b=some (.frz o u)->H' b=some (.frz o u)) (tbls:∀b q,H b=some (.tbl q)->H' b=some (.tbl q))
  (ns:∀m,s.heap.Ns X.env.locals m->h'.Ns X.env.locals m) (hok:HOk X.prog X.w H' h') (hg:AllBare g') :
  Inv X pins σ H' {s with heap:=h',gens:=g',drawn:=d',toks:=t'}:=by
 have neL:∀b o,X.s₀.heap.get? b=some o->b≠X.env.locals:=λb o e=>Nat.ne_of_lt (Nat.lt_of_lt_of_le (Heap.lt_size e) I.ok.above);have neC:∀b o,X.s₀.heap.get? b=some o->b∉X.ex->b∉ch:=λb o e hx hb=>by
  rcases(hch b hb).1 with z | z
  ·exact hx z
  ·exact absurd (Nat.lt_of_lt_of_le (Heap.lt_size e) z) (Nat.lt_irrefl _)
 have cellK:∀x c,X.env.cells.lookup x=some c->∀v,s.heap.IsCell c v->h'.IsCell c v:=λx c e v ⟨o,ho,hd⟩=>by
  have nch:c∉ch:=λz=>(hch c z).2.2.1 x c e rfl;by_cases hc:c∈X.fs
  ·obtain⟨sl,q⟩:=slot c o (I.cne x c e) hc nch ho (I.freeC x c e);exact⟨_,q,hd⟩
  ·exact⟨o,keep c o (I.cne x c e) hc nch ho (I.freeC x c e),hd⟩
 refine⟨I.ok,I.os,hg,⟨λb o e n hb hx=>?_,λb o e n hb hx=>?_,λb o e n hx=>?_,λb o e hx=>?_,λb xs e=>tups b xs (I.base.tups b xs e),λb o xs e=>frzs b o xs (I.base.frzs b o xs e),λb ps e=>?_⟩,?_,λx c e=>?_,?_,λx c e=>?_,λp hp=>?_,hok,I.len⟩
 ·exact keep b o (neL b o e) hb (neC b o e hx) (I.base.keep b o e n hb hx) (I.base.free b o e n hx)
 ·obtain⟨sl,e1⟩:=I.base.slot b o e n hb hx;obtain⟨sl',e2⟩:=slot b _ (neL b o e) hb (neC b o e hx) e1 (I.base.free b o e n hx);exact⟨sl',e2⟩
 ·obtain⟨o',e1⟩:=I.base.there b o e hx;exact free b o' (neC b o e hx) e1 (I.base.free b o e n hx)
 ·obtain⟨o',e1⟩:=I.base.there b o e hx;exact there b o' (neC b o e hx) e1
 ·exact tbls b ps (I.base.tbls b ps e)
 ·obtain⟨m,hn,hl⟩:=I.loc;refine⟨m,ns m hn,λi x v e1 e2 e3=>?_⟩;obtain⟨u,r,l⟩:=hl i x v e1 e2 e3;refine⟨u,r,?_⟩;rcases l with l | ⟨k,c,e,z⟩
  ·exact .inl l
  ·exact .inr ⟨k,c,e,cellK x c e _ z⟩
 ·obtain⟨v,z⟩:=I.cell x c e;exact⟨v,cellK x c e v z⟩
 ·obtain⟨m,⟨o,_,_,ho,_⟩,_⟩:=I.loc;exact free _ o (λz=>(hch _ z).2.1 rfl) ho I.free
 ·obtain⟨v,o,ho,hd⟩:=I.cell x c e;exact free c o (λz=>(hch c z).2.2.1 x c e rfl) ho (I.freeC x c e)
 ·obtain⟨e,n,ne,nf,d⟩:=I.pin p hp;have nch:p.1∉ch:=λz=>(hch p.1 z).2.2.2 p hp rfl
  exact⟨keep p.1 p.2 ne nf nch e n,free p.1 p.2 nch e n,ne,nf,d⟩
theorem Inv.un{t':Nat}(I:Inv X pins σ H s)(u:Un X.fs [] H H' s.heap h')(hok:HOk X.prog X.w H' h'):Inv X pins σ H' {s with heap:=h',toks:=t'}:=by
 obtain⟨m,⟨o,es,ep,ho,r⟩,_⟩:=id I.loc;obtain⟨sl,hL⟩:=u.any ho I.free (by simp);exact I.step (g':=s.gens) (d':=s.drawn) (ch:=[]) (λ_ z=>nomatch z) (λb o _ hb _ e n=>u.keep b o e n hb (by simp)) (λb o _ hb _ e n=>u.slot b o e n hb (by simp)) (λb o _ e n=>u.free b o e n (by simp)) (λb o _ e=>u.there b o e (by simp)) u.tups u.frzs u.tbls (λm' hm=>by
  obtain⟨o',es',ep',ho',r'⟩:=hm;rw[ho]at ho';cases ho';exact⟨_,es',ep',hL,r'⟩) hok I.bare
theorem Inv.call{g':Array GenState}{t':Nat}{d':Drawn}{ch:List Addr}(I:Inv X pins σ H s)(u:Un (frs X.stack) ch H H' s.heap h')(hok:HOk X.prog X.w H' h')(hg:AllBare g')
  (hch:∀b∈ch,(b∈X.ex\/X.s₀.heap.objs.size<=b)/\b≠X.env.locals/\(∀x c,X.env.cells.lookup x=some c->c≠b)/\∀p∈X.pn++pins,p.1≠b) :
  Inv X pins σ H' {s with heap:=h',gens:=g',drawn:=d',toks:=t'}:=by
 obtain⟨m,⟨o,es,ep,ho,r⟩,_⟩:=id I.loc;obtain⟨sl,hL⟩:=u.any ho I.free λz=>(hch _ z).2.1 rfl
 exact I.step (ch:=ch) hch (λb o hL hb hc e n=>u.keep b o e n (λz=>(List.mem_cons.mp (I.stkSub b z)).elim hL hb) hc) (λb o _ _ hc e n=>u.any e n hc) (λb o hc e n=>u.free b o e n hc) (λb o hc e=>u.there b o e hc) u.tups u.frzs u.tbls (λm' hm=>by
  obtain⟨o',es',ep',ho',r'⟩:=hm;rw[ho]at ho';cases ho';exact⟨_,es',ep',hL,r'⟩) hok hg
theorem Inv.turned{t':Nat}{it:Addr}(I:Inv X pins σ H s)(k:∀b o,b≠it->s.heap.get? b=some o->h'.get? b=some o)(hn:H it=none)(hL:it≠X.env.locals)
  (h1:it∈X.ex\/X.s₀.heap.objs.size<=it) (h2:∀x c,X.env.cells.lookup x=some c->c≠it) (h3:∀p∈X.pn++pins,p.1≠it):Inv X pins σ H {s with heap:=h',toks:=t'}:=by
 have nit:∀b u,H b=some u->b≠it:=λb u e z=>by rw[z,hn]at e;cases e
 refine I.step (g':=s.gens) (d':=s.drawn) (ch:=[it]) (λb hb=>?_) (λb o _ _ hc e _=>k b o (λz=>hc (by simp[z])) e) (λb o _ _ hc e _=>⟨o.slots,k b o (λz=>hc (by simp[z])) e⟩) (λ_ _ _ _ n=>n)
  (λb o hc e=>⟨o,k b o (λz=>hc (by simp[z])) e⟩) (λ_ _ e=>e) (λ_ _ _ e=>e) (λ_ _ e=>e) (λm hm=>?_) (λb u e=>?_) I.bare
 ·have e:b=it:=by simpa using hb
  subst e;exact⟨h1,hL,h2,h3⟩
 ·obtain⟨o,es,ep,ho,r⟩:=hm;exact⟨o,es,ep,k _ o (Ne.symm hL) ho,r⟩
 ·refine(I.hok b u e).stay (λc v hc q=>k c v ?_ q) (λ_ q=>q) (λ_ _ q=>q) λ_ _ _ _ _ q=>q;rcases hc with z | z
  ·rw[z];exact nit b u e
  ·exact nit c _ z
theorem Inv.tok(I:Inv X pins σ H s)(t:Nat):Inv X pins σ H {s with toks:=t}:=I.un (h':=s.heap) (t':=t) Un.refl I.hok
theorem Inv.kept{t':Nat}(I:Inv X pins σ H s)(k:∀b u,s.heap.get? b=some u->h'.get? b=some u):Inv X pins σ H {s with heap:=h',toks:=t'}:=I.un (Un.kept k) (I.hok.kept k)
theorem Inv.laid{a:Addr}{o:HO}{t':Nat}(I:Inv X pins σ H s)(k:∀b u,s.heap.get? b=some u->h'.get? b=some u)(hp:s.heap.objs.size<=a)(new:q1f X.prog X.w (upd H a o) h' a o) :
  Inv X pins σ (upd H a o) {s with heap:=h',toks:=t'}:=I.un (Un.laid k hp (I.hok.fresh hp)) (I.hok.laid k hp new)
theorem Inv.write{x e:Addr}{o:HO}{t':Nat}(I:Inv X pins σ H s)(mu:Mut (H x))(he:e=x\/H e=some (.own x))(k:∀b u,b≠e->s.heap.get? b=some u->h'.get? b=some u)(heo:∃u,h'.get? e=some u)
  (new:q1f X.prog X.w (upd H x o) h' x o):Inv X pins σ (upd H x o) {s with heap:=h',toks:=t'}:=I.un (Un.write mu he k heo) (I.hok.write mu he k heo new)
theorem Inv.pins_of{pins':List (Addr×Obj)}(I:Inv X pins σ H s)(h:∀p∈pins',s.heap.get? p.1=some p.2/\H p.1=none/\p.1≠X.env.locals/\p.1∉X.fs/\∀v,p.2.data ≠ .cell v):Inv X pins' σ H s:=
 ⟨I.ok,I.os,I.bare,I.base,I.loc,I.cell,I.free,I.freeC,λp hp=>(List.mem_append.mp hp).elim (λz=>I.pin p (List.mem_append_left _ z)) (h p),I.hok,I.len⟩
theorem q5l{N:List Str}(hN:N.Nodup){i j:Nat}{x:Str}(a:N[i]? = some x)(b:N[j]? = some x):i=j:=by
 obtain⟨h1,e1⟩:=List.getElem?_eq_some_iff.mp a;obtain⟨h2,e2⟩:=List.getElem?_eq_some_iff.mp b;exact(List.getElem_inj hN).mp (e1.trans e2.symm)
theorem q5M{M:Model}{A:Around}{E:Value->Shared->Prop}{i:Nat}{x:Str}{v:V}{u:Value}{Q:Unit->Shared->Prop}(I:Inv X pins σ H s)(hN:X.N.Nodup)(hi:X.N[i]? = some x)(hx:Loc X.env.scope x)(r:RelV v u)
  (h:∀s',Inv X pins (σ.set i (some v)) H s'->(∃a,Heap.SameBut a s.heap s'.heap/\(a=X.env.locals\/X.env.cells.lookup x=some a))->Q () s') (hf:X.fn x=true\/X.env.scope.names.lookup x=some .local:=by first | exact .inl rfl | exact .inr rfl | assumption):wpAny M A (storeName X.env x u) Q E s:=by
 obtain⟨m,hn,hl⟩:=id I.loc;have hcls:(X.env.scope.kind == .class||(X.env.scope.kind == .module&&X.env.locals != X.env.globals))=false:=by rw[I.ok.kind];rfl
 have hiσ:i<σ.length:=by rw[I.len];exact(List.getElem?_eq_some_iff.mp hi).1
 have cne:=I.cne;have tracked:∀{a:Addr} {h':Heap},(∃o,s.heap.get? a=some o/\H a=none)->Heap.SameBut a s.heap h'->HOk X.prog X.w H h':=λ{a h'} ha hs b ob e=>by
  obtain⟨_,_,hfree⟩:=ha;refine(I.hok b ob e).stay (λc w' hc q=>(hs.2 c ?_).trans q) (λ_ q=>q) (λ_ _ q=>q) λ_ _ _ _ _ q=>q
  rintro rfl
  rcases hc with rfl | hc
  ·rw[hfree]at e;cases e
  ·rw[hfree]at hc;cases hc
 rcases hx with hk | hk
 ·refine wpAny_storeName_local hk hn (λh' hn' hs=>?_) hcls;obtain⟨oL,_,_,hoL,_⟩:=id hn;refine h _ ⟨I.ok,I.os,I.bare,⟨λb o e n hb hx=>?_,λb o e n hb hx=>?_,I.base.free,λb o e hx=>?_,I.base.tups,I.base.frzs,I.base.tbls⟩,⟨_,hn',λj y v' e1 e2 e3=>?_⟩,λy c e=>?_,I.free,I.freeC,λp hp=>?_,tracked ⟨oL,hoL,I.free⟩ hs,by simpa using I.len⟩ ⟨_,hs,.inl rfl⟩
  ·exact(hs.2 b (Nat.ne_of_lt (Nat.lt_of_lt_of_le (Heap.lt_size e) I.ok.above))).trans (I.base.keep b o e n hb hx)
  ·obtain⟨sl,e1⟩:=I.base.slot b o e n hb hx;exact⟨sl,(hs.2 b (Nat.ne_of_lt (Nat.lt_of_lt_of_le (Heap.lt_size e) I.ok.above))).trans e1⟩
  ·obtain⟨o',e1⟩:=I.base.there b o e hx;exact⟨o',(hs.2 b (Nat.ne_of_lt (Nat.lt_of_lt_of_le (Heap.lt_size e) I.ok.above))).trans e1⟩
  ·by_cases hj:j=i
   ·subst hj;rw[hi]at e1;cases e1;rw[List.getElem?_set_self hiσ]at e2;cases e2;exact⟨u,r,.inl ⟨hk,by simp⟩⟩
   ·rw[List.getElem?_set_ne (Ne.symm hj)]at e2;obtain⟨u',r',q⟩:=hl j y v' e1 e2 e3;refine⟨u',r',?_⟩;rcases q with⟨k,e⟩ | ⟨k,c,e,z⟩
    ·refine .inl ⟨k,?_⟩;have:y≠x:=λe=>hj (q5l hN e1 (e▸hi));simp[this,e]
    ·exact .inr ⟨k,c,e,z.sameBut hs (cne y c e)⟩
  ·obtain⟨w',z⟩:=I.cell y c e;exact⟨w',z.sameBut hs (cne y c e)⟩
  ·obtain⟨e,n,ne,nf,d⟩:=I.pin p hp;exact⟨(hs.2 p.1 ne).trans e,n,ne,nf,d⟩
 ·have hfn:X.fn x=true:=by
   rcases hf with z | z
   ·exact z
   ·rw[z]at hk;cases hk
  obtain⟨c,hc⟩:=I.ok.has x (.inl hk);obtain⟨w',z⟩:=I.cell x c hc;refine wpAny_storeName_cell I.ok.kind hk hc z (λh' hc' hs=>?_);obtain⟨oc,hoc,hocd⟩:=id z;refine h {s with heap:=h'} ⟨I.ok,I.os,I.bare,⟨λb o e n hb hx=>?_,λb o e n hb hx=>?_,I.base.free,λb o e hx=>?_,I.base.tups,I.base.frzs,I.base.tbls⟩,⟨m,hn.sameBut hs (Ne.symm (cne x c hc)),λj y v' e1 e2 e3=>?_⟩,λy c' e=>?_,I.free,I.freeC,λp hp=>?_,tracked ⟨oc,hoc,I.freeC x c hc⟩ hs,by simpa using I.len⟩ ⟨c,hs,.inr hc⟩
  ·exact(hs.2 b (Nat.ne_of_lt (Nat.lt_of_lt_of_le (Heap.lt_size e) (I.ok.cab x c hfn hc)))).trans (I.base.keep b o e n hb hx)
  ·obtain⟨sl,e1⟩:=I.base.slot b o e n hb hx;exact⟨sl,(hs.2 b (Nat.ne_of_lt (Nat.lt_of_lt_of_le (Heap.lt_size e) (I.ok.cab x c hfn hc)))).trans e1⟩
  ·obtain⟨o',e1⟩:=I.base.there b o e hx;exact⟨o',(hs.2 b (Nat.ne_of_lt (Nat.lt_of_lt_of_le (Heap.lt_size e) (I.ok.cab x c hfn hc)))).trans e1⟩
  ·by_cases hj:j=i
   ·subst hj;rw[hi]at e1;cases e1;rw[List.getElem?_set_self hiσ]at e2;cases e2;exact⟨u,r,.inr ⟨.inl hk,c,hc,hc'⟩⟩
   ·rw[List.getElem?_set_ne (Ne.symm hj)]at e2;obtain⟨u',r',q⟩:=hl j y v' e1 e2 e3;refine⟨u',r',?_⟩;rcases q with q | ⟨k,c',e,z'⟩
    ·exact .inl q
    ·refine .inr ⟨k,c',e,z'.sameBut hs ?_⟩
     rintro rfl
     exact hj (q5l hN e1 (I.ok.inj _ _ _ e hc▸hi))
  ·by_cases hcc:c'=c
   ·subst hcc;exact⟨_,hc'⟩
   ·obtain⟨w2,z2⟩:=I.cell y c' e;exact⟨w2,z2.sameBut hs hcc⟩
  ·obtain⟨e,n,ne,nf,d⟩:=I.pin p hp;refine⟨(hs.2 p.1 ?_).trans e,n,ne,nf,d⟩;intro q;rw[q,hoc]at e;have q':oc=p.2:=Option.some.inj e;exact d w' (by rw[←q'];exact hocd)
theorem q7v{M:Model}{A:Around}{E:Value->Shared->Prop}{i:Nat}{x:Str}{v:V}{u:Value}{Q:Unit->Shared->Prop}(I:Inv X pins σ H s)(hN:X.N.Nodup)(hi:X.N[i]? = some x)(hx:Loc X.env.scope x)(r:RelV v u)
  (h:∀s',Inv X pins (σ.set i (some v)) H s'->Q () s') (hf:X.fn x=true\/X.env.scope.names.lookup x=some .local:=by first | exact .inl rfl | exact .inr rfl | assumption):wpAny M A (storeName X.env x u) Q E s:=
 q5M I hN hi hx r (λs' I' _=>h s' I') hf
theorem Inv.call'{s':Shared}{ch:List Addr}(I:Inv X pins σ H s)(ho:s'.os=s.os)(u:Un (frs X.stack) ch H H' s.heap s'.heap)(hok:HOk X.prog X.w H' s'.heap)(hg:AllBare s'.gens)
  (hch:∀b∈ch,(b∈X.ex\/X.s₀.heap.objs.size<=b)/\b≠X.env.locals/\(∀x c,X.env.cells.lookup x=some c->c≠b)/\∀p∈X.pn++pins,p.1≠b):Inv X pins σ H' s':=by
 obtain⟨h',g',d',t',o'⟩:=s';have e:o'=s.os:=ho;subst e;exact I.call (g':=g') (t':=t') (d':=d') u hok hg hch
end
abbrev XK:=Value->Option Addr->Hp->Prop
abbrev St:=List (Option V)
abbrev VK:=V->Hp->Prop
abbrev TE:=St->Hp->VK->Prop
abbrev TT:=St->Hp->(Bool->Hp->Prop)->Prop
abbrev TA:=St->Hp->(List V->Hp->Prop)->Prop
structure Ends where
 nx:St->Hp->Prop
 rt:VK
 bk:St->Hp->Prop:=λ_ _=>False
 ct:St->Hp->Prop:=λ_ _=>False
abbrev TS:=Ends->St->Hp->Prop
def EP(X:Cx)(pins:List (Addr×Obj))(σ:St)(Q:VK)(u:Value)(s':Shared):Prop:=∃v H',Inv X pins σ H' s'/\RelV v u/\Q v H'
def TP(X:Cx)(pins:List (Addr×Obj))(σ:St)(Q:Bool->Hp->Prop)(b:Bool)(s':Shared):Prop:=∃H',Inv X pins σ H' s'/\Q b H'
def AP(X:Cx)(pins:List (Addr×Obj))(σ:St)(Q:List V->Hp->Prop)(us:List Value)(s':Shared):Prop:=∃vs H',Inv X pins σ H' s'/\Vals vs us/\Q vs H'
def SP(X:Cx)(pins:List (Addr×Obj))(D:Ends)(f:Flow)(s':Shared):Prop:=
 match f with
 | .next=>∃σ' H',Inv X pins σ' H' s'/\D.nx σ' H'
 | .brk=>∃σ' H',Inv X pins σ' H' s'/\D.bk σ' H'
 | .cont=>∃σ' H',Inv X pins σ' H' s'/\D.ct σ' H'
 | .ret u=>∃v σ' H',Inv X pins σ' H' s'/\RelV v u/\D.rt v H'
def PE(X:Cx)(e:Expr)(t:TE):Prop:=
 ∀(pins:List (Addr×Obj)) (s:Shared) (σ:St) (H:Hp) (Q:VK),Inv X pins σ H s->t σ H Q->wpAny (model X.prog X.w) X.A (eval e X.env) (EP X pins σ Q) X.xe s
def PT(X:Cx)(e:Expr)(t:TT):Prop:=
 ∀(pins:List (Addr×Obj)) (s:Shared) (σ:St) (H:Hp) (Q:Bool->Hp->Prop),Inv X pins σ H s->t σ H Q->wpAny (model X.prog X.w) X.A (isTrue e X.env (eval e X.env)) (TP X pins σ Q) X.xe s
def PW(X:Cx)(e:Expr)(t:TT):Prop:=
 ∀(whole:Sem Value) (pins:List (Addr×Obj)) (s:Shared) (σ:St) (H:Hp) (Q:Bool->Hp->Prop),Inv X pins σ H s->t σ H Q->wpAny (model X.prog X.w) X.A (isTrue e X.env whole) (TP X pins σ Q) X.xe s
theorem PW.pt{X:Cx}{e:Expr}{t:TT}(h:PW X e t):PT X e t:=h _
def PA(X:Cx)(es:List Expr)(t:TA):Prop:=
 ∀(pos:Pos) (pins:List (Addr×Obj)) (s:Shared) (σ:St) (H:Hp) (Q:List V->Hp->Prop),Inv X pins σ H s->t σ H Q->wpAny (model X.prog X.w) X.A (spliced (backTo pos (starEach es X.env))) (AP X pins σ Q) X.xe s
def PS(X:Cx)(st:Stmt)(t:TS):Prop:=
 ∀(pins:List (Addr×Obj)) (s:Shared) (σ:St) (H:Hp) (D:Ends),Inv X pins σ H s->t D σ H->wpAny (model X.prog X.w) X.A (exec st X.env) (SP X pins D) X.xe s
def PSs(X:Cx)(st:List Stmt)(t:TS):Prop:=
 ∀(pins:List (Addr×Obj)) (s:Shared) (σ:St) (H:Hp) (D:Ends),Inv X pins σ H s->t D σ H->wpAny (model X.prog X.w) X.A (execs st X.env) (SP X pins D) X.xe s
theorem thn{α:Type}{t:Sem α}{Q Q':α->Shared->Prop}{M:Model}{A:Around}{E:Value->Shared->Prop}{s:Shared}(h:wpAny M A t Q E s)(hQ:∀a s,Q a s->Q' a s):wpAny M A t Q' E s:=wpAny_mono h hQ λ_ _ x=>x
end L2
namespace L2
open PySem PySem.Spec PyProof.Rows
section
variable {X:Cx}
theorem bin{a b:Expr}{ta tb:TE}(ha:PE X a ta)(hb:PE X b tb){pins:List (Addr×Obj)}{s:Shared}{σ:St}{H:Hp}{R:V->V->Hp->Prop}(I:Inv X pins σ H s)(h:ta σ H λx H1=>tb σ H1 λy H2=>R x y H2)
  {α:Type} {Q:α->Shared->Prop} {f:Value->Value->Sem α}
  (hf:∀v u s2 x y H2,Inv X pins σ H2 s2->RelV x v->RelV y u->R x y H2->wpAny (model X.prog X.w) X.A (f v u) Q X.xe s2) :
  wpAny (model X.prog X.w) X.A (eval a X.env) (λv s₁=>wpAny (model X.prog X.w) X.A (eval b X.env) (λu s₂=>wpAny (model X.prog X.w) X.A (f v u) Q X.xe s₂) X.xe s₁) X.xe s:=by
 refine thn (ha pins s σ H _ I h) λv s1 ⟨x,H1,I1,r1,q1⟩=>?_;refine thn (hb pins s1 σ H1 _ I1 q1) λu s2 ⟨y,H2,I2,r2,q2⟩=>?_;exact hf v u s2 x y H2 I2 r1 r2 q2
def tVar(i:Nat):TE:=λσ H Q=>∃v,σ[i]? = some (some v)/\Q v H
def tC(v:V):TE:=λ_ H Q=>Q v H
theorem q2r{i:Nat}{x:Str}{pos:Pos}(hN:X.N[i]? = some x)(hv:Vis X.env.scope x)(hd:(x==("__debug__" : Str))=false:=by decide)(hcd:(x==("__classdict__" : Str))=false:=by decide):PE X (.Name x pos) (tVar i):=by
 intro pins s σ H Q I h;obtain⟨v,e,h⟩:=h;obtain⟨m,hn,hl⟩:=I.loc;obtain⟨u,r,l⟩:=hl i x v hN e hv;have fin:EP X pins σ Q u s:=⟨v,H,I,r,h⟩;rcases l with⟨hk,hm⟩ | ⟨hk,c,hc,hcell⟩
 ·exact wpAny_Name (wpAny_loadName_local I.ok.kind hk hn hm fin) hd
 ·rcases hk with hk | hk
  ·exact wpAny_Name (wpAny_loadName_cell I.ok.kind hk hc hcell fin) hd
  ·exact wpAny_Name (wpAny_loadName_free I.ok.kind hk hc hcell fin hcd) hd
theorem z2s{i j pos}:PE X (.Constant (.int i) j pos) (tC (.int i)):=λ_ _ _ H _ I h=>wpAny_Constant_int ⟨.int i,H,I.tok _,⟨_,rfl⟩,h⟩
theorem z7T{b j pos}:PE X (.Constant (.bool b) j pos) (tC (.bl b)):=λ_ _ _ H _ I h=>Constant_bool ⟨.bl b,H,I,rfl,h⟩
theorem z5K{j pos}:PE X (.Constant .none j pos) (tC .non):=λ_ _ _ H _ I h=>Constant_none ⟨.non,H,I,rfl,h⟩
theorem z4O{x j pos}:PE X (.Constant (.str x) j pos) (tC (.str x)):=λ_ _ _ H _ I h=>Calls.Constant_str ⟨.str x,H,I.tok _,⟨_,rfl⟩,h⟩
def Gl(X:Cx)(x:Str):Prop:=X.env.kindOf x=some .globalImplicit
theorem z0E{E:Value->Shared->Prop}{pins:List (Addr×Obj)}{s:Shared}{σ:St}{H:Hp}{x:Str}{u:Value}{pos:Pos}{Q:Value->Shared->Prop}(I:Inv X pins σ H s)(hg:Gl X x)(hm:X.mg x=some u)(h:Q u s)
  (hd:(x==("__debug__" : Str))=false:=by decide):wpAny (model X.prog X.w) X.A (eval (.Name x pos) X.env) Q E s:=
 Calls.Name_function_global I.ok.kind hg (Calls.loadGlobal_global (by rw[I.ok.glob];exact I.mod.glob.keeps I.bk) hm h) hd
theorem q3P{E:Value->Shared->Prop}{pins:List (Addr×Obj)}{s:Shared}{σ:St}{H:Hp}{x:Str}{u:Value}{pos:Pos}{Q:Value->Shared->Prop}(I:Inv X pins σ H s)(hg:Gl X x)(hm:X.mg x=none)(hv:bootBuiltins x=some u)(h:Q u s)
  (hn:x ≠ "__name__":=by decide) (hd:(x==("__debug__" : Str))=false:=by decide):wpAny (model X.prog X.w) X.A (eval (.Name x pos) X.env) Q E s:=by
 obtain⟨mb,h1,h2⟩:=I.mod.blt;exact Calls.Name_function_global I.ok.kind hg (Calls.loadGlobal_builtin (by rw[I.ok.glob];exact I.mod.glob.keeps I.bk) hm (by rw[I.ok.blt];exact h1.keeps I.bk) ((h2 x hn).trans hv) h) hd
theorem z3p{x:Str}{v:V}{u:Value}{pos:Pos}(hg:Gl X x)(hm:X.mg x=some u)(r:RelV v u)(hd:(x==("__debug__" : Str))=false:=by decide):PE X (.Name x pos) (tC v):=
 λ_ _ _ H _ I h=>z0E I hg hm ⟨v,H,I,r,h⟩ hd
theorem z2N{x:Str}{v:V}{u:Value}{pos:Pos}(hg:Gl X x)(hm:X.mg x=none)(hv:bootBuiltins x=some u)(r:RelV v u)(hn:x ≠ "__name__":=by decide)(hd:(x==("__debug__" : Str))=false:=by decide):PE X (.Name x pos) (tC v):=
 λ_ _ _ H _ I h=>q3P I hg hm hv ⟨v,H,I,r,h⟩ hn hd
variable {a b:Expr} {ta tb:TE} {pos:Pos}
variable {tA tB':TT} {rest:List Expr}
def tAnd(t u:TT):TT:=λσ H Q=>t σ H λc H1=>if c=true then u σ H1 Q else Q false H1
def tOr(t u:TT):TT:=λσ H Q=>t σ H λc H1=>if c=true then Q true H1 else u σ H1 Q
def tNot(t:TT):TT:=λσ H Q=>t σ H λc H1=>Q (!c) H1
theorem z3o(ha:PT X a tA):PW X (.BoolOp .And [a] pos) tA:=by
 intro wh pins s σ H Q I h;refine isTrue_and (thn (ha pins s σ H Q I h) λc s1 e=>?_);cases c with
 | true=>exact isTrue_and_nil e
 | false=>exact e
theorem z5u(ha:PT X a tA):PW X (.BoolOp .Or [a] pos) tA:=by
 intro wh pins s σ H Q I h;refine isTrue_or (thn (ha pins s σ H Q I h) λc s1 e=>?_);cases c with
 | false=>exact isTrue_or_nil e
 | true=>exact e
theorem q9u(ha:PT X a tA)(hb:PW X (.BoolOp .And (b::rest) pos) tB'):PW X (.BoolOp .And (a::b::rest) pos) (tAnd tA tB'):=by
 intro wh pins s σ H Q I h;refine isTrue_and (thn (ha pins s σ H _ I h) λc s1 ⟨H1,I1,q1⟩=>?_);cases c with
 | true=>exact hb wh pins s1 σ H1 Q I1 q1
 | false=>exact⟨H1,I1,q1⟩
theorem z3s(ha:PT X a tA)(hb:PW X (.BoolOp .Or (b::rest) pos) tB'):PW X (.BoolOp .Or (a::b::rest) pos) (tOr tA tB'):=by
 intro wh pins s σ H Q I h;refine isTrue_or (thn (ha pins s σ H _ I h) λc s1 ⟨H1,I1,q1⟩=>?_);cases c with
 | true=>exact⟨H1,I1,q1⟩
 | false=>exact hb wh pins s1 σ H1 Q I1 q1
theorem z1U(ha:PT X a tA):PT X (.UnaryOp .Not a pos) (tNot tA):=by
 intro pins s σ H Q I h;exact isTrue_not (ha pins s σ H (λc H1=>Q (!c) H1) I h)
theorem z2g{op}{t:TE}(h:PE X a t):PE X (.BoolOp op [a] pos) t:=λpins s σ H Q I hw=>BoolOp_one (h pins s σ H Q I hw)
end
end L2
namespace L2
open PySem PySem.Spec PyProof.Rows
def SqL(K:PySem.W.Frag)(H:Hp)(a:Addr)(xs:List V):Prop:=
 Rd H a (.lst xs) \/
  ∃(o:Obj) (its:Array Value) (n:Nat),K.lookup a=some o/\o.cls=.type "list" /\ o.dict=none/\o.data=.seq its n/\its.size<=sizeLine/\Vals xs its.toList
def SqT(K:PySem.W.Frag)(H:Hp)(a:Addr)(xs:List V):Prop:=
 Rd H a (.tup xs) \/
  ∃(o:Obj) (its:Array Value) (n:Nat),K.lookup a=some o/\(o.cls=.type "tuple" /\ o.dict=none)/\o.data=.seq its n/\its.size<=sizeLine/\Vals xs its.toList
def absV:Value->Option V
 | .none=>some .non
 | .bool b=>some (.bl b)
 | .int i _=>some (.int i)
 | .str x _=>some (.str x)
 | .bytes b _=>some (.byt b)
 | .float b _=>some (.flt b)
 | .ref a=>some (.ref a)
 | .type n=>some (.ty n)
 | _=>none
theorem RelV.abs{x:V}{u:Value}(r:RelV x u):absV u=some x:=by
 cases x with
 | non=>cases r;rfl
 | bl _=>cases r;rfl
 | int _=>obtain⟨t,rfl⟩:=r;rfl
 | str _=>obtain⟨t,rfl⟩:=r;rfl
 | byt _=>obtain⟨t,rfl⟩:=r;rfl
 | flt _=>obtain⟨t,rfl⟩:=r;rfl
 | ref _=>cases r;rfl
 | ty _=>cases r;rfl
theorem RelV.inj{x y:V}{u:Value}(r:RelV x u)(q:RelV y u):x=y:=Option.some.inj (r.abs.symm.trans q.abs)
theorem Vals.inj{xs ys:List V}{us:List Value}(h:Vals xs us):Vals ys us->xs=ys:=by
 induction h generalizing ys with
 | nil=>intro t;cases t;rfl
 | cons r _ ih=>intro t;cases t with | cons r' t'=>rw[r.inj r',ih t']
section
variable {X:Cx} {pins:List (Addr×Obj)} {σ:St} {H:Hp} {s:Shared} {a:Addr} {xs ys:List V}
theorem SqL.of{K:PySem.W.Frag}(h:H a=some (.lst xs)):SqL K H a xs:=.inl (.inl h)
theorem SqT.of{K:PySem.W.Frag}(h:H a=some (.tup xs)):SqT K H a xs:=.inl (.inl h)
theorem Inv.list(I:Inv X pins σ H s)(h:SqL X.K H a xs):∃its:List Value,Vals xs its/\PlainL s.heap a its.toArray/\xs.length<=sizeLine:=by
 rcases h with h | ⟨o,its,n,hk,hc,hd,hs,hz,r⟩
 ·obtain⟨z,its,n,r,e⟩:=h.ok I.hok;exact⟨its,r,⟨_,n,e,rfl,rfl,rfl⟩,z⟩
 ·refine⟨its.toList,r,⟨o,n,I.kIn a o hk,hc,hd,by simpa using hs⟩,?_⟩;have e:=r.length;simp only[Array.length_toList]at e;omega
theorem Inv.tuple(I:Inv X pins σ H s)(h:SqT X.K H a xs):∃its:List Value,Vals xs its/\IsTup s.heap a its.toArray/\xs.length<=sizeLine:=by
 rcases h with h | ⟨o,its,n,hk,hc,hs,hz,r⟩
 ·obtain⟨z,its,r,p⟩:=h.ok I.hok;exact⟨its,r,p.tup,z⟩
 ·refine⟨its.toList,r,⟨o,I.kIn a o hk,hc.1,n,by simpa using hs⟩,?_⟩;have e:=r.length;simp only[Array.length_toList]at e;omega
theorem Inv.list_inj(I:Inv X pins σ H s)(h:SqL X.K H a xs)(h':SqL X.K H a ys):xs=ys:=by
 obtain⟨its,r,⟨o,n,e,_,_,d⟩,_⟩:=I.list h;obtain⟨its',r',⟨o',n',e',_,_,d'⟩,_⟩:=I.list h';rw[e]at e';cases e';rw[d]at d';injection d' with d1 _
 have:its=its':=by simpa using congrArg Array.toList d1
 subst this;exact r.inj r'
theorem Inv.tuple_inj(I:Inv X pins σ H s)(h:SqT X.K H a xs)(h':SqT X.K H a ys):xs=ys:=by
 obtain⟨its,r,⟨o,e,_,n,d⟩,_⟩:=I.tuple h;obtain⟨its',r',⟨o',e',_,n',d'⟩,_⟩:=I.tuple h';rw[e]at e';cases e';rw[d]at d';injection d' with d1 _
 have:its=its':=by simpa using congrArg Array.toList d1
 subst this;exact r.inj r'
end
section
variable {X:Cx} {pins:List (Addr×Obj)} {σ:St} {H:Hp} {s:Shared} {E:Value->Shared->Prop}
end
section
variable {X:Cx} {st:Stmt} {rest:List Stmt} {t u:TS} {e:Expr} {te:TE} {pos:Pos}
def z7p:TS:=λD σ H=>D.nx σ H
def tSeq(t u:TS):TS:=λD σ H=>t {D with nx:=u D} σ H
theorem q2L:PSs X [] z7p:=λ_ _ σ H _ I h=>wpAny_execs_nil ⟨σ,H,I,h⟩
theorem q0E(h1:PS X st t)(h2:PSs X rest u):PSs X (st::rest) (tSeq t u):=by
 intro pins s σ H D I h;refine wpAny_execs_cons (thn (h1 pins s σ H {D with nx:=u D} I h) λf s1 q=>?_);cases f with
 | next=>
  obtain⟨σ',H',I',q⟩:=q;exact h2 pins s1 σ' H' D I' q
 | ret v=>exact q
 | brk=>exact q
 | cont=>exact q
theorem Inv.quiet{pins:List (Addr×Obj)}{σ:St}{H:Hp}{s:Shared}(I:Inv X pins σ H s):interactive X.env=false:=by simp[interactive,I.ok.kind]
def z7H(te:TE):TS:=λD σ H=>te σ H λ_ H1=>D.nx σ H1
theorem z2Z(he:PE X e te)(hs:swapsWith e none pos.line X.env=pure false:=by rfl):PS X (.Expr e pos) (z7H te):=by
 intro pins s σ H D I h;exact wpAny_Expr_any (thn (he pins s σ H _ I h) λv s1 ⟨x,H1,I1,r1,q1⟩=>⟨σ,H1,I1,q1⟩) I.quiet hs
def tRet(te:TE):TS:=λD σ H=>te σ H D.rt
theorem q4B(he:PE X e te):PS X (.Return (some e) pos) (tRet te):=by
 intro pins s σ H D I h;exact wpAny_Return_some (thn (he pins s σ H _ I h) λv s1 ⟨x,H1,I1,r1,q1⟩=>⟨x,σ,H1,I1,r1,q1⟩)
def tIfS(c:TT)(t u:TS):TS:=λD σ H=>c σ H λb H1=>if b=true then t D σ H1 else u D σ H1
theorem q5S{c:Expr}{a b:List Stmt}{tc:TT}(hc:PT X c tc)(ha:PSs X a t)(hb:PSs X b u):PS X (.If c a b pos) (tIfS tc t u):=by
 intro pins s σ H D I h;refine wpAny_If (thn (hc pins s σ H _ I h) λd s1 ⟨H1,I1,q1⟩=>?_);cases d with
 | true=>exact ha pins s1 σ H1 D I1 q1
 | false=>exact hb pins s1 σ H1 D I1 q1
def z4I:TS:=λ_ _ _=>False
theorem q0w{sts:List Stmt}:PSs X sts z4I:=λ_ _ _ _ _ _ h=>h.elim
end
abbrev TG:=V->St->Hp->(St->Hp->Prop)->Prop
abbrev TGs:=List V->St->Hp->(St->Hp->Prop)->Prop
def PG(X:Cx)(target:Expr)(t:TG):Prop:=
 ∀(pins:List (Addr×Obj)) (s:Shared) (σ:St) (H:Hp) (v:V) (u:Value) (Q:St->Hp->Prop),Inv X pins σ H s->RelV v u->t v σ H Q ->
  wpAny (model X.prog X.w) X.A (assign target X.env u) (λ_ s'=>∃σ' H',Inv X pins σ' H' s'/\Q σ' H') X.xe s
def PGs(X:Cx)(ts:List Expr)(t:TGs):Prop:=
 ∀(pins:List (Addr×Obj)) (s:Shared) (σ:St) (H:Hp) (vs:List V) (us:List Value) (Q:St->Hp->Prop),Inv X pins σ H s->Vals vs us->t vs σ H Q ->
  wpAny (model X.prog X.w) X.A (assignInOrder ((assignEach ts X.env).map (·.2)) us) (λ_ s'=>∃σ' H',Inv X pins σ' H' s'/\Q σ' H') X.xe s
abbrev TSet:=V->V->V->Hp->(Hp->Prop)->Prop
def PSet(X:Cx)(t:TSet):Prop:=
 ∀(pins:List (Addr×Obj)) (s:Shared) (σ:St) (H:Hp) (o i v:V) (ov iv u:Value) (Q:Hp->Prop),Inv X pins σ H s->RelV o ov->RelV i iv->RelV v u->t o i v H Q ->
  wpAny (model X.prog X.w) X.A (setItem ov iv u) (λ_ s'=>∃H',Inv X pins σ H' s'/\Q H') X.xe s
section
variable {X:Cx} {pos:Pos}
def q9c(i:Nat):TG:=λv σ H Q=>Q (σ.set i (some v)) H
theorem z0w{i:Nat}{x:Str}(hN:X.N.Nodup)(hi:X.N[i]? = some x)(hx:Loc X.env.scope x)(hf:X.fn x=true\/X.env.scope.names.lookup x=some .local:=by first | exact .inl rfl | exact .inr rfl | assumption):PG X (.Name x pos) (q9c i):=by
 intro pins s σ H v u Q I r h;exact wpAny_assign_Name (q7v I hN hi hx r (λs' I'=>⟨_,H,I',h⟩) hf)
def gNil:TGs:=λvs σ H Q=>vs=[]/\Q σ H
def z4F(t:TG)(u:TGs):TGs:=λvs σ H Q=>∃v r,vs=v::r/\t v σ H λσ' H'=>u r σ' H' Q
theorem z2E:PGs X [] gNil:=by
 intro pins s σ H vs us Q I r h;obtain⟨e,h⟩:=h;subst e;cases r;exact assignInOrder_nil ⟨σ,H,I,h⟩
theorem z1k{e:Expr}{es:List Expr}{t:TG}{u:TGs}(h1:PG X e t)(h2:PGs X es u)
  (hs:(assignEach (e::es) X.env).map (·.2)=assign e X.env::(assignEach es X.env).map (·.2):=by rfl):PGs X (e::es) (z4F t u):=by
 intro pins s σ H vs us Q I r h;obtain⟨v,vr,e1,h⟩:=h;subst e1;cases r with
 | cons r rr=>
  rw[hs];refine assignInOrder_cons (thn (h1 pins s σ H _ _ _ I r h) λ_ s1 ⟨σ1,H1,I1,q1⟩=>?_);exact h2 pins s1 σ1 H1 _ _ Q I1 rr q1
def gTup(K:PySem.W.Frag)(n:Nat)(t:TGs):TG:=λv σ H Q=>∃a xs,v=.ref a/\SqT K H a xs/\xs.length=n/\t xs σ H Q
theorem z5e{es:List Expr}{k:Nat}{t:TGs}{n:Nat}(hc:X.calm=true)(h:PGs X es t)
  (hn:(assignEach es X.env).length=n:=by rfl) (hst:(assignEach es X.env).findIdx? (·.1)=none:=by rfl):PG X (.Tuple es k pos) (gTup X.K n t):=by
 intro pins s σ H v u Q I r hw;obtain⟨a,xs,e1,hq,hl,hw⟩:=hw;subst e1;cases r;obtain⟨its,rv,ht,hz⟩:=I.tuple hq;refine assign_Tuple_tuple (I.ok.hd hc) ht (by simp[hn,←hl,rv.length]) hst λh' hx=>?_
 have I1:Inv X pins σ H {s with heap:=h'}:=I.kept (t':=s.toks) λb o e=>hx b o (Nat.ne_of_lt (Heap.lt_size e)) e;exact h pins _ σ H xs _ Q I1 (by simpa using rv) hw
def gSub(to ti:TE)(t:TSet):TG:=λv σ H Q=>to σ H λo H1=>ti σ H1 λi H2=>t o i v H2 λH3=>Q σ H3
theorem z5z{o i:Expr}{to ti:TE}{t:TSet}(ho:PE X o to)(hi:PE X i ti)(hs:PSet X t)
  (ha:∀v,assign (.Subscript o i pos) X.env v=(do
   let ov ←holding [v] (eval o X.env)
   let iv ←holding [v,ov] (eval i X.env)
   standAt pos
   holding [v,ov,iv] (setItem ov iv v)
   release [v,ov,iv] []):=by intro _;rfl):PG X (.Subscript o i pos) (gSub to ti t):=by
 intro pins s σ H v u Q I r h;rw[ha];refine wpAny_bind (wpAny_holding (thn (ho pins s σ H _ I h) λov s1 ⟨x,H1,I1,r1,q1⟩=>?_));refine wpAny_bind (wpAny_holding (thn (hi pins s1 σ H1 _ I1 q1) λiv s2 ⟨y,H2,I2,r2,q2⟩=>?_));refine wpAny_bind (wpAny_standAt (wpAny_bind (wpAny_holding (thn (hs pins s2 σ H2 x y v ov iv u _ I2 r1 r2 r q2) λ_ s3 ⟨H3,I3,q3⟩=>?_))));exact wpAny_release ⟨σ,H3,I3,q3⟩
def tAsg(te:TE)(g:TG):TS:=λD σ H=>te σ H λx H1=>g x σ H1 D.nx
theorem z5I{tg e:Expr}{te:TE}{g:TG}(he:PE X e te)(hg:PG X tg g)(hs:swapsWithSole [tg] e pos.line X.env=pure false:=by rfl)(hw:swappedStores [tg] e X.env=pure none:=by rfl)
  (h1:(assignEach [tg] X.env).map (·.2)=[assign tg X.env]:=by rfl):PS X (.Assign [tg] e pos) (tAsg te g):=by
 intro pins s σ H D I h;refine wpAny_Assign_stores (thn (he pins s σ H _ I h) λv s1 ⟨x,H1,I1,r1,q1⟩=>?_) hs hw;rw[h1];exact thn (hg pins s1 σ H1 x v _ I1 r1 q1) λ_ s2 q=>q
theorem q7P{i:Nat}{x:Str}{e:Expr}{te:TE}{pos':Pos}(hN:X.N.Nodup)(hi:X.N[i]? = some x)(hx:Loc X.env.scope x)(he:PE X e te)(hs:swapsWith e (some (.Name x pos')) pos.line X.env=pure false:=by rfl)(hf:X.fn x=true\/X.env.scope.names.lookup x=some .local:=by first | exact .inl rfl | exact .inr rfl | assumption) :
  PS X (.Assign [.Name x pos'] e pos) (tAsg te (q9c i)):=by
 intro pins s σ H D I h;refine wpAny_Assign_Name (thn (he pins s σ H _ I h) λv s1 ⟨y,H1,I1,r1,q1⟩=>?_) hs;exact q7v I1 hN hi hx r1 (λs2 I2=>⟨_,H1,I2,q1⟩) hf
end
section
variable {X:Cx} {pos:Pos}
end
structure It where
 go:Nat->Hp->Prop
 yld:Nat->Hp->V->Hp->Prop
 stop:Nat->Hp->Prop
def FpOk(X:Cx)(pins:List (Addr×Obj))(H:Hp)(b:Addr):Prop:=
 H b=none/\b≠X.env.locals/\b∉X.fs/\(b∈X.ex\/X.s₀.heap.objs.size<=b)/\(∀x c,X.env.cells.lookup x=some c->c≠b)/\∀p∈X.pn++pins,p.1≠b
theorem Inv.fpOk{X:Cx}{pins:List (Addr×Obj)}{σ:St}{H H':Hp}{s:Shared}{b:Addr}(I:Inv X pins σ H s)(hb:s.heap.objs.size<=b)(hn:H' b=none):FpOk X pins H' b:=by
 refine⟨hn,Nat.ne_of_gt (Nat.lt_of_lt_of_le I.lt hb),I.nofs hb,.inr (Nat.le_trans I.sz hb),λx c e z=>?_,λp hp z=>?_⟩
 ·obtain⟨v,q⟩:=I.cell x c e;exact absurd (Nat.lt_of_lt_of_le q.lt (by rw[z];exact hb)) (Nat.lt_irrefl _)
 ·exact absurd (Nat.lt_of_lt_of_le (Heap.lt_size (I.pin p hp).1) (by rw[z];exact hb)) (Nat.lt_irrefl _)
structure Turn(P:Program)(w:World)(K:PySem.W.Frag)(tg:Expr)(J:It)(fp:List Addr)(it:Addr)(tn:Nat->Heap->Prop):Prop where
 mem:it∈fp
 obj:∀i h,tn i h->∀b∈fp,∃o,h.get? b=some o/\∀v,o.data ≠ .cell v
 keep:∀i h h',tn i h->(∀b∈fp,∀o,h.get? b=some o->h'.get? b=some o)->tn i h'
 item:∀(X:Cx),X.prog=P->X.w=w->X.K=K->X.calm=true->∀(i:Nat) (pins:List (Addr×Obj)) (s:Shared) (σ:St) (H:Hp) (E:Value->Shared->Prop),Inv X pins σ H s->(∀b∈fp,FpOk X pins H b)->tn i s.heap->J.go i H ->
  wpAny (model P w) X.A (pyNext (.ref it)) (λr s1=>∃u,r=some u /\
   wpAny (model P w) X.A (letOwnedTupleGo tg (.ref it) u) (λ_ s2=>∃x H',Inv X pins σ H' s2/\RelV x u/\J.yld i H x H'/\tn (i+1) s2.heap/\∀b∈fp,H' b=none) E s1) E s
 done:∀(X:Cx),X.prog=P->X.w=w->X.K=K->X.calm=true->∀(i:Nat) (pins:List (Addr×Obj)) (s:Shared) (σ:St) (H:Hp) (E:Value->Shared->Prop),Inv X pins σ H s->(∀b∈fp,FpOk X pins H b)->tn i s.heap->J.stop i H ->
  wpAny (model P w) X.A (pyNext (.ref it)) (λr s1=>r=none/\Inv X pins σ H s1) E s
 self:∀(A:Around) (i:Nat) (s:Shared) (Q:Value->Shared->Prop) (E:Value->Shared->Prop),tn i s.heap->Q (.ref it) s->wpAny (model P w) A (pyIter (.ref it)) Q E s
abbrev TI:=St->Hp->(It->Hp->Prop)->Prop
def PIE(X:Cx)(pins:List (Addr×Obj))(σ:St)(tg:Expr)(R:It->Hp->Prop)(itv:Value)(s2:Shared):Prop:=
 ∃(it:Addr) (fp:List Addr) (tn:Nat->Heap->Prop) (J:It) (H':Hp),itv=.ref it/\Inv X pins σ H' s2/\Turn X.prog X.w X.K tg J fp it tn/\tn 0 s2.heap/\(∀b∈fp,FpOk X pins H' b)/\R J H'
def PI(X:Cx)(tg iter:Expr)(wi:TI):Prop:=
 ∀(pins:List (Addr×Obj)) (s:Shared) (σ:St) (H:Hp) (R:It->Hp->Prop),Inv X pins σ H s->wi σ H R ->
  wpAny (model X.prog X.w) X.A (eval iter X.env) (λv s1=>wpAny (model X.prog X.w) X.A (pyIter v) (PIE X pins σ tg R) X.xe s1) X.xe s
theorem q8j{M:Model}{A:Around}{E:Value->Shared->Prop}{s:Shared}{tg:Expr}{it:Addr}{u:Value}{o:Obj}{n:String}{vs:Array Value}{Q:Unit->Shared->Prop}(ho:s.heap.get? it=some o)(hc:o.cls=.type n)(hd:o.data=.fields vs)
    (hn : ["enumerate","zip","dict_itemiterator","dict_reverseitemiterator","odict_iterator","itertools.zip_longest","itertools.pairwise"].contains n=false) (hQ:Q () s):wpAny M A (letOwnedTupleGo tg (.ref it) u) Q E s:=by
  unfold letOwnedTupleGo;cases tg<;>first
    | exact wpAny_pure hQ
    | (cases u<;>first
        | exact wpAny_pure hQ
        | (refine wpAny_bind (wpAny_load ho ?_)
           rw[hc,hd];show wpAny M A (if(["enumerate","zip","dict_itemiterator","dict_reverseitemiterator","odict_iterator","itertools.zip_longest","itertools.pairwise"].contains n&&vs[0]? == some (rawInt _))=true then _ else _) Q E s;rw[if_neg (by intro h;rw[hn,Bool.false_and]at h;cases h)];exact wpAny_pure hQ))
def Itl(K:PySem.W.Frag)(a:Addr):It:=
 ⟨λi H=>∃xs x,SqL K H a xs/\xs[i]? = some x,λi H x H'=>H'=H/\∀xs,SqL K H a xs->xs[i]? = some x,λi H=>∃xs,SqL K H a xs/\xs.length<=i⟩
def Itt(K:PySem.W.Frag)(a:Addr):It:=
 ⟨λi H=>∃xs x,SqT K H a xs/\xs[i]? = some x,λi H x H'=>H'=H/\∀xs,SqT K H a xs->xs[i]? = some x,λi H=>∃xs,SqT K H a xs/\xs.length<=i⟩
def Itr(lo:Int)(n:Nat):It:=⟨λi _=>i<n,λi H x H'=>H'=H/\x=.int (lo+i),λi _=>n<=i⟩
theorem z0f{P:Program}{w:World}{K:PySem.W.Frag}{tg:Expr}(a it:Addr):Turn P w K tg (Itl K a) [it] it (λi h=>h.IsListIter it a i) where
 mem:=by simp
 obj:=λi h st b hb=>by
  have e:b=it:=by simpa using hb
  subst e;obtain⟨o,e,c,d⟩:=st;exact⟨o,e,λv z=>by rw[d]at z;cases z⟩
 keep:=λi h h' st k=>st.at λo e=>k it (by simp) o e
 item:=by
  intro X hP hw hK hc i pins s σ H E I hf st hg;subst hP hw hK;obtain⟨xs,x,hq,hx⟩:=hg;obtain⟨its,rv,p,hz⟩:=I.list hq;obtain⟨u,hu,ru⟩:=rv.get hx;obtain⟨f0,f1,f2,f3,f4,f5⟩:=hf it (by simp);refine wpAny_pyNext_list_item st p.isList (x:=u) (by simpa using hu) λh' st' sb=>?_
  have I1:Inv X pins σ H {s with heap:=h'}:=I.turned (t':=s.toks) (λb o hb e=>(sb.2 b hb).trans e) f0 f1 f3 f4 f5;obtain⟨o,e,c,d⟩:=id st';exact⟨u,rfl,q8j (s:={s with heap:=h'}) e c d (by decide) ⟨x,H,I1,ru,⟨rfl,λys hy=>by rw[I.list_inj hy hq];exact hx⟩,st',λb hb=>(hf b hb).1⟩⟩
 done:=by
  intro X hP hw hK hc i pins s σ H E I hf st hg;subst hP hw hK;obtain⟨xs,hq,hx⟩:=hg;obtain⟨its,rv,p,hz⟩:=I.list hq;obtain⟨f0,f1,f2,f3,f4,f5⟩:=hf it (by simp);have hl:=rv.length;exact wpAny_pyNext_list_end (I.ok.hd hc) st p.isList (by simp;omega) λh' eb=>⟨rfl,I.turned (t':=s.toks) (λb o hb e=>eb b o hb e) f0 f1 f3 f4 f5⟩
 self:=λ_ _ _ _ _ st h=>wpAny_pyIter_listiter st h
theorem q8A{P:Program}{w:World}{K:PySem.W.Frag}{tg:Expr}(a it:Addr):Turn P w K tg (Itt K a) [it] it (λi h=>h.IsTupleIter it a i) where
 mem:=by simp
 obj:=λi h st b hb=>by
  have e:b=it:=by simpa using hb
  subst e;obtain⟨o,e,c,d⟩:=st;exact⟨o,e,λv z=>by rw[d]at z;cases z⟩
 keep:=λi h h' st k=>st.at λo e=>k it (by simp) o e
 item:=by
  intro X hP hw hK hc i pins s σ H E I hf st hg;subst hP hw hK;obtain⟨xs,x,hq,hx⟩:=hg;obtain⟨its,rv,p,hz⟩:=I.tuple hq;obtain⟨u,hu,ru⟩:=rv.get hx;obtain⟨f0,f1,f2,f3,f4,f5⟩:=hf it (by simp);refine wpAny_pyNext_tuple_item st (show s.heap.IsTuple a its.toArray from p) (x:=u) (by simpa using hu) λh' st' sb=>?_
  have I1:Inv X pins σ H {s with heap:=h'}:=I.turned (t':=s.toks) (λb o hb e=>(sb.2 b hb).trans e) f0 f1 f3 f4 f5;obtain⟨o,e,c,d⟩:=id st';exact⟨u,rfl,q8j (s:={s with heap:=h'}) e c d (by decide) ⟨x,H,I1,ru,⟨rfl,λys hy=>by rw[I.tuple_inj hy hq];exact hx⟩,st',λb hb=>(hf b hb).1⟩⟩
 done:=by
  intro X hP hw hK hc i pins s σ H E I hf st hg;subst hP hw hK;obtain⟨xs,hq,hx⟩:=hg;obtain⟨its,rv,p,hz⟩:=I.tuple hq;obtain⟨f0,f1,f2,f3,f4,f5⟩:=hf it (by simp);have hl:=rv.length;exact wpAny_pyNext_tuple_end (I.ok.hd hc) st (show s.heap.IsTuple a its.toArray from p) (by simp;omega) λh' eb=>⟨rfl,I.turned (t':=s.toks) (λb o hb e=>eb b o hb e) f0 f1 f3 f4 f5⟩
 self:=λ_ _ _ _ _ st h=>wpAny_pyIter_tupleiter st h
theorem q8i{P:Program}{w:World}{K:PySem.W.Frag}{tg:Expr}(it:Addr)(lo:Int)(n:Nat):Turn P w K tg (Itr lo n) [it] it (λi h=>IsRangeIter h it (lo+(i:Nat)*1) ((n:Int) - (i:Nat)) 1) where
 mem:=by simp
 obj:=λi h st b hb=>by
  have e:b=it:=by simpa using hb
  subst e;exact⟨_,st,λv z=>by
   have z':Data.fields _=Data.cell v:=z;cases z'⟩
 keep:=λi h h' st k=>k it (by simp) _ st
 item:=by
  intro X hP hw hK hc i pins s σ H E I hf st hg;subst hP hw hK;obtain⟨f0,f1,f2,f3,f4,f5⟩:=hf it (by simp);have W:=Walks.range (prog:=X.prog) (w:=X.w) (I.ok.hd hc) it lo 1 n;refine W.item i s _ _ hg st λv h' tk hv st' kk=>?_
  obtain⟨t,rfl⟩:=hv;have I1:Inv X pins σ H {s with heap:=h',toks:=tk}:=I.turned (λb o hb e=>kk b o (by simpa using hb) e) f0 f1 f3 f4 f5;refine⟨_,rfl,q8j (s:={s with heap:=h',toks:=tk}) (n:="range_iterator") st' rfl rfl (by decide) ⟨.int (lo+i),H,I1,⟨t,?_⟩,⟨rfl,rfl⟩,st',λb hb=>(hf b hb).1⟩⟩;rw[Int.mul_one]
 done:=by
  intro X hP hw hK hc i pins s σ H E I hf st hg;subst hP hw hK;obtain⟨f0,f1,f2,f3,f4,f5⟩:=hf it (by simp);exact wpAny_pyNext_range_end (I.ok.hd hc) st (by have:n<=i:=hg;omega) λh' eb=>⟨rfl,I.turned (t':=s.toks) (λb o hb e=>eb b o hb e) f0 f1 f3 f4 f5⟩
 self:=λ_ _ _ _ _ st h=>wpAny_pyIter_rangeiter st h
end L2
namespace L2
open PySem PySem.Spec PyProof.Rows
section
variable {X:Cx} {tg:Expr}
def z7G(K:PySem.W.Frag)(tl:TE):TI:=λσ H R=>tl σ H λx H1=>∃a,x=.ref a/\(∃xs,SqL K H1 a xs)/\R (Itl K a) H1
def iTup(K:PySem.W.Frag)(tl:TE):TI:=λσ H R=>tl σ H λx H1=>∃a,x=.ref a/\(∃xs,SqT K H1 a xs)/\R (Itt K a) H1
theorem q6G{l:Expr}{tl:TE}(hl:PE X l tl):PI X tg l (z7G X.K tl):=by
 intro pins s σ H R I h;refine thn (hl pins s σ H _ I h) λv s1 ⟨x,H1,I1,r1,q1⟩=>?_
 obtain⟨a,e,⟨xs,hq⟩,q⟩:=q1;subst e;cases r1;obtain⟨its,rv,p,hz⟩:=I1.list hq;refine wpAny_pyIter_list p.isList ?_;refine⟨s1.heap.objs.size,[s1.heap.objs.size],_,_,H1,rfl,I1.kept (t':=s1.toks) λb o e=>Heap.get?_push_of_some _ e,z0f a _,⟨_,Heap.get?_push_size _ rfl,rfl,rfl⟩,λb hb=>?_,q⟩;have e:b=s1.heap.objs.size:=by simpa using hb
 subst e;exact I1.fpOk (Nat.le_refl _) (I1.hok.fresh (Nat.le_refl _))
theorem z5O{l:Expr}{tl:TE}(hl:PE X l tl):PI X tg l (iTup X.K tl):=by
 intro pins s σ H R I h;refine thn (hl pins s σ H _ I h) λv s1 ⟨x,H1,I1,r1,q1⟩=>?_
 obtain⟨a,e,⟨xs,hq⟩,q⟩:=q1;subst e;cases r1;obtain⟨its,rv,p,hz⟩:=I1.tuple hq;refine wpAny_pyIter_tuple (show s1.heap.IsTuple a its.toArray from p) ?_;refine⟨s1.heap.objs.size,[s1.heap.objs.size],_,_,H1,rfl,I1.kept (t':=s1.toks) λb o e=>Heap.get?_push_of_some _ e,q8A a _,⟨_,Heap.get?_push_size _ rfl,rfl,rfl⟩,λb hb=>?_,q⟩;have e:b=s1.heap.objs.size:=by simpa using hb
 subst e;exact I1.fpOk (Nat.le_refl _) (I1.hok.fresh (Nat.le_refl _))
theorem q7K{pins:List (Addr×Obj)}{σ:St}{H:Hp}{s:Shared}{R:It->Hp->Prop}{E:Value->Shared->Prop}{lo hi:Int}{t u v:Tok}{tk:Nat}(I:Inv X pins σ H s)(h1 : -(2^62)<=lo)(h2:lo<2^62)(h3 : -(2^62)<=hi)(h4:hi<2^62)
  (q:R (Itr lo (hi - lo).toNat) H):wpAny (model X.prog X.w) X.A (pyIter (.ref s.heap.objs.size)) (PIE X pins σ tg R) E {s with heap:=s.heap.push {cls:=.type "range",data:=.fields #[.int lo t,.int hi u,.int 1 v]},toks:=tk}:=by
 refine wpAny_pyIter_range (IsRange.new ..) (small_one h1 h2 h3 h4) ?_;have I1:Inv X pins σ H {s with heap:=s.heap.push {cls:=.type "range",data:=.fields #[.int lo t,.int hi u,.int 1 v]},toks:=tk}:=I.kept λb o e=>Heap.get?_push_of_some _ e;refine⟨(s.heap.push {cls:=.type "range",data:=.fields #[.int lo t,.int hi u,.int 1 v]}).objs.size,[(s.heap.push {cls:=.type "range",data:=.fields #[.int lo t,.int hi u,.int 1 v]}).objs.size],_,_,H,rfl,
  I1.kept (t':=tk) λb o e=>Heap.get?_push_of_some _ e,q8i _ lo (hi - lo).toNat,?_,λb hb=>?_,q⟩
 ·have e1:lo+((0:Nat):Int)*1=lo:=by simp
  have e2:(((hi - lo).toNat:Nat):Int) - ((0:Nat):Int)=Builtin.Range.rangeSize lo hi 1:=by rw[rangeSize_one];split<;>omega
  show IsRangeIter _ _ (lo+((0:Nat):Int)*1) ((((hi - lo).toNat:Nat):Int) - ((0:Nat):Int)) 1;rw[e1,e2];exact Heap.get?_push_size _ rfl
 ·have e:b=(s.heap.push {cls:=.type "range",data:=.fields #[.int lo t,.int hi u,.int 1 v]}).objs.size:=by simpa using hb
  subst e;exact I1.fpOk (Nat.le_refl _) (I1.hok.fresh (Nat.le_refl _))
def z7J(ta:TA):TI:=λσ H R=>ta σ H λvs H1=>∃j:Int,vs=[.int j] /\ -(2^62)<=j/\j<2^62/\R (Itr 0 j.toNat) H1
def z7b(ta:TA):TI:=λσ H R=>ta σ H λvs H1=>∃i j:Int,vs=[.int i,.int j]/\(-(2^62)<=i/\i<2^62 /\ -(2^62)<=j/\j<2^62)/\R (Itr i (j - i).toNat) H1
theorem q9d{a:Expr}{ta:TA}{p pos:Pos}(hg:Gl X "range")(hm:X.mg "range" = none)(ha:PA X [a] ta)(hs:starEach [a] X.env=[(false,eval a X.env)]:=by rfl):PI X tg (.Call (.Name "range" p) [a] [] pos) (z7J ta):=by
 intro pins s σ H R I h;refine Call_ (q3P I hg hm boot_range (PyProof.Rows.callWith_type1 (thn (ha pos pins s σ H _ I h) λus s1 ⟨vs,H1,I1,r1,q1⟩=>?_) hs rfl));obtain⟨j,e,q1,q2,q⟩:=q1;subst e;cases r1 with
 | cons r rr=>
  cases rr;obtain⟨t,rfl⟩:=r;exact call_range_1 (q7K I1 (by omega) (by omega) q1 q2 (by simpa using q))
theorem q8I{a b:Expr}{ta:TA}{p pos:Pos}(hg:Gl X "range")(hm:X.mg "range" = none)(ha:PA X [a,b] ta)(hs:starEach [a,b] X.env=[(false,eval a X.env),(false,eval b X.env)]:=by rfl)(hs2:starEach [b] X.env=[(false,eval b X.env)]:=by rfl) :
  PI X tg (.Call (.Name "range" p) [a,b] [] pos) (z7b ta):=by
 intro pins s σ H R I h;refine Call_ (q3P I hg hm boot_range (PyProof.Rows.callWith_type1 (thn (ha pos pins s σ H _ I h) λus s1 ⟨vs,H1,I1,r1,q1⟩=>?_) (by rw[hs,hs2]) (by rw[hs2];rfl)));obtain⟨i,j,e,⟨q1,q2,q3,q4⟩,q⟩:=q1;subst e;cases r1 with
 | cons r rr=>
  cases rr with
  | cons r' rr=>
   cases rr;obtain⟨t,rfl⟩:=r;obtain⟨t',rfl⟩:=r';exact call_range_2 (q7K I1 q1 q2 q3 q4 q)
def tFor(wi:TI)(g:TG)(tb:TS):TS:=λD σ H=>wi σ H λJ H1=>∃W:Nat->Nat->St->Hp->Prop,(∃m,W 0 m σ H1)/\∀i m σ H,W i m σ H ->
 (J.stop i H/\D.nx σ H)\/(J.go i H/\∃N:St->Hp->Prop,(∀σ' H',N σ' H'->∃m',m'<m/\W (i+1) m' σ' H')/\∀x H',J.yld i H x H'->g x σ H' λσ2 H2=>tb {D with nx:=N,ct:=N,bk:=D.nx} σ2 H2)
def q5t(fp:List Addr)(h:Heap):List (Addr×Obj):=fp.filterMap λb=>(h.get? b).map λo=>(b,o)
theorem q2A{fp:List Addr}{h:Heap}{b:Addr}{o:Obj}(hb:b∈fp)(e:h.get? b=some o):(b,o)∈q5t fp h:=List.mem_filterMap.mpr ⟨b,hb,by rw[e];rfl⟩
theorem q9Q{fp:List Addr}{h:Heap}{p:Addr×Obj}(hp:p∈q5t fp h):p.1∈fp/\h.get? p.1=some p.2:=by
 obtain⟨b,hb,e⟩:=List.mem_filterMap.mp hp;cases q:h.get? b with
 | none=>rw[q]at e;cases e
 | some o=>
  rw[q]at e;have e':(b,o)=p:=Option.some.inj e;subst e';exact⟨hb,q⟩
theorem Inv.pinned{pins:List (Addr×Obj)}{σ:St}{H:Hp}{s:Shared}{fp:List Addr}(I:Inv X pins σ H s)(hf:∀b∈fp,FpOk X pins H b)(ho:∀b∈fp,∃o,s.heap.get? b=some o/\∀v,o.data ≠ .cell v):Inv X (pins++q5t fp s.heap) σ H s:=
 I.pins_of λp hp=>(List.mem_append.mp hp).elim (λz=>I.pin p (List.mem_append_right _ z)) λz=>by obtain⟨hb,e⟩:=q9Q z;obtain⟨f0,f1,f2,_⟩:=hf p.1 hb;obtain⟨o,e',d⟩:=ho p.1 hb;rw[e]at e';cases e';exact⟨e,f0,f1,f2,d⟩
theorem Inv.unpinned{pins pl:List (Addr×Obj)}{σ:St}{H:Hp}{s:Shared}(I:Inv X (pins++pl) σ H s):Inv X pins σ H s:=I.pins_of λp hp=>I.pin p (List.mem_append_right _ (List.mem_append_left _ hp))
theorem z2w{iter:Expr}{body:List Stmt}{wi:TI}{g:TG}{tb:TS}{pos:Pos}(hp:PassesOwn (model X.prog X.w) X.A X.env X.xe)(hc:X.calm=true)(hi:PI X tg iter wi)(hg:PG X tg g)(hb:PSs X body tb)
  (hs:∀x,foldedSetIterable iter X.env x=pure x:=by intro _;rfl):PS X (.For tg iter body [] pos) (tFor wi g tb):=by
 intro pins s σ H D I h;refine wpAny_For (thn (hi pins s σ H _ I h) λv s1 h1=>thn h1 λitv s2 h2=>?_) hs;obtain⟨it,fp,tn,J,H2,e,I2,T,st2,f2,W,⟨m0,w0⟩,turn⟩:=h2;subst e;have stat:∀{H':Hp},(∀b∈fp,H' b=none)->∀b∈fp,FpOk X pins H' b:=λhn b hb=>⟨hn b hb,(f2 b hb).2⟩
 refine codeAny_forLoop_any (λn s'=>∃i σ' H',Inv X pins σ' H' s'/\tn i s'.heap/\(∀b∈fp,H' b=none)/\W i n σ' H') ?_ m0 ⟨0,σ,H2,I2,st2,λb hb=>(f2 b hb).1,w0⟩
 rintro n s3 ⟨i,σ3,H3,I3,st3,fr3,w3⟩
 rcases turn i n σ3 H3 w3 with⟨stop,qn⟩ | ⟨go,N,hN,step⟩
 ·refine wpAny_passesOwn hp (thn (T.done X rfl rfl rfl hc i pins s3 σ3 H3 X.xe I3 (stat fr3) st3 stop) λr s4 ⟨hr,I4⟩=>?_);subst hr;exact wpAny_execs_nil ⟨σ3,H3,I4,qn⟩
 ·refine wpAny_passesOwn hp (thn (T.item X rfl rfl rfl hc i pins s3 σ3 H3 X.xe I3 (stat fr3) st3 go) λr s4 ⟨u,hr,h4⟩=>?_);subst hr;refine wpAny_passesOwn hp (thn h4 λ_ s5 ⟨x,H5,I5,r5,y5,st5,fr5⟩=>?_);have I5':=I5.pinned (stat fr5) (T.obj _ _ st5);refine wpAny_passesOwn hp (thn (hg _ s5 σ3 H5 x u _ I5' r5 (step x H5 y5)) λ_ s6 ⟨σ6,H6,I6,q6⟩=>?_);refine wpAny_passesOwn hp (thn (hb _ s6 σ6 H6 _ I6 q6) λf s7 q7=>?_);have again:∀{σ7:St} {H7:Hp},Inv X (pins++q5t fp s5.heap) σ7 H7 s7->N σ7 H7->∃m,m<n/\∃i σ' H',Inv X pins σ' H' s7/\tn i s7.heap/\(∀b∈fp,H' b=none)/\W i m σ' H':=λ{σ7 H7} I7 n7=>by
   obtain⟨m',hm,w7⟩:=hN σ7 H7 n7;refine⟨m',hm,i+1,σ7,H7,I7.unpinned,T.keep _ _ _ st5 λb hb o e=>(I7.pin (b,o) (List.mem_append_right _ (List.mem_append_right _ (q2A hb e)))).1,λb hb=>?_,w7⟩;obtain⟨o,e,d⟩:=T.obj _ _ st5 b hb;exact(I7.pin (b,o) (List.mem_append_right _ (List.mem_append_right _ (q2A hb e)))).2.1
  cases f with
  | next=>obtain⟨σ7,H7,I7,n7⟩:=q7;exact again I7 n7
  | cont=>obtain⟨σ7,H7,I7,n7⟩:=q7;exact again I7 n7
  | brk=>obtain⟨σ7,H7,I7,q7⟩:=q7;exact⟨σ7,H7,I7.unpinned,q7⟩
  | ret v=>obtain⟨x7,σ7,H7,I7,r7,q7⟩:=q7;exact⟨x7,σ7,H7,I7.unpinned,r7,q7⟩
end
end L2
namespace L2
open PySem PySem.Spec PyProof.Rows
abbrev R2:=V->V->Hp->VK->Prop
def OpR(X:Cx)(f:Value->Value->Sem Value)(r:R2):Prop:=
 ∀(pins:List (Addr×Obj)) (s:Shared) (σ:St) (H:Hp) (x y:V) (v u:Value) (Q:VK),Inv X pins σ H s->RelV x v->RelV y u->r x y H Q ->
  wpAny (model X.prog X.w) X.A (f v u) (EP X pins σ Q) X.xe s
def q1G(X:Cx)(f:Value)(r:List V->Hp->VK->Prop):Prop:=
 ∀(pins:List (Addr×Obj)) (s:Shared) (σ:St) (H:Hp) (xs:List V) (us:List Value) (Q:VK),Inv X pins σ H s->Vals xs us->r xs H Q ->
  wpAny (model X.prog X.w) X.A (call f us) (EP X pins σ Q) X.xe s
def TruR(X:Cx)(r:V->Hp->(Bool->Hp->Prop)->Prop):Prop:=
 ∀(pins:List (Addr×Obj)) (s:Shared) (σ:St) (H:Hp) (x:V) (v:Value) (Q:Bool->Hp->Prop),Inv X pins σ H s->RelV x v->r x H Q ->
  wpAny (model X.prog X.w) X.A (truthy v) (TP X pins σ Q) X.xe s
def tOp(r:R2)(ta tb:TE):TE:=λσ H Q=>ta σ H λx H1=>tb σ H1 λy H2=>r x y H2 Q
def tUn(r:V->Hp->VK->Prop)(ta:TE):TE:=λσ H Q=>ta σ H λx H1=>r x H1 Q
def rI(C:Int->Int->Prop)(g:Int->Int->V):R2:=λx y H Q=>∃i j,x=.int i/\y=.int j/\C i j/\Q (g i j) H
def rI0(g:Int->Int->V):R2:=λx y H Q=>∃i j,x=.int i/\y=.int j/\Q (g i j) H
section
variable {X:Cx} {a b c:Expr} {ta tb tc:TE} {pos:Pos}
theorem binT(ha:PE X a ta)(hb:PE X b tb){pins:List (Addr×Obj)}{s:Shared}{σ:St}{H:Hp}{R:V->V->Hp->Prop}(I:Inv X pins σ H s)
  (h:ta σ H λx H1=>tb σ H1 λy H2=>R x y H2) {Q:Value->Shared->Prop} {f:Value->Value->Sem Value}
  (hf:∀v u s2 x y H2,Inv X pins σ H2 s2->RelV x v->RelV y u->R x y H2->wpAny (model X.prog X.w) X.A (f v u) Q X.xe s2) :
  wpAny (model X.prog X.w) X.A (eval a X.env) (λv s₁=>wpAny (model X.prog X.w) X.A (eval b X.env) (λu s₂=>wpAny (model X.prog X.w) X.A (f v u) Q X.xe s₂) X.xe s₁) X.xe s:=by
 refine thn (ha pins s σ H _ I h) λv s1 ⟨x,H1,I1,r1,q1⟩=>?_;refine thn (hb pins s1 σ H1 _ I1 q1) λu s2 ⟨y,H2,I2,r2,q2⟩=>?_;exact hf v u s2 x y H2 I2 r1 r2 q2
theorem z7L{op:Operator}{r:R2}(ho:OpR X (binaryOp op) r)(ha:PE X a ta)(hb:PE X b tb):PE X (.BinOp a op b pos) (tOp r ta tb):=by
 intro pins s σ H Q I h;exact wpAny_BinOp (binT ha hb I h λv u s2 x y H2 I2 rx ry q=>ho pins s2 σ H2 x y v u Q I2 rx ry q)
theorem opI{f:Value->Value->Sem Value}{C:Int->Int->Prop}{g:Int->Int->Int}
  (rule:∀(i j:Int) (t u:Tok) (s:Shared) (Q:Value->Shared->Prop) (E:Value->Shared->Prop),C i j->Q (.int (g i j) s.toks) {s with toks:=s.toks+1} -> wpAny (model X.prog X.w) X.A (f (.int i t) (.int j u)) Q E s) :
  OpR X f (rI C λi j=>.int (g i j)):=by
 intro pins s σ H x y v u Q I rx ry h;obtain⟨i,j,rfl,rfl,hc,q⟩:=h;obtain⟨t,rfl⟩:=rx;obtain⟨t',rfl⟩:=ry;exact rule i j t t' s _ _ hc ⟨.int (g i j),H,I.tok _,⟨_,rfl⟩,q⟩
theorem opI0{f:Value->Value->Sem Value}{g:Int->Int->Int}
  (rule:∀(i j:Int) (t u:Tok) (s:Shared) (Q:Value->Shared->Prop) (E:Value->Shared->Prop),Q (.int (g i j) s.toks) {s with toks:=s.toks+1} -> wpAny (model X.prog X.w) X.A (f (.int i t) (.int j u)) Q E s) :
  OpR X f (rI0 λi j=>.int (g i j)):=by
 intro pins s σ H x y v u Q I rx ry h;obtain⟨i,j,rfl,rfl,q⟩:=h;obtain⟨t,rfl⟩:=rx;obtain⟨t',rfl⟩:=ry;exact rule i j t t' s _ _ ⟨.int (g i j),H,I.tok _,⟨_,rfl⟩,q⟩
theorem opB0{f:Value->Value->Sem Value}{g:Int->Int->Bool}
  (rule:∀(i j:Int) (t u:Tok) (s:Shared) (Q:Value->Shared->Prop) (E:Value->Shared->Prop),Q (.bool (g i j)) s->wpAny (model X.prog X.w) X.A (f (.int i t) (.int j u)) Q E s) :
  OpR X f (rI0 λi j=>.bl (g i j)):=by
 intro pins s σ H x y v u Q I rx ry h;obtain⟨i,j,rfl,rfl,q⟩:=h;obtain⟨t,rfl⟩:=rx;obtain⟨t',rfl⟩:=ry;exact rule i j t t' s _ _ ⟨.bl (g i j),H,I,rfl,q⟩
def CPow(i j:Int):Prop:=0<=j/\j<=1000000/\i.natAbs<2^64
def CMul(i j:Int):Prop:=(-(2^64)<i/\i<2^64)\/(-(2^64)<j/\j<2^64)
theorem CMul.ok{i j:Int}(h:CMul i j):IntMulOk i j:=by
 rcases h with⟨h1,h2⟩ | ⟨h1,h2⟩
 ·exact .of_left (intBits_le_64 h1 h2)
 ·exact .of_right (intBits_le_64 h1 h2)
theorem q8t(k:Nat):(0:Int)<=2^k:=by
 rw[two_pow_cast];exact Int.natCast_nonneg _
theorem z6C:OpR X (binaryOp .Add) (rI0 λi j=>.int (i+j)):=opI0 λ_ _ _ _ _ _ _ q=>add_int q
theorem z6a:OpR X (binaryOp .Sub) (rI0 λi j=>.int (i - j)):=opI0 λ_ _ _ _ _ _ _ q=>sub_int q
theorem z5L:OpR X (binaryOp .Mod) (rI (λ_ j=>0<j) λi j=>.int (i%j)):=opI λi j _ _ _ _ _ hc q=>by
 have h1:(0:Int)<j:=hc;exact mod_int' (by omega) (by rw[Int.fmod_eq_emod_of_nonneg i (by omega)];exact q)
theorem z3Q:OpR X (binaryOp .Mod) (rI (λ_ j=>j≠0) λi j=>.int (i.fmod j)):=opI λ_ _ _ _ _ _ _ hc q=>mod_int' hc q
theorem z6o:OpR X (binaryOp .LShift) (rI CPow λi j=>.int (i*2^j.toNat)):=opI λ_ _ _ _ _ _ _ hc q=>lshift_int_small hc.1 hc.2.1 hc.2.2 q
theorem z6f:OpR X (binaryOp .RShift) (rI (λ_ j=>0<=j) λi j=>.int (i/2^j.toNat)):=opI λi j _ _ _ _ _ hc q=>
 rshift_int hc (by rw[Int.fdiv_eq_ediv_of_nonneg i (q8t _)];exact q)
theorem z5r:OpR X (binaryOp .BitAnd) (rI0 λi j=>.int (Builtin.bitAnd i j)):=opI0 λ_ _ _ _ _ _ _ q=>and_int q
end
section
variable {X:Cx} {a b c:Expr} {ta tb tc:TE} {pos:Pos}
theorem z7q:OpR X (compareOp .Lt) (rI0 λi j=>.bl (decide (i<j))):=opB0 λ_ _ _ _ _ _ _ q=>lt_int q
theorem z7V:OpR X (compareOp .Gt) (rI0 λi j=>.bl (decide (j<i))):=opB0 λ_ _ _ _ _ _ _ q=>gt_int q
theorem OpR.or{f:Value->Value->Sem Value}{r r':R2}(h:OpR X f r)(h':OpR X f r'):OpR X f (λx y H Q=>r x y H Q\/r' x y H Q):=by
 intro pins s σ H x y v u Q I rx ry q;rcases q with q | q
 ·exact h pins s σ H x y v u Q I rx ry q
 ·exact h' pins s σ H x y v u Q I rx ry q
theorem z8m(b:Expr){op:CmpOp}(h:op ≠ .In:=by decide)(h2:op ≠ .NotIn:=by decide):behindInMarks op b=false:=by
 have e1:(op==CmpOp.In)=false:=by cases op<;>first | rfl | exact absurd rfl h
 have e2:(op==CmpOp.NotIn)=false:=by cases op<;>first | rfl | exact absurd rfl h2
 cases b<;>simp[behindInMarks,e1,e2]
theorem z4g{op:CmpOp}{r:R2}(ho:OpR X (compareOp op) r)(ha:PE X a ta)(hb:PE X b tb)(hm:behindInMarks op b=false):PE X (.Compare a [op] [b] pos) (tOp r ta tb):=by
 intro pins s σ H Q I h;exact wpAny_Compare1 (binT ha hb I h λv u s2 x y H2 I2 rx ry q=>ho pins s2 σ H2 x y v u Q I2 rx ry q) hm
def z7R(t:TE):TT:=λσ H Q=>t σ H λx H'=>∃k,x=.bl k/\Q k H'
theorem z3X{op:CmpOp}{r:R2}(ho:OpR X (compareOp op) r)(ha:PE X a ta)(hb:PE X b tb)(hm:behindInMarks op b=false):PT X (.Compare a [op] [b] pos) (z7R (tOp r ta tb)):=by
 intro pins s σ H Q I h;refine wpAny_isTrue_Compare1 (thn (ha pins s σ H _ I h) λv s1 ⟨x,H1,I1,r1,q1⟩=>thn (hb pins s1 σ H1 _ I1 q1) λu s2 ⟨y,H2,I2,r2,q2⟩=>
  thn (ho pins s2 σ H2 x y v u _ I2 r1 r2 q2) λc s3 ⟨z,H3,I3,r3,k,e,q3⟩=>?_) hm
 subst e;cases r3;exact wpAny_truthy_bool ⟨H3,I3,q3⟩
def TruV(K:PySem.W.Frag)(x:V)(H:Hp)(k:Bool):Prop:=
 match x with
 | .non=>k=false
 | .bl b=>k=b
 | .int i=>k=(i != 0)
 | .str y=>y.length<=sizeLine/\k=((y.length:Int) != 0)
 | .byt y=>y.size<=sizeLine/\k=((y.size:Int) != 0)
 | .ref p=>(∃xs,SqL K H p xs/\k = !xs.isEmpty)\/(∃xs,SqT K H p xs/\k = !xs.isEmpty)\/∃kvs,H p=some (.dK kvs)/\k = !kvs.isEmpty
 | _=>False
theorem q8u{κ:Type}{kvs:List (κ×V)}{vs:List (κ×Value)}(r:KV kvs vs):(!vs.isEmpty) = !kvs.isEmpty:=by
 cases r<;>rfl
theorem q4y{xs:List V}{its:List Value}(r:Vals xs its):(!its.toArray.isEmpty) = !xs.isEmpty:=by
 cases r<;>simp
theorem q4i:(sizeLine:Nat)<2^63:=by rw[sizeLine_eq];decide
theorem q7t:TruR X (λx H Q=>∃k,TruV X.K x H k/\Q k H):=by
 intro pins s σ H x v Q I rx h;obtain⟨k,e,q⟩:=h;have hl:=q4i;have hs:sizeLine=16777216:=sizeLine_eq;cases x with
 | non=>
  cases rx;have e':k=false:=e;subst e';exact truthy_none ⟨H,I,q⟩
 | bl b=>
  cases rx;have e':k=b:=e;subst e';exact wpAny_truthy_bool ⟨H,I,q⟩
 | int i=>
  obtain⟨t,rfl⟩:=rx;have e':k=(i != 0):=e;subst e';exact PySem.P.truthy_int ⟨H,I,q⟩
 | str y=>
  obtain⟨t,rfl⟩:=rx;obtain⟨hy,e'⟩:y.length<=sizeLine/\k=((y.length:Int) != 0):=e;subst e';exact PySem.P.truthy_str (by omega) ⟨H,I.tok _,q⟩
 | byt y=>
  obtain⟨t,rfl⟩:=rx;obtain⟨hy,e'⟩:y.size<=sizeLine/\k=((y.size:Int) != 0):=e;subst e';exact PySem.W.truthy_bytes (by omega) ⟨H,I.tok _,q⟩
 | ref p=>
  cases rx;have e':(∃xs,SqL X.K H p xs/\k = !xs.isEmpty)\/(∃xs,SqT X.K H p xs/\k = !xs.isEmpty)\/∃kvs,H p=some (.dK kvs)/\k = !kvs.isEmpty:=e;rcases e' with⟨xs,hx,e'⟩ | ⟨xs,hx,e'⟩ | ⟨kvs,hx,e'⟩
  ·subst e';obtain⟨its,r,pl,hz⟩:=I.list hx;have hlen:=r.length;exact wpAny_truthy_list pl.isList (by simp only[List.size_toArray];omega) ⟨H,I.tok _,by rw[q4y r];exact q⟩
  ·subst e';obtain⟨its,r,pl,hz⟩:=I.tuple hx;have hlen:=r.length;exact truthy_tuple pl (by simp only[List.size_toArray];omega) ⟨H,I.tok _,by rw[q4y r];exact q⟩
  ·subst e';obtain⟨hz,hS,vs,r,m⟩:kvs.length<=sizeLine/\(p==sysModules)=false/\∃vs,KV kvs vs/\s.heap.DictOf (q1d X.prog X.w) p vs:=I.hok p _ hx;have hlen:kvs.length=vs.length:=Paired.length r;exact wpAny_truthy_dict hS m (by omega) ⟨H,I.tok _,by rw[q8u r];exact q⟩
 | _=>exact(show False from e).elim
theorem q7C(ha:PE X a ta)(he:∀whole,isTrue a X.env whole=(do let v ←whole;standAt a.pos;holding [v] (truthy v))) :
  PT X a (λσ H Q=>ta σ H λx H'=>∃k,TruV X.K x H' k/\Q k H'):=by
 intro pins s σ H Q I h;exact isTrue_plain (thn (ha pins s σ H _ I h) λv s1 ⟨x,H1,I1,r1,q1⟩=>q7t pins s1 σ H1 x v Q I1 r1 q1) (he _)
theorem q4O{x:V}{us:List Value}(r:Vals [x] us):∃u,us=[u]/\RelV x u:=by
 cases r with
 | cons r1 r2=>cases r2;exact⟨_,rfl,r1⟩
theorem z2X{x y:V}{us:List Value}(r:Vals [x,y] us):∃u w',us=[u,w']/\RelV x u/\RelV y w':=by
 cases r with
 | cons r1 r2=>
  cases r2 with
  | cons r3 r4=>cases r4;exact⟨_,_,rfl,r1,r3⟩
theorem q8J(hc:X.calm=true):q1G X (.builtin "min") (λxs H Q=>∃i j,xs=[.int i,.int j]/\Q (.int (if j<i then j else i)) H):=by
 intro pins s σ H xs us Q I r h;obtain⟨i,j,rfl,q⟩:=h;obtain⟨u,w',rfl,⟨t,rfl⟩,⟨t',rfl⟩⟩:=z2X r;refine min_two_ints (I.ok.hd hc) λh' tk k=>⟨_,H,I.kept k,?_,q⟩
 by_cases hj:j<i
 ·rw[if_pos hj,if_pos hj];exact⟨_,rfl⟩
 ·rw[if_neg hj,if_neg hj];exact⟨_,rfl⟩
end
end L2
namespace L2
open PySem PySem.Spec PyProof.Rows
structure ObjM(h:Heap)(x dx C:Addr)(mA:Str->Option Value):Prop where
 obj:h.get? x=some (PySem.W.instObj C dx)
 ns:h.Ns1 dx mA
 ne:dx≠x
theorem q9K{h:Heap}{dx:Addr}{mA:Str->Option Value}(n:h.Ns1 dx mA):∃od,h.get? dx=some od/\∀name,PySem.W.lookIn name od=some (mA name):=by
 obtain⟨o,es,ep,ho,hd,hk,_,hm⟩:=n;refine⟨o,ho,λname=>?_⟩;have e:=hm name;unfold nsFind findBy at e;rw[←Array.find?_toList]at e;unfold PySem.W.lookIn;rw[hd];dsimp only;split
 ·rename_i y q;rw[q]at e;exact congrArg some e
 ·rename_i q;rw[q]at e;have a:es.toList.any (·.refKey)=false:=by
   rw[List.any_eq_false];intro y hy;obtain⟨z,t,hkey⟩:=hk y (Array.mem_toList_iff.mp hy);simp[DictEntry.refKey,hkey]
  have a':¬es.toList.any (·.refKey)=true:=by rw[a];exact Bool.false_ne_true
  rw[if_neg a'];exact congrArg some e
theorem ObjM.look{h:Heap}{x dx C:Addr}{mA:Str->Option Value}(I:ObjM h x dx C mA):∃od,PySem.W.InstAt h x (PySem.W.instObj C dx) C (some od)/\∀name,PySem.W.lookIn name od=some (mA name):=
 let ⟨od,ho,hl⟩:=q9K I.ns
 ⟨od,⟨I.obj,rfl,rfl,ho⟩,hl⟩
section
variable {prog:Program} {w:World} {A:Around} {E:Value->Shared->Prop} {s:Shared} {K:PySem.W.Frag} {x dx C f:Addr} {mA:Str->Option Value} {name:Str} {v:Value}
theorem z3b{ns:List Str}{Q:Unit->Shared->Prop}(X:K.In s.heap)(I:ObjM s.heap x dx C mA)
  (hs:PySem.W.findIn K (.ref C) "__setattr__" = some (some (.builtin "object.__setattr__"))) (hp:PySem.W.plainOver K C=true) (ht:PySem.W.takerIn K C name=some none) (hh:PySem.W.hasDictIn K C=true)
  (hw:PySem.Within mA ns) (hsz:ns.length<=sizeLine)
  (h:∀h',ObjM h' x dx C (λy=>if y=name then some v else mA y)->Heap.SameBut dx s.heap h'->Q () {s with heap:=h',toks:=s.toks+2}) :
  wpAny (model prog w) A (setAttr (.ref x) name v) Q E s:=by
 obtain⟨od,J,hl⟩:=I.look;refine PySem.W.set_plain X J hs (PySem.W.osa_open (s:={s with toks:=s.toks+1}) (r:=none) X J hp ht λb=>?_);obtain⟨cd,hc,hd'⟩:=PySem.W.any_some hh;have hx:s.heap.get? x=some ⟨.ref C,some dx,.plain,#[]⟩:=I.obj;refine wpAny_bind (wpAny_pure (wpAny_bind (wpAny_bind (wpAny_loadPart hx (wpAny_bind (PySem.W.Looks.here (s:={s with toks:=s.toks+1}) (PySem.W.looks_clsIn X hc) ?_))))));rw[hd'];refine wpAny_pure (a:=some dx) (wpAny_bind (wpAny_pure (wpAny_bind ?_)));refine wpAny_nsSet1 (s:={s with toks:=s.toks+1}) I.ns λh' hn2 hs2=>?_
 obtain⟨oD,esD,epD,hoD,hdD,hcD⟩:=hn2.count (PySem.Within.cons name v hw);refine wpAny_bind (wpAny_lookBehind hoD (by rw[hdD];exact pastItsLine_dict (Nat.le_trans hcD (by rw[List.length_cons];omega))) ?_);exact wpAny_pure (h _ ⟨(hs2.2 _ (Ne.symm I.ne)).trans I.obj,hn2,I.ne⟩ hs2)
end
def putF(f:Str)(v:V):List (Str×V)->List (Str×V)
 | []=>[(f,v)]
 | (g,x)::r=>if g=f then(g,v)::r else(g,x)::putF f v r
theorem q4n(f g:Str)(v:V):∀fs:List (Str×V),(putF f v fs).lookup g=if g=f then some v else fs.lookup g
 | []=>by
  show List.lookup g [(f,v)]=_;by_cases h:g=f
  ·have hb:(g==f)=true:=beq_iff_eq.mpr h;simp only[List.lookup,hb,if_pos h]
  ·have hb:(g==f)=false:=beq_eq_false_iff_ne.mpr h;simp only[List.lookup,hb,if_neg h]
 | (k,x)::r=>by
  have ih:=q4n f g v r;rw[show putF f v ((k,x)::r)=(if k=f then(k,v)::r else(k,x)::putF f v r)from rfl];by_cases hk:k=f
  ·rw[if_pos hk];by_cases h:g=k
   ·have hb:(g==k)=true:=beq_iff_eq.mpr h;simp only[List.lookup,hb,if_pos (h.trans hk)]
   ·have hb:(g==k)=false:=beq_eq_false_iff_ne.mpr h;simp only[List.lookup,hb,if_neg (λe:g=f=>h (e.trans hk.symm))]
  ·rw[if_neg hk];by_cases h:g=k
   ·have hb:(g==k)=true:=beq_iff_eq.mpr h;simp only[List.lookup,hb,if_neg (λe:g=f=>hk (h.symm.trans e))]
   ·have hb:(g==k)=false:=beq_eq_false_iff_ne.mpr h;simp only[List.lookup,hb];exact ih
theorem q3W(f:Str)(v:V):∀fs:List (Str×V),f∈(putF f v fs).map (·.1)/\∀g,g∈fs.map (·.1)->g∈(putF f v fs).map (·.1)
 | []=>⟨by simp[putF],λg h=>by simp at h⟩
 | (k,x)::r=>by
  obtain⟨i1,i2⟩:=q3W f v r;rw[show putF f v ((k,x)::r)=(if k=f then(k,v)::r else(k,x)::putF f v r)from rfl];by_cases hk:k=f
  ·rw[if_pos hk];subst hk;exact⟨by simp,λg h=>by simpa using h⟩
  ·rw[if_neg hk];refine⟨?_,λg h=>?_⟩
   ·rw[List.map_cons];exact List.mem_cons_of_mem _ i1
   ·rw[List.map_cons]at h ⊢;rcases List.mem_cons.mp h with e | e
    ·exact List.mem_cons.mpr (.inl e)
    ·exact List.mem_cons_of_mem _ (i2 g e)
theorem q4b(f:Str)(v:V):∀fs:List (Str×V),(putF f v fs).length<=fs.length+1
 | []=>by simp[putF]
 | (k,x)::r=>by
  have ih:=q4b f v r;rw[show putF f v ((k,x)::r)=(if k=f then(k,v)::r else(k,x)::putF f v r)from rfl];by_cases hk:k=f
  ·rw[if_pos hk,List.length_cons,List.length_cons];omega
  ·rw[if_neg hk,List.length_cons,List.length_cons];omega
section
variable {P:Program} {w:World} {H H':Hp} {h h':Heap} {a C dx:Addr} {fs fs':List (Str×V)}
theorem z3e(hok:HOk P w H h)(e:H a=some (.ins C dx fs)):∃mA,ObjM h a dx C mA/\(∀f,RelO (fs.lookup f) (mA f))/\PySem.Within mA (fs.map (·.1))/\fs.length<=1000/\H dx=some (.own a):=by
 obtain⟨d,z,ne,ob,mA,n,r,q⟩:=(show q1f P w H h a (.ins C dx fs)from hok a _ e);exact⟨mA,⟨ob,n,ne⟩,r,q,z,d⟩
end
structure Cls(K:PySem.W.Frag)(C:Addr):Prop where
 pg:PySem.W.plainGet K C Str.empty=true
 hd:PySem.W.hasDictIn K C=true
 po:PySem.W.plainOver K C=true
 sa:PySem.W.findIn K (.ref C) "__setattr__" = some (some (.builtin "object.__setattr__"))
def q1B(K:PySem.W.Frag)(C:Addr)(f:Str):Prop:=PySem.W.findIn K (.ref C) f=some none
theorem q1B.taker{K:PySem.W.Frag}{C:Addr}{f:Str}(n:q1B K C f):PySem.W.takerIn K C f=some none:=by
 unfold PySem.W.takerIn;rw[show PySem.W.findIn K (.ref C) f=some none from n];rfl
structure Con(K:PySem.W.Frag)(C:Addr)(f:Str)(v:V)(u:Value):Prop where
 at_:PySem.W.findIn K (.ref C) f=some (some u)
 rel:RelV v u
 get:PySem.W.specialIn K u "__get__" = some none
 cp:PySem.W.copiedNames.contains f=false
structure Meth(K:PySem.W.Frag)(C:Addr)(m:Str)(f:Addr):Prop where
 at_:PySem.W.findIn K (.ref C) m=some (some (.ref f))
 fn:PySem.W.isFn K (.ref f)=true
 kp:PySem.W.keepIn K (.ref f)=true
section
variable {X:Cx} {pins:List (Addr×Obj)} {σ:St} {H:Hp} {s:Shared} {a C dx:Addr} {fs:List (Str×V)} {f:Str} {v:V} {A:Around} {E:Value->Shared->Prop}
theorem q8c{y:V}{u:Value}{Q:Unit->Shared->Prop}(I:Inv X pins σ H s)(e:H a=some (.ins C dx fs))(c:Cls X.K C)(n:q1B X.K C f)(hl:fs.length<1000)(ry:RelV y u)
  (h:∀s',Inv X pins σ (upd H a (.ins C dx (putF f y fs))) s'->Q () s'):wpAny (model X.prog X.w) A (setAttr (.ref a) f u) Q E s:=by
 obtain⟨mA,O,r,wi,_,ho⟩:=z3e I.hok e;have hz:(fs.map (·.1)).length<=sizeLine:=by rw[List.length_map,sizeLine_eq];omega
 refine z3b I.kIn O c.sa c.po n.taker c.hd wi hz λh' O' sb=>h _ ?_;have hd:∃o,h'.get? dx=some o:=let ⟨o,_,_,e',_⟩:=O'.ns;⟨o,e'⟩;refine I.write (x:=a) (e:=dx) (by rw[e];exact True.intro) (.inr ho) (λb q hb z=>(sb.2 b hb).trans z) hd ?_;refine⟨by rw[q0f O.ne];exact ho,?_,O.ne,O'.obj,_,O'.ns,λg=>?_,λg hg=>?_⟩
 ·have:=q4b f y fs;omega
 ·show RelO ((putF f y fs).lookup g) (if g=f then some u else mA g);rw[q4n];by_cases q:g=f
  ·rw[if_pos q,if_pos q];exact ry
  ·rw[if_neg q,if_neg q];exact r g
 ·by_cases q:g=f
  ·rw[q];exact(q3W f y fs).1
  ·refine(q3W f y fs).2 g (wi g λz=>hg ?_);show(if g=f then some u else mA g)=none;rw[if_neg q];exact z
end
def sFld(K:PySem.W.Frag)(ta tv:TE)(f:Str):TS:=λD σ H=>tv σ H λy H1=>ta σ H1 λx H2=>∃a C dx fs,x=.ref a/\H2 a=some (.ins C dx fs)/\Cls K C/\q1B K C f/\fs.length<1000 /\
 D.nx σ (upd H2 a (.ins C dx (putF f y fs)))
section
variable {X:Cx} {o e value:Expr} {f:Str} {pos pos' tpos:Pos} {ta tv:TE}
theorem z2c(ha:PE X o ta)(hv:PE X value tv)(hs:swapsWith value (some (.Attribute o f pos')) pos.line X.env=pure false):PS X (.Assign [.Attribute o f pos'] value pos) (sFld X.K ta tv f):=by
 intro pins s σ H D I h;refine plainObj_wpAny_Assign_Attribute (thn (hv pins s σ H _ I h) λu s1 ⟨y,H1,I1,ry,q⟩=>thn (ha pins s1 σ H1 _ I1 q) λov s2 ⟨x,H2,I2,rx,a,C,dx,fs,ex,ea,c,n,l,q2⟩=>?_) hs;subst ex;obtain rfl:ov=Value.ref a:=rx;exact q8c I2 ea c n l ry λs3 I3=>⟨σ,_,I3,q2⟩
end
section
variable {X:Cx} {pins:List (Addr×Obj)} {σ:St} {H:Hp} {s:Shared} {A:Around} {E:Value->Shared->Prop} {Q:Value->Shared->Prop} {c:Value} {b:Bool}
inductive TyOf (K:PySem.W.Frag) (H:Hp):V->Value->Prop where
 | non:TyOf K H .non (.type "NoneType")
 | bl (x:Bool):TyOf K H (.bl x) (.type "bool")
 | int (i:Int):TyOf K H (.int i) (.type "int")
 | str (x:Str):TyOf K H (.str x) (.type "str")
 | flt (x:UInt64):TyOf K H (.flt x) (.type "float")
 | lst {a:Addr} {xs:List V} (e:H a=some (.lst xs)):TyOf K H (.ref a) (.type "list")
 | frz {a:Addr} {o:Obj} {xs:List V} (e:H a=some (.frz o (.lst xs))):TyOf K H (.ref a) (.type "list")
 | tup {a:Addr} {xs:List V} (e:H a=some (.tup xs)):TyOf K H (.ref a) (.type "tuple")
 | dK {a:Addr} {kvs:List (Key×V)} (e:H a=some (.dK kvs)):TyOf K H (.ref a) (.type "dict")
 | dT {a:Addr} {kvs:List (List Key×V)} (e:H a=some (.dT kvs)):TyOf K H (.ref a) (.type "dict")
 | ins {a C dx:Addr} {fs:List (Str×V)} (e:H a=some (.ins C dx fs)) (cl:Cls K C) (ha:PySem.W.findIn K (.ref C) "__class__" = some (some (.builtin "object.__class__")))
   (hn:PySem.W.specialIn K (.builtin "object.__class__") "__get__" = some (some (.builtin "getset_descriptor.__get__"))) (htk:PySem.W.takesIn K (.builtin "object.__class__")=some true)
   (hm:PySem.W.mroIn K C (.type "object")=some true):TyOf K H (.ref a) (.ref C)
end
end L2
namespace L2
open PySem PySem.Spec PyProof.Rows
structure Room(k:Nat)(A:Around):Prop where
 hd:A.handled=none
 dp:A.depth+3*k+5<recursionLimit
 un:A.units+16*k+200<cLine
theorem Room.deeper{k:Nat}{A:Around}(r:Room (k+1) A)(env:Env):Room k (A.deeper env):=
 ⟨r.hd,by have:=r.dp;show A.depth+1+3*k+5<_;omega,by have:=r.un;show A.units+3+16*k+200<_;omega⟩
theorem Room.depth{k:Nat}{A:Around}(r:Room k A):A.depth<recursionLimit:=by have:=r.dp;omega
theorem Room.units{k:Nat}{A:Around}(r:Room k A):A.units+64<cLine:=by have:=r.un;omega
def tNil:TA:=λ_ H Q=>Q [] H
def z7j(ta:TE)(tr:TA):TA:=λσ H Q=>ta σ H λx H1=>tr σ H1 λxs H2=>Q (x::xs) H2
section
variable {X:Cx} {e:Expr} {es:List Expr} {te:TE} {t:TA} {pos:Pos}
theorem q3z:PA X [] tNil:=λ_ _ _ _ H Q I h=>Calls.spliced_nil ⟨[],H,I,.nil,h⟩
theorem q0T(ha:PE X e te)(hr:PA X es t)(hs:starEach (e::es) X.env=(false,eval e X.env)::starEach es X.env:=by rfl):PA X (e::es) (z7j te t):=by
 intro pos pins s σ H Q I h;rw[hs];show wpAny _ _ (spliced ((false,eval e X.env)::backTo pos (starEach es X.env))) _ _ s;refine Calls.spliced_cons (thn (ha pins s σ H _ I h) λu s1 ⟨x,H1,I1,r1,q1⟩=>?_);exact thn (hr pos pins s1 σ H1 _ I1 q1) λus s2 ⟨xs,H2,I2,r2,q2⟩=>⟨x::xs,H2,I2,.cons r1 r2,q2⟩
def tTup(t:TA):TE:=λσ H Q=>t σ H λxs H1=>xs.length<=sizeLine/\∀p,H1 p=none->Q (.ref p) (upd H1 p (.tup xs))
def tLst(t:TA):TE:=λσ H Q=>t σ H λxs H1=>xs.length<=sizeLine/\∀p,H1 p=none->Q (.ref p) (upd H1 p (.lst xs))
theorem q9y{x1}(h:PA X es t):PE X (.Tuple es x1 pos) (tTup t):=by
 intro pins s σ H Q I hq;refine wpAny_Tuple_spliced (thn (h pos pins s σ H _ I hq) λus s1 ⟨xs,H1,I1,r,z,q⟩=>⟨by rw[←r.length];exact z,?_⟩);have hf:H1 s1.heap.objs.size=none:=I1.hok.fresh (Nat.le_refl _);refine⟨.ref s1.heap.objs.size,upd H1 s1.heap.objs.size (.tup xs),I1.laid (t':=s1.toks) (λb u e=>Heap.get?_push_of_some _ e) (Nat.le_refl _) ?_,rfl,q _ hf⟩;exact⟨z,us,r,⟨_,Heap.get?_push_size _ rfl,⟨rfl,rfl⟩,_,rfl⟩⟩
theorem z6i(h:PA X es t):PE X (.List es pos) (tLst t):=by
 intro pins s σ H Q I hq;refine wpAny_List_spliced (thn (h pos pins s σ H _ I hq) λus s1 ⟨xs,H1,I1,r,z,q⟩=>⟨by rw[←r.length];exact z,?_⟩);have hf:H1 s1.heap.objs.size=none:=I1.hok.fresh (Nat.le_refl _);refine⟨.ref s1.heap.objs.size,upd H1 s1.heap.objs.size (.lst xs),I1.laid (t':=s1.toks) (λb u e=>Heap.get?_push_of_some _ e) (Nat.le_refl _) ?_,rfl,q _ hf⟩;exact⟨z,us,0,r,Heap.get?_push_size _ rfl⟩
end
abbrev Sp:=List V->Hp->VK->XK->Prop
abbrev CXT:=List Env->Hp->Shared->XK->Value->Shared->Prop
structure Env0(P:Program)(w:World)(K:PySem.W.Frag)(mg:Str->Option Value)(base:Heap)(A:Around)(outer:List Env)(s:Shared)(H:Hp):Prop where
 frames:A.frames=some outer
 mod:Mod K mg base
 bs:∀b o,base.get? b=some o->s.heap.get? b=some o/\H b=none
 bsz:base.objs.size<=s.heap.objs.size
 funs:s.heap.FunFrames base outer
 frf:(∀b∈frs outer,H b=none)/\q6g K H
 hok:HOk P w H s.heap
 bare:AllBare s.gens
def CE(outer:List Env)(P:Program)(w:World)(H:Hp)(s:Shared)(Q:VK)(u:Value)(s':Shared):Prop:=
 ∃v H',s'.os=s.os/\AllBare s'.gens/\Un (frs outer) [] H H' s.heap s'.heap/\HOk P w H' s'.heap/\RelV v u/\Q v H'
def CR(CX:CXT)(outer:List Env)(P:Program)(w:World)(H:Hp)(s:Shared)(Q:VK)(E:XK)(r:Result)(s':Shared):Prop:=
 match r with
 | .ok (.ret u)=>CE outer P w H s Q u s'
 | .ok _=>False
 | .error e=>CX outer H s E e s'
structure FnOk(P:Program)(w:World)(K:PySem.W.Frag)(mg:Str->Option Value)(base:Heap)(CX:CXT)(k:Nat)(f:Addr)(fd:FuncData)(ps:List Str)(sp:Sp):Prop where
 len:∀vs H Q E,sp vs H Q E->vs.length=ps.length
 run:∀(A:Around) (outer:List Env) (s:Shared) (H:Hp) (args:Args) (us:List Value) (vs:List V) (Q:VK) (E:XK),Room k A->Env0 P w K mg base A outer s H->BindsTo s fd args (ps.zip us)->Vals vs us->sp vs H Q E ->
  codeAny (model P w) A (.call (.ref f) args) (CR CX outer P w H s Q E) s
section
variable {X:Cx} {pins:List (Addr×Obj)} {σ:St} {H:Hp} {s s':Shared}
theorem Inv.env0(I:Inv X pins σ H s):Env0 X.prog X.w X.K X.mg X.base X.A X.stack s H:=
 ⟨I.ok.frames,I.ok.mod,I.bs,Nat.le_trans I.ok.bsz I.sz,I.stack,⟨I.stkFree,I.tabs⟩,I.hok,I.bare⟩
theorem Inv.after{Q:VK}{u:Value}(I:Inv X pins σ H s)(h:CE X.stack X.prog X.w H s Q u s'):EP X pins σ Q u s':=by
 obtain⟨v,H',os,bare,un,hok,r,q⟩:=h;obtain⟨hh,g,d,t,os'⟩:=s';obtain rfl:os'=s.os:=os;exact⟨v,H',I.call (h':=hh) (g':=g) (d':=d) (t':=t) (ch:=[]) un hok bare (λb z=>absurd z (by simp)),r,q⟩
end
def q1q(K:PySem.W.Frag)(fd:FuncData)(ps:List Str)(ds:List Value):Prop:=
 ∀(s:Shared) (us:List Value),K.In s.heap->(us++ds).length=ps.length->BindsTo s fd ⟨us,[]⟩ (ps.zip (us++ds))
theorem q1q.all{K:PySem.W.Frag}{fd:FuncData}{ps:List Str}(h:∀us:List Value,us.length=ps.length->bindArgs fd ⟨us,[]⟩=pure (ps.zip us)):q1q K fd ps []:=λs us _ hl=>by
 rw[List.append_nil]at hl ⊢;exact .of_eq (h us hl)
def q8P(CX:CXT)(X:Cx)(E:XK):Prop:=∀(pins:List (Addr×Obj)) (σ:St) (H:Hp) (s:Shared) (e:Value) (s':Shared),Inv X pins σ H s->CX X.stack H s E e s'->X.xe e s'
section
variable {X:Cx} {CX:CXT} {k:Nat} {f C:Addr} {fd:FuncData} {ps:List Str} {sp:Sp} {dvs:List V} {ds:List Value} {E:XK} {x m:Str} {p pos apos:Pos} {e o:Expr} {es:List Expr} {ta:TE} {t:TA}
structure Mk(K:PySem.W.Frag)(C f:Addr):Prop where
 makes:PySem.W.makesIn K C=true
 init:PySem.W.findIn K (.ref C) "__init__" = some (some (.ref f))
 fn:PySem.W.isFn K (.ref f)=true
 kp:PySem.W.keepIn K (.ref C)=true
end
section
variable {X:Cx} {CX:CXT} {k:Nat} {f C:Addr} {fd:FuncData} {ps ks:List Str} {sp:Sp} {E:XK} {x m:Str} {p pos apos kpos:Pos} {e o:Expr} {es:List Expr} {kws:List Keyword} {te ta:TE} {t tk:TA} {nm:Option Str}
structure KBinds(K:PySem.W.Frag)(fd:FuncData)(ps ks:List Str)(g:List Value->List Value->List Value)(gV:List V->List V->List V):Prop where
 to:∀(s:Shared) (us ws:List Value),K.In s.heap->(g us ws).length=ps.length->BindsTo s fd ⟨us,ks.zip ws⟩ (ps.zip (g us ws))
 rel:∀{vs:List V} {us:List Value} {zs:List V} {ws:List Value},Vals vs us->Vals zs ws->Vals (gV vs zs) (g us ws)
variable {g:List Value->List Value->List Value} {gV:List V->List V->List V}
end
structure FnScope(N P:List Str)(sc:Scope):Prop where
 kind:sc.kind=.function
 co:sc.isCoroutine=false
 gen:sc.isGenerator=false
 nd:N.Nodup
 pre:N.take P.length=P
 par:∀x∈P,sc.names.lookup x=some .local\/sc.names.lookup x=some .cell
 nofree:∀y∈sc.names,y.2 ≠ .free
theorem q6f{kindOf:Str->Option NameKind}{x:Str}:∀{binds:List (Str×Value)} {m:Str->Option Value},(∀v,(x,v)∉binds)->bindL kindOf binds m x=m x
 | [],_,_=>rfl
 | (n,v)::r,m,h=>by
  unfold bindL;rw[q6f λw hw=>h w (List.mem_cons_of_mem _ hw)];split
  ·have:x≠n:=by rintro rfl;exact h v List.mem_cons_self
   simp[this]
  ·rfl
theorem q5B{kindOf:Str->Option NameKind}{x:Str}:∀{binds:List (Str×Value)} {m:Str->Option Value},(∀v,(x,v)∉binds)->bindC kindOf binds m x=m x
 | [],_,_=>rfl
 | (n,v)::r,m,h=>by
  unfold bindC;rw[q5B λw hw=>h w (List.mem_cons_of_mem _ hw)];split
  ·rfl
  ·have:x≠n:=by rintro rfl;exact h v List.mem_cons_self
   simp[this]
theorem q5W{kindOf:Str->Option NameKind}{x:Str}{v:Value}:∀{P:List Str} {vs:List Value} {i:Nat} {m:Str->Option Value},P.Nodup->P[i]? = some x->vs[i]? = some v->kindOf x=some .local ->
  bindL kindOf (P.zip vs) m x=some v
 | [],_,_,_,_,h,_,_=>by simp at h
 | _::_,[],_,_,_,_,h,_=>by simp at h
 | p::P,w::vs,0,m,nd,h1,h2,hk=>by simp at h1 h2;subst h1;subst h2;show bindL kindOf ((p,w)::P.zip vs) m p=_;unfold bindL;rw[q6f λv hv=>(List.nodup_cons.mp nd).1 (List.of_mem_zip hv).1,if_pos hk];simp
 | p::P,w::vs,i+1,m,nd,h1,h2,hk=>by show bindL kindOf ((p,w)::P.zip vs) m x=_;unfold bindL;exact q5W (i:=i) (List.nodup_cons.mp nd).2 (by simpa using h1) (by simpa using h2) hk
theorem q6k{kindOf:Str->Option NameKind}{x:Str}{v:Value}:∀{P:List Str} {vs:List Value} {i:Nat} {m:Str->Option Value},P.Nodup->P[i]? = some x->vs[i]? = some v->kindOf x≠some .local ->
  bindC kindOf (P.zip vs) m x=some v
 | [],_,_,_,_,h,_,_=>by simp at h
 | _::_,[],_,_,_,_,h,_=>by simp at h
 | p::P,w::vs,0,m,nd,h1,h2,hk=>by simp at h1 h2;subst h1;subst h2;show bindC kindOf ((p,w)::P.zip vs) m p=_;unfold bindC;rw[q5B λv hv=>(List.nodup_cons.mp nd).1 (List.of_mem_zip hv).1,if_neg hk];simp
 | p::P,w::vs,i+1,m,nd,h1,h2,hk=>by show bindC kindOf ((p,w)::P.zip vs) m x=_;unfold bindC;exact q6k (i:=i) (List.nodup_cons.mp nd).2 (by simpa using h1) (by simpa using h2) hk
def start(N:List Str)(vs:List V):St:=vs.map some++List.replicate (N.length - vs.length) none
def cxOf(CX:CXT)(P:Program)(w:World)(K:PySem.W.Frag)(mg:Str->Option Value)(base:Heap)(N:List Str)(qual:Str)(scope:Scope)(f:Addr)(cd:Value)(A:Around)(outer:List Env)(s:Shared)(H:Hp)(E:XK):Cx where
 prog:=P
 w:=w
 K:=K
 mg:=mg
 base:=base
 A:=A.deeper (envOfC qual scope s.heap.objs.size f cd)
 N:=N
 s₀:=s
 H₀:=H
 env:=envOfC qual scope s.heap.objs.size f cd
 outer:=outer
 stack:=envOfC qual scope s.heap.objs.size f cd::outer
 ex:=[]
 calm:=true
 fn:=λ_=>true
 pn:=[]
 xe:=λe s'=>wpAny (model P w) (A.deeper (envOfC qual scope s.heap.objs.size f cd)) (leaving (envOfC qual scope s.heap.objs.size f cd) e) (λ_ s''=>CX outer H s E e s'') (λe' s''=>CX outer H s E e' s'') s'
theorem q7o{sc:Scope}{n:Nat}{x:Str}(h:sc.names.lookup x=some .cell):∃c,(cellsFrom n sc.names []).lookup x=some c:=by
 have q:=PySem.W.cellsFrom_some sc.names n [] (.inl h);exact Option.isSome_iff_exists.mp q
theorem q8N{CX:CXT}{P:Program}{w:World}{K:PySem.W.Frag}{mg:Str->Option Value}{base:Heap}{N ps:List Str}{qual:Str}{scope:Scope}{f:Addr}{cd:Value}{A:Around}{outer:List Env}{s s1:Shared}{H:Hp}{E:XK}{us:List Value}{vs:List V}
  (S:FnScope N ps scope) (hd:A.handled=none) (e0:Env0 P w K mg base A outer s H) (hl:vs.length=ps.length) (r:Vals vs us)
  (x:InCallC s s.heap.objs.size (bindL (envOfC qual scope s.heap.objs.size f cd).kindOf (ps.zip us) λ_=>none) (cellsFrom (s.heap.objs.size+1) scope.names []) (bindC (envOfC qual scope s.heap.objs.size f cd).kindOf (ps.zip us) λ_=>none) s1) :
  Inv (cxOf CX P w K mg base N qual scope f cd A outer s H E) [] (start N vs) H s1:=by
 have hpl:ps.length<=N.length:=by have:=congrArg List.length S.pre;rw[List.length_take]at this;omega
 obtain⟨h1,tk,rfl,hk⟩:=x.done;have noA:∀b:Addr,b∉(cxOf CX P w K mg base N qual scope f cd A outer s H E).ex:=λb z=>absurd (show b∈([]:List Addr)from z) (by simp)
 refine⟨⟨e0.mod,S.kind,rfl,rfl,Nat.le_refl _,λy z c h1 h2=>?_,λy hy=>?_,λy c _ h=>?_,λ_=>hd,Around.frames_deeper e0.frames,.inr ⟨rfl,rfl⟩,λb z=>absurd z (noA b),e0.bs,e0.bsz,λb _ _=>noA b,λb z=>absurd z (noA b),e0.funs,e0.frf⟩,
  rfl,e0.bare,Un.kept hk,⟨_,x.toInCall.ns,λi y v h1 h2 h3=>?_⟩,λy c h=>⟨_,x.cell y c h⟩,e0.hok.fresh (Nat.le_refl _),λy c h=>?_,λp hp=>absurd (show p∈([]:List (Addr×Obj))from hp) (by simp),e0.hok.kept hk,?_⟩
 ·exact name_of_addr x.apart (PySem.mem_of_lookup h1) (PySem.mem_of_lookup h2)
 ·have hy:scope.names.lookup y=some .cell\/scope.names.lookup y=some .free:=hy;rcases hy with hy | hy
  ·exact q7o hy
  ·exact absurd rfl (S.nofree _ (PySem.mem_of_lookup hy))
 ·exact Nat.le_of_lt (x.above y c (PySem.mem_of_lookup h))
 ·have hi:i<vs.length:=by
   unfold start at h2;by_cases hi:i<vs.length
   ·exact hi
   ·rw[List.getElem?_append_right (by simpa using hi)]at h2;rw[List.getElem?_replicate]at h2;split at h2<;>cases h2
  have ha:vs[i]? = some v:=by
   unfold start at h2;rw[List.getElem?_append_left (by simpa using hi),List.getElem?_map]at h2;cases e:vs[i]? with
   | none=>rw[e]at h2;cases h2
   | some a=>rw[e]at h2;cases h2;rfl
  obtain⟨u,hu,rv⟩:=r.get ha;have hp:ps[i]? = some y:=(by rw[←S.pre,List.getElem?_take_of_lt (by omega)];exact h1);have ndP:ps.Nodup:=by rw[←S.pre];exact S.nd.sublist (List.take_sublist _ _)
  refine⟨u,rv,?_⟩;rcases S.par y (List.mem_of_getElem? hp)with k | k
  ·exact .inl ⟨k,q5W ndP hp hu k⟩
  ·obtain⟨c,e⟩:=q7o (n:=s.heap.objs.size+1) k;refine .inr ⟨.inl k,c,e,?_⟩;have q:=x.cell y c e;rw[q6k ndP hp hu (by show scope.names.lookup y≠_;rw[k];decide)]at q;exact q
 ·exact e0.hok.fresh (Nat.le_of_lt (x.above y c (PySem.mem_of_lookup h)))
 ·unfold start;show _=N.length;rw[List.length_append,List.length_map,List.length_replicate];omega
theorem z7m{CX:CXT}{P:Program}{w:World}{K:PySem.W.Frag}{mg:Str->Option Value}{base:Heap}{k:Nat}{f:Addr}{name qual:Str}{params:Arguments}{body:List Stmt}{scope:Scope}{dV kV doc pm cdv ct oc:Value}{an od:Option Addr}
  {osl:Array (Option Value)} {N ps:List Str} {sp:Sp} (lk:K.lookup f=some ⟨oc,od,.func (PySem.W.fnOf name qual params body scope dV kV doc pm an cdv ct),osl⟩) (hcd:PySem.W.codeIn K cdv qual=true) (S:FnScope N ps scope)
  (len:∀vs H Q E,sp vs H Q E->vs.length=ps.length)
  (hbody:∀(A:Around) (outer:List Env) (s:Shared) (H:Hp) (vs:List V) (Q:VK) (E:XK),Room k (A.deeper (envOfC qual scope s.heap.objs.size f cdv))->sp vs H Q E ->
   ∃t,PSs (cxOf CX P w K mg base N qual scope f cdv A outer s H E) body t/\t {nx:=λ_ H'=>Q .non H',rt:=Q} (start N vs) H) :
  FnOk P w K mg base CX (k+1) f (PySem.W.fnOf name qual params body scope dV kV doc pm an cdv ct) ps sp:=by
 refine⟨len,λA outer s H args us vs Q E hr e0 hb r hsp=>?_⟩;have hl:=len _ _ _ _ hsp;have KX:K.In s.heap:=e0.mod.kin.keeps λb o e=>(e0.bs b o e).1;have lim:s.heap.NoLimit:=e0.mod.nolimit.keeps λb o e=>(e0.bs b o e).1;have hkind:∀y∈ps.zip us,scope.names.lookup y.1=some .local\/(scope.names.lookup y.1=some .cell/\((cellsFrom (s.heap.objs.size+1) scope.names []).lookup y.1).isSome=true):=λ⟨n,v⟩ hy=>by
  rcases S.par n (List.of_mem_zip hy).1 with q | q
  ·exact .inl q
  ·exact .inr ⟨q,PySem.W.cellsFrom_some _ _ _ (.inl q)⟩
 refine codeAny_call_function hr.depth (KX _ _ lk) rfl S.co S.gen rfl (PySem.W.codeRec_of KX hcd) (hb _ _ _ _ ?_)
 refine wpAny_newFunctionEnv_cells S.kind hkind λenv he s1 x=>?_;subst he;refine⟨lim.keeps x.toInCall.keep,codeAny_func ?_⟩;obtain⟨t,ht,hq⟩:=hbody A outer s H vs Q E (hr.deeper _) hsp;have I:Inv (cxOf CX P w K mg base N qual scope f cdv A outer s H E) [] (start N vs) H s1:=q8N S hr.hd e0 hl r x;refine wpAny_mono (ht [] s1 (start N vs) H _ I hq) (λfl s' hs=>?_) λe s' hs=>hs;have fin:∀{σ':St} {H':Hp} {v:V} {u:Value},Inv (cxOf CX P w K mg base N qual scope f cdv A outer s H E) [] σ' H' s'->RelV v u->Q v H'->CE outer P w H s Q u s':=
  λ{σ' H' v u} J rv q=>⟨v,H',J.os,J.bare,J.base,J.hok,rv,q⟩
 cases fl with
 | ret u=>
  obtain⟨v,σ',H',J,rv,q⟩:=hs;exact fin J rv q
 | next=>
  obtain⟨σ',H',J,q⟩:=hs;exact fin (v:=V.non) (u:=Value.none) J rfl q
 | brk=>
  obtain⟨_,_,_,q⟩:=hs;exact False.elim q
 | cont=>
  obtain⟨_,_,_,q⟩:=hs;exact False.elim q
end L2
namespace L2
open PySem PySem.Spec PyProof.Rows
section
variable {X:Cx} {x:Str} {p pos:Pos} {e:Expr} {es:List Expr} {t:TA} {id T:String} {r:List V->Hp->VK->Prop}
def tCB(r:List V->Hp->VK->Prop)(t:TA):TE:=λσ H Q=>t σ H λvs H1=>r vs H1 Q
theorem q5e(hc:q1G X (.builtin id) r)(hg:Gl X x)(hm:X.mg x=none)(hv:bootBuiltins x=some (.builtin id))(ha:PA X (e::es) t)(hn:x ≠ "__name__":=by decide)(hdb:(x==("__debug__" : Str))=false:=by decide)
  (he:starEach (e::es) X.env=(false,eval e X.env)::starEach es X.env:=by rfl) (hpl:(backTo pos (starEach es X.env)).any (·.1)=false:=by rfl):PE X (.Call (.Name x p) (e::es) [] pos) (tCB r t):=by
 intro pins s σ H Q I h;refine wpAny_Call_Name_kw (q3P I hg hm hv ?_ hn hdb);exact PyProof.Rows.callWith_builtin1 (thn (ha pos pins s σ H _ I h) λus s1 ⟨vs,H1,I1,r1,q1⟩=>hc pins s1 σ H1 vs us Q I1 r1 q1) he hpl
theorem q9b(hc:q1G X (.type T) r)(hg:Gl X x)(hm:X.mg x=none)(hv:bootBuiltins x=some (.type T))(ha:PA X (e::es) t)(hn:x ≠ "__name__":=by decide)(hdb:(x==("__debug__" : Str))=false:=by decide)
  (he:starEach (e::es) X.env=(false,eval e X.env)::starEach es X.env:=by rfl) (hpl:(backTo pos (starEach es X.env)).any (·.1)=false:=by rfl):PE X (.Call (.Name x p) (e::es) [] pos) (tCB r t):=by
 intro pins s σ H Q I h;refine wpAny_Call_Name_kw (q3P I hg hm hv ?_ hn hdb);exact PyProof.Rows.callWith_type1 (thn (ha pos pins s σ H _ I h) λus s1 ⟨vs,H1,I1,r1,q1⟩=>hc pins s1 σ H1 vs us Q I1 r1 q1) he hpl
end
end L2
namespace HT
open PySem PyProof.Rows
section
open PySem.SeqAt
open PySem.AutoSeq1 (wpAny_loadPart')
open PySem.MeetsSeq PySem.MeetsSeq2 PySem.MeetsSeq3
end
section
variable {prog:Program} {w:World} {A:Around} {E:Value->Shared->Prop} {s:Shared}
theorem cat_tup{t b:Addr}{vs ws:List Value}{Q:Value->Shared->Prop}(ht:IsTup s.heap t vs.toArray)(hb:IsTup s.heap b ws.toArray)(hv:vs≠[])
  (h1:ws=[]->Q (.ref t) s) (h2:ws≠[]->Q (.ref s.heap.objs.size) {s with heap:=s.heap.push {cls:=.type "tuple",data:=.seq (vs++ws).toArray}})
  (hsz:vs.length+ws.length<=sizeLine):wpAny (model prog w) A (binaryOp .Add (.ref t) (.ref b)) Q E s:=by
 obtain⟨⟨cls,dd,data,sl⟩,ho,hc,n,hd⟩:=id ht;obtain⟨⟨cls2,dd2,data2,sl2⟩,ho2,hc2,n2,hd2⟩:=id hb;simp only at hc hd hc2 hd2;subst hc hd hc2 hd2;have e:vs.toArray++ws.toArray=(vs++ws).toArray:=by simp
 by_cases hw:ws=[]
 ·exact concat_meets ⟨_,ho,rfl⟩ ⟨_,ho2,rfl⟩ noFill_tuple_add seq_tuple_add PySem.F.slot_tuple_add PySem.F.entry_tuple_add (PySem.F.args_tuple_add_2 _ _)
   (tuple_addW1 t b vs.toArray ws.toArray n n2 dd dd2 sl sl2 (by simpa using hv) (by simp[hw])) ⟨ho,ho2,h1 hw⟩
 ·refine concat_meets ⟨_,ho,rfl⟩ ⟨_,ho2,rfl⟩ noFill_tuple_add seq_tuple_add PySem.F.slot_tuple_add PySem.F.entry_tuple_add (PySem.F.args_tuple_add_2 _ _)
   (tuple_addW2 t b vs.toArray ws.toArray n n2 dd dd2 sl sl2 (by simpa using hv) (by simpa using hw) (by rw[List.size_toArray,List.size_toArray];exact hsz)) ⟨ho,ho2,?_⟩
  rw[e];exact h2 hw
def sIx(n d:Nat):Option Int->Nat
 | none=>d
 | some v=>if v<0 then(v+(n:Int)).toNat else min v.toNat n
theorem z4U(n d:Nat)(hd:d<=n)(o:Option Int):sIx n d o<=n:=by
 cases o with
 | none=>exact hd
 | some v=>
  show(if v<0 then(v+(n:Int)).toNat else min v.toNat n)<=n;by_cases hv:v<0
  ·rw[if_pos hv];omega
  ·rw[if_neg hv];exact Nat.min_le_right _ _
theorem q8C(v:Int)(n d:Nat):(if v<0 then max (v+(n:Int)) 0 else min v (n:Int))=((sIx n d (some v):Nat):Int):=by
 show(if v<0 then max (v+(n:Int)) 0 else min v (n:Int))=(((if v<0 then(v+(n:Int)).toNat else min v.toNat n):Nat):Int);by_cases hv:v<0
 ·simp only[if_pos hv];omega
 ·simp only[if_neg hv];omega
theorem q8p(lo hi:Option Int)(n:Nat):Builtin.Slice.sliceAdjust lo hi 1 (n:Int)=(((sIx n 0 lo:Nat):Int),((sIx n n hi:Nat):Int)):=by
 have h1:¬((1:Int)<0):=by omega
 unfold Builtin.Slice.sliceAdjust;simp only[h1,if_false];refine Prod.ext ?_ ?_
 ·cases lo with
  | none=>rfl
  | some v=>exact q8C v n 0
 ·cases hi with
  | none=>rfl
  | some v=>exact q8C v n n
theorem q8m(i j:Nat):Builtin.Slice.slicePlaces (i:Int) (j:Int) 1=j - i:=by
 unfold Builtin.Slice.slicePlaces;have h1:(1:Int)>0:=by omega
 simp only[h1,if_true,Int.ediv_one];split<;>omega
theorem q4G{v:Value}{o:Option Int}{Q:Option Int->Shared->Prop}(p:IsPart v o)(h:Q o s):wpAny (model prog w) A (Builtin.Slice.slicePartIndex v) Q E s:=by
 cases p with
 | none=>exact slicePart_none h
 | int i t=>exact slicePart_int h
theorem q3A{sl:Addr}{vl vu:Value}{lo hi:Option Int}{n:Nat}{Q:Int×Int×Nat->Shared->Prop}(hs:s.heap.IsSliceOf sl vl vu .none)(pl:IsPart vl lo)(pu:IsPart vu hi)
  (h:Q (((sIx n 0 lo:Nat):Int),1,sIx n n hi - sIx n 0 lo) s):wpAny (model prog w) A (Builtin.Slice.sliceApplied (.ref sl) (pure (n:Int))) Q E s:=by
 obtain⟨os,hos,hcs,hds⟩:=id hs;unfold Builtin.Slice.sliceApplied Builtin.Slice.sliceFields;refine wpAny_bind (wpAny_bind (wpAny_field hos hds (x:=vl) rfl (wpAny_bind (wpAny_field hos hds (x:=vu) rfl (wpAny_bind (wpAny_field hos hds (x:=.none) rfl (wpAny_pure ?_)))))));refine wpAny_bind (slicePart_none ?_);show wpAny _ _ (if((1:Int)==0)=true then _ else _) _ _ s;rw[if_neg (by decide)];refine wpAny_bind (q4G pl (wpAny_bind (q4G pu (wpAny_bind (wpAny_pure ?_)))));show wpAny _ _ (match Builtin.Slice.sliceAdjust lo hi 1 (n:Int)with | (lo,hi)=>pure (lo,(1:Int),Builtin.Slice.slicePlaces lo hi 1)) _ _ s;rw[q8p lo hi n];show wpAny _ _ (pure (((sIx n 0 lo:Nat):Int),(1:Int),Builtin.Slice.slicePlaces ((sIx n 0 lo:Nat):Int) ((sIx n n hi:Nat):Int) 1)) _ _ s;rw[q8m];exact wpAny_pure h
theorem z0I(xs:Array Value)(i k:Nat):((List.range k).filterMap λ(m:Nat)=>xs[((i:Int)+(m:Int)*1).toNat]?).toArray=((xs.toList.drop i).take k).toArray:=by
 have e:(λ(m:Nat)=>xs[((i:Int)+(m:Int)*1).toNat]?)=λm=>xs[i+m]?:=by
  funext m
  have:((i:Int)+(m:Int)*1).toNat=i+m:=by omega
  rw[this]
 rw[e];have:=pick_run xs i k;rw[List.filterMap_map]at this;have e2:((λx=>xs[x]?) ∘ λx=>i+x)=λm=>xs[i+m]?:=rfl
 rw[e2]at this;rw[this]
theorem getItem_tuple_cut{t sl:Addr}{items:Array Value}{vl vu:Value}{lo hi:Option Int}{Q:Value->Shared->Prop}(ht:IsTup s.heap t items)(hs:s.heap.IsSliceOf sl vl vu .none)(pl:IsPart vl lo)(pu:IsPart vu hi)
  (hw:¬(sIx items.size 0 lo=0/\sIx items.size items.size hi=items.size))
  (h:Q (.ref s.heap.objs.size) {s with heap:=s.heap.push {cls:=.type "tuple",data:=.seq ((items.toList.drop (sIx items.size 0 lo)).take (sIx items.size items.size hi - sIx items.size 0 lo)).toArray}})
  (hsz:items.size<=sizeLine):wpAny (model prog w) A (getItem (.ref t) (.ref sl)) Q E s:=by
 have htake:sizeOk (.seq ((items.toList.drop (sIx items.size 0 lo)).take (sIx items.size items.size hi - sIx items.size 0 lo)).toArray):=(by show((items.toList.drop (sIx items.size 0 lo)).take (sIx items.size items.size hi - sIx items.size 0 lo)).toArray.size<=sizeLine;rw[List.size_toArray,List.length_take,List.length_drop,Array.length_toList];omega);have hj:sIx items.size items.size hi<=items.size:=z4U _ _ (Nat.le_refl _) hi;obtain⟨os,hos,hcs,hds⟩:=id hs;have hTs:s.TypeIs (.ref sl) "slice":=⟨os,hos,hcs⟩;unfold getItem
 try with_reducible refine wpAny_holding ?_
 first | refine wpAny_bind (wpAny_pure ?_) | skip
 refine wpAny_bind (wpAny_sequenceKey ht.typeIs (by decide) ?_);refine wpAny_bind (wpAny_callSpecial?_slot (name:=Str.ofString "__getitem__") ht.typeIs PyProof.Rows.slot_tuple_getitem
  (wpAny_call_entry PyProof.Rows.slot_tuple_getitem ht.typeIs entry_tuple_getitem ?_ (args_tuple_getitem _ _)))
 show wpAny _ _ (Builtin.Tuple.tupleItemsOf (.ref t) >>= _) _ _ s;refine wpAny_bind (tupleItemsOf_ ht ?_);refine wpAny_bind (wpAny_typeOf hTs ?_);rw[if_pos (by decide)];refine wpAny_bind (q3A hs pl pu ?_);have hno:¬((((sIx items.size 0 lo:Nat):Int)==0&&(1:Int)==1&&(sIx items.size items.size hi - sIx items.size 0 lo)==items.size)=true):=by intro q;rw[Bool.and_eq_true,Bool.and_eq_true]at q;have q1:((sIx items.size 0 lo:Nat):Int)=0:=eq_of_beq q.1.1;have q2:sIx items.size items.size hi - sIx items.size 0 lo=items.size:=eq_of_beq q.2;exact hw ⟨by omega,by omega⟩
 show wpAny _ _ (if(((sIx items.size 0 lo:Nat):Int)==0&&(1:Int)==1&&(sIx items.size items.size hi - sIx items.size 0 lo)==items.size)=true then _ else _) _ _ s;rw[if_neg hno,z0I]
 first
  | exact wpAny_bind (m:=Builtin.Tuple.tupleExact _) (wpAny_newObj_type (wpAny_pure ⟨_,rfl,wpAny_pure h⟩) htake)
  | exact wpAny_bind (m:=Builtin.Tuple.tupleExact _) (wpAny_newObj_type (wpAny_bind (wpAny_pure (wpAny_pure ⟨_,rfl,wpAny_pure h⟩))) htake)
  | exact wpAny_bind (wpAny_bind (m:=Builtin.Tuple.tupleExact _) (wpAny_newObj_type (wpAny_pure (wpAny_pure ⟨_,rfl,wpAny_pure h⟩)) htake))
  | exact wpAny_bind (wpAny_bind (m:=Builtin.Tuple.tupleExact _) (wpAny_newObj_type (wpAny_pure ⟨_,rfl,wpAny_pure h⟩) htake))
end
end HT
namespace L2
open PySem PySem.Spec PyProof.Rows
abbrev TO:=St->Hp->(Option Int->Hp->Prop)->Prop
def PO(X:Cx)(e:Option Expr)(t:TO):Prop:=
 ∀(pins:List (Addr×Obj)) (s:Shared) (σ:St) (H:Hp) (Q:Option Int->Hp->Prop),Inv X pins σ H s->t σ H Q ->
  wpAny (model X.prog X.w) X.A (evalPart e X.env) (λu s'=>∃o H',Inv X pins σ H' s'/\IsPart u o/\Q o H') X.xe s
def z7K(t:TE):TO:=λσ H Q=>t σ H λx H1=>∃i,x=.int i/\Q (some i) H1
section
variable {X:Cx} {e:Expr} {te:TE} {lo hi:Option Expr} {tl th:TO} {pos p2:Pos}
theorem z0q(h:PE X e te):PO X (some e) (z7K te):=by
 intro pins s σ H Q I hw;rw[evalPart_some];refine thn (h pins s σ H _ I hw) λu s1 ⟨x,H1,I1,r1,q1⟩=>?_
 obtain⟨i,rfl,q⟩:=q1;obtain⟨t,rfl⟩:=r1;exact⟨some i,H1,I1,.int i t,q⟩
def SlR(X:Cx)(r:V->Option Int->Option Int->Hp->VK->Prop):Prop:=
 ∀(pins:List (Addr×Obj)) (s:Shared) (σ:St) (H:Hp) (x:V) (v vl vu:Value) (lo hi:Option Int) (sl:Addr) (Q:VK),Inv X pins σ H s->RelV x v->s.heap.IsSliceOf sl vl vu .none->IsPart vl lo->IsPart vu hi->r x lo hi H Q ->
  ∃T id,typeLookup (.type T) "__getitem__" = pure (some (.builtin id))/\s.TypeIs v T/\wpAny (model X.prog X.w) X.A (getItem v (.ref sl)) (EP X pins σ Q) X.xe s
theorem SlR.or{r r':V->Option Int->Option Int->Hp->VK->Prop}(h:SlR X r)(h':SlR X r'):SlR X (λx lo hi H Q=>r x lo hi H Q\/r' x lo hi H Q):=by
 intro pins s σ H x v vl vu lo hi sl Q I rx hs pl pu q;rcases q with q | q
 ·exact h pins s σ H x v vl vu lo hi sl Q I rx hs pl pu q
 ·exact h' pins s σ H x v vl vu lo hi sl Q I rx hs pl pu q
def tSl(r:V->Option Int->Option Int->Hp->VK->Prop)(te:TE)(tl th:TO):TE:=λσ H Q=>te σ H λx H1=>tl σ H1 λl H2=>th σ H2 λu H3=>r x l u H3 Q
theorem q3K{r:V->Option Int->Option Int->Hp->VK->Prop}(hr:SlR X r)(he:PE X e te)(hl:PO X lo tl)(hu:PO X hi th):PE X (.Subscript e (.Slice lo hi none p2) pos) (tSl r te tl th):=by
 intro pins s σ H Q I h;refine Subscript_ (thn (he pins s σ H _ I h) λv s1 ⟨x,H1,I1,r1,q1⟩=>?_);refine wpAny_Slice (thn (hl pins s1 σ H1 _ I1 q1) λvl s2 ⟨l,H2,I2,pl,q2⟩=>thn (hu pins s2 σ H2 _ I2 q2) λvu s3 ⟨u,H3,I3,pu,q3⟩=>?_);rw[evalPart_none];refine wpAny_pure ?_;have I4:Inv X pins σ H3 {s3 with heap:=s3.heap.push {cls:=.type "slice",data:=.fields #[vl,vu,.none]}}:=I3.kept (t':=s3.toks) λb ob q=>Heap.get?_push_of_some _ q
 obtain⟨T,id,hT,ht,hg⟩:=hr pins {s3 with heap:=s3.heap.push {cls:=.type "slice",data:=.fields #[vl,vu,.none]}} σ H3 x v vl vu l u s3.heap.objs.size Q I4 r1 (Heap.IsSliceOf.new ..) pl pu q3;show wpAny (model X.prog X.w) X.A (subscriptTail e (.Slice lo hi none p2) v (.ref s3.heap.objs.size)) (EP X pins σ Q) X.xe {s3 with heap:=s3.heap.push {cls:=.type "slice",data:=.fields #[vl,vu,.none]}};exact tail_any (ops:=[.ref s3.heap.objs.size,v]) ht hT hg (by with_unfolding_all rfl)
def cutV(xs:List V)(lo hi:Option Int):List V:=(xs.drop (HT.sIx xs.length 0 lo)).take (HT.sIx xs.length xs.length hi - HT.sIx xs.length 0 lo)
theorem q4h(xs:List V)(lo hi:Option Int):(cutV xs lo hi).length<=xs.length:=by
 unfold cutV;rw[List.length_take,List.length_drop];omega
def rSlT(K:PySem.W.Frag):V->Option Int->Option Int->Hp->VK->Prop:=λx lo hi H Q=>∃a xs,x=.ref a/\SqT K H a xs /\
 ¬(HT.sIx xs.length 0 lo=0/\HT.sIx xs.length xs.length hi=xs.length)/\∀p,H p=none->Q (.ref p) (upd H p (.tup (cutV xs lo hi)))
theorem z5h:SlR X (rSlT X.K):=by
 intro pins s σ H x v vl vu lo hi sl Q I rx hs pl pu h;obtain⟨a,xs,rfl,hx,hw,q⟩:=h;cases rx;obtain⟨its,r,ht,hz⟩:=I.tuple hx;have hlen:its.toArray.size=xs.length:=by rw[List.size_toArray];exact r.length.symm
 refine⟨"tuple",_,PyProof.Rows.slot_tuple_getitem.lookup,ht.typeIs,?_⟩;refine HT.getItem_tuple_cut ht hs pl pu (by rw[hlen];exact hw) ?_ (by rw[hlen];exact hz);rw[hlen];refine⟨.ref s.heap.objs.size,_,I.laid (t':=s.toks) (o:=.tup (cutV xs lo hi)) (λb ob q=>Heap.get?_push_of_some _ q) (Nat.le_refl _) ?_,rfl,q _ (I.hok.fresh (Nat.le_refl _))⟩;exact⟨Nat.le_trans (q4h xs lo hi) hz,_,(r.drop (HT.sIx xs.length 0 lo)).take (HT.sIx xs.length xs.length hi - HT.sIx xs.length 0 lo),q2J.new _ _⟩
def z5q(K:PySem.W.Frag):R2:=λx y H Q=>∃a b xs ys,x=.ref a/\y=.ref b/\SqT K H a xs/\SqT K H b ys/\xs≠[]/\xs.length+ys.length<=sizeLine /\
 (ys=[]->Q (.ref a) H)/\(ys≠[]->∀p,H p=none->Q (.ref p) (upd H p (.tup (xs++ys))))
theorem Vals.nil_iff{xs:List V}{us:List Value}(r:Vals xs us):us=[]↔xs=[]:=by
 cases r with
 | nil=>simp
 | cons _ _=>simp
theorem z3i:OpR X (binaryOp .Add) (z5q X.K):=by
 intro pins s σ H x y v u Q I rx ry h;obtain⟨a,b,xs,ys,rfl,rfl,ha,hb,hx,hz,q1,q2⟩:=h;cases rx;cases ry;obtain⟨its,r1,p1,_⟩:=I.tuple ha;obtain⟨its2,r2,p2,_⟩:=I.tuple hb;refine HT.cat_tup p1 p2 (λz=>hx (r1.nil_iff.mp z)) (λz=>⟨.ref a,H,I,rfl,q1 (r2.nil_iff.mp z)⟩) (λz=>?_) (by rw[←r1.length,←r2.length];exact hz);refine⟨.ref s.heap.objs.size,_,I.laid (t':=s.toks) (o:=.tup (xs++ys)) (λb ob q=>Heap.get?_push_of_some _ q) (Nat.le_refl _) ?_,rfl,q2 (λw=>z (r2.nil_iff.mpr w)) _ (I.hok.fresh (Nat.le_refl _))⟩;exact⟨by rw[List.length_append];exact hz,_,r1.append r2,q2J.new _ _⟩
end
end L2
namespace L2
open PySem PySem.Spec PyProof.Rows
def ixN(n:Nat)(i:Int):Option Nat:=if 0<=i then(if i<n then some i.toNat else none)else if -(n:Int)<=i then some (i+n).toNat else none
def atI{α:Type}(xs:List α)(i:Int):Option α:=(ixN xs.length i).bind λj=>xs[j]?
theorem q9V{n:Nat}{i:Int}{j:Nat}(h:ixN n i=some j):seqIndex? i n=some j/\j<n /\ -(n:Int)<=i/\i<n:=by
 unfold ixN at h;by_cases h0:0<=i
 ·rw[if_pos h0]at h;by_cases h1:i<n
  ·rw[if_pos h1]at h;have e:i.toNat=j:=Option.some.inj h;exact⟨by rw[seqIndex_of h0 h1,e],by omega,by omega,h1⟩
  ·rw[if_neg h1]at h;cases h
 ·rw[if_neg h0]at h;by_cases h1 : -(n:Int)<=i
  ·rw[if_pos h1]at h;have e:(i+n).toNat=j:=Option.some.inj h;exact⟨by rw[seqIndex_neg (by omega) h1,e],by omega,h1,by omega⟩
  ·rw[if_neg h1]at h;cases h
theorem q6B{α:Type}{xs:List α}{i:Int}{v:α}(h:atI xs i=some v):∃j,seqIndex? i xs.length=some j/\xs[j]? = some v/\j<xs.length /\ -(xs.length:Int)<=i/\i<xs.length:=by
 unfold atI at h;cases e:ixN xs.length i with
 | none=>rw[e]at h;cases h
 | some j=>
  rw[e]at h;obtain⟨h1,h2,h3,h4⟩:=q9V e;exact⟨j,h1,h,h2,h3,h4⟩
def z3k(b:Expr):Prop:=∀o i,subscripted b false o i=operate [o,i] (getItem o i)
def IxR(X:Cx)(r:R2):Prop:=
 ∀(value slice:Expr) (pins:List (Addr×Obj)) (s:Shared) (σ:St) (H:Hp) (x y:V) (v u:Value) (Q:VK),Inv X pins σ H s->RelV x v->RelV y u->r x y H Q ->
  subscripted slice false v u=operate [v,u] (getItem v u)->wpAny (model X.prog X.w) X.A (subscriptTail value slice v u) (EP X pins σ Q) X.xe s
def MtR(X:Cx)(id:String)(r:V->List V->Hp->VK->Prop):Prop:=
 ∀(pins:List (Addr×Obj)) (s:Shared) (σ:St) (H:Hp) (x:V) (xs:List V) (v:Value) (us:List Value) (Q:VK),Inv X pins σ H s->RelV x v->Vals xs us->r x xs H Q ->
  wpAny (model X.prog X.w) X.A (call (.builtin id) (v::us)) (EP X pins σ Q) X.xe s
section
variable {X:Cx} {a b:Expr} {ta tb:TE} {pos:Pos}
theorem IxR.or{r r':R2}(h:IxR X r)(h':IxR X r'):IxR X (λx y H Q=>r x y H Q\/r' x y H Q):=by
 intro value slice pins s σ H x y v u Q I rx ry q hs;rcases q with q | q
 ·exact h value slice pins s σ H x y v u Q I rx ry q hs
 ·exact h' value slice pins s σ H x y v u Q I rx ry q hs
theorem z7i{r:R2}(hr:IxR X r)(ha:PE X a ta)(hb:PE X b tb)(hs:z3k b):PE X (.Subscript a b pos) (tOp r ta tb):=by
 intro pins s σ H Q I h;exact Subscript_ (binT ha hb I h λv u s2 x y H2 I2 rx ry q=>hr a b pins s2 σ H2 x y v u Q I2 rx ry q (hs _ _))
def rIxL(K:PySem.W.Frag):R2:=λx y H Q=>∃p xs i v,x=.ref p/\y=.int i/\SqL K H p xs/\atI xs i=some v/\Q v H
def rIxT(K:PySem.W.Frag):R2:=λx y H Q=>∃p xs i v,x=.ref p/\y=.int i/\SqT K H p xs/\atI xs i=some v/\Q v H
def rIxS:R2:=λx y H Q=>∃z i c,x=.str z/\y=.int i/\z.length<=sizeLine/\atI z.cps.toList i=some c/\Q (.str ⟨#[c]⟩) H
theorem z3u:IxR X (rIxL X.K):=by
 intro value slice pins s σ H x y v u Q I rx ry h hs;obtain⟨p,xs,i,z,rfl,rfl,hq,he,q⟩:=h;cases rx;obtain⟨t,rfl⟩:=ry;obtain⟨its,r,pl,hz⟩:=I.list hq;obtain⟨j,h1,h2,h3,h4,h5⟩:=q6B he;obtain⟨w,ew,rw'⟩:=r.get h2;have hl:=r.length;have hn:=q4i;have fin:EP X pins σ Q w s:=⟨z,H,I,rw',q⟩;by_cases h0:0<=i
 ·have hj:i.toNat=j:=by
   rw[seqIndex_of h0 h5]at h1;exact Option.some.inj h1
  exact item_listR pl.isList h0 (by omega) (by rw[hj];simpa using ew) fin hs
 ·have hj:(i+(its.toArray.size:Int)).toNat=j:=by
   rw[seqIndex_neg (by omega) h4]at h1;rw[List.size_toArray,←hl];exact Option.some.inj h1
  exact subscriptTail_builtinR (x:=w) pl.isList.typeIs slot_list_getitem.lookup
   (wpAny_getItem_list_neg (Q:=λr s'=>r=w/\EP X pins σ Q r s') pl.isList (by omega) (by rw[List.size_toArray]<;>omega) (by omega) (by rw[hj];simpa using ew) ⟨rfl,fin⟩) hs
theorem z6k:IxR X (rIxT X.K):=by
 intro value slice pins s σ H x y v u Q I rx ry h hs;obtain⟨p,xs,i,z,rfl,rfl,hq,he,q⟩:=h;cases rx;obtain⟨t,rfl⟩:=ry;obtain⟨its,r,pl,hz⟩:=I.tuple hq;obtain⟨j,h1,h2,h3,h4,h5⟩:=q6B he;obtain⟨w,ew,rw'⟩:=r.get h2;have hl:=r.length;have hn:=q4i;have fin:EP X pins σ Q w s:=⟨z,H,I,rw',q⟩;exact subscriptTail_builtinR (x:=w) pl.typeIs slot_tuple_getitem.lookup
  (getItem_tuple (j:=j) (Q:=λr s'=>r=w/\EP X pins σ Q r s') pl (by omega) (by omega) (by rw[List.size_toArray,←hl];exact h1) (by simpa using ew) ⟨rfl,fin⟩) hs
theorem z5R:IxR X rIxS:=by
 intro value slice pins s σ H x y v u Q I rx ry h hs;obtain⟨z,i,c,rfl,rfl,hz,he,q⟩:=h;obtain⟨t,rfl⟩:=rx;obtain⟨t',rfl⟩:=ry;obtain⟨j,h1,h2,h3,h4,h5⟩:=q6B he;have hl:z.cps.toList.length=z.length:=by simp[Str.length]
 rw[hl]at h1 h4 h5;have hn:=q4i;exact tail_any (typeIs_str s z t) slot_str_getitem.lookup (getItem_str (c:=c) (by
  have e1:decide (i < -(2^63:Int))=false:=decide_eq_false (by omega);have e2:decide (i ≥ 2^63)=false:=decide_eq_false (by omega);rw[e1,e2,Bool.or_false]) (by rw[h1];simpa using h2) ⟨.str ⟨#[c]⟩,H,I.tok _,⟨_,rfl⟩,q⟩) hs
def rIx(K:PySem.W.Frag):R2:=λx y H Q=>rIxL K x y H Q\/rIxT K x y H Q\/rIxS x y H Q
theorem z6h:IxR X (rIx X.K):=z3u.or (z6k.or z5R)
theorem q8a(its:List Value)(n j:Nat)(u:Value):Obj.mapSeq (·.setIfInBounds j u) {cls:=.type "list",data:=.seq its.toArray n} = {cls:=.type "list",data:=.seq (its.set j u).toArray n}:=by
 simp[Obj.mapSeq]
theorem Inv.lst{pins:List (Addr×Obj)}{σ:St}{H:Hp}{s:Shared}{p:Addr}{xs:List V}(I:Inv X pins σ H s)(h:H p=some (.lst xs)) :
  ∃(its:List Value) (n:Nat),Vals xs its/\s.heap.get? p=some {cls:=.type "list",data:=.seq its.toArray n} /\ xs.length<=sizeLine:=by
 obtain⟨z,its,n,r,e⟩:=I.hok p _ h;exact⟨its,n,r,e,z⟩
theorem Inv.lstUpd{pins:List (Addr×Obj)}{σ:St}{H:Hp}{s:Shared}{p:Addr}{xs ys:List V}{its its':List Value}{n n':Nat}{f:Obj->Obj}(I:Inv X pins σ H s)(h:H p=some (.lst xs))
  (ho:s.heap.get? p=some {cls:=.type "list",data:=.seq its.toArray n}) (hf:f {cls:=.type "list",data:=.seq its.toArray n} = {cls:=.type "list",data:=.seq its'.toArray n'}) (r:Vals ys its') (hz:ys.length<=sizeLine) (t:Nat) :
  Inv X pins σ (upd H p (.lst ys)) {s with heap:=s.heap.update p f,toks:=t}:=by
 have e:(s.heap.update p f).get? p=some {cls:=.type "list",data:=.seq its'.toArray n'}:=(by rw[Heap.get?_update_self f ho (by rw[hf]<;>rfl),hf]);refine I.write (x:=p) (e:=p) (by rw[h];trivial) (.inl rfl) (λb u hb q=>(Heap.get?_update_other _ _ (Ne.symm hb)).trans q) ⟨_,e⟩ ?_;exact⟨hz,its',n',r,e⟩
def z7X:V->V->V->Hp->(Hp->Prop)->Prop:=λo i v H Q=>∃p xs k j,o=.ref p/\i=.int k/\H p=some (.lst xs)/\ixN xs.length k=some j/\Q (upd H p (.lst (xs.set j v)))
theorem z1E:PSet X z7X:=by
 intro pins s σ H o i v ov iv u Q I ro ri rv h;obtain⟨p,xs,k,j,rfl,rfl,hp,hj,q⟩:=h;cases ro;obtain⟨t,rfl⟩:=ri;obtain⟨its,n,r,ho,hz⟩:=I.lst hp;obtain⟨h1,h2,h3,h4⟩:=q9V hj;have hl:=r.length;have hn:=q4i;have I':Inv X pins σ (upd H p (.lst (xs.set j v))) {s with heap:=s.heap.update p (Obj.mapSeq (·.setIfInBounds j u))}:=
  I.lstUpd hp ho (q8a its n j u) (r.set rv j) (by rw[List.length_set];exact hz) s.toks
 by_cases h0:0<=k
 ·have hk:k.toNat=j:=by
   rw[seqIndex_of h0 h4]at h1;exact Option.some.inj h1
  exact PySem.W.ki_setAt ho h0 (by omega) (by rw[List.size_toArray,←hl];exact h4) (by rw[hk];exact⟨_,I',q⟩)
 ·have hk:(k+(its.toArray.size:Int)).toNat=j:=by
   rw[seqIndex_neg (by omega) h3]at h1;rw[List.size_toArray,←hl];exact Option.some.inj h1
  exact PySem.W.ki_setBack ho (by omega) (by rw[List.size_toArray,←hl];exact h3) (by omega) (by rw[hk];exact⟨_,I',q⟩)
theorem q5R(lo hi:Option Int)(n:Nat):(sliceBounds lo hi none n).1=((HT.sIx n 0 lo:Nat):Int)/\(sliceBounds lo hi none n).2.1=((HT.sIx n n hi:Nat):Int)/\(sliceBounds lo hi none n).2.2=1:=by
 refine⟨?_,?_,rfl⟩
 ·cases lo with
  | none=>simp[sliceBounds,HT.sIx]
  | some i=>
   simp only[sliceBounds,HT.sIx,Option.getD_none,show(1:Int)>0 by decide,if_true];by_cases h:i<0
   ·simp only[h,if_true]<;>omega
   ·simp only[h,if_false]<;>omega
 ·cases hi with
  | none=>simp[sliceBounds,HT.sIx]
  | some i=>
   simp only[sliceBounds,HT.sIx,Option.getD_none,show(1:Int)>0 by decide,if_true];by_cases h:i<0
   ·simp only[h,if_true]<;>omega
   ·simp only[h,if_false]<;>omega
theorem q4N(its:List Value)(lo hi:Option Int):slicePick its.toArray lo hi none=((its.drop (HT.sIx its.length 0 lo)).take (HT.sIx its.length its.length hi - HT.sIx its.length 0 lo)).toArray:=by
 obtain⟨h1,h2,h3⟩:=q5R lo hi its.toArray.size;unfold slicePick;rw[h1,h2,h3];simp only[sliceRange_one,pick_run,List.size_toArray]<;>rfl
def rSlL(K:PySem.W.Frag):V->Option Int->Option Int->Hp->VK->Prop:=λx lo hi H Q=>∃a xs,x=.ref a/\SqL K H a xs/\∀p,H p=none->Q (.ref p) (upd H p (.lst (cutV xs lo hi)))
theorem z3W:SlR X (rSlL X.K):=by
 intro pins s σ H x v vl vu lo hi sl Q I rx hs pl pu h;obtain⟨a,xs,rfl,hx,q⟩:=h;cases rx;obtain⟨its,r,ht,hz⟩:=I.list hx;have hlen:=r.length;refine⟨"list",_,slot_list_getitem.lookup,ht.isList.typeIs,?_⟩;refine wpAny_getItem_list_slice ht.isList hs pl pu .none (by simp) ?_ (by rw[List.size_toArray]<;>omega);rw[q4N,←hlen];refine⟨.ref s.heap.objs.size,_,I.laid (t':=s.toks) (o:=.lst (cutV xs lo hi)) (λb ob q=>Heap.get?_push_of_some _ q) (Nat.le_refl _) ?_,rfl,q _ (I.hok.fresh (Nat.le_refl _))⟩;exact⟨Nat.le_trans (q4h xs lo hi) hz,_,0,(r.drop (HT.sIx xs.length 0 lo)).take (HT.sIx xs.length xs.length hi - HT.sIx xs.length 0 lo),Heap.get?_push_size _ rfl⟩
theorem q2p:q1G X (.builtin "len") (λxs H Q=>∃p ys,xs=[.ref p]/\(SqL X.K H p ys\/SqT X.K H p ys)/\Q (.int ys.length) H):=by
 intro pins s σ H xs us Q I r h;obtain⟨p,ys,rfl,hq,q⟩:=h;obtain⟨u,rfl,rx⟩:=q4O r;cases rx;have hn:=q4i;rcases hq with hq | hq
 ·obtain⟨its,r',pl,hz⟩:=I.list hq;have hlen:=r'.length;exact Calls.call_len_list pl.isList (by simp only[List.size_toArray]<;>omega) ⟨.int ys.length,H,I.tok _,⟨s.toks+1,by rw[List.size_toArray,hlen]⟩,q⟩
 ·obtain⟨its,r',pl,hz⟩:=I.tuple hq;have hlen:=r'.length;exact len_tuple pl (by simp only[List.size_toArray]<;>omega) ⟨.int ys.length,H,I.tok _,⟨s.toks+1,by rw[List.size_toArray,hlen]⟩,q⟩
theorem q6e:q1G X (.builtin "len") (λxs H Q=>∃z,xs=[.str z]/\z.length<=sizeLine/\Q (.int z.length) H):=by
 intro pins s σ H xs us Q I r h;obtain⟨z,rfl,hz,q⟩:=h;obtain⟨u,rfl,t,rfl⟩:=q4O r;have hn:=q4i;exact len_str (by omega) ⟨.int z.length,H,I.tok _,⟨_,rfl⟩,q⟩
theorem q2g:q1G X (.type "list") (λxs H Q=>∃p ys,xs=[.ref p]/\(SqL X.K H p ys\/SqT X.K H p ys)/\∀l,H l=none->Q (.ref l) (upd H l (.lst ys))):=by
 intro pins s σ H xs us Q I r h;obtain⟨p,ys,rfl,hq,q⟩:=h;obtain⟨u,rfl,rx⟩:=q4O r;cases rx;have fin:∀(its:List Value),Vals ys its->ys.length<=sizeLine->∀(h':Heap) (c':Nat),(∀b o',s.heap.get? b=some o'->h'.get? b=some o') ->
   h'.get? s.heap.objs.size=some {cls:=.type "list",dict:=none,data:=.seq its.toArray c',slots:=#[]} -> EP X pins σ Q (.ref s.heap.objs.size) {s with heap:=h'}:=λits r' hz h' c' kp e=>
  ⟨.ref s.heap.objs.size,_,I.laid (t':=s.toks) kp (Nat.le_refl _) (show q1f X.prog X.w _ h' _ (.lst ys)from⟨hz,its,c',r',e⟩),rfl,q _ (I.hok.fresh (Nat.le_refl _))⟩
 rcases hq with hq | hq
 ·obtain⟨its,r',pl,hz⟩:=I.list hq;have hlen:=r'.length;obtain⟨o,ho,hc,n,hd⟩:=pl.isList;exact call_list_seq p (.inl rfl) ho hc hd (λh' c' kp e=>fin its r' hz h' c' kp e) (by simp only[List.size_toArray]<;>omega)
 ·obtain⟨its,r',pl,hz⟩:=I.tuple hq;have hlen:=r'.length;obtain⟨o,ho,hc,n,hd⟩:=pl;exact call_list_seq p (.inr rfl) ho hc hd (λh' c' kp e=>fin its r' hz h' c' kp e) (by simp only[List.size_toArray]<;>omega)
theorem q3g:q1G X (.type "tuple") (λxs H Q=>∃p ys,xs=[.ref p]/\((SqL X.K H p ys/\∀l,H l=none->Q (.ref l) (upd H l (.tup ys)))\/(SqT X.K H p ys/\Q (.ref p) H))):=by
 intro pins s σ H xs us Q I r h;obtain⟨p,ys,rfl,h⟩:=h;obtain⟨u,rfl,rx⟩:=q4O r;cases rx;rcases h with⟨hq,q⟩ | ⟨hq,q⟩
 ·obtain⟨its,r',pl,hz⟩:=I.list hq;have hlen:=r'.length;refine call_tuple_list pl.isList (λh' kp=>?_) (by simp only[List.size_toArray]<;>omega);have I1:Inv X pins σ H {s with heap:=h'}:=I.kept (t':=s.toks) kp;have I2:Inv X pins σ (upd H h'.objs.size (.tup ys)) {s with heap:=h'.push {cls:=.type "tuple",data:=.seq its.toArray}}:=
   I1.laid (t':=s.toks) (λb o e=>Heap.get?_push_of_some _ e) (Nat.le_refl _) (show q1f X.prog X.w _ _ _ (.tup ys)from⟨hz,its,r',q2J.new _ _⟩)
  exact⟨.ref h'.objs.size,_,I2,rfl,q _ (I1.hok.fresh (Nat.le_refl _))⟩
 ·obtain⟨its,r',pl,hz⟩:=I.tuple hq;exact call_tuple_same pl ⟨.ref p,H,I,rfl,q⟩
def tyV(K:PySem.W.Frag)(T:String)(x:V)(H:Hp):Prop:=match x with
 | .str _=>T = "str"
 | .int _=>T = "int"
 | .ref p=>(T = "list" /\ ∃xs,SqL K H p xs)\/(T = "tuple" /\ ∃o,K.lookup p=some o/\o.cls=.type "tuple" /\ o.dict=none) \/
   (T = "dict" /\ ((∃kvs,H p=some (.dK kvs))\/∃kvs,H p=some (.dT kvs)))\/(T = "set" /\ ∃S n,H p=some (.set S n))
 | _=>False
theorem z2i{pins:List (Addr×Obj)}{σ:St}{H:Hp}{s:Shared}{T:String}{x:V}{v:Value}(I:Inv X pins σ H s)(r:RelV x v)(ty:tyV X.K T x H) :
  s.TypeIs v T/\∀a,v=.ref a->∃ob,s.heap.get? a=some ob/\ob.dict=none:=by
 cases x with
 | str z=>
  obtain⟨t,rfl⟩:=r;cases(show T = "str" from ty);exact⟨typeIs_str s z t,λ_ e=>nomatch e⟩
 | int i=>
  obtain⟨t,rfl⟩:=r;cases(show T = "int" from ty);exact⟨typeIs_int s i t,λ_ e=>nomatch e⟩
 | ref p=>
  cases r;rcases ty with⟨rfl,xs,hq⟩ | ⟨rfl,o,hk,hc,hd⟩ | ⟨rfl,hk⟩ | ⟨rfl,S,n,hk⟩
  ·obtain⟨its,_,pl,_⟩:=I.list hq;refine⟨pl.isList.typeIs,λa e=>?_⟩;cases e;obtain⟨o,n,e,c,hd,_⟩:=pl;exact⟨o,e,hd⟩
  ·refine⟨⟨o,I.kIn p o hk,hc⟩,λa e=>?_⟩;cases e;exact⟨o,I.kIn _ o hk,hd⟩
  ·have z:∃o,s.heap.get? p=some o/\o.ExactDict:=by
    rcases hk with⟨kvs,hk⟩ | ⟨kvs,hk⟩
    ·obtain⟨_,_,_,_,o,_,_,e,ex,_⟩:=I.hok p _ hk;exact⟨o,e,ex⟩
    ·obtain⟨_,_,_,_,o,_,_,e,ex,_⟩:=I.hok p _ hk;exact⟨o,e,ex⟩
   obtain⟨o,e,ex⟩:=z;refine⟨⟨o,e,ex.1⟩,λa e2=>?_⟩;cases e2;exact⟨o,e,ex.2.1⟩
  ·obtain⟨o,_,_,_,e,ex,_⟩:=I.hok p _ hk;refine⟨⟨o,e,ex.1⟩,λa e2=>?_⟩;cases e2;exact⟨o,e,ex.2.1⟩
 | _=>exact False.elim ty
def tBM0(K:PySem.W.Frag)(T:String)(r:V->List V->Hp->VK->Prop)(to:TE):TE:=λσ H Q=>to σ H λx H1=>tyV K T x H1/\r x [] H1 Q
def tBM(K:PySem.W.Frag)(T:String)(r:V->List V->Hp->VK->Prop)(to:TE)(t:TA):TE:=λσ H Q=>to σ H λx H1=>tyV K T x H1/\t σ H1 λxs H2=>r x xs H2 Q
variable {o e:Expr} {es:List Expr} {to:TE} {t:TA} {name:Str} {apos cpos:Pos} {T id:String} {r:V->List V->Hp->VK->Prop}
theorem z6n(pa:PlainAttrs T)(slot:Slot T name id)(hty:typeOf (.builtin id)=pure (.type "method_descriptor"))(hm:MtR X id r)(ho:PE X o to)
  (hbase:attributeBase o name X.env (eval o X.env)=eval o X.env:=by rfl) (hline:(apos.endLine==cpos.line)=true:=by rfl):PE X (.Call (.Attribute o name apos) [] [] cpos) (tBM0 X.K T r to):=by
 intro pins s σ H Q I h;refine wpAny_Call_method0_late hbase hline (thn (ho pins s σ H _ I h) λv s1 ⟨x,H1,I1,r1,ty,q1⟩=>?_);obtain⟨h1,h2⟩:=z2i I1 r1 ty;exact⟨T,id,pa,slot,hty,h1,h2,Calls.callWith_builtin rfl (PySem.evalArgs_none (hm pins s1 σ H1 x [] v [] Q I1 r1 .nil q1))⟩
theorem z4B(pa:PlainAttrs T)(slot:Slot T name id)(hty:typeOf (.builtin id)=pure (.type "method_descriptor"))(hm:MtR X id r)(ho:PE X o to)(ha:PA X (e::es) t)
  (hbase:attributeBase o name X.env (eval o X.env)=eval o X.env:=by rfl)
  (hfew:((backTo cpos (starEach (e::es) X.env)).all (λx=>!x.1)&&(backToKw cpos (keywordEach [] X.env)).all (λx=>x.1.isSome)
   && decide ((e::es).length+([]:List Keyword).length+(if([]:List Keyword).isEmpty then 0 else 1)<30))=true:=by rfl)
  (hline:(apos.endLine==cpos.line)=true:=by rfl) (hs:starEach (e::es) X.env=(false,eval e X.env)::starEach es X.env:=by rfl) (hplain:(backTo cpos (starEach es X.env)).any (·.1)=false:=by rfl) :
  PE X (.Call (.Attribute o name apos) (e::es) [] cpos) (tBM X.K T r to t):=by
 intro pins s σ H Q I h;refine wpAny_Call_method_late hbase hfew hline rfl (thn (ho pins s σ H _ I h) λv s1 ⟨x,H1,I1,r1,ty,q1⟩=>?_);obtain⟨h1,h2⟩:=z2i I1 r1 ty;refine⟨T,id,pa,slot,hty,h1,h2,?_⟩;have hA:=ha cpos pins s1 σ H1 _ I1 q1;rw[hs]at hA ⊢;refine Calls.callWith_builtin (by show(false||(backTo cpos (starEach es X.env)).any (·.1))=false;rw[hplain]<;>rfl) (Calls.evalArgs_plain ?_);exact thn hA λus s2 ⟨vs,H2,I2,r2,q2⟩=>hm pins s2 σ H2 x vs v us Q I2 r1 r2 q2
end
end L2
namespace L2
open PySem PySem.Spec PyProof.Rows
def MtM(X:Cx)(id:String)(r:V->List V->Hp->VK->Prop):Prop:=
 ∀(pins:List (Addr×Obj)) (s:Shared) (σ:St) (H:Hp) (x:V) (xs:List V) (v:Value) (us:List Value) (Q:VK),Inv X pins σ H s->RelV x v->Vals xs us->r x xs H Q ->
  wpAny (model X.prog X.w) X.A (call (.builtin id) (v::us)) (EP X pins σ Q) X.xe s
theorem Vals.eraseIdx:∀{xs:List V} {us:List Value} (i:Nat),Vals xs us->Vals (xs.eraseIdx i) (us.eraseIdx i)
 | _,_,_,.nil=>.nil
 | _,_,0,.cons _ t=>t
 | _,_,i+1,.cons r t=>.cons r (Vals.eraseIdx i t)
theorem Vals.unc{x:V}{xs:List V}{us:List Value}(h:Vals (x::xs) us):∃u ws,us=u::ws/\RelV x u/\Vals xs ws:=by
 cases h with
 | cons r t=>exact⟨_,_,rfl,r,t⟩
theorem Vals.nl{us:List Value}(h:Vals [] us):us=[]:=by cases h;rfl
theorem Vals.one{x:V}{us:List Value}(h:Vals [x] us):∃u,us=[u]/\RelV x u:=by
 obtain⟨u,ws,rfl,r,t⟩:=h.unc;cases t.nl;exact⟨_,rfl,r⟩
theorem Vals.two{x y:V}{us:List Value}(h:Vals [x,y] us):∃u v,us=[u,v]/\RelV x u/\RelV y v:=by
 obtain⟨u,ws,rfl,r,t⟩:=h.unc;obtain⟨v,rfl,q⟩:=t.one;exact⟨_,_,rfl,r,q⟩
theorem Vals.rep{xs:List V}{us:List Value}(h:Vals xs us):∀k:Nat,Vals (List.replicate k xs).flatten (List.replicate k us).flatten
 | 0=>.nil
 | k+1=>by rw[List.replicate_succ,List.replicate_succ,List.flatten_cons,List.flatten_cons];exact Vals.append h (Vals.rep h k)
theorem q5X{α:Type}:∀(l:List α) (i:Nat),(l.eraseIdx i).length<=l.length
 | [],_=>Nat.le_refl _
 | _::_,0=>Nat.le_succ _
 | _::r,i+1=>Nat.succ_le_succ (q5X r i)
theorem q5V(its:List Value):∀(k:Nat) (acc:List Value),
  List.foldl (λx1 x2=>x1++x2) acc.toArray (List.replicate k its.toArray)=(acc++(List.replicate k its).flatten).toArray
 | 0,acc=>by simp
 | k+1,acc=>by
  have e:acc.toArray++its.toArray=(acc++its).toArray:=by simp
  have e2:(acc++its)++(List.replicate k its).flatten=acc++(List.replicate (k+1) its).flatten:=(by rw[List.replicate_succ,List.flatten_cons,List.append_assoc]);rw[←e2,←q5V its k (acc++its),←e,List.replicate_succ,List.foldl_cons]
section
variable {X:Cx} {pins:List (Addr×Obj)} {σ:St} {H:Hp} {s:Shared} {l b:Addr} {xs ys zs:List V}
theorem Inv.lset{its its':List Value}{n:Nat}{f:Array Value->Array Value}{t':Nat}(I:Inv X pins σ H s)(hH:H l=some (.lst xs))
  (e:s.heap.get? l=some {cls:=.type "list",data:=.seq its.toArray n}) (hf:f its.toArray=its'.toArray) (hv:Vals ys its') (hz:ys.length<=sizeLine) :
  Inv X pins σ (upd H l (.lst ys)) {s with heap:=s.heap.update l (Obj.mapSeq f),toks:=t'}:=by
 have q:=PySem.IsL.update e f;rw[hf]at q;refine I.write (x:=l) (e:=l) (by rw[hH];exact trivial) (.inl rfl) (λb' u hb hu=>(Heap.get?_update_other s.heap (Obj.mapSeq f) (Ne.symm hb)).trans hu) ⟨_,q⟩ ?_;exact⟨hz,its',_,hv,q⟩
theorem Inv.lnew{its:List Value}{t':Nat}(I:Inv X pins σ H s)(hv:Vals ys its)(hz:ys.length<=sizeLine) :
  Inv X pins σ (upd H s.heap.objs.size (.lst ys)) {s with heap:=s.heap.push {cls:=.type "list",data:=.seq its.toArray},toks:=t'}:=
 I.laid (λ_ _ q=>Heap.get?_push_of_some _ q) (Nat.le_refl _) ⟨hz,its,0,hv,Heap.get?_push_size _ rfl⟩
theorem Inv.fresh(I:Inv X pins σ H s):H s.heap.objs.size=none:=I.hok.fresh (Nat.le_refl _)
theorem Inv.lstM(I:Inv X pins σ H s)(hH:H l=some (.lst xs)):xs.length<=sizeLine/\∃(its:List Value) (n:Nat),Vals xs its/\xs.length=its.length/\s.heap.get? l=some {cls:=.type "list",data:=.seq its.toArray n}:=by
 obtain⟨z,its,n,r,e⟩:=I.hok l _ hH;exact⟨z,its,n,r,r.length,e⟩
theorem z1u{n:Nat}(h:n<=sizeLine):Builtin.List.listTooLong n=false:=by
 unfold Builtin.List.listTooLong;exact decide_eq_false (by omega)
end
section
variable {X:Cx}
def z3E:V->List V->Hp->VK->Prop:=λx vs H Q=>∃l xs y,x=.ref l/\vs=[y]/\H l=some (.lst xs)/\xs.length<sizeLine/\Q .non (upd H l (.lst (xs++[y])))
theorem q9o:MtM X "list.append" z3E:=by
 intro pins s σ H x vs v us Q I rx rv h;obtain⟨l,xs,y,rfl,rfl,hH,hz,q⟩:=h;cases rx;obtain⟨u,rfl,ru⟩:=rv.one;obtain⟨z,its,n,r,hl,e⟩:=I.lstM hH;refine call_meets F.slot_list_append ⟨_,e,rfl⟩ F.entry_list_append (F.args_list_append_2 _ _) (PySem.list_append l its.toArray n u (by rw[List.size_toArray];omega)) ⟨e,?_⟩;refine⟨.non,_,I.lset (its':=its++[u]) hH e (by simp) (r.append (.cons ru .nil)) ?_,rfl,q⟩;rw[List.length_append,List.length_singleton];omega
def z6z:V->List V->Hp->VK->Prop:=λx vs H Q=>∃l xs i k y,x=.ref l/\vs=[.int i]/\H l=some (.lst xs) /\ -(2^63)<=i/\i<2^63/\seqIndex? i xs.length=some k/\xs[k]? = some y/\Q y (upd H l (.lst (xs.eraseIdx k)))
theorem z0K:MtM X "list.pop" z6z:=by
 intro pins s σ H x vs v us Q I rx rv h;obtain⟨l,xs,i,k,y,rfl,rfl,hH,h1,h2,hk,hy,q⟩:=h;cases rx;obtain⟨u,rfl,ru⟩:=rv.one;obtain⟨t,rfl⟩:=ru;obtain⟨z,its,n,r,hl,e⟩:=I.lstM hH;obtain⟨w,hw,rw'⟩:=r.get hy;refine call_meets F.slot_list_pop ⟨_,e,rfl⟩ F.entry_list_pop (F.args_list_pop_2 _ _)
  (MeetsSeq.list_pop_at l its.toArray n i t k w (fitsIndex_both h1 h2) (by rw[List.size_toArray,←hl];exact hk) (by rw[←Array.getElem?_toList];exact hw) (by rw[List.size_toArray];omega)) ⟨e,?_⟩
 refine⟨y,_,I.lset (its':=its.eraseIdx k) hH e ?_ (Vals.eraseIdx k r) ?_,rw',q⟩
 ·show its.toArray.eraseIdxIfInBounds k=(its.eraseIdx k).toArray;rw[List.eraseIdxIfInBounds_toArray]
 ·have:=q5X xs k;omega
def rCat:R2:=λx y H Q=>∃l b xs zs,x=.ref l/\y=.ref b/\H l=some (.lst xs)/\H b=some (.lst zs)/\xs.length+zs.length<=sizeLine/\∀p,H p=none->Q (.ref p) (upd H p (.lst (xs++zs)))
theorem z5G:OpR X (binaryOp .Add) rCat:=by
 intro pins s σ H x y v u Q I rx ry h;obtain⟨l,b,xs,zs,rfl,rfl,hH,hB,hz,q⟩:=h;cases rx;cases ry;obtain⟨z,its,n,r,hl,e⟩:=I.lstM hH;obtain⟨z2,its2,n2,r2,hl2,e2⟩:=I.lstM hB;refine PySem.P.add_list e e2 ?_ (by rw[List.size_toArray,List.size_toArray];omega);have ea:its.toArray++its2.toArray=(its++its2).toArray:=by simp
 rw[ea];exact⟨.ref _,_,I.lnew (t':=s.toks) (r.append r2) (by rw[List.length_append];omega),rfl,q _ I.fresh⟩
def rRep:R2:=λx y H Q=>∃l k xs,x=.ref l/\y=.int k/\H l=some (.lst xs) /\ -(2^63)<=k/\k<2^63/\xs.length*k.toNat<=sizeLine /\
 ∀p,H p=none->Q (.ref p) (upd H p (.lst (List.replicate k.toNat xs).flatten))
theorem z3h{α:Type}(xs:List α)(k:Nat):(List.replicate k xs).flatten.length=k*xs.length:=by
 induction k with
 | zero=>simp
 | succ k ih=>rw[List.replicate_succ,List.flatten_cons,List.length_append,ih,Nat.succ_mul,Nat.add_comm]
theorem z5v:OpR X (binaryOp .Mult) rRep:=by
 intro pins s σ H x y v u Q I rx ry h;obtain⟨l,k,xs,rfl,rfl,hH,h1,h2,hz,q⟩:=h;cases rx;obtain⟨t,rfl⟩:=ry;obtain⟨z,its,n,r,hl,e⟩:=I.lstM hH;have hlen:its.toArray.size*k.toNat<=sizeLine:=by rw[List.size_toArray,←hl];exact hz
 have hcap:¬its.toArray.size*k.toNat>(2^63 - 1)/8:=by
  have:(sizeLine:Nat)<=(2^63 - 1)/8:=by decide
  omega
 have hfit:¬(!Builtin.List.listFitsIndex k)=true:=(by rw[fitsIndex_both h1 h2];exact Bool.false_ne_true);have hlong:¬Builtin.List.listTooLong (its.toArray.size*k.toNat)=true:=(by rw[z1u hlen];exact Bool.false_ne_true);have hnew:List.foldl (λx1 x2=>x1++x2) #[] (List.replicate (if its.toArray.isEmpty=true then 0 else k.toNat) its.toArray)=(List.replicate k.toNat its).flatten.toArray:=by
  have f0:∀m:Nat,List.foldl (λx1 x2=>x1++x2) #[] (List.replicate m its.toArray)=(List.replicate m its).flatten.toArray:=λm=>by have:=q5V its m [];rw[List.nil_append]at this;exact this
  rw[f0];cases its with
  | nil=>simp
  | cons a r'=>rw[if_neg (by simp)]
 refine wpAny_binaryOp_repeat_ref (T:="list") (U:="int") (by decide) ⟨_,e,rfl⟩ (λs'=>typeIs_int s' k t) noFill_list_mul F.fills_int_mul F.slot_int_rmul repeat_list F.slot_int_index.lookup
  (call_meets F.slot_int_rmul (typeIs_int s k t) F.entry_int_rmul (F.args_int_rmul_2 _ _) (int___rmul___int_list k t l its.toArray n)
   ⟨e,rfl,⟨_,e,rfl⟩,call_meets F.slot_list_mul ⟨_,e,rfl⟩ F.entry_list_mul (F.args_list_mul_2 _ _) (AutoListH.list___mul___list_int_3 l its.toArray n k t hfit hcap hlong) ⟨e,?_⟩⟩)
 rw[hnew];exact⟨.ref _,_,I.lnew (t':=s.toks) (r.rep k.toNat) (by rw[z3h,Nat.mul_comm];exact hz),rfl,q _ I.fresh⟩
end
section
variable {prog:Program} {w:World} {A:Around} {E:Value->Shared->Prop} {s:Shared}
end
section
variable {X:Cx}
end
end L2
namespace Att
open PySem PySem.W PySem.Calls PyProof.Rows
theorem q3O{P:Params}{h:Heap}:∀(ns:List Int) (vs:List Value),WellAll P h vs (ns.map WData.int)->IntsAre vs ns:=by
 intro ns
 induction ns with
 | nil=>
  intro vs w;rw[List.map_nil]at w;cases w;exact .nil
 | cons n ns ih=>
  intro vs w;rw[List.map_cons]at w;cases w with
  | cons a b=>
   cases a;exact .cons _ _ (ih _ b)
theorem q9m{l:OpenLaw}{n:Nat}(hn:l.most=some n){P:Params}{h:Heap}{args:List WData}{vals:List Value}
  (hpre:l.row.toRowW.claim.pre args=true) (hwl:WellAll P h vals args) :
  ∃a vs ns,vals=[Value.ref a]/\args=[WData.list (ns.map WData.int)]/\h.get? a=some {cls:=.type "list",data:=.seq vs.toArray} /\ IntsAre vs ns/\ns.length<=n:=by
 have hsh:WShape.hasAll [] args [.list .int]=true:=(pre_splitW hpre).1;have hc:l.pre.holds [] {args:=args} = true:=(pre_splitW hpre).2;obtain⟨d,r,rfl,h1,h2⟩:=hasAllW_cons hsh;obtain rfl:=hasAllW_nil h2;obtain⟨xs,rfl,h3⟩:=hasW_list h1;obtain⟨ns,rfl⟩:=items_int h3;have hlen:ns.length<=n:=by
  unfold OpenLaw.pre at hc;have h4:(WTm.not (.lt (.lit (.int (n:Int))) (.len (.arg 0)))).holds [] {args:=[.list (ns.map .int)]} = true:=by have h4:=(holds_andW hc).1;rw[hn]at h4;exact h4
  have h5:=condW_of h4 (w_not (w_lt w_lit (w_len_list (w_arg rfl))));rw[List.length_map]at h5;refine Nat.le_of_not_lt λq=>?_;have q':(n:Int)<((ns.length:Nat):Int):=by omega
  first
   | (rw[decide_eq_true q']at h5;exact absurd h5 (by decide))
   | (simp at h5;omega)
 cases hwl with
 | cons w1 w2=>
  cases w2;cases w1 with
  | list ho hall=>exact⟨_,_,ns,rfl,rfl,ho,q3O ns _ hall,hlen⟩
theorem z0p(l:OpenLaw)(args:List WData):l.row.toRowW.claim.post args (.bool true) args=true:=
 postW_of (r:=l.row.toRowW) (X:=(true==true))
  (show WShape.has [] (.bool true) .bool=true by first | rfl | decide | simp[WShape.has,WShape.arms,WShape.armsAll])
  (show(WTm.eq .res (.lit (.bool true))).value [] {args:=args,res:=some (.bool true),after:=args} = some (.bool (true==true))from w_eq_bool (w_res rfl) w_lit) rfl
theorem attach_call{l:OpenLaw}{n:Nat}{q:Program}{loose:List Str}{XP:(Str->Option Value)->Heap->Prop}{YP:World->Heap->Prop}{d:DefRec}
  (hn:l.most=some n) (hdf:d.params.defaults=[])
  (call:∀(w:World) (s₀ s₁:Shared) (mg mb:Str->Option Value) (fa:Addr) (o:Obj) (pm cd doc:Value) (a:Addr) (vs:List Value) (ns:List Int),
   Ground q loose [] XP w s₀ mg mb s₁.heap->YP w s₁.heap ->
   s₁.heap.get? fa=some o->o.data=.func (docDef d.name d.params d.body d.scope pm cd doc)->s₁.heap.CodeRec cd d.name->mg d.name=some (.ref fa) ->
   s₁.heap.get? a=some {cls:=.type "list",data:=.seq vs.toArray} -> IntsAre vs ns->ns.length<=n->s₁.gens = #[] ->
   codeAny (model l.prog w) callerA (.call (.ref fa) ⟨[.ref a],[]⟩) (λr s'=>r=.ok (.ret (.bool true))/\OldK s₁.heap s'.heap/\s'.os=s₁.os/\AllBare s'.gens) s₁) :
  WalkO q loose XP YP l.row.toRowW d [] (λf vs=>PySem.call f vs):=by
 intro w s₀ s₁ mg mb G Y fa o pm cd doc dV kV ho hd hcd hD hmg hg args vals as hpre hlay hrd hwl hlo;obtain rfl:dV=.none:=Dflts.none hD hdf;obtain rfl:kV=.none:=Dflts.noKw hD;obtain⟨a,vs,ns,rfl,rfl,hobj,hints,hlen⟩:=q9m hn hpre hwl;refine enter_call (codeAny_mono (call w s₀ s₁ mg mb fa o pm cd doc a vs ns G Y ho (fd_plain hd) hcd hmg hobj hints hlen hg) λr s' hq=>?_);obtain⟨rfl,h2,h3,h4⟩:=hq;exact⟨.inl ⟨.bool true,.bool true,[],rfl,λ_=>rfl,.bool true,z0p l _,λ_=>⟨List.Pairwise.nil,λ_ hm=>(nomatch hm)⟩⟩,h2,h3,h4⟩
section
variable {prog:Program} {w:World} {A:Around} {E:Value->Shared->Prop} {s:Shared} {K:Frag}
def z8n(h:Heap)(L d:Addr):List (Addr×Obj):=(List.range h.objs.size).filterMap λa=>if a=L\/a=d then none else(h.get? a).map λo=>(a,o)
end
end Att
namespace L2
open PySem PySem.Spec PyProof.Rows
theorem q5N:∀{vs:List Value} {ns:List Int},IntsAre vs ns->Vals (ns.map V.int) vs
 | _,_,.nil=>.nil
 | _,_,.cons n t h=>.cons ⟨t,rfl⟩ (q5N h)
def Only(H:Hp):Prop:=∀b,H b=none\/(∃o xs,H b=some (.frz o (.lst xs)))\/∃q,H b=some (.tbl q)
theorem q2n{α:Type}{x:Addr}:∀{l:List (Addr×α)} {c:α},l.lookup x=some c->(x,c)∈l
 | (y,v)::l,c,h=>by
  rw[List.lookup_cons]at h;split at h
  ·rename_i e;cases h;rw[beq_iff_eq.mp e];exact List.mem_cons_self
  ·exact List.mem_cons_of_mem _ (q2n h)
theorem z4D{α:Type}{x:Addr}:∀{l:List (Addr×α)} {c:α},l.lookup x=none->(x,c)∉l
 | (y,v)::l,c,h,m=>by
  rw[List.lookup_cons]at h;split at h
  ·cases h
  ·rename_i e;rcases List.mem_cons.mp m with z | z
   ·cases z;simp at e
   ·exact z4D h z
theorem z6E{α β:Type}{p:α×β}{l:List (α×β)}{q:β}(nd:(l.map (·.1)).Nodup)(h1:(p.1,q)∈l)(h2:p∈l):q=p.2:=by
 induction l with
 | nil=>cases h1
 | cons y l ih=>
  rw[List.map_cons]at nd;have nd':=List.nodup_cons.mp nd;rcases List.mem_cons.mp h1 with z1 | z1<;>rcases List.mem_cons.mp h2 with z2 | z2
  ·rw[z2,←z1]
  ·exact absurd (List.mem_map.mpr ⟨p,z2,by rw[←z1]⟩) nd'.1
  ·exact absurd (List.mem_map.mpr ⟨_,z1,by rw[z2]⟩) nd'.1
  ·exact ih nd'.2 z1 z2
theorem z0P{P:Program}{w:World}{K:PySem.W.Frag}{mg mb:Str->Option Value}{CX:CXT}{k:Nat}{fa a:Addr}{fd:FuncData}{x:Str}{sp:Sp}{s₁:Shared}{vs:List Value}{ns:List Int}
  (KX:K.In s₁.heap) (hns:s₁.heap.Ns mainGlobals mg) (hb:s₁.heap.Ns builtinsNs mb) (hbb:∀x:Str,x ≠ "__name__" -> mb x=bootBuiltins x) (hlim:s₁.heap.NoLimit) (hg:s₁.gens = #[])
  (ha:s₁.heap.get? a=some {cls:=.type "list",data:=.seq vs.toArray}) (hi:IntsAre vs ns) (hl:ns.length<=sizeLine) (hr:Room k callerA)
  (F:∀base:Heap,K.In base->base.Ns mainGlobals mg->FnOk P w K mg base CX k fa fd [x] sp) (hbind:∀(s:Shared) (u:Value),BindsTo s fd ⟨[u],[]⟩ [(x,u)])
  (hsp:∀H:Hp,Only H->SqL K H a (ns.map V.int)->sp [.ref a] H (λv _=>v=.bl true) λ_ _ _=>False)
  (htb:∀p∈q0I K,K.lookup p.1=none/\s₁.heap.get? p.1=some {cls:=.none,data:=.fields #[]} /\ isCodeTable s₁.heap p.1) (htn:((q0I K).map (·.1)).Nodup)
  (hbm:∃bm ob,mg "__builtins__" = some (.ref bm)/\bm≠builtinsNs/\s₁.heap.get? bm=some ob/\ob.cls=.type "module" /\ ob.dict=some builtinsNs/\ob.data=.plain)
  (hCX:∀H e s',CX [] H s₁ (λ_ _ _=>False) e s'->False) :
  codeAny (model P w) callerA (.call (.ref fa) ⟨[.ref a],[]⟩) (λr s'=>r=.ok (.ret (.bool true))/\OldK s₁.heap s'.heap/\s'.os=s₁.os/\AllBare s'.gens) s₁:=by
 have rv:=q5N hi;have lenV:=hi.length;have core:∀H:Hp,Only H->SqL K H a (ns.map V.int)->HOk P w H s₁.heap->(∀b,H b≠none->b=a\/((∃q,(b,q)∈q0I K)/\∃q,H b=some (.tbl q)))->(H a≠none->K.lookup a=none)->q6g K H ->
   codeAny (model P w) callerA (.call (.ref fa) ⟨[.ref a],[]⟩) (λr s'=>r=.ok (.ret (.bool true))/\OldK s₁.heap s'.heap/\s'.os=s₁.os/\AllBare s'.gens) s₁:=by
  intro H hO hS hok hA hK hT;have base_of:∀{b:Addr} {o:Obj},s₁.heap.get? b=some o->H b=none->(hidT s₁.heap H).get? b=some o:=λe n=>z0X e n
  have noA:∀{b:Addr} {o:Obj} {es:Array DictEntry} {ep:Nat},s₁.heap.get? b=some o->o.data=.dict es ep->H b=none:=λ{b o es ep} e d=>by
   cases q:H b with
   | none=>rfl
   | some u=>
    rcases hA b (by rw[q];simp)with e' | ⟨⟨qq,e'⟩,_⟩
    ·subst e';rw[ha]at e;cases e;have d':Data.seq vs.toArray _=Data.dict es ep:=d;cases d'
    ·rw[(htb _ e').2.1]at e;cases e;have d':Data.fields #[]=Data.dict es ep:=d;cases d'
  have nsK:∀{b:Addr} {m:Str->Option Value},s₁.heap.Ns b m->(hidT s₁.heap H).Ns b m:=λ{b m} ⟨o,es,ep,e,d,r⟩=>⟨o,es,ep,base_of e (noA e d),d,r⟩;have hKb:K.In (hidT s₁.heap H):=λb o e=>base_of (KX b o e) (by
   cases q:H b with
   | none=>rfl
   | some u=>
    rcases hA b (by rw[q];simp)with e' | ⟨⟨qq,e'⟩,_⟩
    ·subst e';rw[hK (by rw[q];simp)]at e;cases e
    ·rw[(htb _ e').1]at e;cases e)
  have hM:Mod K mg (hidT s₁.heap H):=by
   refine⟨hKb,nsK hns,⟨mb,nsK hb,hbb⟩,let ⟨mc,h1,h2⟩:=hlim;⟨mc,nsK h1,h2⟩,?bm⟩;obtain⟨bm,ob,b1,b2,b3,b4,b5,b6⟩:=hbm;refine⟨bm,ob,b1,b2,base_of b3 ?_,b4,b5,b6⟩;cases q:H bm with
   | none=>rfl
   | some u=>
    rcases hA bm (by rw[q];simp)with e' | ⟨⟨qq,e'⟩,_⟩
    ·subst e';rw[ha]at b3;cases b3;exact absurd (Value.type.inj (show Value.type "list" = Value.type "module" from b4)) (by decide)
    ·rw[(htb _ e').2.1]at b3;cases b3;cases b4
  have e0:Env0 P w K mg (hidT s₁.heap H) callerA [] s₁ H:=⟨rfl,hM,λb o e=>z4c e,Nat.le_of_eq (q8X _ _),trivial,⟨λb hb=>absurd (show b∈([]:List Addr)from hb) (by simp),hT⟩,hok,.of_eq hg⟩;refine codeAny_mono ((F _ hKb (nsK hns)).run callerA [] s₁ H ⟨[.ref a],[]⟩ [.ref a] [.ref a] _ _ hr e0 (hbind s₁ (.ref a)) (.cons rfl .nil) (hsp H hO hS)) λr s' h=>?_;cases r with
  | error e=>exact(hCX H e s' h).elim
  | ok fl=>
   cases fl with
   | next=>exact False.elim h
   | brk=>exact False.elim h
   | cont=>exact False.elim h
   | ret u=>
    obtain⟨v,H',os,bare,un,hok',r',q⟩:=h;have q':v=.bl true:=q;subst q';obtain rfl:u=Value.bool true:=r';refine⟨rfl,⟨λb o e=>?_,λb o e=>un.there b o e (by simp)⟩,os,bare⟩;cases q:H b with
    | none=>exact .inl (un.keep b o e q (by intro z;exact absurd (show b∈([]:List Addr)from z) (by simp)) (by simp))
    | some u=>
     rcases hO b with z | ⟨ob,xs,z⟩ | ⟨qq,z⟩
     ·rw[q]at z;cases z
     ·have z2:=un.frzs b ob _ z;obtain⟨e1,_⟩:=hok b _ z;obtain⟨e2,_⟩:=hok' b _ z2;rw[e]at e1;cases e1;exact .inl e2
     ·rcases hA b (by rw[q];simp)with e' | ⟨⟨q2,e'⟩,_⟩
      ·subst e';obtain⟨ps,e1,_⟩:=hok b _ z;rw[ha]at e1;have:=congrArg Obj.data (Option.some.inj e1);cases this
      ·have t:=htb _ e';rw[t.2.1]at e;cases e;obtain⟨ps,e2,_⟩:=hok' b _ (un.tbls b _ z);exact .inr (.inl ⟨t.2.2,rfl,#[],ps,rfl,by simpa using e2⟩)
 have tabH:∀f:Hp,(∀p∈q0I K,f p.1=none)->∃H:Hp,(∀b,(∃q,(b,q)∈q0I K/\H b=some (.tbl q))\/((∀q,(b,q)∉q0I K)/\H b=f b)):=λf hf=>by
  refine⟨λb=>match(q0I K).lookup b with | some q=>some (.tbl q) | none=>f b,λb=>?_⟩;cases z:(q0I K).lookup b with
  | some q=>exact .inl ⟨q,q2n z,by simp only[z]⟩
  | none=>exact .inr ⟨λq hq=>z4D z hq,by simp only[z]⟩
 have tabT:∀{H:Hp} {f:Hp},(∀b,(∃q,(b,q)∈q0I K/\H b=some (.tbl q))\/((∀q,(b,q)∉q0I K)/\H b=f b))->q6g K H:=λ{H f} h p hp=>by
  rcases h p.1 with⟨q,h1,h2⟩ | ⟨h1,_⟩
  ·rw[h2,z6E htn h1 hp]
  ·exact absurd hp (h1 p.2)
 cases hk:K.lookup a with
 | some o=>
  have e:=KX a o hk;rw[ha]at e;cases e;obtain⟨H,h⟩:=tabH (λ_=>none) λ_ _=>rfl;refine core H (λb=>?_) (.inr ⟨_,vs.toArray,_,hk,rfl,rfl,rfl,by rw[List.size_toArray,lenV];exact hl,by simpa using rv⟩) (λb u z=>?_) (λb z=>?_) (λz=>?_) (tabT h)
  ·rcases h b with⟨q,_,e⟩ | ⟨_,e⟩
   ·exact .inr (.inr ⟨q,e⟩)
   ·exact .inl e
  ·rcases h b with⟨q,m,e⟩ | ⟨_,e⟩
   ·rw[e]at z;cases z;exact⟨#[],(htb _ m).2.1,trivial,λpos cv z=>by cases z⟩
   ·rw[e]at z;cases z
  ·rcases h b with⟨q,m,e⟩ | ⟨_,e⟩
   ·exact .inr ⟨⟨q,m⟩,q,e⟩
   ·exact absurd e z
  ·rcases h a with⟨q,m,e⟩ | ⟨_,e⟩
   ·have:=(htb _ m).1;rw[hk]at this;cases this
   ·exact absurd e z
 | none=>
  have hna:∀q,(a,q)∉q0I K:=λq m=>by have:=(htb _ m).2.1;rw[ha]at this;have:=congrArg Obj.data (Option.some.inj this);cases this
  obtain⟨H,h⟩:=tabH (λb=>if b=a then some (.frz {cls:=.type "list",data:=.seq vs.toArray} (.lst (ns.map V.int)))else none) λp hp=>if_neg λz=>hna p.2 (by rw[←z];exact hp)
  have hHa:H a=some (.frz {cls:=.type "list",data:=.seq vs.toArray} (.lst (ns.map V.int))):=by
   rcases h a with⟨q,m,_⟩ | ⟨_,e⟩
   ·exact absurd m (hna q)
   ·rw[e];exact if_pos rfl
  refine core H (λb=>?_) (.inl (.inr ⟨{cls:=.type "list",data:=.seq vs.toArray},hHa⟩)) (λb u z=>?_) (λb z=>?_) (λ_=>hk) (tabT h)
  ·rcases h b with⟨q,_,e⟩ | ⟨_,e⟩
   ·exact .inr (.inr ⟨q,e⟩)
   ·by_cases hb:b=a
    ·exact .inr (.inl ⟨_,_,e.trans (if_pos hb)⟩)
    ·exact .inl (e.trans (if_neg hb))
  ·rcases h b with⟨q,m,e⟩ | ⟨_,e⟩
   ·rw[e]at z;cases z;exact⟨#[],(htb _ m).2.1,trivial,λpos cv z=>by cases z⟩
   ·rw[e]at z;by_cases hb:b=a
    ·have z':=(if_pos hb).symm.trans z;cases z';subst hb;exact⟨ha,by rw[List.length_map];exact hl,vs,_,rv,ha⟩
    ·have z':=(if_neg hb).symm.trans z;cases z'
  ·rcases h b with⟨q,m,e⟩ | ⟨_,e⟩
   ·exact .inr ⟨⟨q,m⟩,q,e⟩
   ·by_cases hb:b=a
    ·exact .inl hb
    ·exact absurd (e.trans (if_neg hb)) z
end L2
namespace L2
open PySem PySem.Spec PyProof.Rows
abbrev KOf{K:PySem.W.Frag}{h:Heap}(_:K.In h):PySem.W.Frag:=K
theorem walk_of{l:PySem.W.OpenLaw}{n k:Nat}{q:Program}{loose:List Str}{XP:(Str->Option Value)->Heap->Prop}{YP:World->Heap->Prop}{d:DefRec}{K:Params->PySem.W.Frag}{CX:World->CXT}{sp:World->Sp}{x:Str}
  (hn:l.most=some n) (hn2:n<=sizeLine) (hdf:d.params.defaults=[]) (hr:Room k callerA)
  (hY:∀(w:World) (h:Heap),YP w h->(K w.params).In h) (htb:∀(w:World) (h:Heap),YP w h->(∀p∈q0I (K w.params),(K w.params).lookup p.1=none/\h.get? p.1=some {cls:=.none,data:=.fields #[]} /\ isCodeTable h p.1)/\((q0I (K w.params)).map (·.1)).Nodup)
  (F:∀(w:World) (mg:Str->Option Value) (fa:Addr) (h:Heap),(K w.params).In h->h.Ns mainGlobals mg->mg d.name=some (.ref fa) ->
   ∃fd:FuncData,(∀(s:Shared) (u:Value),BindsTo s fd ⟨[u],[]⟩ [(x,u)]) /\
    ∀base:Heap,(K w.params).In base->base.Ns mainGlobals mg->FnOk l.prog w (K w.params) mg base (CX w) k fa fd [x] (sp w))
  (hsp:∀(w:World) (H:Hp) (a:Addr) (ns:List Int),ns.length<=n->Only H->SqL (K w.params) H a (ns.map V.int)->sp w [.ref a] H (λv _=>v=.bl true) λ_ _ _=>False)
  (hCX:∀(w:World) (H:Hp) (s:Shared) (e:Value) (s':Shared),CX w [] H s (λ_ _ _=>False) e s'->False) :
  PySem.W.WalkO q loose XP YP l.row.toRowW d [] (λf vs=>PySem.call f vs):=by
 refine Att.attach_call hn hdf λw s₀ s₁ mg mb fa o pm cd doc a vs ns G Y ho hd hcd hmg hobj hints hlen hg=>?_;have KX:=hY w _ Y;obtain⟨fd,hb,hF⟩:=F w mg fa _ KX G.T.g hmg;exact z0P KX G.T.g G.T.b G.T.builtins G.T.nolimit hg hobj hints (Nat.le_trans hlen hn2) hr hF hb (λH hO hS=>hsp w H a ns hlen hO hS) (htb w _ Y).1 (htb w _ Y).2 G.T.bmain λH e s'=>hCX w H s₁ e s'
end L2
namespace L2
open PySem PySem.Spec PyProof.Rows
abbrev CX0:CXT:=λ_ _ _ _ _ _=>False
abbrev E0:XK:=λ_ _ _=>False
structure Fun(K:PySem.W.Frag)(x qual:Str)(st:Stmt)(f:Addr)(fd:FuncData):Prop where
 ex:∃(oc:Value) (od:Option Addr) (kV doc pm:Value) (an:Option Addr) (cdv ct:Value) (osl:Array (Option Value)),
  fd=PySem.W.fnOf x qual (q0H st) (q0q st) (q0b st) .none kV doc pm an cdv ct/\K.lookup f=some ⟨oc,od,.func fd,osl⟩/\PySem.W.codeIn K cdv qual=true
 kp:PySem.W.keepIn K (.ref f)=true
section
variable {P:Program} {w:World} {K:PySem.W.Frag} {mg:Str->Option Value} {base:Heap}
end
section
variable {X:Cx}
theorem pv(i:Nat){x:Str}{pos:Pos}(hN:X.N[i]? = some x:=by rfl)(hv:Vis X.env.scope x:=by first | exact Or.inl rfl | exact Or.inr (Or.inl rfl) | exact Or.inr (Or.inr rfl))(hd:(x==("__debug__" : Str))=false:=by decide)
  (hcd:(x==("__classdict__" : Str))=false:=by decide):PE X (.Name x pos) (tVar i):=q2r hN hv hd hcd
end
theorem iteF{A B:Prop}(h:B):if false=true then A else B:=by
 rw[if_neg Bool.false_ne_true];exact h
theorem iteT{A B:Prop}(h:A):if true=true then A else B:=by
 rw[if_pos rfl];exact h
def Same(H H':Hp):Prop:=∀b o,H b=some o->H' b=some o
theorem Same.refl(H:Hp):Same H H:=λ_ _ h=>h
theorem Same.trans{H H1 H2:Hp}(a:Same H H1)(b:Same H1 H2):Same H H2:=λc o h=>b c o (a c o h)
theorem Same.free{H H':Hp}(e:Same H H'){l:Addr}(h:H' l=Option.none):H l=Option.none:=by
 cases q:H l with
 | none=>rfl
 | some o=>
  rw[e l o q]at h;cases h
theorem Same.seq{K:PySem.W.Frag}{H H':Hp}{a:Addr}{xs:List V}(e:Same H H')(h:SqL K H a xs):SqL K H' a xs:=by
 rcases h with(h | ⟨o,h⟩) | h
 ·exact .inl (.inl (e _ _ h))
 ·exact .inl (.inr ⟨o,e _ _ h⟩)
 ·exact .inr h
end L2
end
noncomputable section
namespace L2
open PySem PySem.Spec PyProof.Rows
def F2(o:Obj):Option Value:=match o.data with
 | .fields vs=>vs[2]?
 | _=>none
theorem F2.freed{o:Obj}{c:Value}(h:F2 o=some c):o.isFreed=false:=by
 unfold F2 at h;split at h
 ·rename_i vs e;exact Obj.isFreed_of_fields e
 ·cases h
def St2(h h':Heap):Prop:=∀a o c,h.get? a=some o->F2 o=some c->∃o',h'.get? a=some o'/\F2 o'=some c
theorem St2.refl(h:Heap):St2 h h:=λa o c e q=>⟨o,e,q⟩
theorem St2.trans{h h1 h2:Heap}(x:St2 h h1)(y:St2 h1 h2):St2 h h2:=λa o c e q=>by
 obtain⟨o1,e1,q1⟩:=x a o c e q;exact y a o1 c e1 q1
theorem St2.of_keeps{h h':Heap}(k:∀b o,h.get? b=some o->h'.get? b=some o):St2 h h':=λa o c e q=>⟨o,k a o e,q⟩
theorem St2.push(h:Heap)(o:Obj):St2 h (h.push o):=.of_keeps λb o e=>Heap.get?_push_of_some _ e
theorem St2.upd{h:Heap}{a:Addr}{f:Obj->Obj}(hf:∀o,F2 (f o)=F2 o):St2 h (h.update a f):=λb o c e q=>by
 by_cases z:a=b
 ·subst z;exact⟨f o,Heap.get?_update_self f e (F2.freed (by rw[hf];exact q)),by rw[hf];exact q⟩
 ·exact⟨o,by rw[Heap.get?_update_other _ _ z];exact e,q⟩
inductive Kp2:{α:Type} -> Sem α->Prop
 | pure {α:Type} (a:α):Kp2 (.pure a)
 | raise {α:Type} (e:Value):Kp2 (.raise e:Sem α)
 | unsupported {α:Type} (w:String):Kp2 (.unsupported w:Sem α)
 | rule {α:Type} (t:String) (k:Unit->Sem α):Kp2 (k ())->Kp2 (.rule t k)
 | at{α:Type} (p:Pos) (k:Unit->Sem α):Kp2 (k ())->Kp2 (.at p k)
 | load {α:Type} (a:Addr) (p:Option Value) (k:Obj->Sem α):(∀o,Kp2 (k o))->Kp2 (.load a p k)
 | update {α:Type} (a:Addr) (p:Option Value) (f:Obj->Obj) (k:Unit->Sem α):(∀o,F2 (f o)=F2 o)->Kp2 (k ())->Kp2 (.update a p f k)
 | alloc {α:Type} (o:Obj) (k:Addr->Sem α):(∀a,Kp2 (k a))->Kp2 (.alloc o k)
 | point {α:Type} (l:List Value) (k:Unit->Sem α):Kp2 (k ())->Kp2 (.point l k)
 | ask {α:Type} (k:Setting->Sem α):(∀a,Kp2 (k a))->Kp2 (.ask k)
 | stack {α:Type} (k:List (Code×Pos)->Sem α):(∀a,Kp2 (k a))->Kp2 (.stack k)
theorem Kp2.wp{M:Model}{Γ:PySem.Ctx}{α:Type}{m:Sem α}(k:Kp2 m):∀{Q:α->Pos->Shared->Prop} {E:Value->Pos->Shared->Prop} {p:Pos} {s:Shared},Sem.wp M Γ m Q E p s->Sem.wp M Γ m (λa p' s'=>Q a p' s'/\St2 s.heap s'.heap) (λe p' s'=>E e p' s'/\St2 s.heap s'.heap) p s:=by
 induction k with
 | pure a=>intro Q E p s h;exact⟨h,.refl _⟩
 | raise e=>intro Q E p s h;exact⟨h,.refl _⟩
 | unsupported w=>intro Q E p s h;exact h
 | rule t k _ ih=>intro Q E p s h;rw[Sem.wp]at h ⊢;exact ih h
 | «at» p' k _ ih=>intro Q E p s h;rw[Sem.wp]at h ⊢;exact ih h
 | load a p' k _ ih=>intro Q E p s h;rw[Sem.wp]at h ⊢;obtain⟨o,e,q⟩:=h;exact⟨o,e,ih o q⟩
 | update a p' f k hf _ ih=>
  intro Q E p s h;rw[Sem.wp]at h ⊢;refine⟨h.1,?_⟩;have st:St2 s.heap (s.heap.update a f):=.upd hf;have:=ih h.2;exact Sem.wp_mono M Γ _ (λa p' s' q=>⟨q.1,st.trans q.2⟩) (λe p' s' q=>⟨q.1,st.trans q.2⟩) _ _ this
 | alloc o k _ ih=>
  intro Q E p s h;rw[Sem.wp]at h ⊢;have st:St2 s.heap (s.heap.push o):=.push _ _;have:=ih _ h;exact Sem.wp_mono M Γ _ (λa p' s' q=>⟨q.1,st.trans q.2⟩) (λe p' s' q=>⟨q.1,st.trans q.2⟩) _ _ this
 | point l k _ ih=>intro Q E p s h;rw[Sem.wp]at h ⊢;exact ih h
 | ask k _ ih=>intro Q E p s h;rw[Sem.wp]at h ⊢;exact ih _ h
 | stack k _ ih=>intro Q E p s h;rw[Sem.wp]at h ⊢;exact ih _ h
theorem Kp2.any{M:Model}{A:Around}{α:Type}{m:Sem α}{Q:α->Shared->Prop}{E:Value->Shared->Prop}{s:Shared}(k:Kp2 m)(h:wpAny M A m Q E s):wpAny M A m (λa s'=>Q a s'/\St2 s.heap s'.heap) (λe s'=>E e s'/\St2 s.heap s'.heap) s:=
 λΓ p hΓ=>k.wp (h Γ p hΓ)
theorem Kp2.bind{α β:Type}{m:Sem α}{f:α->Sem β}(h:Kp2 m)(hf:∀a,Kp2 (f a)):Kp2 (m.bind f):=by
 induction h with
 | pure a=>exact hf a
 | raise e=>exact .raise e
 | unsupported w=>exact .unsupported w
 | rule t k _ ih=>exact .rule t _ ih
 | «at» p k _ ih=>exact .at p _ ih
 | load a p k _ ih=>exact .load a p _ ih
 | update a p g k hg _ ih=>exact .update a p g _ hg ih
 | alloc o k _ ih=>exact .alloc o _ ih
 | point l k _ ih=>exact .point l _ ih
 | ask k _ ih=>exact .ask _ ih
 | stack k _ ih=>exact .stack _ ih
theorem F2.fields{i:Nat}{x:Value}(hi:i≠2)(o:Obj):F2 (Obj.mapFields (·.setIfInBounds i x) o)=F2 o:=by
 obtain⟨c,d,dt,sl⟩:=o;cases dt with
 | fields vs=>
  show(vs.setIfInBounds i x)[2]? = vs[2]?;rw[Array.getElem?_setIfInBounds_ne hi]
 | _=>rfl
theorem q6N(a:Addr):Kp2 (PySem.load a):=.load a none _ λo=>.pure o
theorem q6T(v:Value):Kp2 (fieldsOf v):=by
 unfold fieldsOf;split
 ·refine .bind (q6N _) λo=>?_;split
  ·exact .pure _
  ·exact .unsupported _
 ·exact .unsupported _
theorem q3I(v:Value)(i:Nat):Kp2 (field v i):=by
 unfold field;refine .bind (q6T v) λvs=>?_
 split
 ·exact .pure _
 ·exact .unsupported _
theorem q2K(v:Value){i:Nat}(hi:i≠2)(x:Value):Kp2 (setField v i x):=by
 unfold setField;split
 ·unfold updateField;refine .bind (q6N _) λo=>?_
  split
  ·split
   ·exact .update _ _ _ _ (F2.fields hi) (.pure _)
   ·exact .unsupported _
  ·exact .unsupported _
 ·exact .unsupported _
theorem q5E(e:Value)(fr:Option Addr):Kp2 (setFlight e fr):=by
 unfold setFlight;refine .bind (q3I e 1) λtb=>?_
 split
 ·exact q2K tb (by decide) _
 ·exact .pure _
theorem q9Z(env:Env)(outer:List Env):Kp2 (behindIsImport env outer):=by
 unfold behindIsImport;split
 ·exact .pure _
 ·split
  ·exact .pure _
  ·exact .bind (q3I _ _) λ_=>.pure _
theorem q5r:Kp2 PySem.stack:=.stack _ λa=>.pure a
theorem z1L:Kp2 underTheClaimsCaller:=by
 unfold underTheClaimsCaller
 repeat (first | exact .pure _ | exact .unsupported _ | refine .bind q5r λ_=>?_ | split)
theorem z4f(env:Env)(i:Bool)(l:List Env):Kp2 (keptBack env i l):=by
 cases l with
 | nil=>
  show Kp2 (if env.scope.isGenerator||env.scope.isCoroutine then(pure Value.none:Sem Value)else do return if ←underTheClaimsCaller then Value.notImplemented else Value.none);split
  ·exact .pure _
  ·exact .bind z1L λ_=>.pure _
 | cons c r=>exact .pure _
theorem q7w:∀l:List Env,Kp2 (readyFrames l)
 | []=>.pure _
 | env::outer=>by
  unfold readyFrames;split
  ·refine .bind (q6N _) λo=>?_;split
   ·exact .pure _
   ·refine .bind (q9Z _ _) λb=>.bind (z4f _ _ _) λc=>?_;exact .update _ _ _ _ (λo=>rfl) (q7w outer)
  ·exact .unsupported _
theorem q4t(l:List Env):Kp2 (frameObject l):=by
 cases l with
 | nil=>exact .pure _
 | cons e r=>
  unfold frameObject;exact .bind (q7w _) λ_=>.pure _
theorem q7Z(env:Env):Kp2 (PySem.frameOf env):=by
 unfold PySem.frameOf frameEnvs;refine .bind (.bind q5r λ_=>.pure _) λl=>.bind (q4t _) λo=>?_
 split
 ·exact .pure _
 ·exact .unsupported _
theorem z0M(f:Addr)(b:Bool):Kp2 (entryPlaceOf f b):=by
 unfold entryPlaceOf;refine .bind q5r λa=>?_
 split<;>exact .pure _
theorem q6a(ty:String)(vs:List Value):Kp2 (newFields ty vs):=by
 unfold newFields newObj;dsimp only;split
 ·exact .unsupported _
 ·unfold newObjAsIs;exact .bind (.alloc _ _ λa=>.pure a) λ_=>.pure _
theorem q6w(a b c d e:Value)(p:List Value):Kp2 (EntryCells.newEntry a b c d e p):=q6a _ _
theorem q5w(e:Value)(env:Env):Kp2 (noteFrame e env):=by
 unfold noteFrame;split
 ·refine .bind (q3I e 1) λhead=>?_;have last:∀f:Addr,Kp2 (do setField e 1 (←EntryCells.newEntry head (←PySem.frameOf env) .none (rawInt f) .none (←entryPlaceOf f (head != .none)))):=λf=>
   .bind (q7Z env) λ_=>.bind (z0M _ _) λ_=>.bind (q6w _ _ _ _ _ _) λ_=>q2K e (by decide) _
  split
  ·refine .bind (q3I head 3) λfl=>?_;split
   ·exact .pure _
   ·exact .bind (q2K head (by decide) _) λ_=>last _
  ·exact last _
 ·exact .unsupported _
theorem q3u(env:Env)(e:Value):Kp2 (leaving env e):=by
 unfold leaving;exact .bind (q5w e env) λ_=>q5E e none
def Cx2(h:Heap):Nat->Addr->Prop
 | 0,a=>∃o,h.get? a=some o/\F2 o=some .none
 | n+1,a=>∃o,h.get? a=some o/\(F2 o=some .none\/∃b,F2 o=some (.ref b)/\Cx2 h n b)
theorem Cx2.st{h h':Heap}(x:St2 h h'):∀{n:Nat} {a:Addr},Cx2 h n a->Cx2 h' n a
 | 0,a,c=>by obtain⟨o,e,q⟩:=c;exact x a o _ e q
 | n+1,a,c=>by
  obtain⟨o,e,q⟩:=c;rcases q with q | ⟨b,q,c⟩
  ·obtain⟨o',e',q'⟩:=x a o _ e q;exact⟨o',e',.inl q'⟩
  ·obtain⟨o',e',q'⟩:=x a o _ e q;exact⟨o',e',.inr ⟨b,q',c.st x⟩⟩
def Ctxd(h:Heap)(a:Addr):Prop:=∃n,Cx2 h n a
theorem Ctxd.st{h h':Heap}{a:Addr}(c:Ctxd h a)(x:St2 h h'):Ctxd h' a:=let ⟨n,q⟩:=c;⟨n,q.st x⟩
theorem Ctxd.made{h h':Heap}{e:Addr}{C:Value}{vs:List Value}(hx:Heap.MadeExcOf h h' e C vs):Ctxd h' e:=by
 obtain⟨t,he,_⟩:=hx.there;exact⟨0,_,he,rfl⟩
end L2
end
noncomputable section
namespace L2
open PySem PySem.Spec PyProof.Rows
structure Fly(P:Program)(w:World)(base:Heap)(l:List Env)(ea:Addr)(C:Value)(H:Hp)(B h:Heap):Prop where
 fly:∃a0,Heap.FlyingW B l ea C a0 h
 bas:∀b o,base.get? b=some o->B.get? b=some o
 hok:HOk P w H B
 ctx:Ctxd h ea
theorem Fly.stays{P:Program}{w:World}{base:Heap}{l:List Env}{ea:Addr}{C:Value}{H:Hp}{B h:Heap}(F:Fly P w base l ea C H B h):∀b o,B.get? b=some o->h.get? b=some o:=by
 obtain⟨a0,f⟩:=F.fly;exact f.1
def CXx(P:Program)(w:World)(base:Heap):CXT:=λouter H s E e s'=>∃(ea:Addr) (C:Value) (H':Hp) (B:Heap),e=.ref ea/\s'.os=s.os/\AllBare s'.gens/\Un (frs outer) [] H H' s.heap s'.heap /\
 Fly P w base outer ea C H' B s'.heap/\(∀b o,s.heap.get? b=some o->b∉frs outer->∃o',B.get? b=some o')/\E C none H'
end L2
end
noncomputable section
namespace L2
open PySem PySem.Spec PyProof.Rows
def q0j(cells:List (Str×Addr)):List (Str×NameKind)->List (Str×Addr)->List (Str×Addr)
 | [],acc=>acc
 | (n,k)::r,acc=>if(k==NameKind.free)=true then q0j cells r ((n,(cells.lookup n).getD 0)::acc)else q0j cells r acc
theorem q1F{env:Env}:∀(names:List (Str×NameKind)) (acc:List (Str×Addr)),(∀y∈names,y.2=NameKind.free->∃c,env.cells.lookup y.1=some c) ->
  (forIn names acc (λ(x:Str×NameKind) (cs:List (Str×Addr))=>(match x with | (name,kind)=>if(kind==NameKind.free)=true then(do let a ←cellOf env name;pure (ForInStep.yield ((name,a)::cs)))else pure (ForInStep.yield cs):Sem (ForInStep (List (Str×Addr))))):Sem (List (Str×Addr)))=pure (q0j env.cells names acc)
 | [],acc,_=>rfl
 | (n,k)::r,acc,h=>by
  have hr:∀y∈r,y.2=NameKind.free->∃c,env.cells.lookup y.1=some c:=λy hy=>h y (List.mem_cons_of_mem _ hy);rw[List.forIn_cons];by_cases hk:(k==NameKind.free)=true
  ·obtain⟨c,hc⟩:=h (n,k) List.mem_cons_self (beq_iff_eq.mp hk);have e1:cellOf env n=pure c:=by unfold cellOf;rw[hc]
   have e2:q0j env.cells ((n,k)::r) acc=q0j env.cells r ((n,c)::acc):=(by show(if(k==NameKind.free)=true then q0j env.cells r ((n,(env.cells.lookup n).getD 0)::acc)else q0j env.cells r acc)=_;rw[if_pos hk,hc];rfl);rw[e2,←q1F r ((n,c)::acc) hr];simp only[hk,if_true,e1];rfl
  ·have e2:q0j env.cells ((n,k)::r) acc=q0j env.cells r acc:=by
    show(if(k==NameKind.free)=true then q0j env.cells r ((n,(env.cells.lookup n).getD 0)::acc)else q0j env.cells r acc)=_;rw[if_neg hk]
   rw[e2,←q1F r acc hr];simp only[hk,if_false];rfl
theorem q2q{scope:Scope}{env:Env}(h:∀y∈scope.names,y.2=NameKind.free->∃c,env.cells.lookup y.1=some c):closureFor scope env=pure (q0j env.cells scope.names []):=by
 have q:=q1F (env:=env) scope.names [] h;unfold closureFor
 first
  | exact(congrArg (λt=>(t >>= λcs=>pure cs)) q).trans rfl
  | (simp only[q];rfl)
theorem q2b{cells:List (Str×Addr)}:∀{names:List (Str×NameKind)} {acc:List (Str×Addr)} {x:Str} {c:Addr},(∀y∈names,y.2=NameKind.free->∃c,cells.lookup y.1=some c) ->
  (x,c)∈q0j cells names acc->(x,c)∈acc\/(cells.lookup x=some c/\(x,NameKind.free)∈names)
 | [],acc,x,c,_,h=>.inl h
 | (n,k)::r,acc,x,c,hh,h=>by
  have hr:∀y∈r,y.2=NameKind.free->∃c,cells.lookup y.1=some c:=λy hy=>hh y (List.mem_cons_of_mem _ hy);unfold q0j at h;by_cases hk:(k==NameKind.free)=true
  ·rw[if_pos hk]at h;obtain⟨c',hc⟩:=hh (n,k) List.mem_cons_self (beq_iff_eq.mp hk);rcases q2b hr h with z | ⟨z1,z2⟩
   ·rcases List.mem_cons.mp z with z | z
    ·cases z;exact .inr ⟨by rw[hc];rfl,by rw[←beq_iff_eq.mp hk];exact List.mem_cons_self⟩
    ·exact .inl z
   ·exact .inr ⟨z1,List.mem_cons_of_mem _ z2⟩
  ·rw[if_neg hk]at h;rcases q2b hr h with z | ⟨z1,z2⟩
   ·exact .inl z
   ·exact .inr ⟨z1,List.mem_cons_of_mem _ z2⟩
theorem q1V{cells:List (Str×Addr)}:∀{names:List (Str×NameKind)} {acc:List (Str×Addr)} {y:Str×Addr},y∈acc->y∈q0j cells names acc
 | [],_,_,h=>h
 | (n,k)::r,acc,y,h=>by
  unfold q0j;split
  ·exact q1V (List.mem_cons_of_mem _ h)
  ·exact q1V h
theorem q2d{cells:List (Str×Addr)}:∀{names:List (Str×NameKind)} {acc:List (Str×Addr)} {x:Str} {c:Addr},(x,NameKind.free)∈names->cells.lookup x=some c->(x,c)∈q0j cells names acc
 | (n,k)::r,acc,x,c,h,hc=>by
  unfold q0j;rcases List.mem_cons.mp h with z | z
  ·cases z;rw[if_pos (show(NameKind.free==NameKind.free)=true from rfl),hc];exact q1V List.mem_cons_self
  ·split
   ·exact q2d z hc
   ·exact q2d z hc
theorem q1c:∀(names:List (Str×NameKind)) (n:Nat) (acc:List (Str×Addr)),cellsFrom n names acc=cellsFrom n names []++acc
 | [],_,_=>rfl
 | (x,k)::r,n,acc=>by
  unfold cellsFrom;split
  ·rw[q1c r (n+1) ((x,n)::acc),q1c r (n+1) [(x,n)],List.append_assoc];rfl
  ·exact q1c r n acc
theorem q2c:∀{names:List (Str×NameKind)} {n:Nat} {x:Str} {c:Addr},(x,c)∈cellsFrom n names []->(x,NameKind.cell)∈names
 | [],_,_,_,h=>nomatch h
 | (y,k)::r,n,x,c,h=>by
  unfold cellsFrom at h;by_cases hk:(k==NameKind.cell)=true
  ·rw[if_pos hk,q1c]at h;rcases List.mem_append.mp h with z | z
   ·exact List.mem_cons_of_mem _ (q2c z)
   ·have z':(x,c)=(y,n):=by simpa using z
    cases z';rw[beq_iff_eq.mp hk];exact List.mem_cons_self
  ·rw[if_neg hk]at h;exact List.mem_cons_of_mem _ (q2c h)
theorem q1Q{α:Type}{x:Str}:∀{l r:List (Str×α)},(l++r).lookup x=(l.lookup x).or (r.lookup x)
 | [],r=>by simp
 | (y,v)::l,r=>by
  rw[List.cons_append,List.lookup_cons,List.lookup_cons];cases hb:x==y with
  | true=>rfl
  | false=>exact q1Q
theorem q2G{α:Type}{x:Str}:∀{l:List (Str×α)},(∀c,(x,c)∉l)->l.lookup x=none
 | [],_=>rfl
 | (y,v)::l,h=>by
  rw[List.lookup_cons];cases hb:x==y with
  | true=>exact absurd (by rw[beq_iff_eq.mp hb];exact List.mem_cons_self) (h v)
  | false=>exact q2G λc hc=>h c (List.mem_cons_of_mem _ hc)
theorem q2I{α:Type}{x:Str}:∀{l:List (Str×α)} {c:α},(x,c)∈l->∃c',l.lookup x=some c'
 | (y,v)::l,c,h=>by
  rw[List.lookup_cons];cases hb:x==y with
  | true=>exact⟨v,rfl⟩
  | false=>
   rcases List.mem_cons.mp h with z | z
   ·cases z;rw[beq_self_eq_true]at hb;cases hb
   ·exact q2I z
theorem q0F{α:Type}{x:Str}:∀{l:List (Str×α)} {c:α},(l.map (·.1)).Nodup->(x,c)∈l->l.lookup x=some c
 | (y,v)::l,c,nd,h=>by
  rw[List.lookup_cons];rw[List.map_cons]at nd;have nd':=List.nodup_cons.mp nd;rcases List.mem_cons.mp h with z | z
  ·cases z;rw[beq_self_eq_true]
  ·have:x≠y:=λe=>nd'.1 (by rw[←e];exact List.mem_map.mpr ⟨_,z,rfl⟩);rw[beq_eq_false_iff_ne.mpr this];exact q0F nd'.2 z
theorem q1I{scope:Scope}{env:Env}{x:Str}:(relabel scope env).names.lookup x=(scope.names.lookup x).map λk=>if(k==NameKind.free&&env.scope.kind == .function&&env.kindOf x==some .cell)=true then NameKind.cell else k:=by
 unfold relabel;show(scope.names.map _).lookup x=_;generalize scope.names=l
 induction l with
 | nil=>rfl
 | cons y r ih=>
  obtain⟨n,k⟩:=y;rw[List.map_cons];show List.lookup x ((if(k==NameKind.free&&env.scope.kind == .function&&env.kindOf n==some .cell)=true then(n,NameKind.cell)else(n,k))::_)=_;have e:(if(k==NameKind.free&&env.scope.kind == .function&&env.kindOf n==some .cell)=true then(n,NameKind.cell)else(n,k))=(n,if(k==NameKind.free&&env.scope.kind == .function&&env.kindOf n==some .cell)=true then NameKind.cell else k):=by split<;>rfl
  rw[e,List.lookup_cons,List.lookup_cons];cases hb:x==n with
  | true=>rw[beq_iff_eq.mp hb];rfl
  | false=>exact ih
theorem q6A{M:Model}{A:Around}{E:Value->Shared->Prop}{s:Shared}{scope:Scope}{g:Addr}{cl:List (Str×Addr)}{q:Str}{env:Env}{Q:Env->Shared->Prop}
  (hQ:Q (newEnv scope s.heap.objs.size g (cellsFrom (s.heap.objs.size+1) scope.names cl) q none .none (some env) builtinsNs) {s with heap:=pushCells (s.heap.push {cls:=.type "dict",data:=.dict #[]}) scope.names}) :
  wpAny M A (newFunctionEnv scope g cl [] q none .none (some env)) Q E s:=by
 simp only[newFunctionEnv,Option.isSome_some,if_true];refine wpAny_bind (wpAny_alloc ?_);refine wpAny_bind (wpAny_layCells _ (λname kind cells=>by cases hkc:kind==NameKind.cell<;>simp[hkc]) _ _ _ _ ?_);rw[show({s with heap:=s.heap.push {cls:=.type "dict",data:=.dict #[]}}:Shared).heap.objs.size=s.heap.objs.size+1 from Heap.size_push ..];exact wpAny_bind (wpAny_pure (wpAny_pure hQ))
theorem q5H{prog:Program}{w:World}{A:Around}{R:Result->Shared->Prop}{s:Shared}{elt target iter:Expr}{ifs:List Expr}{scope:Scope}{pos:Pos}{it acc:Value}{env:Env}(I:Nat->Shared->Prop)
  (turn:∀n s,I n s->wpAny (model prog w) A (pyNext it) (λr s₁=>match r with
   | none=>R (.ok .next) s₁
   | some v=>wpAny (model prog w) A (letOwnedTupleGo target it v) (λ_ s₁'=>wpAny (model prog w) A (assign target env v) (λ_ s₂=>
     wpAny (model prog w) A (forIn ifs true λc r=>if r=true then do let ok ←isTrue c env (eval c env);pure (ForInStep.yield ok)else pure (ForInStep.yield r)) (λok s₃=>
      if ok=true then wpAny (model prog w) A (eval elt env) (λx s₄=>
       wpAny (model prog w) A (call (.builtin "list.append") [acc,x]) (λ_ s₅=>∃m,m<n/\I m s₅) (notedBy (model prog w) A env λe s'=>R (.error e) s') s₄) (notedBy (model prog w) A env λe s'=>R (.error e) s') s₃
      else ∃m,m<n/\I m s₃) (notedBy (model prog w) A env λe s'=>R (.error e) s') s₂) (notedBy (model prog w) A env λe s'=>R (.error e) s') s₁') (notedBy (model prog w) A env λe s'=>R (.error e) s') s₁) (notedBy (model prog w) A env λe s'=>R (.error e) s') s)
  (n:Nat) (h:I n s) :
  codeAny (model prog w) A (.compLoop (.ListComp elt [⟨target,iter,ifs,0⟩] scope pos) 0 it acc env) R s:=by
 refine codeAny_loop rfl I (λn s hI=>?_) n h;show wpAny _ A ((compTurn (.ListComp elt [⟨target,iter,ifs,0⟩] scope pos) 0 it acc env).onRaise (λx=>do noteFrame x env;theTreesLotGoes x)) _ _ s;refine wpAny_noted ?_;rw[compTurn_list];refine wpAny_bind (wpAny_standAt (wpAny_bind (wpAny_mono (turn n s hI) (λr s₁ h₁=>?_) λ_ _ h'=>h')));cases r with
 | none=>exact wpAny_pure h₁
 | some v=>
  refine wpAny_bind (wpAny_mono h₁ (λ_ s₁' h₁'=>?_) λ_ _ h'=>h');refine wpAny_bind (wpAny_mono h₁' (λ_ s₂ h₂=>wpAny_bind (wpAny_mono h₂ (λok s₃ h₃=>?_) λ_ _ h'=>h')) λ_ _ h'=>h');cases ok with
  | false=>exact wpAny_pure ⟨rfl,h₃⟩
  | true=>
   exact wpAny_bind (wpAny_bind (wpAny_mono h₃ (λx s₄ h₄=>wpAny_bind (wpAny_mono h₄ (λ_ s₅ h₅=>wpAny_pure (wpAny_pure ⟨rfl,h₅⟩)) λ_ _ h'=>h')) λ_ _ h'=>h'))
theorem HOk.track{P:Program}{w:World}{H:Hp}{h:Heap}{a:Addr}{o:HO}(x:HOk P w H h)(hn:H a=none)(new:q1f P w (upd H a o) h a o):HOk P w (upd H a o) h:=λb u e=>by
 by_cases hb:b=a
 ·subst hb;rw[q0n]at e;cases e;exact new
 ·rw[q0f hb]at e;exact(x b u e).stay (λc v _ q=>q) (λc q=>by rw[q0f (q0p q hn)];exact q) (λc xs q=>by rw[q0f (q0p q hn)];exact q) λc _ _ _ _ q=>by rw[q0f (q0p q hn)];exact q
theorem Un.track{fs ex:List Addr}{H H':Hp}{h h':Heap}{a:Addr}{o:HO}(u:Un fs ex H H' h h')(hn:H' a=none)(hh:h.get? a=none):Un fs ex H (upd H' a o) h h' where
 keep:=u.keep
 slot:=u.slot
 free:=λb ob q n hx=>by
  have:b≠a:=λz=>by rw[z,hh]at q;cases q
  rw[q0f this];exact u.free b ob q n hx
 there:=u.there
 tups:=λb xs q=>by have z:=u.tups b xs q;rw[q0f (q0p z hn)];exact z
 frzs:=λb ob xs q=>by have z:=u.frzs b ob xs q;rw[q0f (q0p z hn)];exact z
 tbls:=λb ps q=>by have z:=u.tbls b ps q;rw[q0f (q0p z hn)];exact z
structure CompScope(N N':List Str)(sc osc:Scope)(fr:List (Option Nat)):Prop where
 kind:sc.kind=.function
 nd:N'.Nodup
 snd:(sc.names.map (·.1)).Nodup
 len:fr.length=N'.length
 fre:∀(j i:Nat),fr[j]? = some (some i)->∃x,N'[j]? = some x/\N[i]? = some x/\(x,NameKind.free)∈sc.names
 out:∀y∈sc.names,y.2=NameKind.free->osc.names.lookup y.1=some .cell\/osc.names.lookup y.1=some .free
def inner(fr:List (Option Nat))(σ:St):St:=fr.map λo=>o.bind λi=>(σ[i]?).join
def q9B(X:Cx)(scope:Scope)(N':List Str)(C:Addr)(cells:List (Str×Addr))(s₂:Shared)(H₂:Hp)(fp:List Addr):Cx:=
 {X with N:=N',s₀:=s₂,H₀:=H₂,env:=compEnvC scope cells C X.env,outer:=X.stack,stack:=X.stack,ex:=fp,fn:=λx=>scope.names.lookup x==some .cell,pn:=[],xe:=λ_ _=>False}
def q0r (X : Cx) (scope : Scope) (N' : List Str) (C : Addr) (cells : List (Str × Addr)) (s₂ : Shared) (H₂ : Hp) (fp : List Addr) (x1 : XK) : Cx :=
  { X with N := N', s₀ := s₂, H₀ := H₂, env := compEnvC scope cells C X.env, outer := X.stack, stack := X.stack, ex := fp, fn := λ x => scope.names.lookup x == some .cell, pn := [],
           xe := λ e s' => ∃ pins σ H s, Inv (q9B X scope N' C cells s₂ H₂ fp) pins σ H s /\ CXx X.prog X.w X.base X.stack H s x1 e s' }
theorem Inv.comp0{X:Cx}{scope:Scope}{N':List Str}{C:Addr}{cells:List (Str×Addr)}{s₂:Shared}{H₂:Hp}{fp:List Addr}{x1:XK}{pins:List (Addr×Obj)}{σ:St}{H:Hp}{s:Shared}(I:Inv (q0r X scope N' C cells s₂ H₂ fp x1) pins σ H s):Inv (q9B X scope N' C cells s₂ H₂ fp) pins σ H s:=
 ⟨⟨I.ok.mod,I.ok.kind,I.ok.glob,I.ok.blt,I.ok.above,I.ok.inj,I.ok.has,I.ok.cab,I.ok.hd,I.ok.frames,I.ok.stk,I.ok.exf,I.ok.bs,I.ok.bsz,I.ok.noex,I.ok.exfs,I.ok.funs,I.ok.frf⟩,I.os,I.bare,I.base,I.loc,I.cell,I.free,I.freeC,I.pin,I.hok,I.len⟩
abbrev q5b:String:="comprehension.variables-let-go"
def z1l(X:Cx)(E:St->XK):Prop:=∀(scope:Scope) (N':List Str) (cells:List (Str×Addr)) (C:Nat) (pins:List (Addr×Obj)) (σ:St) (H:Hp) (s₂:Shared) (fp:List Addr) (e:Value) (s':Shared),
 Inv X pins σ H s₂->(∀b∈fp,FpOk X pins H b)->C=s₂.heap.objs.size+1->(q0r X scope N' C cells s₂ H fp (E σ)).xe e s' ->
 notedBy (model X.prog X.w) X.A (compEnvC scope cells C X.env) (λe s'=>∃m,s'.heap.Ns C m/\∀h',Heap.SameBut C s'.heap h'->∀cenv:Env,cenv.locals=C->cenv.frame=X.env.frame->wpAny (model X.prog X.w) X.A (passOn q5b e cenv:Sem Value) (λ_ _=>False) X.xe {s' with heap:=h'}) e s'
theorem q3M{X:Cx}:z1l X λ_ _ _ _=>False:=by
 intro scope N' cells C pins σ H s₂ fp e s' I f hC z;obtain⟨_,_,_,_,_,_,_,_,_,_,_,_,_,_,_,q⟩:=z;exact q.elim
section
variable {X:Cx} {pins:List (Addr×Obj)} {σ:St} {H:Hp} {s₂:Shared} {N':List Str} {scope:Scope} {fr:List (Option Nat)} {fp:List Addr} {x1:XK}
abbrev q1A:Obj:={cls:=.type "list",dict:=none,data:=.seq ([]:List Value).toArray}
abbrev q6c:Obj:={cls:=.type "dict",data:=.dict #[]}
theorem z0S(S:CompScope X.N N' scope X.env.scope fr)(I:Inv X pins σ H s₂)(f:∀b∈fp,FpOk X pins H b)(ho:∀b∈fp,@LT.lt Nat _ b s₂.heap.objs.size){C:Nat}(hC:C=s₂.heap.objs.size+1){h4:Heap}(h4e:h4=pushCells ((s₂.heap.push q1A).push q6c) scope.names) :
  Inv (q0r X scope N' C (cellsFrom (C+1) scope.names (q0j X.env.cells scope.names [])) s₂ H fp x1) [] (inner fr σ) H {s₂ with heap:=h4} /\ h4.get? s₂.heap.objs.size=some q1A/\(∀b o,s₂.heap.get? b=some o->h4.get? b=some o):=by
 have hsz1:(s₂.heap.push q1A).objs.size=s₂.heap.objs.size+1:=Heap.size_push ..;have hsz2:((s₂.heap.push q1A).push q6c).objs.size=C+1:=by rw[Heap.size_push,hsz1,hC]
 have keep:∀b o,s₂.heap.get? b=some o->h4.get? b=some o:=λb o e=>by rw[h4e];exact pushCells_keeps _ _ b o (Heap.get?_push_of_some _ (Heap.get?_push_of_some _ e))
 have hD:h4.get? s₂.heap.objs.size=some q1A:=by rw[h4e];exact pushCells_keeps _ _ _ _ (Heap.get?_push_of_some _ (Heap.get?_push_size _ rfl))
 have hns:h4.Ns C λ_=>none:=by have q:=(Heap.Ns.new (s₂.heap.push q1A) (.type "dict")).keeps (pushCells_keeps scope.names _);rw[hsz1,←hC]at q;rw[h4e];exact q
 have ok:=cellsFrom_ok scope.names ((s₂.heap.push q1A).push q6c) (C+1) [] ⟨λ_ _ hm=>(nomatch hm),List.Pairwise.nil⟩ (by rw[hsz2];exact Nat.le_refl _);rw[hsz2,←h4e]at ok;have hfree:∀y∈scope.names,y.2=NameKind.free->∃c,X.env.cells.lookup y.1=some c:=λy hy hk=>I.ok.has y.1 (S.out y hy hk);generalize hcl:q0j X.env.cells scope.names []=cl;have memcl:∀{x:Str} {c:Addr},(x,c)∈cl->X.env.cells.lookup x=some c/\(x,NameKind.free)∈scope.names:=λ{x c} hm=>by
  rw[←hcl]at hm;rcases q2b hfree hm with z | z
  ·exact nomatch z
  ·exact z
 generalize hown:cellsFrom (C+1) scope.names []=own at ok;have app:cellsFrom (C+1) scope.names cl=own++cl:=by rw[q1c,hown]
 rw[app];have memown:∀{x:Str} {c:Addr},(x,c)∈own->(x,NameKind.cell)∈scope.names:=λ{x c} hm=>by rw[←hown]at hm;exact q2c hm
 have L1:∀x c,(own++cl).lookup x=some c->((x,c)∈own)\/(X.env.cells.lookup x=some c/\(x,NameKind.free)∈scope.names/\own.lookup x=none):=λx c e=>by
  rw[q1Q]at e;cases q:own.lookup x with
  | some c'=>rw[q]at e;cases e;exact .inl (PySem.mem_of_lookup q)
  | none=>rw[q]at e;have z:=memcl (PySem.mem_of_lookup (show cl.lookup x=some c from e));exact .inr ⟨z.1,z.2,rfl⟩
 have own_ge:∀{x:Str} {c:Nat},(x,c)∈own->@LE.le Nat _ (C+1) c:=λ{x c} hm=>(ok.empty x c hm).2;have cell_lt:∀{x:Str} {c:Nat},X.env.cells.lookup x=some c->@LT.lt Nat _ c s₂.heap.objs.size:=λ{x c} e=>by obtain⟨v,z⟩:=I.cell x c e;exact z.lt
 have free_no:∀{x:Str},(x,NameKind.free)∈scope.names->own.lookup x=none:=λ{x} hm=>by refine q2G λc hc=>?_;have a:=q0F S.snd hm;have b:=q0F S.snd (memown hc);rw[a]at b;cases b
 have cl_get:∀{x:Str} {c:Addr},(x,NameKind.free)∈scope.names->X.env.cells.lookup x=some c->(own++cl).lookup x=some c:=λ{x c} hm hc=>by rw[q1Q,free_no hm];obtain⟨c',e⟩:=q2I (l:=cl) (by rw[←hcl];exact q2d hm hc);have z:=(memcl (PySem.mem_of_lookup e)).1;rw[hc]at z;cases z;exact e
 have hX:(q0r X scope N' C (own++cl) s₂ H fp x1).Ok:=by
  refine⟨I.ok.mod,S.kind,I.ok.glob,I.ok.blt,?_,λx y c h1 h2=>?_,λx hx=>?_,λx c hf hc=>?_,I.ok.hd,I.ok.frames,.inl rfl,λb hb=>⟨?_,λx c e=>?_⟩,I.bs,Nat.le_trans I.ok.bsz I.sz,λb o e hb=>?_,λb hb hs=>?_,I.stack,⟨I.stkFree,I.tabs⟩⟩
  ·show s₂.heap.objs.size<=C;rw[hC];exact Nat.le_succ _
  ·have h1:(own++cl).lookup x=some c:=h1;have h2:(own++cl).lookup y=some c:=h2;rcases L1 x c h1 with a | ⟨a,_⟩<;>rcases L1 y c h2 with b | ⟨b,_⟩
   ·exact name_of_addr ok.apart a b
   ·exfalso;have q1:=own_ge a;have q2:=cell_lt b;omega
   ·exfalso;have q1:=own_ge b;have q2:=cell_lt a;omega
   ·exact I.ok.inj x y c a b
  ·have hx':(relabel scope X.env).names.lookup x=some .cell\/(relabel scope X.env).names.lookup x=some .free:=hx;show ∃c,(own++cl).lookup x=some c;rw[q1I]at hx';cases q:scope.names.lookup x with
   | none=>rw[q]at hx';rcases hx' with z | z<;>cases z
   | some k=>
    have km:=PySem.mem_of_lookup q;by_cases k1:k=.cell
    ·subst k1;have z:=PySem.W.cellsFrom_some scope.names (C+1) [] (.inl q);rw[hown]at z;obtain⟨c,z⟩:=Option.isSome_iff_exists.mp z;exact⟨c,by rw[q1Q,z];rfl⟩
    ·by_cases k2:k=.free
     ·subst k2;obtain⟨c,e⟩:=hfree _ km rfl;exact⟨c,cl_get km e⟩
     ·exfalso;rw[q]at hx';have e0:(k==NameKind.free)=false:=beq_eq_false_iff_ne.mpr k2;simp only[Option.map_some,e0,Bool.false_and]at hx';rcases hx' with z | z
      ·exact k1 (by simpa using z)
      ·exact k2 (by simpa using z)
  ·have hf':(scope.names.lookup x==some .cell)=true:=hf;have q:scope.names.lookup x=some .cell:=by simpa using hf'
   have z:=PySem.W.cellsFrom_some scope.names (C+1) [] (.inl q);rw[hown]at z;obtain⟨c',z⟩:=Option.isSome_iff_exists.mp z;have hc':(own++cl).lookup x=some c:=hc;rw[q1Q,z]at hc';have e:c'=c:=Option.some.inj hc';subst e;have:=own_ge (PySem.mem_of_lookup z);show @LE.le Nat _ s₂.heap.objs.size c';omega
  ·have:=ho b hb;show @Ne Nat b C;omega
  ·rcases L1 x c e with a | ⟨a,_⟩
   ·have:=own_ge a;have:=ho b hb;show @Ne Nat c b;omega
   ·exact(f b hb).2.2.2.2.1 x c a
  ·rcases(f b hb).2.2.2.1 with z | z
   ·exact I.ok.noex b o e z
   ·exact absurd (Nat.lt_of_lt_of_le (Heap.lt_size e) (Nat.le_trans I.ok.bsz z)) (Nat.lt_irrefl _)
  ·rcases List.mem_cons.mp (I.stkSub b hs)with z | z
   ·exact(f b hb).2.1 z
   ·exact(f b hb).2.2.1 z
 refine⟨⟨hX,rfl,I.bare,Un.kept keep,⟨_,hns,λi x v e1 e2 e3=>?_⟩,λx c e=>?_,I.hok.fresh (by show @LE.le Nat _ s₂.heap.objs.size C;omega),λx c e=>?_,λp hp=>absurd (show p∈([]:List (Addr×Obj))from hp) (by simp),I.hok.kept keep,?_⟩,hD,keep⟩
 ·have e1:N'[i]? = some x:=e1;unfold inner at e2;rw[List.getElem?_map]at e2;cases q:fr[i]? with
  | none=>rw[q]at e2;cases e2
  | some o=>
   rw[q]at e2;cases o with
   | none=>cases e2
   | some j=>
    have e2':(σ[j]?).join=some v:=Option.some.inj e2;have hv:σ[j]? = some (some v):=by
     cases z:σ[j]? with
     | none=>rw[z]at e2';cases e2'
     | some o=>rw[z]at e2';rw[show o=some v from e2']
    obtain⟨x',a1,a2,a3⟩:=S.fre i j q;rw[e1]at a1;cases a1;obtain⟨m,hn,hl⟩:=I.loc;have ko:=S.out _ a3 rfl;obtain⟨u,r,l⟩:=hl j x v a2 hv (ko.elim (λz=>.inr (.inl z)) λz=>.inr (.inr z));rcases l with⟨k,_⟩ | ⟨k,c,e,z⟩
    ·have k':X.env.scope.names.lookup x=some .local:=k;rcases ko with w | w<;>(rw[show X.env.scope.names.lookup x=_ from w]at k';cases k')
    ·refine⟨u,r,.inr ⟨?_,c,cl_get a3 e,z.keeps keep⟩⟩;show(relabel scope X.env).names.lookup x=some .cell\/(relabel scope X.env).names.lookup x=some .free;rw[q1I,q0F S.snd a3];simp only[Option.map_some];split
     ·exact .inl rfl
     ·exact .inr rfl
 ·rcases L1 x c e with a | ⟨a,_⟩
  ·exact⟨none,(ok.empty x c a).1⟩
  ·obtain⟨v,z⟩:=I.cell x c a;exact⟨v,z.keeps keep⟩
 ·rcases L1 x c e with a | ⟨a,_⟩
  ·exact I.hok.fresh (by have:=own_ge a;show @LE.le Nat _ s₂.heap.objs.size c;omega)
  ·exact I.freeC x c a
 ·show(inner fr σ).length=N'.length;unfold inner;rw[List.length_map,S.len]
end
def PTs(X:Cx)(ifs:List Expr)(t:TT):Prop:=
 ∀(pins:List (Addr×Obj)) (s:Shared) (σ:St) (H:Hp) (Q:Bool->Hp->Prop),Inv X pins σ H s->t σ H Q ->
  wpAny (model X.prog X.w) X.A (forIn ifs true λc r=>if r=true then do let ok ←isTrue c X.env (eval c X.env);pure (ForInStep.yield ok)else pure (ForInStep.yield r)) (TP X pins σ Q) X.xe s
def tYes:TT:=λ_ H Q=>Q true H
theorem z3Y{X:Cx}:PTs X [] tYes:=λ_ _ _ H _ I h=>wpAny_tests_nil ⟨H,I,h⟩
theorem z3M{X:Cx}{c:Expr}{t:TT}(h:PT X c t):PTs X [c] t:=λpins s σ H Q I hq=>wpAny_tests_one (h pins s σ H Q I hq)
def z4r(J:It)(g:TG)(tc:TT)(te:TE)(Fin:List V->Hp->Prop)(σ:St)(H:Hp):Prop:=
 ∃W:Nat->Nat->List V->St->Hp->Prop,(∃m,W 0 m [] σ H)/\∀i m ys σ H,W i m ys σ H ->
  (J.stop i H/\Fin ys H)\/(J.go i H/\ys.length<sizeLine/\∀x H',J.yld i H x H'->g x σ H' λσ2 H2=>tc σ2 H2 λb H3=>
   if b=true then te σ2 H3 λy H4=>∃m',m'<m/\W (i+1) m' (ys++[y]) σ2 H4 else ∃m',m'<m/\W (i+1) m' ys σ2 H3)
theorem Vals.snoc{xs:List V}{us:List Value}{x:V}{u:Value}(r:Vals xs us)(q:RelV x u):Vals (xs++[x]) (us++[u]):=r.append (.cons q .nil)
theorem q6W{X:Cx}{pins:List (Addr×Obj)}{σ:St}{H:Hp}{s₂:Shared}{N':List Str}{scope:Scope}{fr:List (Option Nat)}{fp:List Addr}{iter elt tg:Expr}{ifs:List Expr}{pos:Pos}{g:TG}{te:TE}{tc:TT}{it:Addr}{tn:Nat->Heap->Prop}{J:It}
  {E:Value->Shared->Prop} {Fin:List V->Hp->Prop} {RR:Value->Env->Result->Shared->Prop} {x1:XK}
  (S:CompScope X.N N' scope X.env.scope fr) (hc:X.calm=true)
  (hg:∀C cells s₂ H₂ fp,PG (q0r X scope N' C cells s₂ H₂ fp x1) tg g) (ht:∀C cells s₂ H₂ fp,PTs (q0r X scope N' C cells s₂ H₂ fp x1) ifs tc) (he:∀C cells s₂ H₂ fp,PE (q0r X scope N' C cells s₂ H₂ fp x1) elt te)
  (I:Inv X pins σ H s₂) (T:Turn X.prog X.w X.K tg J fp it tn) (st:tn 0 s₂.heap) (f:∀b∈fp,FpOk X pins H b) (h:z4r J g tc te Fin (inner fr σ) H)
  (hX:∀cells (C:Nat) e s',C=s₂.heap.objs.size+1->(q0r X scope N' C cells s₂ H fp x1).xe e s'->notedBy (model X.prog X.w) X.A (compEnvC scope cells C X.env) (λe s'=>RR (.ref s₂.heap.objs.size) (compEnvC scope cells C X.env) (.error e) s') e s')
  (hRR:∀D C cells H' s' m ys,Inv X pins σ (upd H' D (.lst ys)) s'->H' D=none->s'.heap.Ns C m->upd H' D (.lst ys) C=none->C≠X.env.locals->X.s₀.heap.objs.size<=C->(∀x c,X.env.cells.lookup x=some c->c≠C)->(∀p∈X.pn++pins,p.1≠C)->Fin ys H'->RR (.ref D) (compEnvC scope cells C X.env) (.ok .next) s') :
  wpAny (model X.prog X.w) X.A (newList []) (λacc s₃=>wpAny (model X.prog X.w) X.A (newFunctionEnv scope X.env.globals (q0j X.env.cells scope.names []) [] X.env.qual none .none (some X.env)) (λcenv s₄=>
   codeAny (model X.prog X.w) X.A (.compStart (.ListComp elt [⟨tg,iter,ifs,0⟩] scope pos) 0 (.ref it) acc {cenv with scope:=relabel scope X.env}) (RR acc {cenv with scope:=relabel scope X.env}) s₄) E s₃) E s₂:=by
 have ho:∀b∈fp,b<s₂.heap.objs.size:=λb hb=>by obtain⟨o,e,_⟩:=T.obj _ _ st b hb;exact Heap.lt_size e
 refine wpAny_newObj_type (q6A ?_);have hsz1:(s₂.heap.push q1A).objs.size=s₂.heap.objs.size+1:=Heap.size_push ..;obtain⟨I4,hD4,keep⟩:=z0S (x1:=x1) (C:=s₂.heap.objs.size+1) S I f ho rfl rfl;show codeAny _ _ (.compStart _ 0 (.ref it) (.ref s₂.heap.objs.size) (compEnvC scope (cellsFrom ((s₂.heap.push q1A).objs.size+1) scope.names (q0j X.env.cells scope.names [])) (s₂.heap.push q1A).objs.size X.env)) (RR (.ref s₂.heap.objs.size) (compEnvC scope (cellsFrom ((s₂.heap.push q1A).objs.size+1) scope.names (q0j X.env.cells scope.names [])) (s₂.heap.push q1A).objs.size X.env)) {s₂ with heap:=pushCells ((s₂.heap.push q1A).push q6c) scope.names};rw[hsz1];have hX':=λcells e s'=>hX cells _ e s' rfl
 clear hX
 generalize hDe:s₂.heap.objs.size=D at *;generalize cellsFrom (D+1+1) scope.names (q0j X.env.cells scope.names [])=cells at *;generalize pushCells ((s₂.heap.push q1A).push q6c) scope.names=h4 at *;have hfp:∀{pins':List (Addr×Obj)} {H':Hp},(∀b∈fp,H' b=none)->(∀p∈pins',p.1=D)->∀b∈fp,FpOk (q0r X scope N' (D+1) cells s₂ H fp x1) pins' H' b:=λ{pins' H'} hn hp b hb=>
  ⟨hn b hb,(I4.ok.exf b hb).1,I4.ok.exfs b hb,.inl hb,(I4.ok.exf b hb).2,λp hp' z=>by
   have hp':p∈([]:List (Addr×Obj))++pins':=hp';rw[List.nil_append]at hp';have:=ho b hb;rw[←z,hp p hp']at this;exact Nat.lt_irrefl _ this⟩
 obtain⟨W,⟨m0,w0⟩,turn⟩:=h;have hDC:D≠(q0r X scope N' (D+1) cells s₂ H fp x1).env.locals:=by show D≠D+1;omega
 have hDcell:∀x c,(q0r X scope N' (D+1) cells s₂ H fp x1).env.cells.lookup x=some c->c≠D:=λx c e z=>by
  obtain⟨v,o,hoc,hd⟩:=I4.cell x c e;have q:h4.get? D=some o:=by rw[←z];exact hoc
  rw[hD4]at q;cases q;cases hd
 have hDfs:D∉(q0r X scope N' (D+1) cells s₂ H fp x1).fs:=λz=>by
  obtain⟨_,o,ho',_⟩:=I4.ok.funs.mem z
  have:=Heap.lt_size ho';have e:s₂.heap.objs.size=D:=hDe;exact absurd this (by show ¬D<s₂.heap.objs.size;omega)
 have loop:codeAny (model X.prog X.w) X.A (.compLoop (.ListComp elt [⟨tg,iter,ifs,0⟩] scope pos) 0 (.ref it) (.ref D) (compEnvC scope cells (D+1) X.env)) (RR (.ref D) (compEnvC scope cells (D+1) X.env)) {s₂ with heap:=h4}:=by
  refine q5H (λn s'=>∃i ys its k σ' H',Inv (q0r X scope N' (D+1) cells s₂ H fp x1) [] σ' H' s'/\tn i s'.heap/\(∀b∈fp,H' b=none)/\H' D=none /\
   s'.heap.get? D=some {cls:=.type "list",data:=.seq (its:List Value).toArray k} /\ Vals ys its/\ys.length<=sizeLine/\W i n ys σ' H') ?_ m0
   ⟨0,[],[],_,_,H,I4,T.keep _ _ _ st λb _ o e=>keep b o e,λb hb=>(f b hb).1,I.hok.fresh (by omega),hD4,.nil,Nat.zero_le _,w0⟩
  rintro n s3 ⟨i,ys,its,k,σ3,H3,I3,st3,fr3,hD3,oD3,rv,hl,w3⟩
  have I3p:Inv (q0r X scope N' (D+1) cells s₂ H fp x1) [(D,{cls:=.type "list",data:=.seq its.toArray k})] σ3 H3 s3:=I3.pins_of λp hp=>by
   have e:p=(D,{cls:=.type "list",data:=.seq its.toArray k}):=by simpa using hp
   subst e;exact⟨oD3,hD3,hDC,hDfs,λv z=>by cases z⟩
  have pinD:∀p∈[((D:Addr),({cls:=.type "list",data:=.seq its.toArray k}:Obj))],p.1=D:=λp hp=>by
   have e:p=(D,{cls:=.type "list",data:=.seq its.toArray k}):=by simpa using hp
   subst e;rfl
  rcases turn i n ys σ3 H3 w3 with⟨stop,fin⟩ | ⟨go,hlt,step⟩
  ·refine thn (T.done (q0r X scope N' (D+1) cells s₂ H fp x1) rfl rfl rfl hc i _ s3 σ3 H3 _ I3p (hfp fr3 pinD) st3 stop) λr s4 ⟨hr,I4'⟩=>?_;subst hr;have oD:=(I4'.pin (D,_) (List.mem_append_right _ List.mem_cons_self)).1;have un:Un (frs X.stack) fp H H3 s₂.heap s4.heap:=I4'.base;have hn:s₂.heap.get? D=none:=Heap.get?_none_of_le (by rw[hDe];exact Nat.le_refl _);obtain⟨mC,hnC,_⟩:=I4'.loc;refine hRR D (D+1) cells H3 s4 mC ys (I.call' I4'.os (un.track hD3 hn) (I4'.hok.track hD3 ⟨hl,its,k,rv,oD⟩) I4'.bare λb hb=>?_) hD3 hnC ?_ ?_ ?_ (λx c e=>?_) (λp hp=>?_) fin
   ·obtain⟨_,f1,f2,f3,f4,f5⟩:=f b hb;exact⟨f3,f1,f4,f5⟩
   ·rw[q0f (show @Ne Nat (D+1) D by omega)];exact I4'.free
   ·have q:@LT.lt Nat _ X.env.locals s₂.heap.objs.size:=I.lt;show @Ne Nat (D+1) X.env.locals;omega
   ·have q:@LE.le Nat _ X.s₀.heap.objs.size s₂.heap.objs.size:=I.sz;show @LE.le Nat _ X.s₀.heap.objs.size (D+1);omega
   ·obtain⟨v,z⟩:=I.cell x c e;have q:@LT.lt Nat _ c s₂.heap.objs.size:=z.lt;show @Ne Nat c (D+1);omega
   ·have q:@LT.lt Nat _ p.1 s₂.heap.objs.size:=Heap.lt_size (I.pin p hp).1;show @Ne Nat p.1 (D+1);omega
  ·refine thn (T.item (q0r X scope N' (D+1) cells s₂ H fp x1) rfl rfl rfl hc i _ s3 σ3 H3 _ I3p (hfp fr3 pinD) st3 go) λr s4 ⟨u,hr,h4'⟩=>?_;subst hr;refine thn h4' λ_ s5 ⟨x,H5,I5,r5,y5,st5,fr5⟩=>?_;have I5':=I5.pinned (hfp fr5 pinD) (T.obj _ _ st5);refine wpAny_mono (hg (D+1) cells s₂ H fp _ s5 σ3 H5 x u _ I5' r5 (step x H5 y5)) (λ_ s6 ⟨σ6,H6,I6,q6⟩=>?_) λe' s9 z=>hX' cells e' s9 z;refine wpAny_mono (ht (D+1) cells s₂ H fp _ s6 σ6 H6 _ I6 q6) (λb s7 ⟨H7,I7,q7⟩=>?_) λe' s9 z=>hX' cells e' s9 z;have fpK:∀{H':Hp} {s':Shared},Inv (q0r X scope N' (D+1) cells s₂ H fp x1) ([(D,{cls:=.type "list",data:=.seq its.toArray k})]++q5t fp s5.heap) σ6 H' s'->tn (i+1) s'.heap/\(∀b∈fp,H' b=none)/\s'.heap.get? D=some {cls:=.type "list",data:=.seq its.toArray k} /\ H' D=none:=λ{H' s'} J'=>by
    refine⟨T.keep _ _ _ st5 λb hb o e=>(J'.pin (b,o) (List.mem_append_right _ (List.mem_append_right _ (q2A hb e)))).1,λb hb=>?_,?_,?_⟩
    ·obtain⟨o,e,d⟩:=T.obj _ _ st5 b hb;exact(J'.pin (b,o) (List.mem_append_right _ (List.mem_append_right _ (q2A hb e)))).2.1
    ·exact(J'.pin (D,_) (List.mem_append_right _ (List.mem_append_left _ List.mem_cons_self))).1
    ·exact(J'.pin (D,_) (List.mem_append_right _ (List.mem_append_left _ List.mem_cons_self))).2.1
   cases b with
   | false=>
    rw[if_neg Bool.false_ne_true]at q7 ⊢;obtain⟨m',hm,w7⟩:=q7;obtain⟨k1,k2,k3,k4⟩:=fpK I7;exact⟨m',hm,i+1,ys,its,k,σ6,H7,I7.pins_of (λp hp=>(nomatch hp)),k1,k2,k4,k3,rv,hl,w7⟩
   | true=>
    rw[if_pos rfl]at q7 ⊢;refine wpAny_mono (he (D+1) cells s₂ H fp _ s7 σ6 H7 _ I7 q7) (λy s8 ⟨v8,H8,I8,r8,q8⟩=>?_) λe' s9 z=>hX' cells e' s9 z
    obtain⟨m',hm,w8⟩:=q8;obtain⟨k1,k2,k3,k4⟩:=fpK I8;have hits:its.length<=sizeLine:=by rw[←rv.length];exact hl
    refine append_at k3 (λh9 hs9 hD9=>?_) (by rw[List.size_toArray];exact hits);have I9:Inv (q0r X scope N' (D+1) cells s₂ H fp x1) [] σ6 H8 s8:=I8.pins_of λp hp=>(nomatch hp);refine⟨m',hm,i+1,ys++[v8],its++[y],k+1,σ6,H8,I9.turned (it:=D) (t':=s8.toks) (λb o hb e=>(hs9.2 b hb).trans e) k4 hDC (.inr (by show s₂.heap.objs.size<=D;omega)) hDcell (λp hp=>(nomatch hp)),?_,k2,k4,?_,rv.snoc r8,?_,w8⟩
    ·exact T.keep _ _ _ k1 λb hb o e=>(hs9.2 b (by have q:@LT.lt Nat _ b D:=ho b hb;show @Ne Nat b D;omega)).trans e
    ·rw[hD9,List.push_toArray]
    ·rw[List.length_append,List.length_singleton];omega
 exact codeAny_compStart_list loop (T.self X.A 0 _ _ _ (T.keep _ _ _ st λb _ o e=>keep b o e) loop)
def q4g(M:Model)(A:Around)(E:Value->Shared->Prop)(use:Option (Value->Sem Unit))(Q:Value->Shared->Prop)(acc:Value)(cenv:Env)(r:Result)(s':Shared):Prop:=
 match r,use with
 | .ok _,none=>∃m,s'.heap.Ns cenv.locals m/\∀h',Heap.SameBut cenv.locals s'.heap h'->Q acc {s' with heap:=h'}
 | .ok _,some u=>wpAny M A (u acc) (λ_ s''=>∃m,s''.heap.Ns cenv.locals m/\∀h',Heap.SameBut cenv.locals s''.heap h'->Q .none {s'' with heap:=h'}) E s'
 | .error x,_=>∃m,s'.heap.Ns cenv.locals m/\∀h',Heap.SameBut cenv.locals s'.heap h'->wpAny M A (passOn q5b x cenv:Sem Value) (λ_ _=>False) E {s' with heap:=h'}
theorem q5s{M:Model}{A:Around}{E:Value->Shared->Prop}{s:Shared}{env:Env}{e:Expr}{scope:Scope}{pos:Pos}{newAcc fst1:Sem Value}{g:Comprehension}{gs:List Comprehension}{cl:List (Str×Addr)}{use:Option (Value->Sem Unit)}
  {Q:Value->Shared->Prop} (hcl:clausesOf e=g::gs) (hs:∀x,foldedSetIterable g.iter env x=pure x) (hclos:closureFor scope env=pure cl)
  (hkind:scope.kind=.function) (hnames:∀x∈scope.names,x.2=NameKind.local->scope.names.lookup x.1=some NameKind.local)
  (h:wpAny M A fst1 (λx s₁=>wpAny M A (pyIter x) (λit s₂=>wpAny M A newAcc (λacc s₃=>
   wpAny M A (newFunctionEnv scope env.globals cl [] env.qual none .none (some env)) (λcenv s₄=>
    codeAny M A (.compStart e 0 it acc {cenv with scope:=relabel scope env}) (q4g M A E use Q acc {cenv with scope:=relabel scope env}) s₄) E s₃) E s₂) E s₁) E s) :
  wpAny M A (comprehension e scope env pos newAcc false fst1 use) Q E s:=by
 unfold comprehension;rw[hclos,hcl];refine wpAny_bind (wpAny_mono h (λx s₁ h₁=>wpAny_bind (wpAny_standAt (wpAny_bind (wpAny_of_eq (hs x) (wpAny_bind (wpAny_holding (wpAny_mono h₁ (λit s₂ h₂=>
  wpAny_standIf (wpAny_bind (wpAny_mono h₂ (λacc s₃ h₃=>wpAny_bind (wpAny_pure (wpAny_bind (wpAny_mono h₃ (λcenv s₄ h₄=>?_) λ_ _ z=>z)))) λ_ _ z=>z)))
   λ_ _ z=>z))))))) λ_ _ z=>z)
 dsimp only;have rel:∀{l:List (Str×NameKind)},(∀x∈l,x∈scope.names)->∀x∈l,x.2=NameKind.local->Env.kindOf {cenv with scope:=relabel scope env} x.1=some NameKind.local:=λhl x hx hq=>lookup_relabel_local (hnames x (hl x hx) hq)
 have in0:∀x∈(scope.names.filter λx=>(x.2==NameKind.local||x.2==NameKind.cell)&&x.1 != (".0" : Str)).reverse,x∈scope.names:=λx hx=>(List.mem_filter.mp (List.mem_reverse.mp hx)).1;have hv:=rel in0;have hv':=rel (l:=(scope.names.filter λx=>(x.2==NameKind.local||x.2==NameKind.cell)&&x.1 != (".0" : Str)).reverse.drop 1++(scope.names.filter λx=>(x.2==NameKind.local||x.2==NameKind.cell)&&x.1 != (".0" : Str)).reverse.take 1) λx hx=>
  (List.mem_append.mp hx).elim (λz=>in0 x (List.mem_of_mem_drop z)) λz=>in0 x (List.mem_of_mem_take z)
 refine wpAny_holding (wpAny_bind (wpAny_attempt (wpAny_holding (wpAny_run (codeAny_mono h₄ λr s' hr=>?_)))));cases r with
 | ok f=>
  cases use with
  | none=>
   obtain⟨m,hn,hr⟩:=hr;exact wpAny_bind (wpAny_holding (wpAny_comp_letGo (cenv:={cenv with scope:=relabel scope env}) hkind _ s' m hv hn λh' m' _ hs'=>wpAny_pure (hr h' hs')))
  | some u=>
   refine wpAny_bind (wpAny_rule (wpAny_bind (wpAny_holding (wpAny_mono hr (λ_ s'' ⟨m,hn,hr'⟩=>?_) λ_ _ z=>z))));exact wpAny_bind (wpAny_comp_letGo (cenv:={cenv with scope:=relabel scope env}) hkind _ s'' m hv' hn λh' m' _ hs'=>wpAny_pure (hr' h' hs'))
 | error x=>
  have hr':∃m,s'.heap.Ns cenv.locals m/\∀h',Heap.SameBut cenv.locals s'.heap h'->wpAny M A (passOn q5b x {cenv with scope:=relabel scope env}:Sem Value) (λ_ _=>False) E {s' with heap:=h'}:=by cases use<;>exact hr
  obtain⟨m,hn,hr⟩:=hr';exact wpAny_bind (wpAny_holding (wpAny_comp_letGo (cenv:={cenv with scope:=relabel scope env}) hkind _ s' m hv hn λh' m' _ hs'=>wpAny_mono (hr h' hs') (λ_ _ f=>f.elim) λ_ _ y=>y))
def z2K(fr:List (Option Nat))(wi:TI)(g:TG)(tc:TT)(te:TE):TE:=λσ H Q=>wi σ H λJ H1=>z4r J g tc te (λys H'=>∀p,H' p=none->Q (.ref p) (upd H' p (.lst ys))) (inner fr σ) H1
theorem z4m{X:Cx}{N':List Str}{scope:Scope}{fr:List (Option Nat)}{iter elt tg:Expr}{ifs:List Expr}{pos:Pos}{wi:TI}{g:TG}{te:XK->TE}{E:St->XK}{tc:TT}(S:CompScope X.N N' scope X.env.scope fr)(hc:X.calm=true)(hx:z1l X E)(hi:PI X tg iter wi)
  (hg:∀C cells s₂ H₂ fp x1,PG (q0r X scope N' C cells s₂ H₂ fp x1) tg g) (ht:∀C cells s₂ H₂ fp x1,PTs (q0r X scope N' C cells s₂ H₂ fp x1) ifs tc) (he:∀C cells s₂ H₂ fp x1,PE (q0r X scope N' C cells s₂ H₂ fp x1) elt (te x1))
  (hs:∀x,foldedSetIterable iter X.env x=pure x:=by intro _;rfl):PE X (.ListComp elt [⟨tg,iter,ifs,0⟩] scope pos) (λσ=>z2K fr wi g tc (te (E σ)) σ):=by
 intro pins s σ H Q I h;rw[eval_ListComp];have hfree:∀y∈scope.names,y.2=NameKind.free->∃c,X.env.cells.lookup y.1=some c:=λy hy hk=>I.ok.has y.1 (S.out y hy hk)
 refine q5s (use:=none) rfl hs (q2q hfree) S.kind (λx hx hl=>q0F S.snd (by rw[←hl];exact hx)) (thn (hi pins s σ H _ I h) λv s1 h1=>thn h1 λitv s2 h2=>?_);obtain⟨it,fp,tn,J,H2,e,I2,T,st2,f2,w⟩:=h2;subst e;refine q6W (RR:=λacc C=>q4g (model X.prog X.w) X.A X.xe none (EP X pins σ Q) acc C) S hc (λC cells s₂ H₂ fp=>hg C cells s₂ H₂ fp (E σ)) (λC cells s₂ H₂ fp=>ht C cells s₂ H₂ fp (E σ)) (λC cells s₂ H₂ fp=>he C cells s₂ H₂ fp (E σ)) I2 T st2 f2 w (λcells C e s' hC z=>?_) ?_
 ·refine wpAny_mono (hx scope N' cells C pins σ H2 s2 fp e s' I2 f2 hC z) (λ_ s'' ⟨m,n,q⟩=>⟨m,n,λh' hs'=>q h' hs' _ rfl rfl⟩) λe' s'' ⟨m,n,q⟩=>⟨m,n,λh' hs'=>q h' hs' _ rfl rfl⟩
 intro D C cells H' s' m ys I' hD hnC hCn hCL hCs hCc hCp fin;exact⟨m,hnC,λh' hs'=>⟨.ref D,_,I'.turned (it:=C) (t':=s'.toks) (λb o hb e=>(hs'.2 b hb).trans e) hCn hCL (.inr hCs) hCc hCp,rfl,fin D hD⟩⟩
theorem q8h{X:Cx}{N':List Str}{scope:Scope}{fr:List (Option Nat)}{iter elt tg:Expr}{ifs:List Expr}{pos spos py:Pos}{y:Str}{i:Nat}{wi:TI}{g:TG}{te:XK->TE}{E:St->XK}{tc:TT}(S:CompScope X.N N' scope X.env.scope fr)(hc:X.calm=true)(hx:z1l X E)(hN:X.N.Nodup)(hiN:X.N[i]? = some y)
  (hy:X.env.scope.names.lookup y=some .local) (hi:PI X tg iter wi)
  (hg:∀C cells s₂ H₂ fp x1,PG (q0r X scope N' C cells s₂ H₂ fp x1) tg g) (ht:∀C cells s₂ H₂ fp x1,PTs (q0r X scope N' C cells s₂ H₂ fp x1) ifs tc) (he:∀C cells s₂ H₂ fp x1,PE (q0r X scope N' C cells s₂ H₂ fp x1) elt (te x1))
  (hsw:swapsWith (.ListComp elt [⟨tg,iter,ifs,0⟩] scope pos) (some (.Name y py)) spos.line X.env=pure true:=by rfl)
  (hs:∀x,foldedSetIterable iter X.env x=pure x:=by intro _;rfl):PS X (.Assign [.Name y py] (.ListComp elt [⟨tg,iter,ifs,0⟩] scope pos) spos) (tAsg (λσ=>z2K fr wi g tc (te (E σ)) σ) (q9c i)):=by
 intro pins s σ H Dn I h;rw[exec_Assign_Name_used _ _ _ _ hsw];refine wpAny_bind (wpAny_standAt (wpAny_bind ?_));show wpAny _ _ (do let _ ←comprehension (.ListComp elt [⟨tg,iter,ifs,0⟩] scope pos) scope X.env _ (newList []) false (eval iter X.env) (some (assign (.Name y py) X.env))) _ _ s;have hfree:∀y∈scope.names,y.2=NameKind.free->∃c,X.env.cells.lookup y.1=some c:=λy hy hk=>I.ok.has y.1 (S.out y hy hk)
 refine wpAny_bind (wpAny_mono (q5s (use:=some (assign (.Name y py) X.env)) (Q:=λ_ s'=>SP X pins Dn .next s') rfl hs (q2q hfree) S.kind (λx hx hl=>q0F S.snd (by rw[←hl];exact hx))
  (thn (hi pins s σ H _ I h) λv s1 h1=>thn h1 λitv s2 h2=>?_)) (λ_ s' hq=>wpAny_pure (wpAny_pure hq)) λ_ _ e=>e)
 obtain⟨it,fp,tn,J,H2,e,I2,T,st2,f2,w⟩:=h2;subst e;refine q6W (RR:=λacc C=>q4g (model X.prog X.w) X.A X.xe (some (assign (.Name y py) X.env)) (λ_ s'=>SP X pins Dn .next s') acc C) S hc (λC cells s₂ H₂ fp=>hg C cells s₂ H₂ fp (E σ)) (λC cells s₂ H₂ fp=>ht C cells s₂ H₂ fp (E σ)) (λC cells s₂ H₂ fp=>he C cells s₂ H₂ fp (E σ)) I2 T st2 f2 w (λcells C e s' hC z=>?_) ?_
 ·refine wpAny_mono (hx scope N' cells C pins σ H2 s2 fp e s' I2 f2 hC z) (λ_ s'' ⟨m,n,q⟩=>⟨m,n,λh' hs'=>q h' hs' _ rfl rfl⟩) λe' s'' ⟨m,n,q⟩=>⟨m,n,λh' hs'=>q h' hs' _ rfl rfl⟩
 intro D C cells H' s' m ys I' hD hnC hCn hCL hCs hCc hCp fin;refine wpAny_assign_Name (q5M (v:=.ref D) I' hN hiN (Or.inl hy) rfl (λs'' I'' ⟨a,hsb,ha⟩=>⟨m,hnC.sameBut hsb ?_,λh' hs'=>⟨_,_,I''.turned (it:=C) (t':=s''.toks) (λb o hb e=>(hs'.2 b hb).trans e) hCn hCL (.inr hCs) hCc hCp,fin D hD⟩⟩) (.inr hy));rcases ha with z | z
 ·rw[z];exact hCL
 ·exact Ne.symm (hCc y a z)
end L2
end
noncomputable section
namespace L2
open PySem PySem.Spec PyProof.Rows
theorem Un.flown{fs ex:List Addr}{H H':Hp}{h0 h1 h2 B:Heap}(u:Un fs ex H H' h0 h1)(cov:∀b o,h0.get? b=some o->b∉fs->b∉ex->∃o',B.get? b=some o')(s1:∀b o,B.get? b=some o->h1.get? b=some o)(s2:∀b o,B.get? b=some o->h2.get? b=some o)
  (up:h1.UpToSlots h2) (fd:∀b∈fs,b∉ex/\H b=none/\∀o,h0.get? b=some o->∀vs,o.data ≠ .fields vs):Un fs ex H H' h0 h2:=by
 have keep:∀b o,h0.get? b=some o->H b=none->b∉fs->b∉ex->h2.get? b=some o:=λb o e n hb hx=>by have e1:=u.keep b o e n hb hx;obtain⟨o',q⟩:=cov b o e hb hx;have q1:=s1 b o' q;rw[e1]at q1;cases q1;exact s2 b o q
 have slot:∀b o,h0.get? b=some o->H b=none->b∈fs->b∉ex->∃sl,h2.get? b=some {o with slots:=sl}:=λb o e n hb hx=>by obtain⟨sl,e1⟩:=u.slot b o e n hb hx;obtain⟨sl',e2⟩:=up b _ e1 ((fd b hb).2.2 o e);exact⟨sl',e2⟩
 refine⟨keep,slot,u.free,λb o e hx=>?_,u.tups,u.frzs,u.tbls⟩;by_cases hb:b∈fs
 ·obtain⟨sl,q⟩:=slot b o e (fd b hb).2.1 hb hx;exact⟨_,q⟩
 ·obtain⟨o',q⟩:=cov b o e hb hx;exact⟨o',s2 b o' q⟩
section
variable {X:Cx} {pins:List (Addr×Obj)} {σ:St} {H:Hp} {s:Shared}
theorem Inv.frameData(I:Inv X pins σ H s):∀b∈X.fs,b∉X.ex/\X.H₀ b=none/\∀o,X.s₀.heap.get? b=some o->∀vs,o.data ≠ .fields vs:=λb hb=>by
 refine⟨λz=>I.ok.exfs b z hb,I.ok.frf.1 b hb,λo e=>?_⟩;obtain⟨_,o',e',d⟩:=I.ok.funs.mem hb
 rw[e]at e';cases e';exact d
theorem Inv.notStk(I:Inv X pins σ H s){b:Addr}{o:Obj}(e:X.s₀.heap.get? b=some o)(hb:b∉X.fs):b∉frs X.stack:=λz=>by
 rcases List.mem_cons.mp (I.stkSub b z)with q | q
 ·exact absurd (Nat.lt_of_lt_of_le (Heap.lt_size e) I.ok.above) (by rw[q];exact Nat.lt_irrefl _)
 ·exact hb q
end
section
variable {P:Program} {w:World} {K:PySem.W.Frag} {mg:Str->Option Value} {base:Heap} {N:List Str} {qual:Str} {scope:Scope} {f:Addr} {cd:Value} {A:Around} {outer:List Env} {s:Shared} {H:Hp} {E:XK}
abbrev cxD(P:Program)(w:World)(K:PySem.W.Frag)(mg:Str->Option Value)(base:Heap)(N:List Str)(qual:Str)(scope:Scope)(f:Addr)(cd:Value)(A:Around)(outer:List Env)(s:Shared)(H:Hp)(E:XK):Cx:=
 cxOf (CXx P w base) P w K mg base N qual scope f cd A outer s H E
theorem q6M{pins:List (Addr×Obj)}{σ:St}{H1:Hp}{s1:Shared}{h':Heap}{ea:Addr}{C:Value}{vs:List Value}(I:Inv (cxD P w K mg base N qual scope f cd A outer s H E) pins σ H1 s1)(hx:Heap.MadeExcOf s1.heap h' ea C vs)(hE:E C none H1) :
  (cxD P w K mg base N qual scope f cd A outer s H E).xe (.ref ea) {s1 with heap:=h'}:=by
 have hstk:=I.stack;have hin:∀env∈(cxD P w K mg base N qual scope f cd A outer s H E).stack,∀a,env.frame=some a->a∈frs (cxD P w K mg base N qual scope f cd A outer s H E).stack:=λenv he b hb=>List.mem_filterMap.mpr ⟨env,he,hb⟩;have hB1:∀b o,(PySem.W.hideAll s1.heap (frs (cxD P w K mg base N qual scope f cd A outer s H E).stack)).get? b=some o->s1.heap.get? b=some o:=λb o q=>PySem.W.of_hideAll _ q;have hHid:∀b u,H1 b≠none->s1.heap.get? b=some u->(PySem.W.hideAll s1.heap (frs (cxD P w K mg base N qual scope f cd A outer s H E).stack)).get? b=some u:=λb u hb q=>PySem.W.hideAll_get _ q λz=>hb (I.stkFree b z);refine wpAny_mono ((q3u _ _).any (wpAny_leaves_madeW (Q:=λ_ s'=>∃h2 t,s' = {s1 with heap:=h2} /\ Heap.FlyingW (PySem.W.hideAll s1.heap (frs (cxD P w K mg base N qual scope f cd A outer s H E).stack)) outer ea C (.ref t) h2/\h'.UpToSlots h2) (E:=λ_ _=>False) (base:=PySem.W.hideAll s1.heap (frs (cxD P w K mg base N qual scope f cd A outer s H E).stack)) (h:=s1.heap) I.ok.frames rfl hB1 (PySem.W.funFrames_hide hstk hin) hx λh2 t fl tup nt up=>⟨h2,t,rfl,fl,up⟩)) (λ_ s' ⟨⟨h2,t,e0,fl,up⟩,st⟩=>?_) (λ_ _ q=>q.1.elim);subst e0;have hcov:∀b o,s.heap.get? b=some o->b∉frs outer->∃o',(PySem.W.hideAll s1.heap (frs (cxD P w K mg base N qual scope f cd A outer s H E).stack)).get? b=some o':=λb o e hb=>by obtain⟨o1,e1⟩:=I.base.there b o e (by intro z;exact nomatch z);exact⟨o1,PySem.W.hideAll_get _ e1 (I.notStk e hb)⟩
 refine⟨ea,C,H1,_,rfl,I.os,I.bare,I.base.flown (λb o e hb _=>hcov b o e hb) hB1 fl.1 ((Heap.UpToSlots.of_keeps hx.keeps).trans up) I.frameData,⟨⟨_,fl⟩,λb o e=>?_,λa o q=>?_,(Ctxd.made hx).st st⟩,hcov,hE⟩
 ·refine PySem.W.hideAll_get _ (I.bk b o e) λz=>?_;have q:base.get? b=none:=(hstk.mem z).1;rw[q]at e;cases e
 ·refine(I.hok a o q).stay (λb u hc e=>hHid b u ?_ e) (λ_ z=>z) (λ_ _ z=>z) λ_ _ _ _ _ z=>z;rcases hc with z | z
  ·subst z;rw[q];intro z;cases z
  ·rw[z];intro z;cases z
theorem z1B{pins:List (Addr×Obj)}{σ:St}{H1:Hp}{s1:Shared}{ea:Addr}{C:Value}{B:Heap}(I:Inv (cxD P w K mg base N qual scope f cd A outer s H E) pins σ H1 s1)(F:Fly P w base (cxD P w K mg base N qual scope f cd A outer s H E).stack ea C H1 B s1.heap)
  (cov:∀b o,s.heap.get? b=some o->b∉frs (cxD P w K mg base N qual scope f cd A outer s H E).stack->∃o',B.get? b=some o') (hE:E C none H1):(cxD P w K mg base N qual scope f cd A outer s H E).xe (.ref ea) s1:=by
 obtain⟨a0,fl⟩:=F.fly;refine wpAny_mono ((q3u _ _).any (wpAny_leaves_onW (Q:=λ_ s'=>∃h2,s' = {s1 with heap:=h2} /\ Heap.FlyingW B outer ea C a0 h2/\s1.heap.UpToSlots h2) (E:=λ_ _=>False) I.ok.frames rfl fl λh2 fl2 up=>⟨h2,rfl,fl2,up⟩)) (λ_ s' ⟨⟨h2,e0,fl2,up⟩,st⟩=>?_) (λ_ _ q=>q.1.elim);subst e0;have hcov:∀b o,s.heap.get? b=some o->b∉frs outer->∃o',B.get? b=some o':=λb o e hb=>cov b o e (I.notStk e hb)
 exact⟨ea,C,H1,B,rfl,I.os,I.bare,I.base.flown (λb o e hb _=>hcov b o e hb) F.stays fl2.1 up I.frameData,⟨⟨_,fl2⟩,F.bas,F.hok,F.ctx.st st⟩,hcov,hE⟩
theorem q3s:q8P (CXx P w base) (cxD P w K mg base N qual scope f cd A outer s H E) E:=by
 intro pins σ H0 s0 e s' I hcx;obtain⟨ea,C,H',B,rfl,os,bare,un,F,cov,hE⟩:=hcx;have I':Inv (cxD P w K mg base N qual scope f cd A outer s H E) pins σ H' s':=I.call' os un (F.hok.kept F.stays) bare λb hb=>nomatch hb
 refine z1B I' F (λb o e hb=>?_) hE;obtain⟨o1,e1⟩:=I.base.there b o e (by intro z;exact nomatch z);exact cov b o1 e1 hb
end
def excO(ea:Addr)(C:Value):HO:=.ext λh=>∃oe vs,h.get? ea=some oe/\oe.cls=C/\oe.data=.fields vs
def XP(X:Cx)(pins:List (Addr×Obj))(E:St->Value->Hp->Prop)(e:Value)(s':Shared):Prop:=∃(ea:Addr) (C:Value) (σ':St) (H':Hp) (B:Heap),e=.ref ea/\Inv X pins σ' H' s'/\Fly X.prog X.w X.base X.stack ea C H' B s'.heap /\
 (∀b o,X.s₀.heap.get? b=some o->b∉frs X.stack->b∉X.ex->∃o',B.get? b=some o')/\(∀p∈X.pn++pins,∃o',B.get? p.1=some o')/\E σ' C H'
section
variable {X:Cx} {pins pins':List (Addr×Obj)} {σ:St} {H:Hp} {s:Shared} {E:St->Value->Hp->Prop} {ea:Addr}
theorem Inv.track{a:Addr}{o:HO}(I:Inv X pins σ H s)(hn:H a=none)(h0:X.s₀.heap.get? a=none)(hL:a≠X.env.locals)(hc:∀x c,X.env.cells.lookup x=some c->c≠a)(hp:∀p∈X.pn++pins,p.1≠a)(new:q1f X.prog X.w (upd H a o) s.heap a o) :
  Inv X pins σ (upd H a o) s:=
 ⟨I.ok,I.os,I.bare,I.base.track hn h0,I.loc,I.cell,by rw[q0f (Ne.symm hL)];exact I.free,λx c e=>by rw[q0f (hc x c e)];exact I.freeC x c e,λp hq=>by
  obtain⟨e,n,ne,nf,d⟩:=I.pin p hq;exact⟨e,by rw[q0f (hp p hq)];exact n,ne,nf,d⟩,I.hok.track hn new,I.len⟩
end
def q3U(CX:CXT)(X:Cx)(E:St->XK):Prop:=∀(pins:List (Addr×Obj)) (σ:St) (H:Hp) (s:Shared) (e:Value) (s':Shared),Inv X pins σ H s->CX X.stack H s (E σ) e s'->X.xe e s'
theorem q8P.s{CX:CXT}{X:Cx}{E:XK}(h:q8P CX X E):q3U CX X λ_=>E:=λpins σ H s e s' I q=>h pins σ H s e s' I q
section
variable {X:Cx} {CX:CXT} {k:Nat} {f C:Addr} {fd:FuncData} {ps:List Str} {sp:Sp} {dvs:List V} {ds:List Value} {E:St->XK} {x m:Str} {p pos apos:Pos} {e o:Expr} {es:List Expr} {ta:TE} {t:TA}
theorem z3g{pins:List (Addr×Obj)}{σ:St}{H:Hp}{s:Shared}{Q:VK}{us:List Value}{vs:List V}(F:FnOk X.prog X.w X.K X.mg X.base CX k f fd ps sp)(hr:Room k X.A)(hb:q1q X.K fd ps ds)(hd:Vals dvs ds)(hx:q3U CX X E)
  (I:Inv X pins σ H s) (r:Vals vs us) (h:sp (vs++dvs) H Q (E σ)):wpAny (model X.prog X.w) X.A (call (.ref f) us) (EP X pins σ Q) X.xe s:=by
 have r2:Vals (vs++dvs) (us++ds):=r.append hd;have hl:(us++ds).length=ps.length:=by rw[←r2.length];exact F.len _ _ _ _ h
 refine wpAny_call (codeAny_mono (F.run X.A X.stack s H ⟨us,[]⟩ (us++ds) (vs++dvs) Q (E σ) hr I.env0 (hb s us I.kIn hl) r2 h) λr s' hq=>?_);cases r with
 | error e=>exact hx pins σ H s e s' I hq
 | ok fl=>
  cases fl with
  | ret u=>exact I.after hq
  | next=>exact False.elim hq
  | brk=>exact False.elim hq
  | cont=>exact False.elim hq
def z1Z(sp:Sp)(dvs:List V)(E:St->XK)(t:TA):TE:=λσ H Q=>t σ H λvs H1=>sp (vs++dvs) H1 Q (E σ)
theorem q7z(F:FnOk X.prog X.w X.K X.mg X.base CX k f fd ps sp)(hr:Room k X.A)(hg:Gl X x)(hm:X.mg x=some (.ref f))(hk:PySem.W.keepIn X.K (.ref f)=true)(hb:q1q X.K fd ps ds)(hd:Vals dvs ds)(hx:q3U CX X E)
  (ha:PA X (e::es) t) (hdb:(x==("__debug__" : Str))=false:=by decide) (he:starEach (e::es) X.env=(false,eval e X.env)::starEach es X.env:=by rfl) (hpl:(backTo pos (starEach es X.env)).any (·.1)=false:=by rfl) :
  PE X (.Call (.Name x p) (e::es) [] pos) (z1Z sp dvs E t):=by
 intro pins s σ H Q I h;refine wpAny_Call_Name_kw (z0E I hg hm ?_ hdb);refine PySem.W.callWith_K (h₀:=X.base) I.ok.mod.kin hk (thn (ha pos pins s σ H _ I h) λus s1 ⟨vs,H1,I1,r,q⟩=>⟨I1.kIn,?_⟩) he hpl;exact z3g F hr hb hd hx I1 r q
end
def q7x(X:Cx)(E:St->XK):Prop:=∀(pins:List (Addr×Obj)) (σ:St) (H:Hp) (s:Shared) (h':Heap) (ea:Addr) (C:Value) (vs:List Value),Inv X pins σ H s->Heap.MadeExcOf s.heap h' ea C vs->E σ C none H->X.xe (.ref ea) {s with heap:=h'}
theorem q3p{P:Program}{w:World}{K:PySem.W.Frag}{mg:Str->Option Value}{base:Heap}{N:List Str}{qual:Str}{scope:Scope}{f:Addr}{cd:Value}{A:Around}{outer:List Env}{s:Shared}{H:Hp}{E:XK} :
  q7x (cxD P w K mg base N qual scope f cd A outer s H E) λ_=>E:=λpins σ H1 s1 h' ea C vs I hx hE=>q6M I hx hE
end L2
end
noncomputable section
namespace L2
open PySem PySem.Spec PyProof.Rows
section
variable {prog:Program} {w:World} {A:Around} {E:Value->Shared->Prop} {env:Env} {s:Shared}
variable {nm q:Str} {C N:Addr} {bs bm bmB:List Value} {hdct:Bool} {sn:List Str} {sub:List Value} {ab:Bool} {col:Option Bool} {dd:Option Addr} {k0 k1 k2 k3 k5:Option Value} {B newId initId:String}
end
def z1V(X:Cx)(E:St->XK):Prop:=∀(pins:List (Addr×Obj)) (σ:St) (H:Hp) (s:Shared) (ea:Addr) (C a0:Value) (B:Heap),Inv X pins σ H s->Heap.HeldW B X.stack ea C a0 X.env.locals s.heap->(∀b o,X.base.get? b=some o->B.get? b=some o)->HOk X.prog X.w H B->Ctxd s.heap ea ->
 (∀b o,X.s₀.heap.get? b=some o->b∉frs X.stack->∃o',B.get? b=some o')->E σ C none H->X.xe (.ref ea) s
section
variable {P:Program} {w:World} {K:PySem.W.Frag} {mg:Str->Option Value} {base:Heap} {N:List Str} {qual:Str} {scope:Scope} {f:Addr} {cd:Value} {A:Around} {outer:List Env} {s:Shared} {H:Hp} {E:XK}
theorem q4R:z1V (cxD P w K mg base N qual scope f cd A outer s H E) λ_=>E:=by
 intro pins σ H1 s1 ea C a0 B I hh bas hok ctx cov hE;have lv:wpAny (model P w) (A.deeper (envOfC qual scope s.heap.objs.size f cd)) (leaving (envOfC qual scope s.heap.objs.size f cd) (.ref ea)) (λ_ s'=>∃h2,s' = {s1 with heap:=h2} /\ Heap.FlyingW B outer ea C a0 h2/\s1.heap.UpToSlots h2) (λ_ _=>False) s1:=by
  unfold leaving;refine wpAny_bind (wpAny_noteFrame_againW rfl hh.2.2.2 ?_);refine wpAny_landsW hh λh' hfl up=>⟨h',rfl,?_,up⟩
  obtain⟨k1,k2,⟨_,_,k3⟩,k4⟩:=hfl;exact⟨k1,k2,k3,k4⟩
 refine wpAny_mono ((q3u _ _).any lv) (λ_ s' ⟨⟨h2,e0,fl2,up⟩,st⟩=>?_) (λ_ _ q=>q.1.elim);subst e0;have hcov:∀b o,s.heap.get? b=some o->b∉frs outer->∃o',B.get? b=some o':=λb o e hb=>cov b o e (I.notStk e hb);exact⟨ea,C,H1,B,rfl,I.os,I.bare,I.base.flown (λb o e hb _=>hcov b o e hb) hh.1 fl2.1 up I.frameData,⟨⟨_,fl2⟩,bas,hok,ctx.st st⟩,hcov,hE⟩
end
end L2
end
noncomputable section
namespace L2
open PySem PySem.W PySem.Spec PySem.Calls PyProof.Rows PySem.Builtin PySem.Builtin.ObjectAttr PySem.Builtin.Getset_descriptor
section
variable {prog:Program} {w:World} {K:Frag} {x D:Addr} {M:Model} {h:Heap}
structure ClsK(K:Frag)(D:Addr):Prop where
 ga:findIn K (.ref D) "__getattribute__" = some (some (.builtin "BaseException.__getattribute__"))
 gt:findIn K (.ref D) "__getattr__" = some none
 mb:mroIn K D (.type "BaseException")=some true
 hd:hasDictIn K D=true
 fc:findIn K (.ref D) "__class__" = some (some (.builtin "object.__class__"))
 sg:specialIn K (.builtin "object.__class__") "__get__" = some (some (.builtin "getset_descriptor.__get__"))
 tk:takesIn K (.builtin "object.__class__")=some true
 mo:mroIn K D (.type "object")=some true
variable {A:Around} {E:Value->Shared->Prop} {s:Shared}
end
end L2
end
noncomputable section
namespace L2
open PySem PySem.Spec PyProof.Rows
structure Src(P:Program)(w:World)(ia la:Addr)(vs:Array Value)(S:Nat->Heap->Prop):Prop where
 keep:∀k h h',S k h->(∀o,h.get? ia=some o->h'.get? ia=some o)->(∀o,h.get? la=some o->h'.get? la=some o)->S k h'
 there:∀k h,S k h->∃o xs,h.get? ia=some o/\o.data=.fields xs
 step:∀{A:Around} {E:Value->Shared->Prop} {s:Shared} {Q:Value->Shared->Prop} (k:Nat) (x:Value),S k s.heap->vs[k]? = some x->(∀h',S (k+1) h'->Heap.SameBut ia s.heap h'->Q x {s with heap:=h'}) ->
  wpAny (model P w) A (Builtin.SmallTypes.nextOf (.ref ia)) Q E s
 stop:∀{A:Around} {E:Value->Shared->Prop} {s:Shared} {Q:Value->Shared->Prop} (k:Nat),A.handled=none->S k s.heap->vs[k]? = none ->
  (∀h' e,Heap.ExtBut ia s.heap h'->(∃o,h'.get? e=some o/\o.cls=.type "StopIteration")->E (.ref e) {s with heap:=h'})->wpAny (model P w) A (Builtin.SmallTypes.nextOf (.ref ia)) Q E s
def sL(ia la:Addr)(vs:Array Value):Nat->Heap->Prop:=λk h=>h.IsListIter ia la k/\h.IsList la vs
def sT(ia la:Addr)(vs:Array Value):Nat->Heap->Prop:=λk h=>h.IsTupleIter ia la k/\h.IsTuple la vs
theorem z1P{P:Program}{w:World}{ia la:Addr}{vs:Array Value}(ne:la≠ia):Src P w ia la vs (sL ia la vs) where
 keep:=λk h h' ⟨p,q⟩ e1 e2=>⟨p.at e1,q.at e2⟩
 there:=λk h ⟨p,q⟩=>by obtain⟨o,e,_,d⟩:=p;exact⟨o,_,e,d⟩
 step:=λk x ⟨p,q⟩ hx hq=>wpAny_nextOf_list_item p q hx λh' p' sb=>hq h' ⟨p',q.extBut sb.extBut ne⟩ sb
 stop:=λk hh ⟨p,q⟩ hx hq=>wpAny_nextOf_list_end hh p q hx hq
section
variable {P:Program} {w:World} {A:Around} {E:Value->Shared->Prop} {s:Shared}
theorem z0L{ja ta:Addr}{k:Nat}{vs:Array Value}{x:Value}{Q:Value->Shared->Prop}(p:s.heap.IsTupleIter ja ta k)(q:s.heap.IsTuple ta vs)(hx:vs[k]? = some x)(hq:∀h',h'.IsTupleIter ja ta (k+1)->Heap.SameBut ja s.heap h'->Q x {s with heap:=h'}) :
  wpAny (model P w) A (Builtin.SmallTypes.nextOf (.ref ja)) Q E s:=by
 obtain⟨ob,e1,e2,e3⟩:=id p;obtain⟨ot,f1,_,nn,f3⟩:=q;unfold Builtin.SmallTypes.nextOf;refine wpAny_bind (wpAny_callSpecial?_slot (name:=Str.ofString "__next__") p.typeIs F.slot_tuple_iterator_next (wpAny_call_entry F.slot_tuple_iterator_next p.typeIs F.entry_tuple_iterator_next ?_ (F.args_tuple_iterator_next_1 _)));show wpAny _ _ (field (.ref ja) 0 >>= _) _ _ s;refine wpAny_bind (wpAny_field e1 e3 (x:=.ref ta) rfl ?_);show wpAny _ _ (if(Value.ref ta==Value.none)=true then _ else _) _ _ s;rw[if_neg (show ¬((Value.ref ta==Value.none)=true)from Bool.false_ne_true)];show wpAny _ _ (field (.ref ja) 1 >>= _) _ _ s;refine wpAny_bind (wpAny_field e1 e3 (x:=.int k 0) rfl ?_);show wpAny _ _ (seqItems? (.ref ta) >>= _) _ _ s;refine wpAny_bind (wpAny_seqItems f1 f3 ?_);simp only[Int.toNat_natCast,hx];refine wpAny_bind (wpAny_setField e1 e3 (by simp) (wpAny_pure ⟨x,rfl,wpAny_pure (hq _ ?_ (Heap.SameBut.update ..))⟩));exact⟨_,Heap.get?_update_self _ e1 (Obj.isFreed_of_fields (Obj.data_mapFields e3 _)),(Obj.cls_mapFields ..).trans e2,by rw[Obj.data_mapFields e3];simp[rawInt]⟩
theorem z1z{ja ta:Addr}{k:Nat}{vs:Array Value}{Q:Value->Shared->Prop}(hh:A.handled=none)(p:s.heap.IsTupleIter ja ta k)(q:s.heap.IsTuple ta vs)(hx:vs[k]? = none)(hE:∀h' e,Heap.ExtBut ja s.heap h'->(∃o,h'.get? e=some o/\o.cls=.type "StopIteration")->E (.ref e) {s with heap:=h'}) :
  wpAny (model P w) A (Builtin.SmallTypes.nextOf (.ref ja)) Q E s:=by
 obtain⟨ob,e1,e2,e3⟩:=id p;obtain⟨ot,f1,_,nn,f3⟩:=q;unfold Builtin.SmallTypes.nextOf;refine wpAny_bind (wpAny_callSpecial?_slot (name:=Str.ofString "__next__") p.typeIs F.slot_tuple_iterator_next (wpAny_call_entry F.slot_tuple_iterator_next p.typeIs F.entry_tuple_iterator_next ?_ (F.args_tuple_iterator_next_1 _)));show wpAny _ _ (field (.ref ja) 0 >>= _) _ _ s;refine wpAny_bind (wpAny_field e1 e3 (x:=.ref ta) rfl ?_);show wpAny _ _ (if(Value.ref ta==Value.none)=true then _ else _) _ _ s;rw[if_neg (show ¬((Value.ref ta==Value.none)=true)from Bool.false_ne_true)];show wpAny _ _ (field (.ref ja) 1 >>= _) _ _ s;refine wpAny_bind (wpAny_field e1 e3 (x:=.int k 0) rfl ?_);show wpAny _ _ (seqItems? (.ref ta) >>= _) _ _ s;refine wpAny_bind (wpAny_seqItems f1 f3 ?_);simp only[Int.toNat_natCast,hx];refine wpAny_bind (wpAny_rule (wpAny_bind (wpAny_setField e1 e3 (by simp) ?_)));show wpAny _ _ (newExc (.type "StopIteration") [] >>= λy=>raiseNew y) _ _ _;refine wpAny_bind ?_;simp only[newExc,newTuple];refine wpAny_bind (wpAny_newObj_type ?_ (by size_fits));refine wpAny_bind (m:=firstArgMember _ _) (wpAny_of_eq (a:=Value.none) (by first | rfl | (simp only[firstArgMember];rfl)) ?_);refine wpAny_newObj_type ?_ (by size_fits);simp only[raiseNew];refine wpAny_bind (wpAny_handled ?_)
 first | rw[show A.in1.handled=none from hh] | rw[hh]
 refine wpAny_bind (wpAny_pure (wpAny_throw (hE _ _ (((Heap.SameBut.update ..).extBut.push _).push _) ⟨_,Heap.get?_push_size _ rfl,rfl⟩)))
theorem z2T{ia la:Addr}{vs:Array Value}(ne:la≠ia):Src P w ia la vs (sT ia la vs) where
 keep:=λk h h' ⟨p,q⟩ e1 e2=>⟨by obtain⟨o,e,r⟩:=p;exact⟨o,e1 o e,r⟩,by obtain⟨o,e,r⟩:=q;exact⟨o,e2 o e,r⟩⟩
 there:=λk h ⟨p,q⟩=>by obtain⟨o,e,_,d⟩:=p;exact⟨o,_,e,d⟩
 step:=λk x ⟨p,q⟩ hx hq=>z0L p q hx λh' p' sb=>hq h' ⟨p',q.extBut sb.extBut ne⟩ sb
 stop:=λk hh ⟨p,q⟩ hx hq=>z1z hh p q hx hq
variable {Z U W a b l1 l2:Addr} {k:Nat} {vs1 vs2:Array Value} {S1 S2:Nat->Heap->Prop} {x y c d:Value}
theorem Src.ext{ia la:Addr}{vs:Array Value}{S:Nat->Heap->Prop}{h h':Heap}{e:Addr}(R:Src P w ia la vs S)(q:S k h)(hs:Heap.ExtBut e h h')(n1:ia≠e)(n2:la≠e):S k h':=R.keep k h h' q (λo z=>hs _ _ n1 z) (λo z=>hs _ _ n2 z)
theorem z0T{Q:Value->Shared->Prop}(D:ZipApart Z U W a b l1 l2)(R1:Src P w a l1 vs1 S1)(R2:Src P w b l2 vs2 S2)(hz:IsZip s.heap Z U W .none)(hU:IsPair s.heap U (.ref a) (.ref b))(hW:IsPair s.heap W c d)(h1:S1 k s.heap)(h2:S2 k s.heap)(hx:vs1[k]? = some x)(hy:vs2[k]? = some y)
  (hQ:∀h',IsZip h' Z U W (rawInt s.heap.objs.size)->IsPair h' W x y->S1 (k+1) h'->S2 (k+1) h'->IsPair h' s.heap.objs.size x y->h'.objs.size=s.heap.objs.size+1->(∀e o,e≠Z->e≠W->e≠a->e≠b->s.heap.get? e=some o->h'.get? e=some o)->Q (.ref s.heap.objs.size) {s with heap:=h'}) :
  wpAny (model P w) A (Builtin.«zip.__next__» ⟨[.ref Z],[]⟩) (λfin s'=>∃v,fin=.done (.ret v)/\Q v s') E s:=by
 show wpAny _ _ (field (.ref Z) 2 >>= _) _ _ _;refine wpAny_bind (wpAny_field hz rfl (x:=.bool false) rfl ?_);show wpAny _ _ (field (.ref Z) 3 >>= _) _ _ _;refine wpAny_bind (wpAny_field hz rfl (x:=.ref U) rfl (wpAny_bind (wpAny_seqItems hU rfl ?_)));show wpAny _ _ (Builtin.SmallTypes.ownedTupleIsFree (.ref Z) >>= _) _ _ _;refine wpAny_bind ?_;unfold Builtin.SmallTypes.ownedTupleIsFree;refine wpAny_bind (wpAny_field hz rfl (x:=.none) rfl (wpAny_pure ?_));simp only[if_true];refine wpAny_bind (wpAny_rule (wpAny_bind (wpAny_field hz rfl (x:=.ref W) rfl ?_)));refine wpAny_bind (wpAny_setField_rec hz (by simp) λg1 z1 t1=>?_)
 replace z1:IsZip g1 Z U W .ellipsis:=z1
 refine wpAny_bind ?_;simp only[List.zipIdx_cons,List.zipIdx_nil,List.forIn_cons,List.forIn_nil];refine wpAny_bind (wpAny_bind (wpAny_onRaise ?_));show wpAny _ _ (Builtin.SmallTypes.nextOf (.ref a) >>= _) _ _ _;refine wpAny_bind (R1.step k x (R1.ext h1 t1.extBut D.i1z D.l1z) hx λg2 r2 t2=>wpAny_pure ?_);have w2:IsPair g2 W c d:=t2.extBut _ _ D.TOi1 (t1.extBut _ _ D.TOz hW);refine wpAny_bind (wpAny_seqItems w2 rfl (wpAny_bind (wpAny_updateSeq_pair w2 λg3 w3 t3=>?_)))
 replace w3:IsPair g3 W x d:=w3
 refine wpAny_bind (wpAny_letGo (wpAny_pure ?_));refine wpAny_bind (wpAny_bind (wpAny_onRaise ?_));show wpAny _ _ (Builtin.SmallTypes.nextOf (.ref b) >>= _) _ _ _;refine wpAny_bind (R2.step k y (R2.ext (R2.ext (R2.ext h2 t1.extBut D.i2z D.l2z) t2.extBut D.i12.symm D.l2i1) t3.extBut D.TOi2.symm D.l2TO) hy λg4 r4 t4=>wpAny_pure ?_);have w4:IsPair g4 W x d:=t4.extBut _ _ D.TOi2 w3;refine wpAny_bind (wpAny_seqItems w4 rfl (wpAny_bind (wpAny_updateSeq_pair w4 λg5 w5 t5=>?_)))
 replace w5:IsPair g5 W x y:=w5
 refine wpAny_bind (wpAny_letGo (wpAny_pure (wpAny_pure (wpAny_bind (wpAny_seqItems w5 rfl (wpAny_bind (wpAny_newTuple ?_)))))));have sz:g5.objs.size=s.heap.objs.size:=by rw[t5.1,t4.1,t3.1,t2.1,t1.1]
 have z5:IsZip g5 Z U W .ellipsis:=t5.extBut _ _ D.TOz.symm (t4.extBut _ _ D.i2z.symm (t3.extBut _ _ D.TOz.symm (t2.extBut _ _ D.i1z.symm z1)));have kk:∀e o,e≠Z->e≠W->e≠a->e≠b->s.heap.get? e=some o->g5.get? e=some o:=λe o n1 n2 n3 n4 z=>t5.extBut _ _ n2 (t4.extBut _ _ n4 (t3.extBut _ _ n2 (t2.extBut _ _ n3 (t1.extBut _ _ n1 z))));have r15:S1 (k+1) g5:=R1.ext (R1.ext (R1.ext r2 t3.extBut D.TOi1.symm D.l1TO) t4.extBut D.i12 D.l1i2) t5.extBut D.TOi1.symm D.l1TO;have r25:S2 (k+1) g5:=R2.ext r4 t5.extBut D.TOi2.symm D.l2TO;have zlt:Z<g5.objs.size:=Heap.lt_size z5;show wpAny _ _ (Builtin.SmallTypes.ownedTupleHandOut (.ref Z) (.ref g5.objs.size) >>= _) _ _ _;refine wpAny_bind ?_;unfold Builtin.SmallTypes.ownedTupleHandOut;have z6:IsZip (g5.push {cls:=.type "tuple",data:=.seq #[x,y]}) Z U W .ellipsis:=Heap.get?_push_of_some _ z5;refine wpAny_bind (wpAny_setField_rec z6 (by simp) λg7 z7 t7=>?_)
 replace z7:IsZip g7 Z U W (rawInt g5.objs.size):=z7
 refine wpAny_setField_rec z7 (by simp) λg8 z8 t8=>?_
 replace z8:IsZip g8 Z U W (rawInt g5.objs.size):=z8
 have up:∀e o,e≠Z->g5.get? e=some o->g8.get? e=some o:=λe o n z=>t8.extBut _ _ n (t7.extBut _ _ n (Heap.get?_push_of_some _ z));have T8:IsPair g8 g5.objs.size x y:=t8.extBut _ _ (Nat.ne_of_gt zlt) (t7.extBut _ _ (Nat.ne_of_gt zlt) (Heap.get?_push_size _ rfl));have s8:g8.objs.size=g5.objs.size+1:=by rw[t8.1,t7.1,Heap.size_push]
 rw[sz]at z8 T8 s8;refine wpAny_pure ⟨_,rfl,?_⟩;show Q (.ref g5.objs.size) _;rw[sz];exact hQ g8 z8 (up _ _ D.TOz w5) (R1.keep _ _ _ r15 (λo z=>up _ o D.i1z z) (λo z=>up _ o D.l1z z)) (R2.keep _ _ _ r25 (λo z=>up _ o D.i2z z) (λo z=>up _ o D.l2z z)) T8 s8 λe o n1 n2 n3 n4 z=>up e o n1 (kk e o n1 n2 n3 n4 z)
theorem z1s{Q:Fin->Shared->Prop}(hh:A.handled=none)(D:ZipApart Z U W a b l1 l2)(R1:Src P w a l1 vs1 S1)(R2:Src P w b l2 vs2 S2)(hz:IsZip s.heap Z U W .none)(hU:IsPair s.heap U (.ref a) (.ref b))(hW:IsPair s.heap W c d)(h1:S1 k s.heap)(h2:S2 k s.heap)(hend:vs1[k]? = none\/vs2[k]? = none)
  (hE:∀h' e,(∀f o,f≠Z->f≠W->f≠a->f≠b->s.heap.get? f=some o->h'.get? f=some o)->(∃o,h'.get? e=some o/\o.cls=.type "StopIteration")->E (.ref e) {s with heap:=h'}) :
  wpAny (model P w) A (Builtin.«zip.__next__» ⟨[.ref Z],[]⟩) Q E s:=by
 show wpAny _ _ (field (.ref Z) 2 >>= _) _ _ _;refine wpAny_bind (wpAny_field hz rfl (x:=.bool false) rfl ?_);show wpAny _ _ (field (.ref Z) 3 >>= _) _ _ _;refine wpAny_bind (wpAny_field hz rfl (x:=.ref U) rfl (wpAny_bind (wpAny_seqItems hU rfl ?_)));show wpAny _ _ (Builtin.SmallTypes.ownedTupleIsFree (.ref Z) >>= _) _ _ _;refine wpAny_bind ?_;unfold Builtin.SmallTypes.ownedTupleIsFree;refine wpAny_bind (wpAny_field hz rfl (x:=.none) rfl (wpAny_pure ?_));simp only[if_true];refine wpAny_bind (wpAny_rule (wpAny_bind (wpAny_field hz rfl (x:=.ref W) rfl ?_)));refine wpAny_bind (wpAny_setField_rec hz (by simp) λg1 z1 t1=>?_)
 replace z1:IsZip g1 Z U W .ellipsis:=z1
 refine wpAny_bind ?_;simp only[List.zipIdx_cons,List.zipIdx_nil,List.forIn_cons,List.forIn_nil];refine wpAny_bind (wpAny_bind (wpAny_onRaise ?_));show wpAny _ _ (Builtin.SmallTypes.nextOf (.ref a) >>= _) _ _ _;cases hx:vs1[k]? with
 | none=>
  refine wpAny_bind (R1.stop k hh (R1.ext h1 t1.extBut D.i1z D.l1z) hx λg2 e t2 he=>?_);obtain⟨oe,q1,q2⟩:=he;have z2:IsZip g2 Z U W .ellipsis:=t2 _ _ D.i1z.symm z1;have ez:e≠Z:=λz=>by subst z;rw[z2]at q1;cases q1;simp at q2
  exact wpAny_setField_rec z2 (by simp) λg3 _ t3=>hE g3 e (λf o n1 _ n3 _ z=>t3.extBut _ _ n1 (t2 _ _ n3 (t1.extBut _ _ n1 z))) ⟨oe,t3.extBut _ _ ez q1,q2⟩
 | some x=>
  have hy:vs2[k]? = none:=by rcases hend with h | h;rw[hx]at h;cases h;exact h
  refine wpAny_bind (R1.step k x (R1.ext h1 t1.extBut D.i1z D.l1z) hx λg2 r2 t2=>wpAny_pure ?_);have w2:IsPair g2 W c d:=t2.extBut _ _ D.TOi1 (t1.extBut _ _ D.TOz hW);refine wpAny_bind (wpAny_seqItems w2 rfl (wpAny_bind (wpAny_updateSeq_pair w2 λg3 w3 t3=>?_)));refine wpAny_bind (wpAny_letGo (wpAny_pure ?_));refine wpAny_bind (wpAny_bind (wpAny_onRaise ?_));show wpAny _ _ (Builtin.SmallTypes.nextOf (.ref b) >>= _) _ _ _;refine wpAny_bind (R2.stop k hh (R2.ext (R2.ext (R2.ext h2 t1.extBut D.i2z D.l2z) t2.extBut D.i12.symm D.l2i1) t3.extBut D.TOi2.symm D.l2TO) hy λg4 e t4 he=>?_);obtain⟨oe,q1,q2⟩:=he;have z4:IsZip g4 Z U W .ellipsis:=t4 _ _ D.i2z.symm (t3.extBut _ _ D.TOz.symm (t2.extBut _ _ D.i1z.symm z1));have ez:e≠Z:=λz=>by subst z;rw[z4]at q1;cases q1;simp at q2
  exact wpAny_setField_rec z4 (by simp) λg5 _ t5=>hE g5 e (λf o n1 n2 n3 n4 z=>t5.extBut _ _ n1 (t4 _ _ n4 (t3.extBut _ _ n2 (t2.extBut _ _ n3 (t1.extBut _ _ n1 z))))) ⟨oe,t5.extBut _ _ ez q1,q2⟩
theorem z0o{Q:Option Value->Shared->Prop}(D:ZipApart Z U W a b l1 l2)(R1:Src P w a l1 vs1 S1)(R2:Src P w b l2 vs2 S2)(hz:IsZip s.heap Z U W .none)(hU:IsPair s.heap U (.ref a) (.ref b))(hW:IsPair s.heap W c d)(h1:S1 k s.heap)(h2:S2 k s.heap)(hx:vs1[k]? = some x)(hy:vs2[k]? = some y)
  (hQ:∀h',IsZip h' Z U W (rawInt s.heap.objs.size)->IsPair h' W x y->S1 (k+1) h'->S2 (k+1) h'->IsPair h' s.heap.objs.size x y->h'.objs.size=s.heap.objs.size+1->(∀e o,e≠Z->e≠W->e≠a->e≠b->s.heap.get? e=some o->h'.get? e=some o)->Q (some (.ref s.heap.objs.size)) {s with heap:=h'}) :
  wpAny (model P w) A (pyNext (.ref Z)) Q E s:=by
 have T:s.TypeIs (.ref Z) "zip":=⟨_,hz,rfl⟩;unfold pyNext;exact wpAny_bind (wpAny_attempt (wpAny_callSpecial?_slot (name:=Str.ofString "__next__") T F.slot_zip_next (wpAny_call_entry F.slot_zip_next T F.entry_zip_next (z0T D R1 R2 hz hU hW h1 h2 hx hy λh' b1 b2 b3 b4 b5 b6 b7=>wpAny_pure (hQ h' b1 b2 b3 b4 b5 b6 b7)) (F.args_zip_next_1 _))))
theorem q8U{Q:Option Value->Shared->Prop}(hh:A.handled=none)(D:ZipApart Z U W a b l1 l2)(R1:Src P w a l1 vs1 S1)(R2:Src P w b l2 vs2 S2)(hz:IsZip s.heap Z U W .none)(hU:IsPair s.heap U (.ref a) (.ref b))(hW:IsPair s.heap W c d)(h1:S1 k s.heap)(h2:S2 k s.heap)(hend:vs1[k]? = none\/vs2[k]? = none)
  (hQ:∀h',(∀f o,f≠Z->f≠W->f≠a->f≠b->s.heap.get? f=some o->h'.get? f=some o)->Q none {s with heap:=h'}):wpAny (model P w) A (pyNext (.ref Z)) Q E s:=by
 have T:s.TypeIs (.ref Z) "zip":=⟨_,hz,rfl⟩;unfold pyNext;refine wpAny_bind (wpAny_attempt (wpAny_callSpecial?_slot (name:=Str.ofString "__next__") T F.slot_zip_next (wpAny_call_entry F.slot_zip_next T F.entry_zip_next (z1s hh D R1 R2 hz hU hW h1 h2 hend λh' e hk he=>?_) (F.args_zip_next_1 _))));obtain⟨o,q1,q2⟩:=he;exact wpAny_bind (wpAny_isInstance (T:="StopIteration") (b:=true) ⟨o,q1,q2⟩ isSubtype_stop (wpAny_pure (hQ _ hk)))
end
def SqK(t:Bool)(h:Heap)(l:Addr)(vs:Array Value):Prop:=match t with | false=>h.IsList l vs | true=>h.IsTuple l vs
def sK(t:Bool)(ia la:Addr)(vs:Array Value):Nat->Heap->Prop:=match t with | false=>sL ia la vs | true=>sT ia la vs
theorem z1T{P:Program}{w:World}{ia la:Addr}{vs:Array Value}(t:Bool)(ne:la≠ia):Src P w ia la vs (sK t ia la vs):=by
 cases t
 ·exact z1P ne
 ·exact z2T ne
def itN:Bool->String | false=>"list_iterator" | true=>"tuple_iterator"
abbrev itO(t:Bool)(l:Addr):Obj:={cls:=.type (itN t),data:=.fields #[.ref l,.int 0 0]}
abbrev zH1(h:Heap)(t1:Bool)(l1:Addr):Heap:=h.push (itO t1 l1)
abbrev zH2(h:Heap)(t1 t2:Bool)(l1 l2:Addr):Heap:=(zH1 h t1 l1).push (itO t2 l2)
abbrev zH3(h:Heap)(t1 t2:Bool)(l1 l2:Addr):Heap:=(zH2 h t1 t2 l1 l2).push {cls:=.type "tuple",data:=.seq #[.ref h.objs.size,.ref (zH1 h t1 l1).objs.size]}
abbrev zH4(h:Heap)(t1 t2:Bool)(l1 l2:Addr):Heap:=(zH3 h t1 t2 l1 l2).push {cls:=.type "tuple",data:=.seq #[.none,.none]}
abbrev zH5(h:Heap)(t1 t2:Bool)(l1 l2:Addr):Heap:=(zH4 h t1 t2 l1 l2).push {cls:=.type "zip",data:=.fields #[.none,.bool false,.bool false,.ref (zH2 h t1 t2 l1 l2).objs.size,.ref (zH3 h t1 t2 l1 l2).objs.size]}
theorem z0U(t1 t2:Bool)(l1 l2:Addr)(vs1 vs2:Array Value):Meets (Builtin.«zip.__new__» ⟨[.type "zip",.ref l1,.ref l2],[]⟩) (λ_ R s=>SqK t1 s.heap l1 vs1/\SqK t2 s.heap l2 vs2/\R (.ok (.ret (.ref (zH4 s.heap t1 t2 l1 l2).objs.size))) {s with heap:=zH5 s.heap t1 t2 l1 l2}):=
 .of_wp λP w A R s h=>by
  obtain⟨h0,g0,d0,k0,o0⟩:=s;obtain⟨q1,q2,h⟩:=h;have hsub:=sub_zip;cases t1<;>cases t2
  ·have e1:Heap.IsList (Shared.heap ⟨h0,g0,d0,k0,o0⟩) l1 vs1:=q1;have e2:Heap.IsList (Shared.heap ⟨h0.push {cls:=.type "list_iterator",data:=.fields #[.ref l1,.int 0 0]},g0,d0,k0,o0⟩) l2 vs2:=Heap.IsList.push q2 _
   wp_walk using wpAny_pyIter_list e1,wpAny_pyIter_list e2
   exact⟨_,rfl,h⟩
  ·have e1:Heap.IsList (Shared.heap ⟨h0,g0,d0,k0,o0⟩) l1 vs1:=q1;have e2:Heap.IsTuple (Shared.heap ⟨h0.push {cls:=.type "list_iterator",data:=.fields #[.ref l1,.int 0 0]},g0,d0,k0,o0⟩) l2 vs2:=Heap.IsTuple.push q2 _
   wp_walk using wpAny_pyIter_list e1,wpAny_pyIter_tuple e2
   exact⟨_,rfl,h⟩
  ·have e1:Heap.IsTuple (Shared.heap ⟨h0,g0,d0,k0,o0⟩) l1 vs1:=q1;have e2:Heap.IsList (Shared.heap ⟨h0.push {cls:=.type "tuple_iterator",data:=.fields #[.ref l1,.int 0 0]},g0,d0,k0,o0⟩) l2 vs2:=Heap.IsList.push q2 _
   wp_walk using wpAny_pyIter_tuple e1,wpAny_pyIter_list e2
   exact⟨_,rfl,h⟩
  ·have e1:Heap.IsTuple (Shared.heap ⟨h0,g0,d0,k0,o0⟩) l1 vs1:=q1;have e2:Heap.IsTuple (Shared.heap ⟨h0.push {cls:=.type "tuple_iterator",data:=.fields #[.ref l1,.int 0 0]},g0,d0,k0,o0⟩) l2 vs2:=Heap.IsTuple.push q2 _
   wp_walk using wpAny_pyIter_tuple e1,wpAny_pyIter_tuple e2
   exact⟨_,rfl,h⟩
theorem z2f{t:Bool}{ia la:Addr}{vs:Array Value}{h h':Heap}(e:h'.get? ia=some (itO t la))(q:SqK t h la vs)(k:∀c o,h.get? c=some o->h'.get? c=some o):sK t ia la vs 0 h':=by
 cases t
 ·exact⟨⟨_,e,rfl,rfl⟩,Heap.IsList.at q λo z=>k _ o z⟩
 ·exact⟨⟨_,e,rfl,rfl⟩,by obtain⟨o,z,r⟩:=q;exact⟨o,k _ o z,r⟩⟩
theorem z0z{P:Program}{w:World}{A:Around}{E:Value->Shared->Prop}{s:Shared}{l1 l2:Addr}{vs1 vs2:Array Value}{Q:Value->Shared->Prop}(t1 t2:Bool)(q1:SqK t1 s.heap l1 vs1)(q2:SqK t2 s.heap l2 vs2)
  (h:∀h',IsZip h' (s.heap.objs.size+4) (s.heap.objs.size+2) (s.heap.objs.size+3) .none->IsPair h' (s.heap.objs.size+2) (.ref s.heap.objs.size) (.ref (s.heap.objs.size+1))->IsPair h' (s.heap.objs.size+3) .none .none->sK t1 s.heap.objs.size l1 vs1 0 h'->sK t2 (s.heap.objs.size+1) l2 vs2 0 h'->h'.objs.size=s.heap.objs.size+5 ->
   (∀c o,s.heap.get? c=some o->h'.get? c=some o)->Q (.ref (s.heap.objs.size+4)) {s with heap:=h'}):wpAny (model P w) A (call (.type "zip") [.ref l1,.ref l2]) Q E s:=by
 refine callType_new F.called_zip (by decide) (F.typeCall_zip_2 _ _) (F.newCall_zip_2 _ _) (λobj=>F.args_object_init_3 obj _ _) F.entry_zip_new (z0U t1 t2 l1 l2 vs1 vs2) ⟨q1,q2,?_⟩;have n1:(zH1 s.heap t1 l1).objs.size=s.heap.objs.size+1:=Heap.size_push ..;have n2:(zH2 s.heap t1 t2 l1 l2).objs.size=s.heap.objs.size+2:=by rw[Heap.size_push,n1]
 have n3:(zH3 s.heap t1 t2 l1 l2).objs.size=s.heap.objs.size+3:=by rw[Heap.size_push,n2]
 have n4:(zH4 s.heap t1 t2 l1 l2).objs.size=s.heap.objs.size+4:=by rw[Heap.size_push,n3]
 have n5:(zH5 s.heap t1 t2 l1 l2).objs.size=s.heap.objs.size+5:=by rw[Heap.size_push,n4]
 have e5:(zH5 s.heap t1 t2 l1 l2).get? (zH4 s.heap t1 t2 l1 l2).objs.size=some _:=Heap.get?_push_size _ rfl;have e4:(zH5 s.heap t1 t2 l1 l2).get? (zH3 s.heap t1 t2 l1 l2).objs.size=some _:=Heap.get?_push_of_some _ (Heap.get?_push_size _ rfl);have e3:(zH5 s.heap t1 t2 l1 l2).get? (zH2 s.heap t1 t2 l1 l2).objs.size=some _:=Heap.get?_push_of_some _ (Heap.get?_push_of_some _ (Heap.get?_push_size _ rfl));have e2:(zH5 s.heap t1 t2 l1 l2).get? (zH1 s.heap t1 l1).objs.size=some _:=Heap.get?_push_of_some _ (Heap.get?_push_of_some _ (Heap.get?_push_of_some _ (Heap.get?_push_size _ rfl)));have e1:(zH5 s.heap t1 t2 l1 l2).get? s.heap.objs.size=some _:=Heap.get?_push_of_some _ (Heap.get?_push_of_some _ (Heap.get?_push_of_some _ (Heap.get?_push_of_some _ (Heap.get?_push_size _ rfl))));have kp:∀c o,s.heap.get? c=some o->(zH5 s.heap t1 t2 l1 l2).get? c=some o:=λc o z=>Heap.get?_push_of_some _ (Heap.get?_push_of_some _ (Heap.get?_push_of_some _ (Heap.get?_push_of_some _ (Heap.get?_push_of_some _ z))));show _/\_;rw[n2,n3,n4]at e5;rw[n1,n2]at e3;rw[n3]at e4;rw[n1]at e2;rw[n4];exact⟨⟨_,e5,rfl⟩,h _ e5 e3 e4 (z2f e1 q1 kp) (z2f e2 q2 kp) n5 kp⟩
end L2
end
noncomputable section
namespace PySem
section
variable {prog:Program} {w:World} {A:Around} {E:Value->Shared->Prop} {s:Shared}
theorem q2F(a b:Int):Builtin.Range.rangeSize a b (-1)=if b<a then a - b else 0:=by
 unfold Builtin.Range.rangeSize;simp
theorem q8k{a b:Int}(ha : -(2^62)<=a)(ha':a<2^62)(hb : -(2^62)<=b)(hb':b<2^62):Builtin.Range.small a b (-1)=true:=by
 unfold Builtin.Range.small;rw[q2F];simp only[Builtin.Range.rangeFitsLong,Bool.and_eq_true,Bool.or_eq_true,decide_eq_true_eq,beq_iff_eq,show ¬((-1:Int)>0) by decide,if_false];split<;>omega
end
end PySem
namespace L2
open PySem PySem.Spec PyProof.Rows
variable {X:Cx} {tg:Expr}
def Itd(hi:Int)(n:Nat):It:=⟨λi _=>i<n,λi H x H'=>H'=H/\x=.int (hi - i),λi _=>n<=i⟩
theorem q9x{P:Program}{w:World}{K:PySem.W.Frag}{tg:Expr}(it:Addr)(hi:Int)(n:Nat):Turn P w K tg (Itd hi n) [it] it (λi h=>IsRangeIter h it (hi+(i:Nat)*(-1)) ((n:Int) - (i:Nat)) (-1)) where
 mem:=by simp
 obj:=λi h st b hb=>by
  have e:b=it:=by simpa using hb
  subst e;exact⟨_,st,λv z=>by
   have z':Data.fields _=Data.cell v:=z;cases z'⟩
 keep:=λi h h' st k=>k it (by simp) _ st
 item:=by
  intro X hP hw hK hc i pins s σ H E I hf st hg;subst hP hw hK;obtain⟨f0,f1,f2,f3,f4,f5⟩:=hf it (by simp);have W:=Walks.range (prog:=X.prog) (w:=X.w) (I.ok.hd hc) it hi (-1) n;refine W.item i s _ _ hg st λv h' tk hv st' kk=>?_
  obtain⟨t,rfl⟩:=hv;have I1:Inv X pins σ H {s with heap:=h',toks:=tk}:=I.turned (λb o hb e=>kk b o (by simpa using hb) e) f0 f1 f3 f4 f5;refine⟨_,rfl,q8j (s:={s with heap:=h',toks:=tk}) (n:="range_iterator") st' rfl rfl (by decide) ⟨.int (hi - i),H,I1,⟨t,?_⟩,⟨rfl,rfl⟩,st',λb hb=>(hf b hb).1⟩⟩;rw[show hi+(i:Int)*(-1)=hi - i by omega]
 done:=by
  intro X hP hw hK hc i pins s σ H E I hf st hg;subst hP hw hK;obtain⟨f0,f1,f2,f3,f4,f5⟩:=hf it (by simp);exact wpAny_pyNext_range_end (I.ok.hd hc) st (by have:n<=i:=hg;omega) λh' eb=>⟨rfl,I.turned (t':=s.toks) (λb o hb e=>eb b o hb e) f0 f1 f3 f4 f5⟩
 self:=λ_ _ _ _ _ st h=>wpAny_pyIter_rangeiter st h
theorem z3d{pins:List (Addr×Obj)}{σ:St}{H:Hp}{s:Shared}{R:It->Hp->Prop}{E:Value->Shared->Prop}{lo hi:Int}{t u v:Tok}{tk:Nat}(I:Inv X pins σ H s)(h1 : -(2^62)<=lo)(h2:lo<2^62)(h3 : -(2^62)<=hi)(h4:hi<2^62)
  (q:R (Itd lo (lo - hi).toNat) H):wpAny (model X.prog X.w) X.A (pyIter (.ref s.heap.objs.size)) (PIE X pins σ tg R) E {s with heap:=s.heap.push {cls:=.type "range",data:=.fields #[.int lo t,.int hi u,.int (-1) v]},toks:=tk}:=by
 refine wpAny_pyIter_range (IsRange.new ..) (q8k h1 h2 h3 h4) ?_;have I1:Inv X pins σ H {s with heap:=s.heap.push {cls:=.type "range",data:=.fields #[.int lo t,.int hi u,.int (-1) v]},toks:=tk}:=I.kept λb o e=>Heap.get?_push_of_some _ e;refine⟨(s.heap.push {cls:=.type "range",data:=.fields #[.int lo t,.int hi u,.int (-1) v]}).objs.size,[(s.heap.push {cls:=.type "range",data:=.fields #[.int lo t,.int hi u,.int (-1) v]}).objs.size],_,_,H,rfl,
  I1.kept (t':=tk) λb o e=>Heap.get?_push_of_some _ e,q9x _ lo (lo - hi).toNat,?_,λb hb=>?_,q⟩
 ·have e1:lo+((0:Nat):Int)*(-1)=lo:=by simp
  have e2:(((lo - hi).toNat:Nat):Int) - ((0:Nat):Int)=Builtin.Range.rangeSize lo hi (-1):=by rw[q2F];split<;>omega
  show IsRangeIter _ _ (lo+((0:Nat):Int)*(-1)) ((((lo - hi).toNat:Nat):Int) - ((0:Nat):Int)) (-1);rw[e1,e2];exact Heap.get?_push_size _ rfl
 ·have e:b=(s.heap.push {cls:=.type "range",data:=.fields #[.int lo t,.int hi u,.int (-1) v]}).objs.size:=by simpa using hb
  subst e;exact I1.fpOk (Nat.le_refl _) (I1.hok.fresh (Nat.le_refl _))
def z6Y(ta:TA):TI:=λσ H R=>ta σ H λvs H1=>∃i j:Int,vs=[.int i,.int j,.int (-1)]/\(-(2^62)<=i/\i<2^62 /\ -(2^62)<=j/\j<2^62)/\R (Itd i (i - j).toNat) H1
theorem noPl(a:Int):Builtin.divisionGoesByPylong a (-1)=false:=PyProof.noPylong_small (by omega)
theorem q9w{a b c:Expr}{ta:TA}{p pos:Pos}(hg:Gl X "range")(hm:X.mg "range" = none)(ha:PA X [a,b,c] ta)(hs:starEach [a,b,c] X.env=[(false,eval a X.env),(false,eval b X.env),(false,eval c X.env)])(hs2:starEach [b,c] X.env=[(false,eval b X.env),(false,eval c X.env)]) :
  PI X tg (.Call (.Name "range" p) [a,b,c] [] pos) (z6Y ta):=by
 intro pins s σ H R I h;refine Call_ (q3P I hg hm boot_range (PyProof.Rows.callWith_type1 (thn (ha pos pins s σ H _ I h) λus s1 ⟨vs,H1,I1,r1,q1⟩=>?_) (by rw[hs,hs2]) (by rw[hs2];rfl)));obtain⟨i,j,e,⟨q1,q2,q3,q4⟩,q⟩:=q1;subst e;cases r1 with
 | cons r rr=>
  cases rr with
  | cons r' rr=>
   cases rr with
   | cons r'' rr=>
    cases rr;obtain⟨t,rfl⟩:=r;obtain⟨t',rfl⟩:=r';obtain⟨t'',rfl⟩:=r'';exact call_range_3 (by decide) (z3d I1 q1 q2 q3 q4 q) (Or.inl (noPl _))
end L2
end
noncomputable section
namespace L2
open PySem
inductive DKey where
 | i (n:Int) | s (x:Str) | t (l:List (Sum Int Str))
 deriving DecidableEq
inductive Bi where
 | len | min | sum | all | list | tuple
 deriving DecidableEq
inductive Mt where
 | bitLength | index | get
 deriving DecidableEq
inductive Tg where
 | one (i:Nat) | many (is:List Nat)
inductive ME where
 | var (i:Nat) | int (i:Int) | bl (b:Bool) | str (x:Str) | non | glb (x:Str)
 | bin (op:Operator) (a b:ME)   | not (a:ME)
 | cmp (op:CmpOp) (a b:ME)
 | and (es:List ME) | or (es:List ME)
 | lst (es:List ME) | tup (es:List ME)  | dc0
 | ix (a b:ME) | sl (a lo hi:ME)
 | call (f:Nat) (es:List ME)    | bi (f:Bi) (es:List ME) | isi (a:ME) (ts:List Str)  | meth (m:Mt) (a:ME) (es:List ME)
 | comp (elt:ME) (tg:Tg) (it:ME) (fr:List (Option Nat)) | compi (elt:ME) (tg:Tg) (it c:ME) (fr:List (Option Nat))
 | srd (i:Nat)
 | rng (es:List ME)  | zp (a b:ME)
structure LamD where
 N:List Str
 np:Nat
 body:ME
 fn:List Str
 bl:List Str
 cl:List Str
inductive DV where
 | non | bl (b:Bool) | int (i:Int) | str (x:Str) | tup (ds:List DV) | lst (ds:List DV) | dct (ks:List DKey) (vs:List DV)
 | exc (c:Str) | fn (x:Str)
 | lam (m:LamD) (ds:List DV)
 | scr (ns:List Int)
inductive Cl where
 | weak | top | strong | fresh | ft
 deriving DecidableEq
inductive Re where
 | ok (d:DV) (c:Cl) | ex (c:Str)
inductive Rs where
 | ok (l:List (DV×Cl)) | ex (c:Str)
inductive Rt where
 | ok (b:Bool) | ex (c:Str)
inductive Sv where
 | no | val (d:DV) | own (d:DV) | ot (d:DV)
 | o2 (d:DV)
 | od (d:DV)
def otD:DV->DV
 | .dct _ ds=>.tup ds
 | d=>d
inductive Ou where
 | v (d:DV) (fr:Bool) | x (c:Str) | t (d:DV)
inductive Out where
 | nx (δ:List Sv) | rt (d:DV) (fr:Bool) | ex (c:Str) (δ:List Sv) | rtt (d:DV)
 | rtm (d s:DV)
inductive MS where
  | set (i:Nat) (own:Bool) (e:ME)
  | app (i:Nat) (e:ME)  | seti (i:Nat) (k e:ME)
   | ret (e:ME)  | iff (c:ME) (a b:List MS) | fo (tg:Tg) (it:ME) (body:List MS)
  | ses (i:Nat) | dpt (i:Nat) (ks:List ME) (e:ME)
  | frz (i:Nat)
structure FD where
 n:Nat
 np:Nat
 dfl:List DV:=[]
 kn:Option (List Str):=none
 body:List MS
def Re.thn(r:Option Re)(k:DV->Cl->Option Re):Option Re:=match r with
 | none=>none
 | some (.ex c)=>some (.ex c)
 | some (.ok d c)=>k d c
def Rs.thn(r:Option Rs)(k:List (DV×Cl)->Option Re):Option Re:=match r with
 | none=>none
 | some (.ex c)=>some (.ex c)
 | some (.ok l)=>k l
def Re.thnT(r:Option Re)(k:DV->Cl->Option Rt):Option Rt:=match r with
 | none=>none
 | some (.ex c)=>some (.ex c)
 | some (.ok d c)=>k d c
mutual
def DV.immut:DV->Bool
 | .non=>true | .bl _=>true | .int _=>true | .str _=>true | .exc _=>true | .fn _=>true | .scr _=>true
 | .tup ds=>DV.immuts ds
 | .lst _=>false
 | .lam _ _=>false
 | .dct _ vs=>DV.immuts vs
def DV.immuts:List DV->Bool
 | []=>true
 | d::r=>d.immut&&DV.immuts r
end
mutual
def DV.nolam:DV->Bool
 | .lam _ _=>false
 | .tup ds=>DV.nolams ds
 | .lst ds=>DV.nolams ds
 | .dct _ vs=>DV.nolams vs
 | _=>true
def DV.nolams:List DV->Bool
 | []=>true
 | d::r=>d.nolam&&DV.nolams r
end
def stro(d:DV):Cl->Bool
 | .strong=>true | .fresh=>true | .ft=>true | _=>d.immut
def stros(l:List (DV×Cl)):Bool:=l.all λp=>stro p.1 p.2
def Cl.item:Cl->Cl
 | .weak=>.weak | _=>.strong
def Cl.anew:Cl->Cl->Cl
 | .weak,_=>.weak | _,.weak=>.weak | _,_=>.fresh
def Cl.notF:Cl->Cl
 | .fresh=>.strong | c=>c
def mostLen:Nat:=1000000
mutual
def deq:DV->DV->Bool
 | .non,.non=>true
 | .bl a,.bl b=>a==b
 | .bl a,.int j=>(if a then 1 else 0)==j
 | .int i,.bl b=>i==(if b then 1 else 0)
 | .int i,.int j=>i==j
 | .str a,.str b=>decide (a=b)
 | .tup a,.tup b=>deqs a b
 | .lst a,.lst b=>deqs a b
 | _,_=>false
def deqs:List DV->List DV->Bool
 | [],[]=>true
 | a::r,b::s=>deq a b&&deqs r s
 | _,_=>false
end
mutual
def DV.plain:Nat->DV->Bool
 | _,.non=>true | _,.bl _=>true | _,.int _=>true
 | _,.str x=>x.cps.all (· < 0x110000)
 | 0,_=>false
 | n+1,.tup ds=>DV.plains n ds | n+1,.lst ds=>DV.plains n ds
 | _,_=>false
def DV.plains:Nat->List DV->Bool
 | _,[]=>true
 | n,d::r=>d.plain n&&DV.plains n r
end
def q2j:DV->Option Bool
 | .non=>some false
 | .bl b=>some b
 | .int i=>some (i != 0)
 | .str x=>some (x.cps.size != 0)
 | .tup ds=>some (!ds.isEmpty)
 | .lst ds=>some (!ds.isEmpty)
 | _=>none
def q2m(n:Nat)(i:Int):Option Nat:=if 0<=i then(if i<n then some i.toNat else none)else if -(n:Int)<=i then some (i+n).toNat else none
def atD(ds:List DV)(i:Int):Option DV:=(q2m ds.length i).bind λj=>ds[j]?
def ixD(a b:DV):Option DV:=match a,b with
 | .scr ns,.int i=>((q2m ns.length i).bind λj=>ns[j]?).map DV.int
 | .lst ds,.int i=>atD ds i
 | .tup ds,.int i=>atD ds i
 | .str z,.int i=>(q2m z.cps.size i).bind λj=>(z.cps[j]?).map λc=>.str ⟨#[c]⟩
 | _,_=>none
def slIx(n d:Nat):Option Int->Nat
 | none=>d
 | some v=>if v<0 then(v+(n:Int)).toNat else min v.toNat n
def cutD(ds:List DV)(lo hi:Option Int):List DV:=(ds.drop (slIx ds.length 0 lo)).take (slIx ds.length ds.length hi - slIx ds.length 0 lo)
def slD(a:DV)(lo hi:Option Int):Option DV:=match a with
 | .scr ns=>some (.lst (cutD (ns.map DV.int) lo hi))
 | .lst ds=>some (.lst (cutD ds lo hi))
 | .tup ds=>if slIx ds.length 0 lo=0/\slIx ds.length ds.length hi=ds.length then none else some (.tup (cutD ds lo hi))
 | _=>none
def slCl(a:DV)(c:Cl):Cl:=match a with
 | .scr _=>.fresh
 | .lst _=>Cl.anew c c
 | _=>c.item
def q3C(i j:Int):Bool:=(decide (-(2^64)<i)&&decide (i<2^64))||(decide (-(2^64)<j)&&decide (j<2^64))||(decide (i.natAbs<2^2000)&&decide (j.natAbs<2^2000))
def binD(op:Operator)(a b:DV)(ca cb:Cl):Option Re:=match op,a,b with
 | .Add,.int i,.int j=>some (.ok (.int (i+j)) .strong)
 | .Sub,.int i,.int j=>some (.ok (.int (i - j)) .strong)
 | .Mult,.int i,.int j=>if q3C i j then some (.ok (.int (i*j)) .strong)else none
 | .Mod,.int i,.int j=>if 0<j then some (.ok (.int (i%j)) .strong)else if j≠0 then some (.ok (.int (i.fmod j)) .strong)else none
 | .FloorDiv,.int i,.int j=>if 0<j/\j<2^200 then some (.ok (.int (i/j)) .strong)else none
 | .LShift,.int i,.int j=>if 0<=j/\j<=1000000/\i.natAbs<2^64 then some (.ok (.int (i*2^j.toNat)) .strong)else none
 | .RShift,.int i,.int j=>if 0<=j then some (.ok (.int (i/2^j.toNat)) .strong)else none
 | .BitAnd,.int i,.int j=>some (.ok (.int (Builtin.bitAnd i j)) .strong)
 | .Add,.lst x,.lst y=>if x.length+y.length<=mostLen then some (.ok (.lst (x++y)) (Cl.anew ca cb))else none
 | .Add,.tup x,.tup y=>if x.length+y.length<=mostLen/\x≠[]then some (.ok (.tup (x++y)) (Cl.anew ca cb).notF)else none
 | .Mult,.lst x,.int k=>if x.length*k.toNat<=mostLen /\ -(2^63)<=k/\k<2^63 then some (.ok (.lst (List.replicate k.toNat x).flatten) (Cl.anew ca ca))else none
 | _,_,_=>none
def inS(x y:Str):Option Bool:=match y.cps.toList with
 | [c]=>some (decide (c∈x.cps.toList))
 | _=>none
def cmpD(op:CmpOp)(a b:DV):Option Bool:=match op,a,b with
 | .Lt,.int i,.int j=>some (decide (i<j))
 | .Gt,.int i,.int j=>some (decide (j<i))
 | .Eq,a,b=>if a.plain 60&&b.plain 60 then some (deq a b)else none
 | .NotEq,a,b=>if a.plain 60&&b.plain 60 then some (!deq a b)else none
 | .In,a,.lst ds=>if a.plain 60&&DV.plains 60 ds then some (ds.any λd=>deq d a)else none
 | .In,a,.tup ds=>if a.plain 60&&DV.plains 60 ds then some (ds.any λd=>deq d a)else none
 | .In,.str y,.str x=>inS x y
 | .NotIn,.str y,.str x=>(inS x y).map λb=>!b
 | _,_,_=>none
def ints?:List DV->Option (List Int)
 | []=>some []
 | .int i::r=>(ints? r).map (i :: ·)
 | _=>none
def bools?:List DV->Option (List Bool)
 | []=>some []
 | .bl i::r=>(bools? r).map (i :: ·)
 | _=>none
def minI:Int->List Int->Int
 | m,[]=>m
 | m,x::r=>minI (if x<m then x else m) r
def dk(σ:List Int)(k:Int):List Int:=if k∈σ then σ else σ++[k]
def q3Y(i:Int):Int:=if i=0 then 0 else(i.natAbs.log2:Int)+1
def lenD:List (DV×Cl)->Option Re
 | [(.lst ds,_)]=>some (.ok (.int ds.length) .strong)
 | [(.tup ds,_)]=>some (.ok (.int ds.length) .strong)
 | [(.scr ns,_)]=>some (.ok (.int ns.length) .strong)
 | [(.str z,_)]=>some (.ok (.int z.length) .strong)
 | _=>none
def minD:List (DV×Cl)->Option Re
 | [(.int i,_),(.int j,_)]=>some (.ok (.int (if j<i then j else i)) .strong)
 | [(.lst ds,c)]=>match ints? ds with
  | some (n::r)=>some (.ok (.int (minI n r)) .strong)
  | _=>none
 | [(.tup ds,_)]=>match ints? ds with
  | some (n::r)=>some (.ok (.int (minI n r)) .strong)
  | _=>none
 | _=>none
def ltP(p q:Int×Int):Bool:=decide (p.1<q.1)||(p.1==q.1&&decide (p.2<q.2))
def q2U:List (Int×Int)->Bool
 | []=>true
 | p::r=>match r with
  | []=>true
  | q::_=>ltP p q&&q2U r
def sumD:List (DV×Cl)->Option Re
 | [(.lst ds,_)]=>(ints? ds).map λns=>.ok (.int ns.sum) .strong
 | _=>none
def allD:List (DV×Cl)->Option Re
 | [(.lst ds,_)]=>(bools? ds).map λbs=>.ok (.bl (bs.all id)) .strong
 | _=>none
def q9A:List (DV×Cl)->Option Re
 | [(.scr ns,_)]=>some (.ok (.lst (ns.map DV.int)) .fresh)
 | [(.lst ds,c)]=>some (.ok (.lst ds) (Cl.anew c c))
 | [(.tup ds,c)]=>some (.ok (.lst ds) (Cl.anew c c))
 | _=>none
def q4A:List (DV×Cl)->Option Re
 | [(.lst ds,c)]=>some (.ok (.tup ds) c.item)
 | [(.tup ds,c)]=>some (.ok (.tup ds) c)
 | _=>none
def biD(f:Bi)(l:List (DV×Cl)):Option Re:=match f with
 | .len=>lenD l
 | .min=>minD l
 | .list=>q9A l
 | .tuple=>q4A l
 | .sum=>sumD l
 | .all=>allD l
def biOk:Bi->Bool
 | .len=>true | .min=>true | .list=>true | .tuple=>true | .sum=>true | .all=>true
def mtD(m:Mt)(a:DV):Option Re:=match m,a with
 | .bitLength,.int i=>some (.ok (.int (q3Y i)) .strong)
 | _,_=>none
structure Gs where
 dcs:List (Str×List (Str×Option DV)):=[]
 con:List (Str×DV)
 cls:List (Str×List Str)
 dfl:List (Nat×List DV):=[]
 kws:List (Nat×List Str):=[]
 hun:Bool:=false
 fnl:List Str:=[]
 bll:List Str:=[]
 cll:List Str:=[]
 rdc:Int:=-1
 mtx:Bool:=false
 prs:Nat->List DV->Option Ou:=λ_ _=>none
def q1H(G:Gs)(c c':Str):Bool:=c==c'||((G.cls.lookup c).getD []).contains c'
def fstG(acc:Str):List (DV×Cl)->Option Str
 | []=>some acc
 | (.str x,_)::r=>if acc.length+x.length<=mostLen then fstG (acc++x) r else none
 | _=>none
def tyOf:DV->List Str
 | .non=>["NoneType"]
 | .bl _=>["bool","int"]
 | .int _=>["int"]
 | .str _=>["str"]
 | .tup _=>["tuple"]
 | .lst _=>["list"]
 | .dct _ _=>["dict"]
 | _=>[]
def q2k:List Str:=["int","bool","str","list","tuple","dict"]
def isiD(G:Gs)(d:DV)(ts:List Str):Option Bool:=match d with
 | .scr _=>none
 | .exc _=>none
 | .fn _=>none
 | .lam _ _=>none
 | d=>match ts with
  | [t]=>if q2k.contains t then some ((tyOf d).contains t)else none
  | _=>none
def upTo(lo:Int)(n:Nat):List DV:=(List.range n).map λ(i:Nat)=>DV.int (lo+i)
def q4H(lo:Int)(n:Nat):List DV:=(List.range n).map λ(i:Nat)=>DV.int (lo - i)
def q0N(i:Int):Bool:=decide (-(2^62)<=i)&&decide (i<2^62)
def rngD(l:List (DV×Cl)):Option (List DV):=match l with
 | [(.int j,_)]=>if q0N j&&decide (j<=mostLen)then some (upTo 0 j.toNat)else none
 | [(.int i,_),(.int j,_)]=>if q0N i&&q0N j&&decide (j - i<=mostLen)then some (upTo i (j - i).toNat)else none
 | [(.int i,_),(.int j,_),(.int k,_)]=>if q0N i&&q0N j&&decide (i - j<=mostLen)&&decide (k = -1)then some (q4H i (i - j).toNat)else none
 | _=>none
def zpD:List DV->List DV->List DV
 | a::r,b::s=>.tup [a,b]::zpD r s
 | _,_=>[]
def Cl.meet:Cl->Cl->Cl
 | .weak,_=>.weak | _,.weak=>.weak | .top,_=>.top | _,.top=>.top | _,_=>.strong
def z3C:DV->Option (Bool×List DV)
 | .lst ds=>some (false,ds)
 | .tup ds=>some (true,ds)
 | _=>none
def zipD(x y:DV)(c c':Cl):Option Re:=match z3C x,z3C y with
 | some (_,xs),some (_,ys)=>some (.ok (.lst (zpD xs ys)) (Cl.meet c c'))
 | _,_=>none
def addK(k:DKey)(ks:List DKey):List DKey:=if k∈ks then ks else ks++[k]
def dptD(i:Nat)(δ:List Sv)(ks:List DKey)(l:List (DV×Cl))(d:DV):Option (List Sv):=match l,d with
 | [(.int a,_),(.int b,_)],.bl true=>if ks.length<mostLen then some (δ.set i (.od (.tup [.dct (addK (.t [.inl a,.inl b]) ks) [],.non])))else none
 | _,_=>none
def insP(p:Int×Int):List (Int×Int)->List (Int×Int)
 | []=>[p]
 | q::l=>if ltP p q then p::q::l else q::insP p l
def q3N(ps:List (Int×Int)):List (Int×Int):=ps.foldr insP []
def prK:List DKey->Option (List (Int×Int))
 | []=>some []
 | .t [.inl a,.inl b]::ks=>(prK ks).map ((a,b) :: ·)
 | _::_=>none
def srdD(ks:List DKey):Option Re:=match prK ks with
 | some ps=>if q2U (q3N ps)=true/\ps.length<=1000 then some (.ok (.lst ((q3N ps).map λp=>.tup [.int p.1,.int p.2])) .fresh)else none
 | none=>none
def seqD:DV->Option (List DV)
 | .scr ns=>some (ns.map DV.int)
 | .lst ds=>some ds
 | .tup ds=>some ds
 | .str x=>some (x.cps.toList.map λc=>.str ⟨#[c]⟩)
 | _=>none
def q4E(δ:List Sv):List Nat->List DV->Option (List Sv)
 | [],[]=>some δ
 | i::is,d::ds=>q4E (δ.set i (.val d)) is ds
 | _,_=>none
def Tg.bind(tg:Tg)(d:DV)(δ:List Sv):Option (List Sv):=match tg with
 | .one i=>some (δ.set i (.val d))
 | .many is=>match d with
  | .tup ds=>q4E δ is ds
  | _=>none
def Sv.plain:Sv->Sv
 | .ot _=>.no
 | .o2 _=>.no
 | s=>s
def q0K(fr:List (Option Nat))(δ:List Sv):List Sv:=fr.map λo=>match o with
 | some i=>(δ.getD i .no).plain
 | none=>.no
inductive Rc where
 | skip | item (d:DV)
def q0B(g:DV->Option Rc):List DV->Option (List DV)
 | []=>some []
 | d::r=>match g d with
  | none=>none
  | some .skip=>q0B g r
  | some (.item x)=>match q0B g r with
   | none=>none
   | some xs=>some (x::xs)
def q1o(r:Option (List DV)):Option Re:=match r with
 | none=>none
 | some xs=>some (.ok (.lst xs) .fresh)
def Rc.of(r:Option Re):Option Rc:=match r with
 | some (.ok d c)=>if stro d c then some (.item d)else none
 | _=>none
def Rc.test(t:Option Rt)(r:Option Rc):Option Rc:=match t with
 | some (.ok true)=>r
 | some (.ok false)=>some .skip
 | _=>none
inductive Ri where
 | ok (ds:List DV) (c:Cl) | ex (c:Str)
def Ri.thn(r:Option Ri)(k:List DV->Cl->Option Re):Option Re:=match r with
 | none=>none
 | some (.ex c)=>some (.ex c)
 | some (.ok ds c)=>k ds c
def Re.thnI(r:Option Re)(k:DV->Cl->Option Ri):Option Ri:=match r with
 | none=>none
 | some (.ex c)=>some (.ex c)
 | some (.ok d c)=>k d c
def z6O(d:DV)(c:Cl):Option Ri:=(seqD d).map λds=>.ok ds c
def imL:DV->Bool
 | .lst ds=>DV.immuts ds
 | _=>false
def q4k(F:Nat->List DV->Option Ou)(f:Nat)(l:List (DV×Cl)):Option Re:=match F f (l.map (·.1))with
 | none=>none
 | some (.x c)=>some (.ex c)
 | some (.t (.dct _ ds))=>some (.ok (.tup ds) .strong)
 | some (.t d)=>some (.ok d (if l.all λp=>p.2 == .strong||p.2 == .fresh then(match d with | .lst _=>.fresh | _=>.ft)else .weak))
 | some (.v d fr)=>some (.ok d (if l.all λp=>p.2 == .strong||p.2 == .fresh then(if fr then .fresh else .strong)else if fr&&imL d then .fresh else .weak))
def q5y:Nat:=1001
def rdD(C a dx:Nat)(t:Str)(k:Int):DV:=.tup [.int C,.int a,.int dx,.str t,.int k]
def iI:DV->Option Int | .int i=>some i | _=>none
def sS:DV->Option Str | .str i=>some i | _=>none
def rd5:List DV->Option (DV×DV×DV×DV×DV) | [a,b,c,d,e]=>some (a,b,c,d,e) | _=>none
def tT:DV->Option (List DV) | .tup l=>some l | _=>none
def rdK(d:DV):Option (Int×Int×Int×Str×Int):=(tT d).bind λl=>(rd5 l).bind λq=>(iI q.1).bind λc=>(iI q.2.1).bind λa=>(iI q.2.2.1).bind λx=>(sS q.2.2.2.1).bind λt=>(iI q.2.2.2.2).bind λk=>some (c,a,x,t,k)
def q4J(s s':DV):Bool:=match rdK s with
 | some q=>(match rdK s' with
  | some q'=>decide (q.1=q'.1)&&decide (q.2.1=q'.2.1)&&decide (q.2.2.1=q'.2.2.1)&&decide (q.2.2.2.1=q'.2.2.2.1)
  | none=>false)
 | none=>false
inductive Rm where
 | ok (d s:DV) | ex (c:Str)
def Rm.of(o:Option Ou):Option Rm:=match o with
 | some (.v (.tup [r,s]) _)=>some (.ok r s)
 | some (.x c)=>some (.ex c)
 | _=>none
def andD(x:DV)(c:Cl)(r:Option Re):Option Re:=match q2j x with
 | none=>none
 | some true=>r
 | some false=>some (.ok x c)
def orD(x:DV)(c:Cl)(r:Option Re):Option Re:=match q2j x with
 | none=>none
 | some true=>some (.ok x c)
 | some false=>r
def tstD(r:Option Re):Option Rt:=Re.thnT r λx _=>(q2j x).map Rt.ok
def q0X(r:Option Re):Option Ri:=Re.thnI r λx c=>z6O x c
mutual
def evE(G:Gs)(F:Nat->List DV->Option Ou):ME->List Sv->Option Re
 | .var i,δ=>match δ[i]? with
  | some (.val d)=>some (.ok d .strong)
  | some (.own d)=>some (.ok d .top)
  | some (.ot d)=>some (.ok (otD d) .weak)
  | some (.o2 d)=>some (.ok d .weak)
  | _=>none
 | .int i,_=>some (.ok (.int i) .strong)
 | .bl i,_=>some (.ok (.bl i) .strong)
 | .str i,_=>some (.ok (.str i) .strong)
 | .non,_=>some (.ok .non .strong)
 | .glb x,_=>(G.con.lookup x).map λd=>.ok d .strong
 | .bin op a b,δ=>Re.thn (evE G F a δ) λx cx=>Re.thn (evE G F b δ) λy cy=>binD op x y cx cy
 | .not a,δ=>Re.thn (evE G F a δ) λx _=>(q2j x).map λk=>.ok (.bl (!k)) .strong
 | .cmp op a b,δ=>Re.thn (evE G F a δ) λx _=>Re.thn (evE G F b δ) λy _=>(cmpD op x y).map λk=>.ok (.bl k) .strong
 | .and es,δ=>q2D G F es δ
 | .or es,δ=>evOr G F es δ
 | .lst es,δ=>Rs.thn (evEs G F es δ) λl=>if l.length<=mostLen then some (.ok (.lst (l.map (·.1))) (if stros l then .fresh else .weak))else none
 | .tup es,δ=>Rs.thn (evEs G F es δ) λl=>if l.length<=mostLen then some (.ok (.tup (l.map (·.1))) (if stros l then .strong else .weak))else none
 | .dc0,_=>some (.ok (.dct [] []) .strong)
 | .ix a b,δ=>Re.thn (evE G F a δ) λx cx=>Re.thn (evE G F b δ) λy _=>(ixD x y).map λd=>.ok d cx.item
 | .sl a lo hi,δ=>Re.thn (evE G F a δ) λx cx=>Re.thn (evE G F lo δ) λl _=>match l with
  | .int l=>Re.thn (evE G F hi δ) λh _=>(match h with
   | .int h=>(slD x (some l) (some h)).map λd=>.ok d (slCl x cx)
   | _=>none)
  | _=>none
 | .call f es,δ=>Rs.thn (evEs G F es δ) λl=>q4k F f l
 | .bi f es,δ=>if biOk f then Rs.thn (evEs G F es δ) λl=>biD f l else none
 | .isi a ts,δ=>Re.thn (evE G F a δ) λx _=>(isiD G x ts).map λk=>.ok (.bl k) .strong
 | .meth m a _,δ=>if m=.bitLength then Re.thn (evE G F a δ) λx _=>mtD m x else none
 | .comp elt tg it fr,δ=>Ri.thn (q0X (evE G F it δ)) λds c=>if c=.weak\/mostLen<ds.length then none else q1o (q0B (λd=>(tg.bind d (q0K fr δ)).bind λδ'=>Rc.of (evE G F elt δ')) ds)
 | .compi elt tg it cd fr,δ=>Ri.thn (q0X (evE G F it δ)) λds c=>if c=.weak\/mostLen<ds.length then none else q1o (q0B (λd=>(tg.bind d (q0K fr δ)).bind λδ'=>Rc.test (tstD (evE G F cd δ')) (Rc.of (evE G F elt δ'))) ds)
 | .rng es,δ=>Rs.thn (evEs G F es δ) λl=>(rngD l).map λds=>.ok (.lst ds) .fresh
 | .zp a b,δ=>Re.thn (evE G F a δ) λx c=>Re.thn (evE G F b δ) λy c'=>zipD x y c c'
 | .srd i,δ=>match δ[i]? with
  | some (.od (.tup [.dct ks [],.non]))=>srdD ks
  | _=>none
def evEs(G:Gs)(F:Nat->List DV->Option Ou):List ME->List Sv->Option Rs
 | [],_=>some (.ok [])
 | e::es,δ=>match evE G F e δ with
  | none=>none
  | some (.ex c)=>some (.ex c)
  | some (.ok d c)=>match evEs G F es δ with
   | none=>none
   | some (.ex c)=>some (.ex c)
   | some (.ok l)=>some (.ok ((d,c)::l))
def q2D(G:Gs)(F:Nat->List DV->Option Ou):List ME->List Sv->Option Re
 | [],_=>none
 | e::es,δ=>if es.isEmpty then evE G F e δ else Re.thn (evE G F e δ) λx c=>andD x c (q2D G F es δ)
def evOr(G:Gs)(F:Nat->List DV->Option Ou):List ME->List Sv->Option Re
 | [],_=>none
 | e::es,δ=>if es.isEmpty then evE G F e δ else Re.thn (evE G F e δ) λx c=>orD x c (evOr G F es δ)
end
def q2O:Nat:=1000
def Re.thnS(δ:List Sv)(r:Option Re)(k:DV->Cl->Option Out):Option Out:=match r with
 | none=>none
 | some (.ex c)=>some (.ex c δ)
 | some (.ok d c)=>k d c
def Rs.thnS(δ:List Sv)(r:Option Rs)(k:List (DV×Cl)->Option Out):Option Out:=match r with
 | none=>none
 | some (.ex c)=>some (.ex c δ)
 | some (.ok l)=>k l
def Rt.thnS(δ:List Sv)(r:Option Rt)(k:Bool->Option Out):Option Out:=match r with
 | none=>none
 | some (.ex c)=>some (.ex c δ)
 | some (.ok b)=>k b
def Ri.thnS(δ:List Sv)(r:Option Ri)(k:List DV->Cl->Option Out):Option Out:=match r with
 | none=>none
 | some (.ex c)=>some (.ex c δ)
 | some (.ok ds c)=>k ds c
def q1L(tg:Tg)(body:List Sv->Option Out):List DV->List Sv->Option Out
 | [],δ=>some (.nx δ)
 | d::r,δ=>match tg.bind d δ with
  | none=>none
  | some δ1=>match body δ1 with
   | some (.nx δ2)=>q1L tg body r δ2
   | o=>o
def frD:DV->Cl->Bool
 | .lst _,.fresh=>true | .lst _,.top=>true
 | _,_=>false
def noOt(i:Nat)(δ:List Sv):Bool:=(List.range δ.length).all λj=>j==i||(match δ[j]? with | some (.ot _)=>false | some (.o2 _)=>false | some (.od _)=>false | _=>true)
def q4a(i:Nat)(δ:List Sv)(d:DV)(c:Cl):Option Out:=match c with
 | .fresh=>some (.nx (δ.set i (.own d)))
 | .ft=>if noOt i δ then some (.nx (δ.set i (.ot d)))else none
 | _=>none
def retD(d:DV)(c:Cl):Out:=match c with
 | .ft=>.rtt d
 | _=>.rt d (frD d c)
def rdIx:Nat:=1002
mutual
def evS(G:Gs)(F:Nat->List DV->Option Ou)(fu:Nat):MS->List Sv->Option Out
 | .set i own e,δ=>Re.thnS δ (evE G F e δ) λd c=>if own then q4a i δ d c else(if stro d c then some (.nx (δ.set i (.val d)))else none)
 | .app i e,δ=>match δ[i]? with
  | some (.own (.lst ds))=>Re.thnS δ (evE G F e δ) λd c=>if stro d c/\ds.length<mostLen then some (.nx (δ.set i (.own (.lst (ds++[d])))))else none
  | _=>none
 | .seti i k e,δ=>match δ[i]? with
  | some (.own (.lst ds))=>Re.thnS δ (evE G F e δ) λd c=>Re.thnS δ (evE G F k δ) λk _=>(match k with
   | .int k=>(match q2m ds.length k with
    | some j=>if stro d c then some (.nx (δ.set i (.own (.lst (ds.set j d)))))else none
    | none=>none)
   | _=>none)
  | _=>none
 | .ret e,δ=>Re.thnS δ (evE G F e δ) λd c=>some (retD d c)
 | .iff c a b,δ=>Rt.thnS δ (tstD (evE G F c δ)) λk=>if k then evSs G F fu a δ else evSs G F fu b δ
 | .fo tg it body,δ=>Ri.thnS δ (q0X (evE G F it δ)) λds c=>if c=.strong\/c=.fresh then q1L tg (λδ'=>evSs G F fu body δ') ds δ else none
 | .ses i,δ=>if noOt i δ then some (.nx (δ.set i (.od (.tup [.dct [] [],.non]))))else none
 | .dpt i ks e,δ=>match δ[i]? with
  | some (.od (.tup [.dct kk [],.non]))=>Re.thnS δ (evE G F e δ) λd _=>Rs.thnS δ (evEs G F ks δ) λl=>(dptD i δ kk l d).map Out.nx
  | _=>none
 | .frz i,δ=>match δ[i]? with
  | some (.own d)=>some (.nx (δ.set i (.val d)))
  | _=>some (.nx δ)
def evSs(G:Gs)(F:Nat->List DV->Option Ou)(fu:Nat):List MS->List Sv->Option Out
 | [],δ=>some (.nx δ)
 | s::r,δ=>match evS G F fu s δ with
  | some (.nx δ')=>evSs G F fu r δ'
  | o=>o
end
def q0J(n:Nat)(ds:List DV):List Sv:=ds.map Sv.val++List.replicate (n - ds.length) .no
def Ou.of(o:Option Out):Option Ou:=match o with
 | some (.nx _)=>some (.v .non false)
 | some (.rt d fr)=>some (.v d fr)
 | some (.rtt d)=>some (.t d)
 | some (.ex c _)=>some (.x c)
 | some (.rtm _ _)=>none
 | none=>none
def Ou.ofM(s0:DV)(o:Option Out):Option Ou:=match o with
 | some (.nx (.od s::_))=>if q4J s0 s then some (.v (.tup [.non,s]) false)else none
 | some (.rtm d s)=>if q4J s0 s then some (.v (.tup [d,s]) false)else none
 | some (.ex c _)=>some (.x c)
 | _=>none
def q2P:Nat->DV->List DV->Option (DV×List DV)
 | 0,_,_=>none
 | k+1,d,l=>match d with
  | .tup [.str s,x]=>if decide (s = "end")&&d.plain 60&&DV.plains 59 l then(match l with
   | []=>some (d,[])
   | y::l'=>some (y,l'))else none
  | .tup [.str s,a,b,c,e]=>if decide (s ≠ "end")&&(s.cps.all (· < 0x110000))then(match q2P k c l with
   | none=>none
   | some (n,l1)=>match q2P k e l1 with
    | none=>none
    | some (y,l2)=>some (.tup [.str "ask",a,b,n,y],l2))else none
  | _=>none
def q6q(k:Nat)(f:Nat)(ds:List DV):Option Ou:=match ds with
 | [d,.lst l]=>if f=q2O then(q2P k d l).map (λr=>.v r.1 false)else none
 | _=>none
def xR(G:Gs)(k:Nat)(f:Nat)(ds:List DV):Option Ou:=if f=rdIx then G.prs k ds else q6q k f ds
def lamR(ev:ME->List Sv->Option Re)(ds:List DV):Option Ou:=match ds with
 | .lam m cs::args=>if args.length=m.np/\args.length+cs.length=m.N.length/\DV.nolams args=true/\DV.nolams cs=true then(match ev m.body ((args++cs).map Sv.val)with
  | some (.ok d .strong)=>if d.nolam then some (.v d false)else none
  | _=>none)else none
 | _=>none
def run(G:Gs)(T:List FD)(fu:Nat):Nat->Nat->List DV->Option Ou
 | 0,_,_=>none
 | k+1,f,ds=>match T[f]? with
  | none=>if f=q5y then lamR (evE G (run G T fu k)) ds else xR G (k+1) f ds
  | some fd=>if ds.length=fd.np then Ou.of (evSs G (run G T fu k) fu fd.body (q0J fd.n ds))else none
def runM(G:Gs)(T:List FD)(fu:Nat):Nat->Nat->List DV->Option Ou
 | 0,_,_=>none
 | k+1,m,ds=>match T[m]?,ds with
  | some fd,s::r=>if ds.length=fd.np then Ou.ofM s (evSs G (runM G T fu k) fu fd.body (.od s::(r.map Sv.val++List.replicate (fd.n - ds.length) .no)))else none
  | _,_=>none
end L2
end
noncomputable section
namespace L2
open PySem
section
variable {G:Gs} {F:Nat->List DV->Option Ou} {fu:Nat} {δ:List Sv}
theorem q1P{d:DV}{c:Cl}{k:DV->Cl->Option Re}:Re.thn (some (.ok d c)) k=k d c:=rfl
theorem q4j{l:List (DV×Cl)}{k:List (DV×Cl)->Option Re}:Rs.thn (some (.ok l)) k=k l:=rfl
theorem q5i{ds:List DV}{c:Cl}{k:List DV->Cl->Option Re}:Ri.thn (some (.ok ds c)) k=k ds c:=rfl
theorem z0D{d:DV}{c:Cl}{k:DV->Cl->Option Out}:Re.thnS δ (some (.ok d c)) k=k d c:=rfl
theorem z4T{m:MS}{r:List MS}{δ':List Sv}(h:evS G F fu m δ=some (.nx δ')):evSs G F fu (m::r) δ=evSs G F fu r δ':=by
 rw[show evSs G F fu (m::r) δ=(match evS G F fu m δ with | some (.nx δ')=>evSs G F fu r δ' | o=>o)from rfl,h]
theorem z4Y{m:MS}{r:List MS}{d:DV}{fr:Bool}(h:evS G F fu m δ=some (.rt d fr)):evSs G F fu (m::r) δ=some (.rt d fr):=by
 rw[show evSs G F fu (m::r) δ=(match evS G F fu m δ with | some (.nx δ')=>evSs G F fu r δ' | o=>o)from rfl,h]
theorem q1N{T:List FD}{k f:Nat}{ds:List DV}{fd:FD}(h:T[f]? = some fd)(hl:ds.length=fd.np):run G T fu (k+1) f ds=Ou.of (evSs G (run G T fu k) fu fd.body (q0J fd.n ds)):=by
 show(match T[f]? with | none=>if f=q5y then lamR (evE G (run G T fu k)) ds else xR G (k+1) f ds | some fd=>if ds.length=fd.np then Ou.of (evSs G (run G T fu k) fu fd.body (q0J fd.n ds))else none)=_;rw[h];exact if_pos hl
end
end L2
namespace L2
open PySem
theorem q6j{I:List Sv->Prop}{tg:Tg}{body:List Sv->Option Out}:∀{ds:List DV} {δ:List Sv},(∀d∈ds,∀δ,I δ->∃δ1 δ2,tg.bind d δ=some δ1/\body δ1=some (.nx δ2)/\I δ2)->I δ->∃δ',q1L tg body ds δ=some (.nx δ')/\I δ'
 | [],δ,_,i=>⟨δ,rfl,i⟩
 | d::r,δ,h,i=>by obtain⟨δ1,δ2,e1,e2,i2⟩:=h d (List.mem_cons_self ..) δ i;obtain⟨δ',e3,i3⟩:=q6j (ds:=r) (λd hd=>h d (List.mem_cons_of_mem _ hd)) i2;refine⟨δ',?_,i3⟩;show(match tg.bind d δ with | none=>none | some δ1=>(match body δ1 with | some (.nx δ2)=>q1L tg body r δ2 | o=>o))=_;rw[e1];show(match body δ1 with | some (.nx δ2)=>q1L tg body r δ2 | o=>o)=_;rw[e2];exact e3
theorem q3d{g:DV->Option Rc}{p:DV->Bool}:∀{ds:List DV},(∀d∈ds,g d=some (if p d then .item d else .skip))->q0B g ds=some (ds.filter p)
 | [],_=>rfl
 | d::r,h=>by
  have h0:=h d (List.mem_cons_self ..);have ih:=q3d (ds:=r) (λd hd=>h d (List.mem_cons_of_mem _ hd));unfold q0B;rw[h0];cases hp:p d with
  | false=>rw[List.filter_cons_of_neg (by rw[hp];exact Bool.false_ne_true)];exact ih
  | true=>
   rw[List.filter_cons_of_pos hp];show(match q0B g r with | none=>none | some xs=>some (d::xs))=_;rw[ih]
theorem q4z{g:DV->Option Rc}{f:DV->DV}:∀{ds:List DV},(∀d∈ds,g d=some (.item (f d)))->q0B g ds=some (ds.map f)
 | [],_=>rfl
 | d::r,h=>by have h0:=h d (List.mem_cons_self ..);have ih:=q4z (ds:=r) (λd hd=>h d (List.mem_cons_of_mem _ hd));unfold q0B;rw[h0];show(match q0B g r with | none=>none | some xs=>some (f d::xs))=_;rw[ih];rfl
theorem q7b{lo:Int}{n:Nat}{d:DV}(h:d∈upTo lo n):∃j:Nat,j<n/\d=.int (lo+j):=by
 unfold upTo at h;rw[List.mem_map]at h;obtain⟨j,hj,rfl⟩:=h;exact⟨j,List.mem_range.mp hj,rfl⟩
end L2
namespace L2
open PySem
section
variable {G:Gs} {F:Nat->List DV->Option Ou} {fu:Nat} {δ δ':List Sv} {m:MS} {r a b body:List MS} {o:Option Out} {c it:ME} {d:DV} {fr:Bool} {tg:Tg} {ds:List DV} {cl:Cl}
theorem q2Y(h:evSs G F fu r δ=some (.rt d fr)):Ou.of (evSs G F fu r δ)=some (.v d fr):=by rw[h];rfl
theorem q0M(h:evS G F fu m δ=some (.nx δ'))(h2:evSs G F fu r δ'=o):evSs G F fu (m::r) δ=o:=(z4T h).trans h2
theorem q2Q(h:evS G F fu m δ=some (.rt d fr)):evSs G F fu (m::r) δ=some (.rt d fr):=z4Y h
theorem q9W{bb:Bool}(hc:tstD (evE G F c δ)=some (.ok bb)):evS G F fu (.iff c a b) δ=if bb then evSs G F fu a δ else evSs G F fu b δ:=by
 show Rt.thnS δ (tstD (evE G F c δ)) (λk=>if k then evSs G F fu a δ else evSs G F fu b δ)=_;rw[hc];rfl
theorem z2o(hc:tstD (evE G F c δ)=some (.ok true))(h:evSs G F fu a δ=some (.nx δ'))(h2:evSs G F fu r δ'=o):evSs G F fu (.iff c a b::r) δ=o:=q0M ((q9W hc).trans h) h2
theorem z4P(hc:tstD (evE G F c δ)=some (.ok false))(h:evSs G F fu b δ=some (.nx δ'))(h2:evSs G F fu r δ'=o):evSs G F fu (.iff c a b::r) δ=o:=q0M ((q9W hc).trans h) h2
theorem z5N(hc:tstD (evE G F c δ)=some (.ok true))(h:evSs G F fu a δ=some (.rt d fr)):evSs G F fu (.iff c a b::r) δ=some (.rt d fr):=q2Q ((q9W hc).trans h)
theorem q2h(hc:tstD (evE G F c δ)=some (.ok false))(h2:evSs G F fu r δ=o):evSs G F fu (.iff c a []::r) δ=o:=z4P hc rfl h2
theorem q5T(hw:q0X (evE G F it δ)=some (.ok ds cl))(hc:cl=.strong\/cl=.fresh)(h:q1L tg (λδ'=>evSs G F fu body δ') ds δ=some (.nx δ'))(h2:evSs G F fu r δ'=o):evSs G F fu (.fo tg it body::r) δ=o:=by
 refine q0M ?_ h2;show Ri.thnS δ (q0X (evE G F it δ)) (λds c=>if c=.strong\/c=.fresh then q1L tg (λδ'=>evSs G F fu body δ') ds δ else none)=_;rw[hw];show(if cl=.strong\/cl=.fresh then q1L tg (λδ'=>evSs G F fu body δ') ds δ else none)=_;rw[if_pos hc];exact h
theorem q0P{i:Nat}{e:ME}(h:evE G F e δ=some (.ok d cl))(hs:stro d cl=true):evS G F fu (.set i false e) δ=some (.nx (δ.set i (.val d))):=by
 show Re.thnS δ (evE G F e δ) (λd c=>if false then q4a i δ d c else(if stro d c then some (.nx (δ.set i (.val d)))else none))=_;rw[h];show(if stro d cl then some (Out.nx (δ.set i (.val d)))else none)=_;rw[if_pos hs]
theorem q7q{i:Nat}{e:ME}(h:evE G F e δ=some (.ok d .fresh)):evS G F fu (.set i true e) δ=some (.nx (δ.set i (.own d))):=by
 show Re.thnS δ (evE G F e δ) (λd c=>if true then q4a i δ d c else(if stro d c then some (.nx (δ.set i (.val d)))else none))=_;rw[h];rfl
theorem q2H{e:ME}(h:evE G F e δ=some (.ok d cl))(hc:cl ≠ .ft:=by first | decide | (intro z;cases z)):evS G F fu (.ret e) δ=some (.rt d (frD d cl)):=by
 show Re.thnS δ (evE G F e δ) (λd c=>some (retD d c))=_;rw[h];show some (retD d cl)=_;cases cl<;>first | rfl | exact absurd rfl hc
theorem q0x{f:Nat}{es:List ME}{l:List (DV×Cl)}(ha:evEs G F es δ=some (.ok l))(hs:(l.all λp=>p.2 == .strong||p.2 == .fresh)=true)(h:F f (l.map (·.1))=some (.v d fr)):evE G F (.call f es) δ=some (.ok d (if fr then .fresh else .strong)):=by
 show Rs.thn (evEs G F es δ) (λl=>q4k F f l)=_;rw[ha];show q4k F f l=_;unfold q4k;rw[h,hs];rfl
theorem z1m{f:Nat}{es:List ME}{l:List (DV×Cl)}(ha:evEs G F es δ=some (.ok l))(hs:(l.all λp=>p.2 == .strong||p.2 == .fresh)=false)(h:F f (l.map (·.1))=some (.v d fr))(hf:(fr&&imL d)=false:=by rfl):evE G F (.call f es) δ=some (.ok d .weak):=by
 show Rs.thn (evEs G F es δ) (λl=>q4k F f l)=_;rw[ha];show q4k F f l=_;unfold q4k;rw[h,hs];show some (Re.ok d (if fr&&imL d then .fresh else .weak))=_;rw[hf];rfl
theorem q0S{e:ME}{x:Bool}(h:evE G F e δ=some (.ok (.bl x) cl)):tstD (evE G F e δ)=some (.ok x):=by rw[h];rfl
theorem z2m{e:ME}{x:Bool}(h:evE G F e δ=some (.ok (.bl x) cl)):evE G F (.not e) δ=some (.ok (.bl (!x)) .strong):=by
 show Re.thn (evE G F e δ) (λx _=>(q2j x).map λk=>.ok (.bl (!k)) .strong)=_;rw[h];rfl
end
end L2
namespace L2
open PySem
section
variable {G:Gs} {F:Nat->List DV->Option Ou} {fu:Nat} {δ δ':List Sv} {a b:ME} {x y:DV} {cx cy:Cl}
theorem q2E{op:Operator}{r:Option Re}(ha:evE G F a δ=some (.ok x cx))(hb:evE G F b δ=some (.ok y cy))(h:binD op x y cx cy=r):evE G F (.bin op a b) δ=r:=by
 show Re.thn (evE G F a δ) (λx cx=>Re.thn (evE G F b δ) λy cy=>binD op x y cx cy)=_;rw[ha,q1P,hb,q1P,h]
theorem q1K{op:CmpOp}{t:Bool}(ha:evE G F a δ=some (.ok x cx))(hb:evE G F b δ=some (.ok y cy))(h:cmpD op x y=some t):evE G F (.cmp op a b) δ=some (.ok (.bl t) .strong):=by
 show Re.thn (evE G F a δ) (λx _=>Re.thn (evE G F b δ) λy _=>(cmpD op x y).map λk=>.ok (.bl k) .strong)=_;rw[ha,q1P,hb,q1P,h];rfl
theorem q1U{d:DV}(ha:evE G F a δ=some (.ok x cx))(hb:evE G F b δ=some (.ok y cy))(h:ixD x y=some d):evE G F (.ix a b) δ=some (.ok d cx.item):=by
 show Re.thn (evE G F a δ) (λx cx=>Re.thn (evE G F b δ) λy _=>(ixD x y).map λd=>.ok d cx.item)=_;rw[ha,q1P,hb,q1P,h];rfl
theorem q0l:evEs G F [] δ=some (.ok []):=rfl
theorem q0d{es:List ME}{l:List (DV×Cl)}(ha:evE G F a δ=some (.ok x cx))(h:evEs G F es δ=some (.ok l)):evEs G F (a::es) δ=some (.ok ((x,cx)::l)):=by
 unfold evEs;rw[ha,h]
end
end L2
namespace L2
open PySem
section
variable {G:Gs} {F:Nat->List DV->Option Ou} {fu:Nat} {δ δ':List Sv} {a b c e:ME} {x y d:DV} {cx cy cl:Cl} {i:Nat} {ds:List DV}
theorem z0m(h0:δ[i]? = some (.own (.lst ds)))(h:evE G F e δ=some (.ok d cl))(hs:stro d cl=true)(hl:ds.length<mostLen):evS G F fu (.app i e) δ=some (.nx (δ.set i (.own (.lst (ds++[d]))))):=by
 unfold evS;rw[h0];show Re.thnS δ (evE G F e δ) (λd c=>if stro d c/\ds.length<mostLen then some (.nx (δ.set i (.own (.lst (ds++[d])))))else none)=_;rw[h];exact if_pos ⟨hs,hl⟩
theorem z3L{k:ME}{n:Int}{j:Nat}(h0:δ[i]? = some (.own (.lst ds)))(h:evE G F e δ=some (.ok d cl))(hk:evE G F k δ=some (.ok (.int n) cx))(hs:stro d cl=true)(hj:q2m ds.length n=some j):evS G F fu (.seti i k e) δ=some (.nx (δ.set i (.own (.lst (ds.set j d))))):=by
 unfold evS;rw[h0];show Re.thnS δ (evE G F e δ) (λd c=>Re.thnS δ (evE G F k δ) λk _=>(match k with | .int k=>(match q2m ds.length k with | some j=>if stro d c then some (.nx (δ.set i (.own (.lst (ds.set j d)))))else none | none=>none) | _=>none))=_;rw[h,z0D,hk,z0D];show(match q2m ds.length n with | some j=>if stro d cl then some (Out.nx (δ.set i (.own (.lst (ds.set j d)))))else none | none=>none)=_;rw[hj];exact if_pos hs
end
end L2
namespace L2
open PySem
section
variable {G:Gs} {F:Nat->List DV->Option Ou} {fu:Nat} {δ δ':List Sv} {a b c e:ME} {x y d:DV} {cx cy cl:Cl} {i:Nat} {ds:List DV}
theorem q1x{I:Nat->List Sv->Prop}{body:List Sv->Option Out}:∀(n:Nat) (lo:Int) {δ:List Sv},(∀j<n,∀δ,I j δ->∃δ2,body (δ.set i (.val (.int (lo+j))))=some (.nx δ2)/\I (j+1) δ2)->I 0 δ->∃δ',q1L (.one i) body (upTo lo n) δ=some (.nx δ')/\I n δ'
 | 0,_,δ,_,i0=>⟨δ,rfl,i0⟩
 | n+1,lo,δ,h,i0=>by
  have e:upTo lo (n+1)=.int lo::upTo (lo+1) n:=by
   unfold upTo;rw[List.range_succ_eq_map,List.map_cons,List.map_map]
   congr 1
   ·congr 1;omega
   ·apply List.map_congr_left;intro a _;show DV.int _=DV.int _
    congr 1
    push_cast
    omega
  obtain⟨δ2,h0,i1⟩:=h 0 (by omega) δ i0;rw[show lo+((0:Nat):Int)=lo by omega]at h0;obtain⟨δ',h1,i2⟩:=q1x (I:=λj=>I (j+1)) n (lo+1) (δ:=δ2) (λj hj δ q=>by
   obtain⟨δ3,q1,q2⟩:=h (j+1) (by omega) δ q;refine⟨δ3,?_,q2⟩;rw[show lo+1+((j:Nat):Int)=lo+((j+1:Nat):Int) by push_cast;omega];exact q1) i1
  refine⟨δ',?_,i2⟩;rw[e];show(match body (δ.set i (.val (.int lo)))with | some (.nx δ2)=>q1L (.one i) body (upTo (lo+1) n) δ2 | o=>o)=_;rw[h0];exact h1
theorem z1G{elt it cd:ME}{tg:Tg}{fr:List (Option Nat)}{p:DV->Bool}(hw:q0X (evE G F it δ)=some (.ok ds cl))(hc:cl ≠ .weak)(hl:ds.length<=mostLen)
  (h:∀d∈ds,∃δ',tg.bind d (q0K fr δ)=some δ'/\tstD (evE G F cd δ')=some (.ok (p d))/\evE G F elt δ'=some (.ok d .strong)):evE G F (.compi elt tg it cd fr) δ=some (.ok (.lst (ds.filter p)) .fresh):=by
 show Ri.thn (q0X (evE G F it δ)) (λds c=>if c=.weak\/mostLen<ds.length then none else q1o (q0B (λd=>(tg.bind d (q0K fr δ)).bind λδ'=>Rc.test (tstD (evE G F cd δ')) (Rc.of (evE G F elt δ'))) ds))=_;rw[hw,q5i,if_neg (by rintro(z | z);exact hc z;omega),q3d (p:=p) (λd hd=>?_)]
 ·rfl
 ·obtain⟨δ',e1,e2,e3⟩:=h d hd;rw[e1,Option.bind_some,e2,e3];cases p d<;>rfl
theorem q9T{elt it:ME}{tg:Tg}{fr:List (Option Nat)}{f:DV->DV}(hw:q0X (evE G F it δ)=some (.ok ds cl))(hc:cl ≠ .weak)(hl:ds.length<=mostLen)
  (h:∀d∈ds,∃δ',tg.bind d (q0K fr δ)=some δ'/\evE G F elt δ'=some (.ok (f d) .strong)):evE G F (.comp elt tg it fr) δ=some (.ok (.lst (ds.map f)) .fresh):=by
 show Ri.thn (q0X (evE G F it δ)) (λds c=>if c=.weak\/mostLen<ds.length then none else q1o (q0B (λd=>(tg.bind d (q0K fr δ)).bind λδ'=>Rc.of (evE G F elt δ')) ds))=_;rw[hw,q5i,if_neg (by rintro(z | z);exact hc z;omega),q4z (f:=f) (λd hd=>?_)]
 ·rfl
 ·obtain⟨δ',e1,e2⟩:=h d hd;rw[e1,Option.bind_some,e2];rfl
theorem z4S{l:List Int}{j:Nat}(h:j<l.length):ixD (.lst (l.map DV.int)) (.int j)=some (.int l[j]):=by
 have hh:(j:Int)<((l.map DV.int).length:Int):=by rw[List.length_map];exact_mod_cast h
 simp only[ixD,atD,q2m,if_pos (Int.natCast_nonneg j),if_pos hh,Option.bind_some,Int.toNat_natCast,List.getElem?_map,List.getElem?_eq_getElem h,Option.map_some]
theorem q7k{l:List Int}{i:Int}(h0:0<=i)(h:i<l.length):∃v,ixD (.lst (l.map DV.int)) (.int i)=some (.int v):=by
 obtain⟨j,rfl⟩:=Int.eq_ofNat_of_zero_le h0;exact⟨_,z4S (by omega)⟩
end
end L2
namespace L2
open PySem
section
variable {G:Gs} {F:Nat->List DV->Option Ou} {fu:Nat} {δ δ':List Sv} {r body:List MS} {it:ME} {cl:Cl} {ds:List DV} {tg:Tg} {o:Option Out}
end
end L2
namespace L2
open PySem
section
variable {G:Gs} {F:Nat->List DV->Option Ou} {fu:Nat} {δ δ':List Sv} {a b:ME} {i j:Int} {cx cy:Cl}
theorem q0k:evE G F (.int i) δ=some (.ok (.int i) .strong):=rfl
theorem q0a{n:Nat}{d:DV}(h:δ[n]? = some (.val d)):evE G F (.var n) δ=some (.ok d .strong):=by unfold evE;rw[h]
theorem z0G{n:Nat}{d:DV}(h:δ[n]? = some (.own d)):evE G F (.var n) δ=some (.ok d .top):=by unfold evE;rw[h]
theorem q4u(ha:evE G F a δ=some (.ok (.int i) cx))(hb:evE G F b δ=some (.ok (.int j) cy)):evE G F (.bin .Add a b) δ=some (.ok (.int (i+j)) .strong):=q2E ha hb rfl
theorem z7B(ha:evE G F a δ=some (.ok (.int i) cx))(hb:evE G F b δ=some (.ok (.int j) cy)):evE G F (.bin .Sub a b) δ=some (.ok (.int (i - j)) .strong):=q2E ha hb rfl
theorem q6O(ha:evE G F a δ=some (.ok (.int i) cx))(hb:evE G F b δ=some (.ok (.int j) cy))(h:q3C i j=true):evE G F (.bin .Mult a b) δ=some (.ok (.int (i*j)) .strong):=q2E ha hb (if_pos h)
theorem q3E(ha:evE G F a δ=some (.ok (.int i) cx))(hb:evE G F b δ=some (.ok (.int j) cy))(h:0<j):evE G F (.bin .Mod a b) δ=some (.ok (.int (i%j)) .strong):=q2E ha hb (if_pos h)
theorem z3S(ha:evE G F a δ=some (.ok (.int i) cx))(hb:evE G F b δ=some (.ok (.int j) cy))(h:0<j/\j<1073741824):evE G F (.bin .FloorDiv a b) δ=some (.ok (.int (i/j)) .strong):=q2E ha hb (if_pos ⟨h.1,Int.lt_trans h.2 (by decide)⟩)
theorem b_eq(ha:evE G F a δ=some (.ok (.int i) cx))(hb:evE G F b δ=some (.ok (.int j) cy)):evE G F (.cmp .Eq a b) δ=some (.ok (.bl (i==j)) .strong):=q1K ha hb rfl
theorem b_gt(ha:evE G F a δ=some (.ok (.int i) cx))(hb:evE G F b δ=some (.ok (.int j) cy)):evE G F (.cmp .Gt a b) δ=some (.ok (.bl (decide (j<i))) .strong):=q1K ha hb rfl
end
end L2
namespace L2
open PySem
section
variable {G:Gs} {F:Nat->List DV->Option Ou} {fu:Nat} {δ δ':List Sv} {es:List ME} {l:List (DV×Cl)}
theorem z5F{x:Str}:evE G F (.str x) δ=some (.ok (.str x) .strong):=rfl
end
end L2
namespace L2
open PySem
end L2
namespace L2
open PySem
def rmAt(C a dx:Nat)(t:Str):Rm->Rm
 | .ok d (.int k')=>.ok d (rdD C a dx t k')
 | o=>o
def startM(n:Nat)(s:DV)(r:List DV):List Sv:=.od s::(r.map Sv.val++List.replicate (n - (r.length+1)) .no)
theorem q9H{G:Gs}{T:List FD}{fu k m:Nat}{d:FD}{s:DV}{ds:List DV}(h:T[m]? = some d):runM G T fu (k+1) m (s::ds)=if(s::ds).length=d.np then Ou.ofM s (evSs G (runM G T fu k) fu d.body (startM d.n s ds))else none:=by
 show(match T[m]?,s::ds with
  | some fd,s::r=>if(s::ds).length=fd.np then Ou.ofM s (evSs G (runM G T fu k) fu fd.body (Sv.od s::(r.map Sv.val++List.replicate (fd.n - (s::ds).length) Sv.no)))else none
  | _,_=>none)=_
 rw[h];rfl
section
variable {G:Gs} {F:Nat->List DV->Option Ou} {fu:Nat} {δ:List Sv} {i m C a dx:Nat} {z:Str} {j:Int} {d:DV} {fr:Bool} {es:List ME} {l:List (DV×Cl)} {c:Cl}
end
end L2
end
noncomputable section
namespace L2
open PySem
def Rise(xs:Array Nat):Prop:=∀(i k x y:Nat),i<k->xs[i]? = some x->xs[k]? = some y->x<y
structure Tab(t:SetTable)(b:Bool):Prop where
 rise:Rise t.place
 dum:t.dummies = #[]
 led:t.led=b
end L2
end
noncomputable section
namespace L2
open PySem PySem.Spec PyProof.Rows
section
variable {prog:Program} {w:World} {A:Around} {E:Value->Shared->Prop} {s:Shared}
theorem z5k{l:List Int}{i:Nat}(h:i<l.length):l.getD i 0∈l:=by
 rw[List.getD_eq_getElem?_getD,List.getElem?_eq_getElem h];exact List.getElem_mem h
theorem minL{l:Addr}{vs:List Value}{ns:List Int}{Q:Value->Shared->Prop}(hh:A.handled=none)(hl:s.heap.IsList l vs.toArray)(hi:IntsAre vs ns)(hz:ns≠[])
  (h:∀h' M (t:Tok) tk,(∀b o,s.heap.get? b=some o->h'.get? b=some o)->M∈ns->(∀a∈ns,M<=a)->Q (.int M t) {s with heap:=h',toks:=tk}):wpAny (model prog w) A (call (.builtin "min") [.ref l]) Q E s:=by
 obtain⟨ys,e⟩:=hi.allInts.items;have en:ns=ys.toList.map (·.1):=by rw[←hi.numsOf,←nums_intItems,←e]
 have zy:0<ys.size:=by
  have q:0<ns.length:=List.length_pos_iff.mpr hz
  rwa [en,List.length_map,Array.length_toList]at q
 rw[e]at hl;refine min_intList hh hl zy λv h1 tk q k=>?_
 obtain⟨t,ev⟩:=intItems_at q;subst ev;obtain⟨g1,g2⟩:=argBest_lt (numAt ys) (ys.size - 1);refine h h1 _ t tk k ?_ λa ha=>?_
 ·rw[en,numAt_eq];exact z5k (by rw[List.length_map,Array.length_toList];omega)
 ·rw[en]at ha;obtain⟨j,hj,ej⟩:=mem_getD ha;subst ej;rw[List.length_map,Array.length_toList]at hj;rw[←numAt_eq];exact g2 j (by omega)
end
section
variable {X:Cx} {pos:Pos}
theorem z1J:∀{ns:List Int} {us:List Value},Vals (ns.map V.int) us->IntsAre us ns
 | [],us,h=>by cases h;exact .nil
 | n::ns,us,h=>by
  cases h with
  | cons r t=>
   obtain⟨tk,rfl⟩:=r;exact .cons n tk (z1J t)
theorem q9C(hc:X.calm=true):q1G X (.builtin "min") (λxs H Q=>∃(a:Addr) (ns:List Int),xs=[.ref a]/\SqL X.K H a (ns.map V.int)/\ns≠[]/\∀M,M∈ns->(∀x∈ns,M<=x)->Q (.int M) H):=by
 intro pins s σ H xs us Q I r h;obtain⟨a,ns,rfl,hq,hz,q⟩:=h;obtain⟨u,rfl,r1⟩:=q4O r;cases r1;obtain⟨its,rv,pl,_⟩:=I.list hq;exact minL (I.ok.hd hc) pl.isList (z1J rv) hz λh' M t tk k m1 m2=>⟨.int M,H,I.kept k,⟨t,rfl⟩,q M m1 m2⟩
end
end L2
end
noncomputable section
namespace L2
open PySem PySem.Spec PySem.Calls PyProof.Rows PySem.W
section
variable {prog:Program} {w:World} {A:Around} {E:Value->Shared->Prop} {s:Shared}
theorem q5u{t:Addr}{xs:Array (Int×Tok)}{Q:Value->Shared->Prop}(hh:A.handled=none)(ht:s.heap.IsTuple t (intItems xs))(hne:0<xs.size)
  (h:∀v h' tk,(intItems xs)[argBest (λi j=>decide (numAt xs i<numAt xs j)) (xs.size - 1)]? = some v->(∀b o,s.heap.get? b=some o->h'.get? b=some o)->Q v {s with heap:=h',toks:=tk}) :
  wpAny (model prog w) A (call (.builtin "min") [.ref t]) Q E s:=by
 obtain⟨o,ho,hc,n,hd⟩:=id ht;have hlt:t<s.heap.objs.size:=Heap.lt_size ho;refine call_min_walk (wpAny_pyIter_tuple ht ?_);refine⟨_,_,_,_,_,_,_,rfl,Walks.tuple (A:=A.in1) hh _ t (Nat.ne_of_lt hlt) (intItems xs),⟨⟨_,Heap.get?_push_size _ rfl,rfl,rfl⟩,ht.push _⟩,λb hb=>?_,by simpa[intItems]using hne,CmpOf.ints_lt (numAt xs) (λ_ _=>intItems_at),λv h' tk hP hk=>?_⟩
 ·show b<(s.heap.push _).objs.size;rw[Heap.size_push];rcases List.mem_cons.mp hb with rfl | hb
  ·exact Nat.lt_succ_self _
  ·rcases List.mem_cons.mp hb with rfl | hb
   ·exact Nat.lt_succ_of_lt hlt
   ·cases hb
 ·refine h v h' tk (by simpa[intItems]using hP) λb o e=>hk b o (λhm=>?_) (Heap.get?_push_of_some _ e);rcases List.mem_cons.mp hm with e1 | hm
  ·exact absurd (e1▸Heap.lt_size e) (Nat.lt_irrefl _)
  ·cases hm
theorem q8n{a b:Addr}{oa ob:Obj}{x1 x2 y1 y2:Int}{t1 t2 u1 u2:Tok}{n k:Nat}{Q:Bool->Shared->Prop}(ha:s.heap.get? a=some oa)(da:oa.data=.seq #[.int x1 t1,.int x2 t2] n)(hb:s.heap.get? b=some ob)(db:ob.data=.seq #[.int y1 u1,.int y2 u2] k)
  (h:Q (ltP (x1,x2) (y1,y2)) s):wpAny (model prog w) A (keyLt' (tuples' true) (.ref a) (.ref b)) Q E s:=by
 refine kat_lt ha da hb db ?_;show KatLex prog w A true (decide (2<2)) Q [(.int x1 t1,.int y1 u1),(.int x2 t2,.int y2 u2)] 0 s;unfold ltP at h;refine kat_cons (wpAny_eqBool_int ?_);by_cases h1:x1=y1
 ·rw[show(x1==y1)=true from beq_iff_eq.mpr h1];have h':Q (decide (x2<y2)) s:=by
   rw[show decide (x1<y1)=false from decide_eq_false (by omega),show(x1==y1)=true from beq_iff_eq.mpr h1,Bool.false_or,Bool.true_and]at h;exact h
  refine kat_yes (kat_cons (wpAny_eqBool_int ?_));by_cases h2:x2=y2
  ·rw[show(x2==y2)=true from beq_iff_eq.mpr h2];refine kat_yes (kat_nil ?_);rw[show decide (x2<y2)=false from decide_eq_false (by omega)]at h';exact h'
  ·rw[show(x2==y2)=false from beq_eq_false_iff_ne.mpr h2];refine kat_no ?_;show wpAny (model prog w) A (oneLt' false (.int x2 t2) (.int y2 u2)) Q (λ_ _=>False) s;exact kat_one _ _ (wpAny_lt_int h')
 ·rw[show(x1==y1)=false from beq_eq_false_iff_ne.mpr h1];refine kat_no ?_;show wpAny (model prog w) A (oneLt' true (.int x1 t1) (.int y1 u1)) Q (λ_ _=>False) s;refine oneLt_int ?_;rw[show(x1==y1)=false from beq_eq_false_iff_ne.mpr h1,Bool.false_and,Bool.or_false]at h;exact h
end
def PrAt(h:Heap)(v:Value)(p:Int×Int):Prop:=∃a o n t t',v=.ref a/\h.get? a=some o/\o.cls=.type "tuple" /\ o.data=.seq #[.int p.1 t,.int p.2 t'] n
def q0Z(h:Heap):List Value->List (Int×Int)->Prop
 | [],[]=>True
 | v::vs,p::ps=>PrAt h v p/\q0Z h vs ps
 | _,_=>False
theorem PrAt.keep{h h':Heap}{v:Value}{p:Int×Int}(x:PrAt h v p)(k:∀b o,h.get? b=some o->h'.get? b=some o):PrAt h' v p:=by
 obtain⟨a,o,n,t,t',e1,e2,e3,e4⟩:=x;exact⟨a,o,n,t,t',e1,k _ _ e2,e3,e4⟩
theorem q0Z.keep{h h':Heap}(k:∀b o,h.get? b=some o->h'.get? b=some o):∀{vs:List Value} {ps:List (Int×Int)},q0Z h vs ps->q0Z h' vs ps
 | [],[],_=>trivial
 | _::_,_::_,x=>⟨x.1.keep k,q0Z.keep k x.2⟩
 | [],_::_,x=>x.elim
 | _::_,[],x=>x.elim
theorem q0Z.keepNe{h h':Heap}{a:Addr}{xs:Array Value}{n:Nat}(ho:h.get? a=some (seqObj "list" xs n))(k:∀b o,b≠a->h.get? b=some o->h'.get? b=some o):∀{vs:List Value} {ps:List (Int×Int)},q0Z h vs ps->q0Z h' vs ps
 | [],[],_=>trivial
 | _::_,_::_,x=>by obtain⟨⟨b,o,m,t,t',e1,e2,e3,e4⟩,y⟩:=x;refine⟨⟨b,o,m,t,t',e1,k b o (λz=>?_) e2,e3,e4⟩,y.keepNe ho k⟩;subst z;rw[ho]at e2;cases e2;exact absurd e3 (by intro z;injection z with z;exact absurd z (by decide))
 | [],_::_,x=>x.elim
 | _::_,[],x=>x.elim
theorem q0Z.len{h:Heap}:∀{vs:List Value} {ps:List (Int×Int)},q0Z h vs ps->vs.length=ps.length
 | [],[],_=>rfl
 | _::_,_::_,x=>by rw[List.length_cons,List.length_cons,x.2.len]
 | [],_::_,x=>x.elim
 | _::_,[],x=>x.elim
theorem q0Z.get{h:Heap}:∀{vs:List Value} {ps:List (Int×Int)} {i:Nat},q0Z h vs ps->i<ps.length->PrAt h (vs.getD i .none) (ps.getD i (0,0))
 | [],[],_,_,hi=>by simp at hi
 | _::_,_::_,0,x,_=>x.1
 | _::_,_::_,i+1,x,hi=>x.2.get (by simpa using hi)
 | [],_::_,_,x,_=>x.elim
 | _::_,[],_,x,_=>x.elim
theorem q0Z.tups{h:Heap}:∀{vs:List Value} {ps:List (Int×Int)},q0Z h vs ps->∃fs,KatTups h vs fs/\fs.length=ps.length/\∀v∈fs,∃i t,v=Value.int i t
 | [],[],_=>⟨[],trivial,rfl,λ_ h=>nomatch h⟩
 | _::_,p::ps,x=>by
  obtain⟨⟨a,o,n,t,t',rfl,e2,e3,e4⟩,y⟩:=x;obtain⟨fs,k1,k2,k3⟩:=y.tups;refine⟨.int p.1 t::fs,KatTups.cons e2 e3 e4 rfl k1,by rw[List.length_cons,List.length_cons,k2],λv hv=>?_⟩;rcases List.mem_cons.mp hv with q | q
  ·exact⟨_,_,q⟩
  ·exact k3 v q
 | [],_::_,x=>x.elim
 | _::_,[],x=>x.elim
section
variable {prog:Program} {w:World} {A:Around} {E:Value->Shared->Prop} {s:Shared}
end
end L2
end
noncomputable section
namespace L2
open PySem PySem.Spec PyProof.Rows
section
variable {prog:Program} {w:World} {A:Around} {E:Value->Shared->Prop} {s:Shared}
theorem minT{l:Addr}{vs:List Value}{ns:List Int}{Q:Value->Shared->Prop}(hh:A.handled=none)(hl:s.heap.IsTuple l vs.toArray)(hi:IntsAre vs ns)(hz:ns≠[])
  (h:∀h' M (t:Tok) tk,(∀b o,s.heap.get? b=some o->h'.get? b=some o)->M∈ns->(∀a∈ns,M<=a)->Q (.int M t) {s with heap:=h',toks:=tk}):wpAny (model prog w) A (call (.builtin "min") [.ref l]) Q E s:=by
 obtain⟨ys,e⟩:=hi.allInts.items;have en:ns=ys.toList.map (·.1):=by rw[←hi.numsOf,←nums_intItems,←e]
 have zy:0<ys.size:=by
  have q:0<ns.length:=List.length_pos_iff.mpr hz
  rwa [en,List.length_map,Array.length_toList]at q
 rw[e]at hl;refine q5u hh hl zy λv h1 tk q k=>?_
 obtain⟨t,ev⟩:=intItems_at q;subst ev;obtain⟨g1,g2⟩:=argBest_lt (numAt ys) (ys.size - 1);refine h h1 _ t tk k ?_ λa ha=>?_
 ·rw[en,numAt_eq];exact z5k (by rw[List.length_map,Array.length_toList];omega)
 ·rw[en]at ha;obtain⟨j,hj,ej⟩:=mem_getD ha;subst ej;rw[List.length_map,Array.length_toList]at hj;rw[←numAt_eq];exact g2 j (by omega)
end
section
variable {X:Cx}
theorem q8R(hc:X.calm=true):q1G X (.builtin "min") (λxs H Q=>∃(a:Addr) (ns:List Int),xs=[.ref a]/\SqT X.K H a (ns.map V.int)/\ns≠[]/\∀M,M∈ns->(∀x∈ns,M<=x)->Q (.int M) H):=by
 intro pins s σ H xs us Q I r h;obtain⟨a,ns,rfl,hq,hz,q⟩:=h;obtain⟨u,rfl,r1⟩:=q4O r;cases r1;obtain⟨its,rv,pl,_⟩:=I.tuple hq;exact minT (I.ok.hd hc) pl (z1J rv) hz λh' M t tk k m1 m2=>⟨.int M,H,I.kept k,⟨t,rfl⟩,q M m1 m2⟩
def PrsV(K:PySem.W.Frag)(H:Hp):List V->List (Int×Int)->Prop
 | [],[]=>True
 | v::vs,p::ps=>(∃a,v=.ref a/\SqT K H a [.int p.1,.int p.2])/\PrsV K H vs ps
 | _,_=>False
theorem PrsV.at{pins:List (Addr×Obj)}{σ:St}{H:Hp}{s:Shared}(I:Inv X pins σ H s):∀{vs:List V} {ps:List (Int×Int)} {its:List Value},PrsV X.K H vs ps->Vals vs its->q0Z s.heap its ps
 | [],[],its,_,r=>by cases r;exact trivial
 | _::_,p::ps,its,x,r=>by
  obtain⟨⟨a,rfl,h1⟩,h2⟩:=x;cases its with
  | nil=>cases r
  | cons u us=>
   cases r;rename_i r1 r2;cases r1;obtain⟨its2,rv,⟨o,e1,e2,n,e3⟩,_⟩:=I.tuple h1;obtain⟨u1,u2,rfl,⟨t,rfl⟩,⟨t',rfl⟩⟩:=z2X rv;exact⟨⟨a,o,n,t,t',rfl,e1,e2,e3⟩,h2.at I r2⟩
 | [],_::_,_,x,_=>x.elim
 | _::_,[],_,x,_=>x.elim
end
end L2
end
noncomputable section
namespace L2
open PySem PySem.W PyProof.Rows
structure Ord(n:Nat)(c:Nat->Nat->Bool):Prop where
 tot:∀i j,i<n->j<n->i≠j->c i j=false->c j i=true
 asy:∀i j,i<n->j<n->c i j=true->c j i=false
 tr:∀i j k,i<n->j<n->k<n->c i j=true->c j k=true->c i k=true
section
variable {n:Nat} {c:Nat->Nat->Bool} {p:Array Nat}
end
end L2
end
noncomputable section
namespace L2
open PySem PySem.Spec PyProof.Rows
section
variable {prog:Program} {w:World} {A:Around} {E:Value->Shared->Prop} {s:Shared}
theorem z0N{items:Array Value}{bs:List Bool}(e:items.toList=bs.map Value.bool):TruthOf prog w A (λi v=>items[i]? = some v) (λi=>bs.getD i false):=by
 intro i v s Q E hP hQ;have h1:(bs.map Value.bool)[i]? = some v:=by rw[←e,Array.getElem?_toList];exact hP
 rw[List.getElem?_map]at h1;obtain⟨b,h2,rfl⟩:=Option.map_eq_some_iff.mp h1;have hQ':Q (bs.getD i false) s:=hQ;rw[List.getD_eq_getElem?_getD,h2]at hQ';exact PySem.wpAny_truthy_bool hQ'
theorem q9I(bs:List Bool):(List.range bs.length).all (λi=>bs.getD i false)=bs.all id:=by
 rw[Bool.eq_iff_iff,List.all_eq_true,List.all_eq_true];constructor
 ·intro h x hx;obtain⟨i,hi,rfl⟩:=List.getElem_of_mem hx;have:=h i (List.mem_range.mpr hi);rw[List.getD_eq_getElem?_getD,List.getElem?_eq_getElem hi]at this;exact this
 ·intro h i hi;have hi:=List.mem_range.mp hi;rw[List.getD_eq_getElem?_getD,List.getElem?_eq_getElem hi];exact h _ (List.getElem_mem hi)
theorem allL{l:Addr}{items:Array Value}{bs:List Bool}{Q:Value->Shared->Prop}(hh:A.handled=none)(hl:s.heap.IsList l items)(e:items.toList=bs.map Value.bool)
  (h:∀h' tk,(∀b o,s.heap.get? b=some o->h'.get? b=some o)->Q (.bool (bs.all id)) {s with heap:=h',toks:=tk}):wpAny (model prog w) A (call (.builtin "all") [.ref l]) Q E s:=by
 have hlt:l<s.heap.objs.size:=by obtain⟨_,e,_⟩:=hl;exact Heap.lt_size e
 have hn:items.size=bs.length:=by rw[←Array.length_toList,e,List.length_map]
 refine call_all_walk (wpAny_pyIter_list hl ⟨_,_,_,_,_,_,λi=>bs.getD i false,rfl,Walks.list (A:=A.in1) hh s.heap.objs.size l (Nat.ne_of_lt hlt) items,⟨⟨_,Heap.get?_push_size _ rfl,rfl,rfl⟩,hl.push _⟩,z0N e,λh' tk hk=>?_⟩);rw[hn,q9I];exact h h' tk λb o eb=>hk b o (by simp;exact Nat.ne_of_lt (Heap.lt_size eb)) (Heap.get?_push_of_some _ eb)
theorem sumL{l:Addr}{vs:List Value}{ns:List Int}{Q:Value->Shared->Prop}(hh:A.handled=none)(hl:s.heap.IsList l vs.toArray)(hi:IntsAre vs ns)
  (h:∀h' tk t,(∀b o,s.heap.get? b=some o->h'.get? b=some o)->Q (.int ns.sum t) {s with heap:=h',toks:=tk}):wpAny (model prog w) A (call (.builtin "sum") [.ref l]) Q E s:=by
 obtain⟨ys,e⟩:=hi.allInts.items;have en:ns=ys.toList.map (·.1):=by rw[←hi.numsOf,←nums_intItems,←e]
 rw[e]at hl;refine sum_intListG hh hl λh' tk t' hk=>?_
 have:=h h' tk t' hk;rw[preSum_eq,List.take_of_length_le (by simp)];rw[en]at this;exact this
end
section
variable {X:Cx}
theorem z6v:∀{bs:List Bool} {us:List Value},Vals (bs.map V.bl) us->us=bs.map Value.bool
 | [],_,h=>by cases h;rfl
 | b::bs,_,h=>by
  cases h with
  | cons r t=>
   rw[z6v t];cases(show _=Value.bool b from r);rfl
theorem q9X(hc:X.calm=true):q1G X (.builtin "all") (λxs H Q=>∃(a:Addr) (bs:List Bool),xs=[.ref a]/\SqL X.K H a (bs.map V.bl)/\Q (.bl (bs.all id)) H):=by
 intro pins s σ H xs us Q I r h;obtain⟨a,bs,rfl,hq,q⟩:=h;obtain⟨u,rfl,r1⟩:=q4O r;cases r1;obtain⟨its,rv,pl,_⟩:=I.list hq;exact allL (I.ok.hd hc) pl.isList (by simpa using z6v rv) λh' tk k=>⟨.bl _,H,I.kept k,rfl,q⟩
theorem z0e(hc:X.calm=true):q1G X (.builtin "sum") (λxs H Q=>∃(a:Addr) (ns:List Int),xs=[.ref a]/\SqL X.K H a (ns.map V.int)/\Q (.int ns.sum) H):=by
 intro pins s σ H xs us Q I r h;obtain⟨a,ns,rfl,hq,q⟩:=h;obtain⟨u,rfl,r1⟩:=q4O r;cases r1;obtain⟨its,rv,pl,_⟩:=I.list hq;exact sumL (I.ok.hd hc) pl.isList (z1J rv) λh' tk t k=>⟨.int _,H,I.kept k,⟨t,rfl⟩,q⟩
end
end L2
end
noncomputable section
namespace L2
open PySem
structure Sg where
 N:List Str
 sc:List (Str×NameKind)
 fn:List Str
 bl:List Str
 cl:List Str
 top:Bool
 lp:Bool
def q0O:Expr->Option Str | .Name x _=>some x | _=>none
def q2i:Expr->Option Const | .Constant c _ _=>some c | _=>none
def z1e:Expr->Option (Expr×Operator×Expr) | .BinOp a o b _=>some (a,o,b) | _=>none
def asUn:Expr->Option (UnaryOp×Expr) | .UnaryOp o a _=>some (o,a) | _=>none
def z2Y:Expr->Option (Expr×List CmpOp×List Expr) | .Compare a o b _=>some (a,o,b) | _=>none
def q7n:Expr->Option (BoolOp×List Expr) | .BoolOp o es _=>some (o,es) | _=>none
def q9U:Expr->Option (List Expr) | .List es _=>some es | _=>none
def q3i:Expr->Option (List Expr) | .Tuple es _ _=>some es | _=>none
def q8o:Expr->Option (Expr×Expr) | .Subscript a b _=>some (a,b) | _=>none
def q6R:Expr->Option (Option Expr×Option Expr×Option Expr) | .Slice a b c _=>some (a,b,c) | _=>none
def q2f:Expr->Option (Expr×List Expr×List Keyword×Pos) | .Call f as ks p=>some (f,as,ks,p) | _=>none
def q4C:Expr->Option (Expr×Str×Pos) | .Attribute a n p=>some (a,n,p) | _=>none
def q8V:Expr->Option (Expr×List Comprehension×Scope) | .ListComp e gs sc _=>some (e,gs,sc) | _=>none
def q0u:Expr->Bool | .Starred _ _=>true | _=>false
def q5j:Expr->Bool | .Slice _ _ _ _=>true | _=>false
def q3B:Expr->Bool | .Set _ _ _=>true | _=>false
def q4D:Expr->Bool | .ListComp _ _ _ _=>true | .SetComp _ _ _ _=>true | .DictComp _ _ _ _ _=>true | _=>false
theorem q0o{e:Expr}{x:Str}(h:q0O e=some x):∃p,e=.Name x p:=by
 cases e<;>simp[q0O]at h;subst h;exact⟨_,rfl⟩
theorem q3v{e:Expr}{x:Const}(h:q2i e=some x):∃k p,e=.Constant x k p:=by
 cases e<;>simp[q2i]at h;subst h;exact⟨_,_,rfl⟩
theorem q5d{e a b:Expr}{o:Operator}(h:z1e e=some (a,o,b)):∃p,e=.BinOp a o b p:=by
 cases e<;>simp[z1e]at h;obtain⟨rfl,rfl,rfl⟩:=h;exact⟨_,rfl⟩
theorem q9h{e a:Expr}{o:UnaryOp}(h:asUn e=some (o,a)):∃p,e=.UnaryOp o a p:=by
 cases e<;>simp[asUn]at h;obtain⟨rfl,rfl⟩:=h;exact⟨_,rfl⟩
theorem q7r{e a:Expr}{os:List CmpOp}{bs:List Expr}(h:z2Y e=some (a,os,bs)):∃p,e=.Compare a os bs p:=by
 cases e<;>simp[z2Y]at h;obtain⟨rfl,rfl,rfl⟩:=h;exact⟨_,rfl⟩
theorem q3f{e:Expr}{o:BoolOp}{es:List Expr}(h:q7n e=some (o,es)):∃p,e=.BoolOp o es p:=by
 cases e<;>simp[q7n]at h;obtain⟨rfl,rfl⟩:=h;exact⟨_,rfl⟩
theorem q6n{e:Expr}{es:List Expr}(h:q9U e=some es):∃p,e=.List es p:=by
 cases e<;>simp[q9U]at h;subst h;exact⟨_,rfl⟩
theorem q2v{e:Expr}{es:List Expr}(h:q3i e=some es):∃k p,e=.Tuple es k p:=by
 cases e<;>simp[q3i]at h;subst h;exact⟨_,_,rfl⟩
theorem q2y{e a b:Expr}(h:q8o e=some (a,b)):∃p,e=.Subscript a b p:=by
 cases e<;>simp[q8o]at h;obtain⟨rfl,rfl⟩:=h;exact⟨_,rfl⟩
theorem q7V{e:Expr}{a b c:Option Expr}(h:q6R e=some (a,b,c)):∃p,e=.Slice a b c p:=by
 cases e<;>simp[q6R]at h;obtain⟨rfl,rfl,rfl⟩:=h;exact⟨_,rfl⟩
theorem q0A{e f:Expr}{as:List Expr}{ks:List Keyword}{p:Pos}(h:q2f e=some (f,as,ks,p)):e=.Call f as ks p:=by
 cases e<;>simp[q2f]at h;obtain⟨rfl,rfl,rfl,rfl⟩:=h;rfl
theorem q3k{e a:Expr}{n:Str}{p:Pos}(h:q4C e=some (a,n,p)):e=.Attribute a n p:=by
 cases e<;>simp[q4C]at h;obtain⟨rfl,rfl,rfl⟩:=h;rfl
theorem q8F{e x:Expr}{gs:List Comprehension}{sc:Scope}(h:q8V e=some (x,gs,sc)):∃p,e=.ListComp x gs sc p:=by
 cases e<;>simp[q8V]at h;obtain⟨rfl,rfl,rfl⟩:=h;exact⟨_,rfl⟩
def visB(sg:Sg)(x:Str):Bool:=sg.sc.lookup x==some .local||sg.sc.lookup x==some .cell||sg.sc.lookup x==some .free
def gloB(sg:Sg)(x:Str):Bool:=sg.sc.lookup x==some .globalImplicit
def locB(sg:Sg)(x:Str):Bool:=sg.sc.lookup x==some .local||sg.sc.lookup x==some .cell
def q2X(sg:Sg)(i:Nat)(x:Str):Bool:=sg.N[i]? == some x&&visB sg x&&x != "__debug__" && x != "__classdict__"
def bltB(sg:Sg)(x:Str)(f:Expr):Bool:=q0O f==some x&&gloB sg x&&sg.bl.contains x
def z5H:Bi->Str
 | .len=>"len" | .min=>"min" | .sum=>"sum" | .all=>"all" | .list=>"list" | .tuple=>"tuple"
def z2e:Mt->Str
 | .bitLength=>"bit_length" | .index=>"index" | .get=>"get"
structure CParts where
 elt:Expr
 tg:Expr
 it:Expr
 ifs:List Expr
 sc:Scope
def q4K(e:Expr):Option CParts:=match q8V e with
 | some (elt,[⟨tg,it,ifs,a⟩],sc)=>if a=0 then some ⟨elt,tg,it,ifs,sc⟩else none
 | _=>none
theorem q4c{e:Expr}{c:CParts}(h:q4K e=some c):∃p,e=.ListComp c.elt [⟨c.tg,c.it,c.ifs,0⟩] c.sc p:=by
 unfold q4K at h;split at h
 ·rename_i elt tg it ifs a sc q;split at h
  ·rename_i ha;cases h;subst ha;exact q8F q
  ·cases h
 ·cases h
def q1p(sg:Sg)(tn:List Str)(fr:List (Option Nat)):List Str:=tn++(fr.drop tn.length).map λo=>match o with | some i=>sg.N.getD i "" | none=>""
def q8O:Tg->Expr->Option (List Str)
 | .one _,e=>(q0O e).map λx=>[x]
 | .many is,e=>match q3i e with
  | some es=>if es.length=is.length then es.mapM q0O else none
  | none=>none
def tgOk(sg:Sg):Tg->Expr->Bool
 | .one i,e=>match q0O e with
  | some x=>sg.N[i]? == some x&&locB sg x
  | none=>false
 | .many is,e=>match q3i e with
  | some es=>es.length==is.length&&2<=es.length&&(is.zip es).all λp=>match q0O p.2 with
   | some x=>sg.N[p.1]? == some x&&locB sg x
   | none=>false
  | none=>false
def q3w:List Str->Bool
 | []=>true
 | x::r=>!r.contains x&&q3w r
def q2V:Tg->List Nat
 | .one i=>[i]
 | .many is=>is
def q2o(sg:Sg)(N':List Str)(fr:List (Option Nat))(sc:Scope)(tg:Tg):Bool:=(q2V tg).all (λi=>fr[i]? == some none) &&
 sc.kind == .function&&q3w N'&&q3w (sc.names.map (·.1))&&fr.length==N'.length &&
 (fr.zip N').all (λp=>match p.1 with | some i=>sg.N[i]? == some p.2&&sc.names.contains (p.2,.free) | none=>true) &&
 sc.names.all λy=>if y.2 == .free then sg.sc.lookup y.1==some .cell||sg.sc.lookup y.1==some .free else true
def z6Z(p:Arguments):Option (List Str):=match p with
 | ⟨[],[a],none,[],[],none,[]⟩=>if(["way","entry","word"]:List Str).contains a.arg then some [a.arg]else none
 | ⟨[],[a,b],none,[],[],none,[]⟩=>if a.arg==("r" : Str)&&b.arg==("c" : Str)then some [a.arg,b.arg]else none
 | _=>none
def q9s:ME->Bool
 | .comp _ _ _ _=>true
 | .compi _ _ _ _ _=>true
 | _=>false
def isZp:ME->Bool
 | .zp _ _=>true
 | _=>false
def rdN:List Str:=["sign","at_digit","take","take_digit","take_plan","take_side","take_cards"]
mutual
def corE(sg:Sg)(w:Bool):ME->Expr->Bool
 | .var i,e=>match q0O e with | some x=>q2X sg i x | none=>false
 | .int i,e=>q2i e==some (.int i)
 | .bl i,e=>q2i e==some (.bool i)
 | .str x,e=>q2i e==some (.str x)&&decide (x.length<=1000)
 | .non,e=>q2i e==some .none
 | .glb x,e=>q0O e==some x&&gloB sg x&&x != "__debug__"
 | .bin op a b,e=>match z1e e with | some (ea,o,eb)=>o==op&&corE sg false a ea&&corE sg false b eb | none=>false
 | .not a,e=>match asUn e with | some (o,ea)=>o == .Not&&corE sg false a ea | none=>false
 | .cmp op a b,e=>match z2Y e with | some (ea,[o],[eb])=>o==op&&corE sg false a ea&&corE sg false b eb && !q3B eb | _=>false
 | .and ms,e=>match q7n e with | some (o,es)=>o == .And&&q0Q sg ms es | none=>false
 | .or ms,e=>match q7n e with | some (o,es)=>o == .Or&&q0Q sg ms es | none=>false
 | .lst ms,e=>match q9U e with | some es=>q0Q sg ms es | none=>false
 | .tup ms,e=>match q3i e with | some es=>q0Q sg ms es | none=>false
 | .dc0,e=>match e with | .Dict [] [] _=>true | _=>false
 | .ix a b,e=>match q8o e with | some (ea,eb)=>corE sg false a ea&&corE sg false b eb && !q5j eb | none=>false
 | .sl a lo hi,e=>match q8o e with
  | some (ea,es)=>(match q6R es with | some (some el,some eh,none)=>corE sg false a ea&&corE sg false lo el&&corE sg false hi eh | _=>false)
  | none=>false
 | .call f ms,e=>match q2f e with
  | some (ef,es,[],_)=>(match q0O ef with | some x=>sg.fn[f]? == some x&&gloB sg x&&x != "__debug__" | none=>false) && !es.isEmpty&&q0Q sg ms es
  | _=>false
 | .bi f ms,e=>match q2f e with
  | some (ef,es,[],_)=>bltB sg (z5H f) ef && !es.isEmpty&&(match f with
   | _=>q0Q sg ms es)
  | _=>false
 | .isi a ts,e=>match q2f e with
  | some (ef,[ea,et],[],_)=>bltB sg "isinstance" ef&&corE sg false a ea && !q0u ea && !q0u et&&(match ts with
   | [t]=>q0O et==some t&&gloB sg t&&sg.bl.contains t&&q2k.contains t
   | _=>false)
  | _=>false
 | .meth m a ms,e=>match q2f e with
  | some (ef,[],[],pos)=>(match q4C ef with
   | some (ea,n,apos)=>n==z2e m&&corE sg false a ea&&((q0O ea).isSome||(z1e ea).isSome)&&apos.endLine==pos.line&&ms.isEmpty
   | none=>false)
  | _=>false
 | .comp elt tg it fr,e=>match q4K e with
  | some c=>c.ifs.isEmpty&&(corE sg true it c.it&&(!isZp it||(q3i c.tg).isSome)) && !q3B c.it&&(match q8O tg c.tg with
   | some tn=>q2o sg (q1p sg tn fr) fr c.sc tg&&tgOk ⟨q1p sg tn fr,c.sc.names,sg.fn,sg.bl,sg.cl,false,false⟩ tg c.tg&&corE ⟨q1p sg tn fr,c.sc.names,sg.fn,sg.bl,sg.cl,false,false⟩ false elt c.elt
   | none=>false)
  | none=>false
 | .compi elt tg it cd fr,e=>match q4K e with
  | some c=>(corE sg true it c.it&&(!isZp it||(q3i c.tg).isSome)) && !q3B c.it&&(match q8O tg c.tg,c.ifs with
   | some tn,[ec]=>q2o sg (q1p sg tn fr) fr c.sc tg&&tgOk ⟨q1p sg tn fr,c.sc.names,sg.fn,sg.bl,sg.cl,false,false⟩ tg c.tg&&corE ⟨q1p sg tn fr,c.sc.names,sg.fn,sg.bl,sg.cl,false,false⟩ false elt c.elt&&corE ⟨q1p sg tn fr,c.sc.names,sg.fn,sg.bl,sg.cl,false,false⟩ false cd ec
   | _,_=>false)
  | none=>false
 | .rng ms,e=>w&&(match q2f e with
  | some (ef,es,[],_)=>bltB sg "range" ef&&q0Q sg ms es&&decide (es.length<=3)
  | _=>false)
 | .zp a b,e=>w&&(match q2f e with
  | some (ef,[ea,eb],[],_)=>bltB sg "zip" ef&&corE sg false a ea&&corE sg false b eb && !q0u ea && !q0u eb
  | _=>false)
 | .srd i,e=>match q2f e with
  | some (ef,[eo],[],_)=>bltB sg "sorted" ef&&(match q0O eo with | some x=>q2X sg i x | none=>false)
  | _=>false
def q0Q(sg:Sg):List ME->List Expr->Bool
 | [],[]=>true
 | m::ms,e::es=>corE sg false m e && !q0u e&&q0Q sg ms es
 | _,_=>false
end
def q0U:Str:="_law_hung"
def hunB(sg:Sg)(i:Nat)(v:Expr):Option Expr:=match q2f v with
 | some (ef,[ea,eo],[],_)=>(match q0O ef,q0O eo with
  | some f,some x=>if f==q0U&&gloB sg f&&q2X sg i x && !q0u ea then some ea else none
  | _,_=>none)
 | _=>none
mutual
def corS(sg:Sg):MS->Stmt->Bool
 | .set i _ e,s=>match s with
  | .Assign [t] v pos=>(match t with
   | .Name x pt=>sg.N[i]? == some x&&locB sg x&&corE sg false e v&&(!q4D v||q9s e)
   | _=>false)
  | _=>false
 | .app i e,s=>match s with
  | .Expr v _=>(match q2f v with
   | some (ef,[ea],[],pos)=>(match q4C ef with
    | some (o,n,apos)=>n == "append" && (match q0O o with | some x=>q2X sg i x | none=>false)&&corE sg false e ea && !q0u ea&&apos.endLine==pos.line
    | none=>false)
   | _=>false)
  | _=>false
 | .seti i k e,s=>match s with
  | .Assign [t] v _=>(match q8o t with
   | some (o,ek)=>(match q0O o with | some x=>q2X sg i x | none=>false)&&corE sg false k ek && !q5j ek&&corE sg false e v
   | none=>false)
  | _=>false
 | .ret e,s=>match s with
  | .Return (some v) _=>corE sg false e v
  | _=>false
 | .iff c a b,s=>match s with
  | .If ec ea eb _=>corE sg false c ec&&q2T sg a ea&&q2T sg b eb
  | _=>false
 | .fo tg it body,s=>match s with
  | .For t i b [] _=>sg.lp&&tgOk sg tg t&&(corE sg true it i&&(!isZp it||(q3i t).isSome)) && !q3B i&&q2T sg body b
  | _=>false
 | .ses i,s=>match s with
  | .Assign [t] v _=>(match q0O t with
   | some x=>(match v with | .Dict [] [] _=>sg.N[i]? == some x&&locB sg x | _=>false)
   | none=>false)
  | _=>false
 | .dpt i ks e,s=>match s with
  | .Assign [t] v _=>(match q8o t with
   | some (o,ek)=>(match q0O o with | some x=>q2X sg i x | none=>false)&&(match q3i ek with | some es=>q0Q sg ks es | none=>false)&&corE sg false e v && !q4D v
   | none=>false)
  | _=>false
 | .frz _,_=>false
def q2T(sg:Sg):List MS->List Stmt->Bool
 | [],[]=>true
 | .frz _::ms,ss=>q2T sg ms ss
 | m::ms,s::ss=>corS sg m s&&q2T sg ms ss
 | _,_=>false
end
end L2
end
noncomputable section
namespace L2
open PySem PySem.Spec PyProof.Rows
def z0Q(H:Hp)(q:Str)(params:Arguments)(body:Expr)(scope:Scope)(cl:List (Str×Addr))(f:Addr):Prop:=
 ∃c' oc u vs t pm ctv,H f=some (.frz (PySem.W.kla_obj "<lambda>" q params body scope cl pm c' ctv) (.own f))/\H c'=some (.frz oc u)/\oc.data=.fields vs/\vs[1]? = some (.str q t)
theorem z0Q.mono{H H':Hp}{q:Str}{params:Arguments}{body:Expr}{scope:Scope}{cl:List (Str×Addr)}{f:Addr}(e:Same H H')(h:z0Q H q params body scope cl f):z0Q H' q params body scope cl f:=by
 obtain⟨c',oc,u,vs,t,pm,ctv,e1,e2,r⟩:=h;exact⟨c',oc,u,vs,t,pm,ctv,e _ _ e1,e _ _ e2,r⟩
structure LamScope(N ps:List Str)(sc:Scope)(cl:List (Str×Addr))(l:List Addr):Prop where
 kind:sc.kind=.function
 co:sc.isCoroutine=false
 gen:sc.isGenerator=false
 nd:N.Nodup
 pre:N.take ps.length=ps
 par:∀x∈ps,sc.names.lookup x=some .local
 nocell:∀y∈sc.names,y.2 ≠ .cell
 fre:∀i x,ps.length<=i->N[i]? = some x->sc.names.lookup x=some .free
 has:∀x,sc.names.lookup x=some .free->∃c,cl.lookup x=some c
 inj:∀x y c,cl.lookup x=some c->cl.lookup y=some c->x=y
 mem:∀x c,cl.lookup x=some c->c∈l
def z1g(H:Hp)(N:List Str)(np:Nat)(cl:List (Str×Addr))(l:List Addr)(ws:List V):Prop:=N.length=np+ws.length/\(∀c∈l,∃o v,H c=some (.frz o (.own c))/\o.data=.cell v) /\
 ∀(i:Nat) x v,N[np+i]? = some x->ws[i]? = some v->∃c o u,cl.lookup x=some c/\H c=some (.frz o (.own c))/\o.data=.cell (some u)/\RelV v u
theorem z1g.mono{H H':Hp}{N:List Str}{np:Nat}{cl:List (Str×Addr)}{l:List Addr}{ws:List V}(e:Same H H')(h:z1g H N np cl l ws):z1g H' N np cl l ws:=
 ⟨h.1,λc hc=>by obtain⟨o,v,e1,e2⟩:=h.2.1 c hc;exact⟨o,v,e _ _ e1,e2⟩,λi x v h1 h2=>by obtain⟨c,o,u,e1,e2,r⟩:=h.2.2 i x v h1 h2;exact⟨c,o,u,e1,e _ _ e2,r⟩⟩
def z5A(m:LamD)(params:Arguments)(body:Expr)(scope:Scope):Bool:=z6Z params==some (m.N.take m.np)&&corE ⟨m.N,scope.names,m.fn,m.bl,m.cl,false,false⟩ false m.body body
end L2
end
noncomputable section
namespace L2
open PySem PySem.Spec PyProof.Rows
structure Dm where
 K:PySem.W.Frag
 mg:Str->Option Value
abbrev Cx.D(X:Cx):Dm:=⟨X.K,X.mg⟩
def SqS(K:PySem.W.Frag)(H:Hp)(a:Addr)(xs:List V):Prop:=(∃o,H a=some (.frz o (.lst xs))) \/
 ∃(o:Obj) (its:Array Value) (n:Nat),K.lookup a=some o/\o.cls=.type "list" /\ o.dict=none/\o.data=.seq its n/\its.size<=sizeLine/\Vals xs its.toList
theorem SqS.sq{K:PySem.W.Frag}{H:Hp}{a:Addr}{xs:List V}(h:SqS K H a xs):SqL K H a xs:=by
 rcases h with h | h
 ·exact .inl (.inr h)
 ·exact .inr h
theorem SqS.of{K:PySem.W.Frag}{H:Hp}{a:Addr}{xs:List V}(hO:Only H)(h:SqL K H a xs):SqS K H a xs:=by
 rcases h with(h | h) | h
 ·rcases hO a with z | z
  ·rw[h]at z;cases z
  ·rcases z with⟨o,ys,z⟩ | ⟨q,z⟩<;>(rw[h]at z;cases z)
 ·exact .inl h
 ·exact .inr h
theorem Same.sqs{K:PySem.W.Frag}{H H':Hp}{a:Addr}{xs:List V}(e:Same H H')(h:SqS K H a xs):SqS K H' a xs:=by
 rcases h with⟨o,h⟩ | h
 ·exact .inl ⟨o,e _ _ h⟩
 ·exact .inr h
def dKey:Key->DKey
 | .inl i=>.i i
 | .inr x=>.s x
def mutO:HO->Bool
 | .lst _=>true
 | .dK _=>true
 | .dT _=>true
 | .ins _ _ _=>true
 | _=>false
mutual
def Rep(D:Dm)(H:Hp):DV->V->Prop
 | .non,v=>v=.non
 | .bl b,v=>v=.bl b
 | .int i,v=>v=.int i
 | .str x,v=>v=.str x/\x.length<=sizeLine
 | .tup ds,v=>∃a xs,v=.ref a/\SqT D.K H a xs/\RepL D H ds xs
 | .lst ds,v=>∃a xs,v=.ref a/\H a=some (.lst xs)/\RepL D H ds xs
 | .dct ks vs,v=>(∃a o kvs,v=.ref a/\H a=some (.frz o (.dK kvs))/\kvs.map (λp=>dKey p.1)=ks/\RepL D H vs (kvs.map (·.2)))\/∃a o kvs,v=.ref a/\H a=some (.frz o (.dT kvs))/\kvs.map (λp=>DKey.t p.1)=ks/\RepL D H vs (kvs.map (·.2))
 | .exc c,v=>∃a C,v=.ref a/\D.mg c=some C/\H a=some (excO a C)
 | .fn x,v=>∃f,v=.ref f/\D.mg x=some (.ref f)
 | .lam m cs,v=>∃f pr bd sc q cl l ws,v=.ref f/\z0Q H q pr bd sc cl f/\z5A m pr bd sc=true/\LamScope m.N (m.N.take m.np) sc cl l/\RepL D H cs ws/\z1g H m.N m.np cl l ws
 | .scr ns,v=>∃a,v=.ref a/\SqS D.K H a (ns.map V.int)
def RepL(D:Dm)(H:Hp):List DV->List V->Prop
 | [],xs=>xs=[]
 | d::ds,xs=>∃v vs,xs=v::vs/\Rep D H d v/\RepL D H ds vs
end
theorem Same.tseq{K:PySem.W.Frag}{H H':Hp}{a:Addr}{xs:List V}(e:Same H H')(h:SqT K H a xs):SqT K H' a xs:=by
 rcases h with(h | ⟨o,h⟩) | h
 ·exact .inl (.inl (e _ _ h))
 ·exact .inl (.inr ⟨o,e _ _ h⟩)
 ·exact .inr h
mutual
theorem Rep.mono{D:Dm}{H H':Hp}(e:Same H H'):∀{d:DV} {v:V},Rep D H d v->Rep D H' d v
 | .non,_,h=>by unfold Rep at h ⊢;exact h
 | .bl _,_,h=>by unfold Rep at h ⊢;exact h
 | .int _,_,h=>by unfold Rep at h ⊢;exact h
 | .str _,_,h=>by unfold Rep at h ⊢;exact h
 | .tup ds,_,h=>by unfold Rep at h ⊢;obtain⟨a,xs,e1,e2,e3⟩:=h;exact⟨a,xs,e1,e.tseq e2,RepL.mono e e3⟩
 | .lst ds,_,h=>by unfold Rep at h ⊢;obtain⟨a,xs,e1,e2,e3⟩:=h;exact⟨a,xs,e1,e _ _ e2,RepL.mono e e3⟩
 | .dct _ _,_,h=>by
  unfold Rep at h ⊢;rcases h with⟨a,o,kvs,e1,e2,e3,e4⟩ | ⟨a,o,kvs,e1,e2,e3,e4⟩
  ·exact .inl ⟨a,o,kvs,e1,e _ _ e2,e3,RepL.mono e e4⟩
  ·exact .inr ⟨a,o,kvs,e1,e _ _ e2,e3,RepL.mono e e4⟩
 | .exc C,_,h=>by unfold Rep at h ⊢;obtain⟨a,C,e1,e2,e3⟩:=h;exact⟨a,C,e1,e2,e _ _ e3⟩
 | .fn _,_,h=>by unfold Rep at h ⊢;exact h
 | .lam m cs,_,h=>by unfold Rep at h ⊢;obtain⟨f,pr,bd,sc,q,cl,l,ws,e1,e2,e3,e4,e5,e6⟩:=h;exact⟨f,pr,bd,sc,q,cl,l,ws,e1,e2.mono e,e3,e4,RepL.mono e e5,e6.mono e⟩
 | .scr _,_,h=>by unfold Rep at h ⊢;obtain⟨a,e1,e2⟩:=h;exact⟨a,e1,e.sqs e2⟩
theorem RepL.mono{D:Dm}{H H':Hp}(e:Same H H'):∀{ds:List DV} {xs:List V},RepL D H ds xs->RepL D H' ds xs
 | [],_,h=>by unfold RepL at h ⊢;exact h
 | d::ds,_,h=>by unfold RepL at h ⊢;obtain⟨v,vs,e1,e2,e3⟩:=h;exact⟨v,vs,e1,Rep.mono e e2,RepL.mono e e3⟩
end
section
variable {D:Dm} {H H':Hp} {v:V} {xs ys:List V} {ds es:List DV} {d:DV}
theorem q0R{i:Int}:Rep D H (.int i) v↔v=.int i:=by unfold Rep;exact Iff.rfl
theorem q3X{i:Bool}:Rep D H (.bl i) v↔v=.bl i:=by unfold Rep;exact Iff.rfl
theorem q1e{i:Str}:Rep D H (.str i) v↔(v=.str i/\i.length<=sizeLine):=by unfold Rep;exact Iff.rfl
theorem q4Q:Rep D H .non v↔v=.non:=by unfold Rep;exact Iff.rfl
theorem q0C:Rep D H (.tup ds) v↔∃a xs,v=.ref a/\SqT D.K H a xs/\RepL D H ds xs:=by unfold Rep;exact Iff.rfl
theorem q0y:Rep D H (.lst ds) v↔∃a xs,v=.ref a/\H a=some (.lst xs)/\RepL D H ds xs:=by unfold Rep;exact Iff.rfl
theorem q1T{ns:List Int}:Rep D H (.scr ns) v↔∃a,v=.ref a/\SqS D.K H a (ns.map V.int):=by unfold Rep;exact Iff.rfl
theorem q4e{ks:List DKey}{vs:List DV}:Rep D H (.dct ks vs) v↔((∃a o kvs,v=.ref a/\H a=some (.frz o (.dK kvs))/\kvs.map (λp=>dKey p.1)=ks/\RepL D H vs (kvs.map (·.2)))\/∃a o kvs,v=.ref a/\H a=some (.frz o (.dT kvs))/\kvs.map (λp=>DKey.t p.1)=ks/\RepL D H vs (kvs.map (·.2))):=by unfold Rep;exact Iff.rfl
theorem q0s:RepL D H [] xs↔xs=[]:=by unfold RepL;exact Iff.rfl
theorem q0e:RepL D H (d::ds) xs↔∃v vs,xs=v::vs/\Rep D H d v/\RepL D H ds vs:=by
 constructor
 ·intro h;unfold RepL at h;exact h
 ·intro h;unfold RepL;exact h
end
theorem RepL.length{D:Dm}{H:Hp}:∀{ds:List DV} {xs:List V},RepL D H ds xs->xs.length=ds.length
 | [],_,h=>by rw[q0s.mp h];rfl
 | d::ds,_,h=>by obtain⟨v,vs,e1,_,e3⟩:=q0e.mp h;rw[e1,List.length_cons,List.length_cons,RepL.length e3]
theorem RepL.get{D:Dm}{H:Hp}:∀{ds:List DV} {xs:List V} {i:Nat} {d:DV},RepL D H ds xs->ds[i]? = some d->∃v,xs[i]? = some v/\Rep D H d v
 | [],_,_,_,_,e=>by simp at e
 | d::ds,_,i,d',h,e=>by
  obtain⟨v,vs,e1,e2,e3⟩:=q0e.mp h;subst e1;cases i with
  | zero=>simp at e;subst e;exact⟨v,rfl,e2⟩
  | succ i=>simpa using RepL.get (i:=i) e3 (by simpa using e)
theorem RepL.append{D:Dm}{H:Hp}:∀{ds es:List DV} {xs ys:List V},RepL D H ds xs->RepL D H es ys->RepL D H (ds++es) (xs++ys)
 | [],_,_,_,h,h'=>by rw[q0s.mp h];exact h'
 | d::ds,_,_,_,h,h'=>by obtain⟨v,vs,e1,e2,e3⟩:=q0e.mp h;subst e1;exact q0e.mpr ⟨v,_,rfl,e2,RepL.append e3 h'⟩
theorem RepL.one{D:Dm}{H:Hp}{d:DV}{v:V}(h:Rep D H d v):RepL D H [d] [v]:=q0e.mpr ⟨v,[],rfl,h,q0s.mpr rfl⟩
theorem RepL.take{D:Dm}{H:Hp}:∀{ds:List DV} {xs:List V} (n:Nat),RepL D H ds xs->RepL D H (ds.take n) (xs.take n)
 | _,_,0,_=>q0s.mpr rfl
 | [],_,n+1,h=>by rw[q0s.mp h];exact q0s.mpr rfl
 | d::ds,_,n+1,h=>by obtain⟨v,vs,e1,e2,e3⟩:=q0e.mp h;subst e1;exact q0e.mpr ⟨v,_,rfl,e2,RepL.take n e3⟩
theorem RepL.drop{D:Dm}{H:Hp}:∀{ds:List DV} {xs:List V} (n:Nat),RepL D H ds xs->RepL D H (ds.drop n) (xs.drop n)
 | _,_,0,h=>h
 | [],_,n+1,h=>by rw[q0s.mp h];exact q0s.mpr rfl
 | d::ds,_,n+1,h=>by obtain⟨v,vs,e1,e2,e3⟩:=q0e.mp h;subst e1;exact RepL.drop n e3
theorem RepL.set{D:Dm}{H:Hp}{d:DV}{v:V}(q:Rep D H d v):∀{ds:List DV} {xs:List V} (n:Nat),RepL D H ds xs->RepL D H (ds.set n d) (xs.set n v)
 | [],_,n,h=>by rw[q0s.mp h];exact q0s.mpr rfl
 | _::ds,_,0,h=>by obtain⟨v,vs,e1,e2,e3⟩:=q0e.mp h;subst e1;exact q0e.mpr ⟨_,_,rfl,q,e3⟩
 | _::ds,_,n+1,h=>by obtain⟨v,vs,e1,e2,e3⟩:=q0e.mp h;subst e1;exact q0e.mpr ⟨_,_,rfl,e2,RepL.set q n e3⟩
theorem RepL.rep{D:Dm}{H:Hp}{ds:List DV}{xs:List V}(h:RepL D H ds xs):∀k:Nat,RepL D H (List.replicate k ds).flatten (List.replicate k xs).flatten
 | 0=>q0s.mpr rfl
 | k+1=>by rw[List.replicate_succ,List.replicate_succ,List.flatten_cons,List.flatten_cons];exact h.append (RepL.rep h k)
theorem q1R{D:Dm}{H:Hp}:∀(ns:List Int),RepL D H (ns.map DV.int) (ns.map V.int)
 | []=>q0s.mpr rfl
 | n::ns=>q0e.mpr ⟨_,_,rfl,q0R.mpr rfl,q1R ns⟩
def wo(O:List Addr)(H:Hp):Hp:=λb=>if b∈O then none else H b
theorem z4i{O:List Addr}{H:Hp}{b:Addr}(h:b∈O):wo O H b=none:=if_pos h
theorem q0g{O:List Addr}{H:Hp}{b:Addr}(h:b∉O):wo O H b=H b:=if_neg h
theorem q0v{O:List Addr}{H:Hp}{b:Addr}{o:HO}(h:wo O H b=some o):b∉O/\H b=some o:=by
 by_cases hb:b∈O
 ·rw[z4i hb]at h;cases h
 ·rw[q0g hb]at h;exact⟨hb,h⟩
theorem Same.wo{O:List Addr}{H H':Hp}(e:Same H H'):Same (wo O H) (wo O H'):=λb o h=>by
 obtain⟨hb,h⟩:=q0v h;rw[q0g hb];exact e b o h
theorem q0Y{O:List Addr}{H:Hp}:Same (L2.wo O H) H:=λb o h=>(q0v h).2
theorem q0D{O O':List Addr}{H:Hp}(h:∀b∈O',b∈O):Same (L2.wo O H) (L2.wo O' H):=λb o e=>by
 obtain⟨hb,e⟩:=q0v e;rw[q0g λz=>hb (h b z)];exact e
theorem q0m{H:Hp}{p:Addr}{o:HO}(h:H p=none):Same H (upd H p o):=λb u q=>by rw[q0f (q0p q h)];exact q
structure Hid(O W:List Addr)(H0 H:Hp):Prop where
 ot:∀a∈O++W,H0 a≠none
 same:Same H0 H
 wl:∀a∈W,∃o,H0 a=some o/\mutO o=true
 dj:∀a∈W,a∉O
 om:∀a∈O,∃o,H0 a=some o/\mutO o=true
def Hdn(O:List Addr)(H:Hp):Prop:=∀a∈O,∃o,H a=some o/\mutO o=true
theorem Hdn.ne{O:List Addr}{H:Hp}(h:Hdn O H):∀a∈O,H a≠none:=λa ha q=>by obtain⟨o,e,_⟩:=h a ha;rw[q]at e;cases e
theorem Hid.omS{O W:List Addr}{H0 H H':Hp}(h:Hid O W H0 H)(e:Same H0 H'):Hdn O H':=λa ha=>by obtain⟨o,q,m⟩:=h.om a ha;exact⟨o,e _ _ q,m⟩
theorem Hid.omW{O W:List Addr}{H0 H:Hp}{p:Addr}{x:HO}(h:Hid O W H0 H)(hp:p∈W):Hdn O (upd H0 p x):=λa ha=>by
 obtain⟨o,q,m⟩:=h.om a ha;exact⟨o,by rw[q0f λz=>h.dj p hp (by rw[←z];exact ha)];exact q,m⟩
theorem Hid.hdO{O W:List Addr}{H0 H:Hp}(h:Hid O W H0 H):Hdn O H:=h.omS h.same
theorem Hid.hdA{O W:List Addr}{H0 H:Hp}(h:Hid O W H0 H):Hdn (O++W) H:=λa ha=>by
 rcases List.mem_append.mp ha with z | z
 ·exact h.hdO a z
 ·obtain⟨o,q,m⟩:=h.wl a z;exact⟨o,h.same _ _ q,m⟩
theorem Hid.mono{O W:List Addr}{H0 H H':Hp}(h:Hid O W H0 H)(e:Same H H'):Hid O W H0 H':=⟨h.ot,h.same.trans e,h.wl,h.dj,h.om⟩
theorem Hid.newOut{O W:List Addr}{H0 H:Hp}(h:Hid O W H0 H){p:Addr}(hp:H p=none):p∉O++W:=λz=>h.ot p z (h.same.free hp)
mutual
theorem Rep.immut{D:Dm}{O W:List Addr}{H:Hp}(hw:∀a∈W,∃o,H a=some o/\mutO o=true):∀{d:DV} {v:V},d.immut=true->Rep D (L2.wo O H) d v->Rep D (L2.wo (O++W) H) d v
 | .non,_,_,h=>by unfold Rep at h ⊢;exact h
 | .bl _,_,_,h=>by unfold Rep at h ⊢;exact h
 | .int _,_,_,h=>by unfold Rep at h ⊢;exact h
 | .str _,_,_,h=>by unfold Rep at h ⊢;exact h
 | .tup ds,_,m,h=>by
  unfold Rep at h ⊢;obtain⟨a,xs,e1,e2,e3⟩:=h;have m':DV.immuts ds=true:=by unfold DV.immut at m;exact m
  refine⟨a,xs,e1,?_,RepL.immut hw m' e3⟩;rcases e2 with(h | ⟨o,h⟩) | h
  ·obtain⟨ha,h⟩:=q0v h;refine .inl (.inl ?_);rw[q0g λz=>?_]
   ·exact h
   ·rcases List.mem_append.mp z with z | z
    ·exact ha z
    ·obtain⟨ys,q,m⟩:=hw a z;rw[h]at q;cases q;cases m
  ·obtain⟨ha,h⟩:=q0v h;refine .inl (.inr ⟨o,?_⟩);rw[q0g λz=>?_]
   ·exact h
   ·rcases List.mem_append.mp z with z | z
    ·exact ha z
    ·obtain⟨ys,q,m⟩:=hw a z;rw[h]at q;cases q;cases m
  ·exact .inr h
 | .lst ds,_,m,_=>by unfold DV.immut at m;cases m
 | .dct ks vs,_,m,h=>by
  have m':DV.immuts vs=true:=by unfold DV.immut at m;exact m
  have ou:∀{a:Addr} {o:Obj} {u:HO},L2.wo O H a=some (.frz o u)->L2.wo (O++W) H a=some (.frz o u):=λ{a o u} e=>by
   obtain⟨ha,h⟩:=q0v e;rw[q0g λz=>?_]
   ·exact h
   ·rcases List.mem_append.mp z with z | z
    ·exact ha z
    ·obtain⟨ys,q,m⟩:=hw a z;rw[h]at q;cases q;cases m
  rcases q4e.mp h with⟨a,o,kvs,e1,e2,e3,e4⟩ | ⟨a,o,kvs,e1,e2,e3,e4⟩
  ·exact q4e.mpr (.inl ⟨a,o,kvs,e1,ou e2,e3,RepL.immut hw m' e4⟩)
  ·exact q4e.mpr (.inr ⟨a,o,kvs,e1,ou e2,e3,RepL.immut hw m' e4⟩)
 | .exc C,_,_,h=>by
  unfold Rep at h ⊢;obtain⟨a,C,e1,e2,e3⟩:=h;obtain⟨ha,h⟩:=q0v e3;refine⟨a,C,e1,e2,?_⟩;rw[q0g λz=>?_]
  ·exact h
  ·rcases List.mem_append.mp z with z | z
   ·exact ha z
   ·obtain⟨ys,q,m⟩:=hw a z;rw[h]at q;cases q;cases m
 | .fn _,_,_,h=>by unfold Rep at h ⊢;exact h
 | .lam _ _,_,m,_=>by unfold DV.immut at m;cases m
 | .scr ns,_,_,h=>by
  unfold Rep at h ⊢;obtain⟨a,e1,e2⟩:=h;refine⟨a,e1,?_⟩;rcases e2 with⟨o,h⟩ | h
  ·obtain⟨ha,h⟩:=q0v h;refine .inl ⟨o,?_⟩;rw[q0g λz=>?_]
   ·exact h
   ·rcases List.mem_append.mp z with z | z
    ·exact ha z
    ·obtain⟨ys,q,m⟩:=hw a z;rw[h]at q;cases q;cases m
  ·exact .inr h
theorem RepL.immut{D:Dm}{O W:List Addr}{H:Hp}(hw:∀a∈W,∃o,H a=some o/\mutO o=true):∀{ds:List DV} {xs:List V},DV.immuts ds=true->RepL D (L2.wo O H) ds xs->RepL D (L2.wo (O++W) H) ds xs
 | [],_,_,h=>by unfold RepL at h ⊢;exact h
 | d::ds,_,m,h=>by unfold RepL at h ⊢;obtain⟨v,vs,e1,e2,e3⟩:=h;unfold DV.immuts at m;rw[Bool.and_eq_true]at m;exact⟨v,vs,e1,Rep.immut hw m.1 e2,RepL.immut hw m.2 e3⟩
end
def RepT(D:Dm)(W:List Addr)(Ht H:Hp)(d:DV)(v:V):Prop:=match d with
 | .lst ds=>∃a xs,v=.ref a/\a∈W/\Ht a=some (.lst xs)/\RepL D H ds xs
 | d=>Rep D H d v
theorem RepT.mono{D:Dm}{W:List Addr}{Ht Ht' H H':Hp}{d:DV}{v:V}(et:Same Ht Ht')(e:Same H H')(h:RepT D W Ht H d v):RepT D W Ht' H' d v:=by
 cases d with
 | lst ds=>obtain⟨a,xs,e1,e0,e2,e3⟩:=h;exact⟨a,xs,e1,e0,et _ _ e2,e3.mono e⟩
 | non=>exact Rep.mono (D:=D) (d:=.non) (v:=v) e h
 | bl b=>exact Rep.mono (D:=D) (d:=.bl b) (v:=v) e h
 | int b=>exact Rep.mono (D:=D) (d:=.int b) (v:=v) e h
 | str b=>exact Rep.mono (D:=D) (d:=.str b) (v:=v) e h
 | tup b=>exact Rep.mono (D:=D) (d:=.tup b) (v:=v) e h
 | dct b c=>exact Rep.mono (D:=D) (d:=.dct b c) (v:=v) e h
 | exc b=>exact Rep.mono (D:=D) (d:=.exc b) (v:=v) e h
 | fn b=>exact Rep.mono (D:=D) (d:=.fn b) (v:=v) e h
 | lam b c=>exact Rep.mono (D:=D) (d:=.lam b c) (v:=v) e h
 | scr b=>exact Rep.mono (D:=D) (d:=.scr b) (v:=v) e h
theorem RepT.rep{D:Dm}{W:List Addr}{Ht H:Hp}{d:DV}{v:V}(e:Same H Ht)(h:RepT D W Ht H d v):Rep D Ht d v:=by
 cases d with
 | lst ds=>obtain⟨a,xs,e1,e0,e2,e3⟩:=h;exact q0y.mpr ⟨a,xs,e1,e2,e3.mono e⟩
 | non=>exact Rep.mono (D:=D) (d:=.non) (v:=v) e h
 | bl b=>exact Rep.mono (D:=D) (d:=.bl b) (v:=v) e h
 | int b=>exact Rep.mono (D:=D) (d:=.int b) (v:=v) e h
 | str b=>exact Rep.mono (D:=D) (d:=.str b) (v:=v) e h
 | tup b=>exact Rep.mono (D:=D) (d:=.tup b) (v:=v) e h
 | dct b c=>exact Rep.mono (D:=D) (d:=.dct b c) (v:=v) e h
 | exc b=>exact Rep.mono (D:=D) (d:=.exc b) (v:=v) e h
 | fn b=>exact Rep.mono (D:=D) (d:=.fn b) (v:=v) e h
 | lam b c=>exact Rep.mono (D:=D) (d:=.lam b c) (v:=v) e h
 | scr b=>exact Rep.mono (D:=D) (d:=.scr b) (v:=v) e h
def Got(D:Dm)(O W:List Addr)(H0 H:Hp)(d:DV)(c:Cl)(v:V):Prop:=match c with
 | .weak=>Rep D (L2.wo O H) d v
 | .top=>RepT D W (L2.wo O H) (L2.wo (O++W) H) d v
 | .strong=>Rep D (L2.wo (O++W) H) d v
 | .fresh=>∃p xs ds,v=.ref p/\d=.lst ds/\H0 p=none/\H p=some (.lst xs)/\RepL D (L2.wo (p::(O++W)) H) ds xs
 | .ft=>∃t ts p xs ds es,v=.ref t/\d=.tup (.lst ds::es)/\SqT D.K (L2.wo (O++W) H) t (.ref p::ts)/\H0 p=none/\H p=some (.lst xs)/\RepL D (L2.wo (p::(O++W)) H) ds xs/\RepL D (L2.wo (p::(O++W)) H) es ts
section
variable {D:Dm} {O W:List Addr} {H0 H H':Hp} {d:DV} {ds:List DV} {c:Cl} {v:V}
theorem q5O:∀b∈O,b∈O++W:=λ_ h=>List.mem_append_left _ h
theorem Got.mono(h:Got D O W H0 H d c v)(e:Same H H'):Got D O W H0 H' d c v:=by
 cases c with
 | weak=>exact Rep.mono e.wo h
 | top=>exact RepT.mono e.wo e.wo h
 | strong=>exact Rep.mono e.wo h
 | fresh=>
  obtain⟨p,xs,ds,e1,e2,e3,e4,e5⟩:=h;exact⟨p,xs,ds,e1,e2,e3,e _ _ e4,e5.mono e.wo⟩
 | ft=>
  obtain⟨t,ts,p,xs,ds,es,e1,e2,e0,e3,e4,e5,e6⟩:=h;exact⟨t,ts,p,xs,ds,es,e1,e2,e.wo.tseq e0,e3,e _ _ e4,e5.mono e.wo,e6.mono e.wo⟩
theorem Got.since{H1:Hp}(h:Got D O W H1 H d c v)(e:Same H0 H1):Got D O W H0 H d c v:=by
 cases c with
 | weak=>exact h
 | top=>exact h
 | strong=>exact h
 | fresh=>
  obtain⟨p,xs,ds,e1,e2,e3,e4,e5⟩:=h;exact⟨p,xs,ds,e1,e2,e.free e3,e4,e5⟩
 | ft=>
  obtain⟨t,ts,p,xs,ds,es,e1,e2,e0,e3,e4,e5,e6⟩:=h;exact⟨t,ts,p,xs,ds,es,e1,e2,e0,e.free e3,e4,e5,e6⟩
theorem Got.ft(h:Got D O W H0 H d .ft v)(hd:Hid O W H0 H):Rep D (L2.wo (O++W) H) d v:=by
 obtain⟨t,ts,p,xs,ds,es,e1,e2,e0,e3,e4,e5,e6⟩:=h;have hp:p∉O++W:=λz=>hd.ot p z e3
 have up:Same (L2.wo (p::(O++W)) H) (L2.wo (O++W) H):=q0D λb hb=>List.mem_cons_of_mem _ hb;rw[e2];exact q0C.mpr ⟨t,_,e1,e0,q0e.mpr ⟨_,_,rfl,q0y.mpr ⟨p,xs,rfl,by rw[q0g hp];exact e4,e5.mono up⟩,e6.mono up⟩⟩
theorem Got.strong(h:Got D O W H0 H d .fresh v)(hd:Hid O W H0 H):Rep D (L2.wo (O++W) H) d v:=by
 obtain⟨p,xs,ds,e1,e2,e3,e4,e5⟩:=h;have hp:p∉O++W:=λz=>hd.ot p z e3
 rw[e2];exact q0y.mpr ⟨p,xs,e1,by rw[q0g hp];exact e4,e5.mono (q0D λb hb=>List.mem_cons_of_mem _ hb)⟩
theorem Got.weak(h:Got D O W H0 H d c v)(hd:Hid O W H0 H):Rep D (L2.wo O H) d v:=by
 cases c with
 | weak=>exact h
 | top=>exact RepT.rep (q0D q5O) h
 | strong=>exact Rep.mono (q0D q5O) h
 | fresh=>exact Rep.mono (q0D q5O) (h.strong hd)
 | ft=>exact Rep.mono (q0D q5O) (h.ft hd)
theorem Got.all(h:Got D O W H0 H d c v)(hd:Hid O W H0 H):Rep D H d v:=Rep.mono q0Y (h.weak hd)
theorem Got.stro(h:Got D O W H0 H d c v)(hd:Hid O W H0 H)(hs:L2.stro d c=true):Rep D (L2.wo (O++W) H) d v:=by
 cases c with
 | strong=>exact h
 | fresh=>exact h.strong hd
 | ft=>exact h.ft hd
 | weak=>exact Rep.immut (λa ha=>by obtain⟨xs,e,m⟩:=hd.wl a ha;exact⟨xs,hd.same _ _ e,m⟩) hs (h.weak hd)
 | top=>exact Rep.immut (λa ha=>by obtain⟨xs,e,m⟩:=hd.wl a ha;exact⟨xs,hd.same _ _ e,m⟩) hs (h.weak hd)
theorem Got.items(h:Got D O W H0 H (.lst ds) c v)(hd:Hid O W H0 H)(hc:c ≠ .weak):∃a xs,v=.ref a/\H a=some (.lst xs)/\RepL D (L2.wo (O++W) H) ds xs:=by
 cases c with
 | weak=>exact absurd rfl hc
 | top=>
  obtain⟨a,xs,e1,e0,e2,e3⟩:=h;exact⟨a,xs,e1,q0Y _ _ e2,e3⟩
 | strong=>
  obtain⟨a,xs,e1,e2,e3⟩:=q0y.mp h;exact⟨a,xs,e1,q0Y _ _ e2,e3⟩
 | fresh=>
  obtain⟨a,xs,e1,e2,e3⟩:=q0y.mp (h.strong hd);exact⟨a,xs,e1,q0Y _ _ e2,e3⟩
 | ft=>
  obtain⟨a,xs,e1,e2,e3⟩:=q0y.mp (h.ft hd);exact⟨a,xs,e1,q0Y _ _ e2,e3⟩
theorem Got.itemsT(h:Got D O W H0 H (.tup ds) c v)(hd:Hid O W H0 H)(hc:c ≠ .weak):∃a xs,v=.ref a/\SqT D.K H a xs/\RepL D (L2.wo (O++W) H) ds xs:=by
 cases c with
 | weak=>exact absurd rfl hc
 | top=>
  obtain⟨a,xs,e1,e2,e3⟩:=q0C.mp (show Rep D (L2.wo (O++W) H) (.tup ds) v from h);exact⟨a,xs,e1,q0Y.tseq e2,e3⟩
 | strong=>
  obtain⟨a,xs,e1,e2,e3⟩:=q0C.mp h;exact⟨a,xs,e1,q0Y.tseq e2,e3⟩
 | fresh=>
  obtain⟨p,xs,ds,e1,e2,e3,e4,e5⟩:=h;cases e2
 | ft=>
  obtain⟨a,xs,e1,e2,e3⟩:=q0C.mp (h.ft hd);exact⟨a,xs,e1,q0Y.tseq e2,e3⟩
theorem Got.lst(h:Got D O W H0 H (.lst ds) c v)(hd:Hid O W H0 H):∃a xs,v=.ref a/\H a=some (.lst xs)/\RepL D (L2.wo O H) ds xs:=by
 obtain⟨a,xs,e1,e2,e3⟩:=q0y.mp (h.weak hd);exact⟨a,xs,e1,q0Y _ _ e2,e3⟩
theorem Got.tup(h:Got D O W H0 H (.tup ds) c v)(hd:Hid O W H0 H):∃a xs,v=.ref a/\SqT D.K H a xs/\RepL D (L2.wo O H) ds xs:=by
 obtain⟨a,xs,e1,e2,e3⟩:=q0C.mp (h.weak hd);exact⟨a,xs,e1,q0Y.tseq e2,e3⟩
def q1b(O W:List Addr):Cl->List Addr
 | .weak=>O
 | _=>O++W
theorem Got.lstC(h:Got D O W H0 H (.lst ds) c v)(hd:Hid O W H0 H):∃a xs,v=.ref a/\H a=some (.lst xs)/\RepL D (L2.wo (q1b O W c) H) ds xs:=by
 cases c with
 | weak=>exact h.lst hd
 | top=>exact h.items hd (by intro z;cases z)
 | strong=>exact h.items hd (by intro z;cases z)
 | fresh=>exact h.items hd (by intro z;cases z)
 | ft=>exact h.items hd (by intro z;cases z)
theorem Got.tupC(h:Got D O W H0 H (.tup ds) c v)(hd:Hid O W H0 H):∃a xs,v=.ref a/\SqT D.K H a xs/\RepL D (L2.wo (q1b O W c) H) ds xs:=by
 cases c with
 | weak=>exact h.tup hd
 | top=>exact h.itemsT hd (by intro z;cases z)
 | strong=>exact h.itemsT hd (by intro z;cases z)
 | fresh=>exact h.itemsT hd (by intro z;cases z)
 | ft=>exact h.itemsT hd (by intro z;cases z)
theorem Got.item(h:Rep D (L2.wo (q1b O W c) H) d v):Got D O W H0 H d c.item v:=by
 cases c<;>exact h
theorem q0G{i:Int}(hc:c ≠ .fresh:=by intro z;cases z)(hc':c ≠ .ft:=by intro z;cases z):Got D O W H0 H (.int i) c (.int i):=by
 have q:∀H,Rep D H (.int i) (.int i):=λH=>q0R.mpr rfl;cases c with
 | fresh=>exact absurd rfl hc
 | ft=>exact absurd rfl hc'
 | weak=>exact q (L2.wo O H)
 | strong=>exact q (L2.wo (O++W) H)
 | top=>exact q (L2.wo (O++W) H)
theorem q4w{i:Bool}:Got D O W H0 H (.bl i) .strong (.bl i):=(q3X.mpr rfl:Rep D (L2.wo (O++W) H) (.bl i) (.bl i))
theorem z3H:Got D O W H0 H .non .strong .non:=(q4Q.mpr rfl:Rep D (L2.wo (O++W) H) .non .non)
theorem Got.int{i:Int}(h:Got D O W H0 H (.int i) c v)(hd:Hid O W H0 H):v=.int i:=q0R.mp (h.weak hd)
theorem Got.bl{i:Bool}(h:Got D O W H0 H (.bl i) c v)(hd:Hid O W H0 H):v=.bl i:=q3X.mp (h.weak hd)
theorem Got.str{x:Str}(h:Got D O W H0 H (.str x) c v)(hd:Hid O W H0 H):v=.str x/\x.length<=sizeLine:=q1e.mp (h.weak hd)
theorem q1J{p:Addr}{xs:List V}(hd:Hid O W H0 H)(hp:H p=none)(r:RepL D (L2.wo (O++W) H) ds xs):Got D O W H0 (upd H p (.lst xs)) (.lst ds) .fresh (.ref p):=by
 refine⟨p,xs,ds,rfl,rfl,hd.same.free hp,q0n,r.mono λb o e=>?_⟩;obtain⟨hb,e⟩:=q0v e;have hbp:b≠p:=q0p e hp;rw[q0g (by intro z;rcases List.mem_cons.mp z with z | z;exact hbp z;exact hb z),q0f hbp];exact e
theorem q4P{p:Addr}{xs:List V}(hd:Hid O W H0 H)(hp:H p=none)(r:RepL D (L2.wo O H) ds xs):Got D O W H0 (upd H p (.lst xs)) (.lst ds) .weak (.ref p):=by
 have hpo:p∉O:=λz=>hd.newOut hp (List.mem_append_left _ z);exact q0y.mpr ⟨p,xs,rfl,by rw[q0g hpo];exact q0n,r.mono (q0m hp).wo⟩
theorem q3H{p:Addr}{xs:List V}(hd:Hid O W H0 H)(hp:H p=none)(r:RepL D (L2.wo (q1b O W c) H) ds xs):Got D O W H0 (upd H p (.lst xs)) (.lst ds) (Cl.anew c c) (.ref p):=by
 cases c with
 | weak=>exact q4P hd hp r
 | top=>exact q1J hd hp r
 | strong=>exact q1J hd hp r
 | fresh=>exact q1J hd hp r
 | ft=>exact q1J hd hp r
theorem q3m{p:Addr}{xs:List V}(hd:Hid O W H0 H)(hp:H p=none)(r:RepL D (L2.wo (O++W) H) ds xs):Got D O W H0 (upd H p (.tup xs)) (.tup ds) .strong (.ref p):=
 q0C.mpr ⟨p,xs,rfl,SqT.of (by rw[q0g (hd.newOut hp)];exact q0n),r.mono (q0m hp).wo⟩
theorem q5o{p:Addr}{xs:List V}(hd:Hid O W H0 H)(hp:H p=none)(r:RepL D (L2.wo O H) ds xs):Got D O W H0 (upd H p (.tup xs)) (.tup ds) .weak (.ref p):=
 q0C.mpr ⟨p,xs,rfl,SqT.of (by rw[q0g λz=>hd.newOut hp (List.mem_append_left _ z)];exact q0n),r.mono (q0m hp).wo⟩
theorem q7L{p:Addr}{xs:List V}(hd:Hid O W H0 H)(hp:H p=none)(r:RepL D (L2.wo (q1b O W c) H) ds xs):Got D O W H0 (upd H p (.tup xs)) (.tup ds) c.item (.ref p):=by
 cases c with
 | weak=>exact q5o hd hp r
 | top=>exact q3m hd hp r
 | strong=>exact q3m hd hp r
 | fresh=>exact q3m hd hp r
 | ft=>exact q3m hd hp r
end
inductive GotL (D:Dm) (O W:List Addr) (H0 H:Hp):List (DV×Cl)->List V->Prop where
 | nil:GotL D O W H0 H [] []
 | cons {d:DV} {c:Cl} {v:V} {l:List (DV×Cl)} {vs:List V}:Got D O W H0 H d c v->GotL D O W H0 H l vs->GotL D O W H0 H ((d,c)::l) (v::vs)
section
variable {D:Dm} {O W:List Addr} {H0 H H':Hp}
theorem GotL.repL{l:List (DV×Cl)}{vs:List V}(h:GotL D O W H0 H l vs)(hd:Hid O W H0 H):RepL D (L2.wo O H) (l.map (·.1)) vs:=by
 induction h with
 | nil=>exact q0s.mpr rfl
 | cons h _ ih=>exact q0e.mpr ⟨_,_,rfl,h.weak hd,ih⟩
theorem GotL.stros{l:List (DV×Cl)}{vs:List V}(h:GotL D O W H0 H l vs)(hd:Hid O W H0 H)(hs:L2.stros l=true):RepL D (L2.wo (O++W) H) (l.map (·.1)) vs:=by
 induction h with
 | nil=>exact q0s.mpr rfl
 | cons h _ ih=>
  unfold L2.stros at hs;rw[List.all_cons,Bool.and_eq_true]at hs;exact q0e.mpr ⟨_,_,rfl,h.stro hd hs.1,ih hs.2⟩
theorem GotL.length{l:List (DV×Cl)}{vs:List V}(h:GotL D O W H0 H l vs):vs.length=l.length:=by
 induction h with
 | nil=>rfl
 | cons _ _ ih=>rw[List.length_cons,List.length_cons,ih]
theorem GotL.strong{l:List (DV×Cl)}{vs:List V}(h:GotL D O W H0 H l vs)(hd:Hid O W H0 H)(hs:(l.all λp=>p.2 == .strong||p.2 == .fresh)=true):RepL D (L2.wo (O++W) H) (l.map (·.1)) vs:=by
 refine h.stros hd ?_;unfold L2.stros;rw[List.all_eq_true]at hs ⊢;intro p hp;have:=hs p hp;unfold L2.stro;cases e:p.2<;>rw[e]at this<;>first | rfl | cases this
theorem GotL.one{d:DV}{c:Cl}{vs:List V}(h:GotL D O W H0 H [(d,c)] vs):∃v,vs=[v]/\Got D O W H0 H d c v:=by
 cases h with
 | cons h t=>cases t;exact⟨_,rfl,h⟩
theorem GotL.two{d d':DV}{c c':Cl}{vs:List V}(h:GotL D O W H0 H [(d,c),(d',c')] vs):∃v v',vs=[v,v']/\Got D O W H0 H d c v/\Got D O W H0 H d' c' v':=by
 cases h with
 | cons h t=>obtain⟨v',e,h'⟩:=t.one;subst e;exact⟨_,_,rfl,h,h'⟩
theorem GotL.three{d d' d2:DV}{c c' c2:Cl}{vs:List V}(h:GotL D O W H0 H [(d,c),(d',c'),(d2,c2)] vs):∃v v' v2,vs=[v,v',v2]/\Got D O W H0 H d c v/\Got D O W H0 H d' c' v'/\Got D O W H0 H d2 c2 v2:=by
 cases h with
 | cons h t=>obtain⟨v',v2,e,h',h2⟩:=t.two;subst e;exact⟨_,_,_,rfl,h,h',h2⟩
end
def O2At(H:Hp)(W:List Addr)(p:Addr)(L:List (Addr×List Int)):Prop:=p∈W/\H p=some (.lst (L.map λq=>.ref q.1))/\(∀q∈L,q.1∈W/\H q.1=some (.lst (q.2.map V.int)))/\(p::L.map (·.1)).Nodup
def o2D(L:List (Addr×List Int)):DV:=.lst (L.map λq=>.lst (q.2.map DV.int))
theorem O2At.mono{H H':Hp}{W:List Addr}{p:Addr}{L:List (Addr×List Int)}(h:O2At H W p L)(e:Same H H'):O2At H' W p L:=⟨h.1,e _ _ h.2.1,λq hq=>⟨(h.2.2.1 q hq).1,e _ _ (h.2.2.1 q hq).2⟩,h.2.2.2⟩
theorem O2At.sub{H:Hp}{W W':List Addr}{p:Addr}{L:List (Addr×List Int)}(h:O2At H W p L)(e:∀a∈p::L.map (·.1),a∈W->a∈W'):O2At H W' p L:=
 ⟨e _ (List.mem_cons_self ..) h.1,h.2.1,λq hq=>⟨e _ (List.mem_cons_of_mem _ (List.mem_map.mpr ⟨q,hq,rfl⟩)) (h.2.2.1 q hq).1,(h.2.2.1 q hq).2⟩,h.2.2.2⟩
theorem O2At.dom{H:Hp}{W:List Addr}{p a:Addr}{L:List (Addr×List Int)}(h:O2At H W p L)(ha:a∈p::L.map (·.1)):a∈W/\∃xs,H a=some (.lst xs):=by
 rcases List.mem_cons.mp ha with z | z
 ·rw[z];exact⟨h.1,_,h.2.1⟩
 ·obtain⟨q,hq,rfl⟩:=List.mem_map.mp z;exact⟨(h.2.2.1 q hq).1,_,(h.2.2.1 q hq).2⟩
theorem O2At.write{H:Hp}{W:List Addr}{p a:Addr}{o:HO}{L:List (Addr×List Int)}(h:O2At H W p L)(ha:a∉p::L.map (·.1)):O2At (upd H a o) W p L:=
 ⟨h.1,by rw[q0f λz=>ha (by rw[←z];exact List.mem_cons_self ..)];exact h.2.1,λq hq=>⟨(h.2.2.1 q hq).1,by rw[q0f λz=>ha (by rw[←z];exact List.mem_cons_of_mem _ (List.mem_map.mpr ⟨q,hq,rfl⟩))];exact(h.2.2.1 q hq).2⟩,h.2.2.2⟩
def odD(L:List (Int×Int)):DV:=.dct (L.map λp=>.i p.1) (L.map λp=>.int p.2)
def odK(L:List (Int×Int)):List (Key×V):=L.map λp=>(.inl p.1,.int p.2)
def oeD(L:List ((Int×Int)×Int)):DV:=.dct (L.map λp=>.t [.inl p.1.1,.inl p.1.2]) (L.map λp=>.int p.2)
def oeK(L:List ((Int×Int)×Int)):List (List Key×V):=L.map λp=>([.inl p.1.1,.inl p.1.2],.int p.2)
def dicO:HO->Bool
 | .dK _=>true
 | .dT _=>true
 | .ins _ _ _=>true
 | _=>false
def rdO(C dx:Addr)(t:Str)(k:Int):HO:=.ins C dx [("text",.str t),("place",.int k)]
def RdOk(d:DV)(a:Addr)(o:HO):Prop:=∃(C dx:Nat) (qa qx:DV) (t:Str) (k:Int),d=.tup [.int (C:Int),qa,qx,.str t,.int k]/\(qa=.non\/qa=.int (a:Int))/\(qx=.non\/qx=.int (dx:Int))/\t.length<=sizeLine/\o=rdO C dx t k
def esD(L:List (Int×Int)):DV:=.tup [.dct (L.map λp=>.t [.inl p.1,.inl p.2]) [],.non]
def esK(L:List (Int×Int)):List (List Key×V):=L.map λp=>([.inl p.1,.inl p.2],.bl true)
def OdOk(d:DV)(a:Addr)(o:HO):Prop:=(∃L,d=odD L/\o=.dK (odK L))\/(∃L,d=.tup [oeD L]/\o=.dT (oeK L))\/RdOk d a o\/∃L,d=esD L/\o=.dT (esK L)
theorem OdOk.dic{d:DV}{a:Addr}{o:HO}(h:OdOk d a o):dicO o=true:=by rcases h with⟨L,_,e⟩ | ⟨L,_,e⟩ | ⟨_,_,_,_,_,_,_,_,_,_,e⟩ | ⟨L,_,e⟩<;>rw[e]<;>rfl
theorem OdOk.mut{d:DV}{a:Addr}{o:HO}(h:OdOk d a o):mutO o=true:=by rcases h with⟨L,_,e⟩ | ⟨L,_,e⟩ | ⟨_,_,_,_,_,_,_,_,_,_,e⟩ | ⟨L,_,e⟩<;>rw[e]<;>rfl
def OdAt(H:Hp)(σ:St)(δ:List Sv)(W:List Addr):Prop:=∀(i:Nat) d,δ[i]? = some (.od d)->(∃a o,OdOk d a o/\σ[i]? = some (some (.ref a))/\a∈W/\H a=some o)/\∀(j:Nat) d',δ[j]? = some (.od d')->j=i
theorem OdAt.step{H H':Hp}{σ σ':St}{δ δ':List Sv}{W W':List Addr}(h:OdAt H σ δ W)(hδ:∀(j:Nat) d,δ'[j]? = some (.od d)->δ[j]? = some (.od d)/\σ'[j]? = σ[j]?)(hW:∀a∈W,(∃o,H a=some o/\dicO o=true)->a∈W')(hH:∀a o,a∈W->H a=some o->dicO o=true->H' a=some o):OdAt H' σ' δ' W':=λi d q=>by
 obtain⟨q1,q2⟩:=hδ i d q;obtain⟨⟨a,L,e0,e1,e2,e3⟩,u⟩:=h i d q1;exact⟨⟨a,L,e0,by rw[q2];exact e1,hW a e2 ⟨_,e3,e0.dic⟩,hH a _ e2 e3 e0.dic⟩,λj d' z=>u j d' (hδ j d' z).1⟩
theorem q7l{σ:St}{δ:List Sv}{i:Nat}{X:Sv}(x:Option V)(hX:∀d,X ≠ .od d):∀(j:Nat) d,(δ.set i X)[j]? = some (.od d)->δ[j]? = some (.od d)/\(σ.set i x)[j]? = σ[j]?:=λj d h=>by
 have hj:j≠i:=λz=>by
  subst z;have hl:j<δ.length:=by have:=(List.getElem?_eq_some_iff.mp h).1;rw[List.length_set]at this;exact this
  rw[List.getElem?_set_self hl]at h;exact hX d (Option.some.inj h)
 rw[List.getElem?_set_ne (Ne.symm hj)]at h ⊢;exact⟨h,rfl⟩
theorem z0d{σ:St}{δ:List Sv}{i:Nat}{X:Sv}(hX:∀d,X ≠ .od d):∀(j:Nat) d,(δ.set i X)[j]? = some (.od d)->δ[j]? = some (.od d)/\σ[j]? = σ[j]?:=λj d h=>⟨(q7l (σ:=σ) none hX j d h).1,rfl⟩
def itD:Option Addr×List Int->DV
 | (none,ns)=>.int (ns.headD 0)
 | (some _,ns)=>.lst (ns.map DV.int)
def itV:Option Addr×List Int->V
 | (none,ns)=>.int (ns.headD 0)
 | (some p,_)=>.ref p
def ItAt(H:Hp)(M:List (Option Addr×List Int)):Prop:=∀p ns,(some p,ns)∈M->H p=some (.lst (ns.map V.int))
def OtV(D:Dm)(Hs H:Hp)(d:DV)(ts:List V)(L:List Addr):Prop:=(∃p xs ds es us,d=.tup (.lst ds::es)/\ts=.ref p::us/\L=[p]/\H p=some (.lst xs)/\RepL D Hs ds xs/\RepL D Hs es us)\/∃M,d=.dct [] (M.map itD)/\ts=M.map itV/\L=M.filterMap (·.1)/\L.Nodup/\ItAt H M
def OtL(σ:St)(δ:List Sv)(H:Hp)(W L:List Addr):Prop:=∀p∈L,p∈W/\(∃xs,H p=some (.lst xs))/\∀(j:Nat) d',δ[j]? = some (.own d')->σ[j]? ≠ some (some (.ref p))
theorem OtV.mono{D:Dm}{Hs Hs' H H':Hp}{d:DV}{ts:List V}{L:List Addr}(h:OtV D Hs H d ts L)(e:Same Hs Hs')(f:∀p∈L,∀xs,H p=some (.lst xs)->H' p=some (.lst xs)):OtV D Hs' H' d ts L:=by
 rcases h with⟨p,xs,ds,es,us,e0,e1,e2,e3,e4,e5⟩ | ⟨M,e0,e1,e2,e3,e4⟩
 ·exact .inl ⟨p,xs,ds,es,us,e0,e1,e2,f p (by rw[e2];exact List.mem_singleton.mpr rfl) _ e3,e4.mono e,e5.mono e⟩
 ·exact .inr ⟨M,e0,e1,e2,e3,λp ns hm=>f p (by rw[e2];exact List.mem_filterMap.mpr ⟨_,hm,rfl⟩) _ (e4 p ns hm)⟩
structure RSt(D:Dm)(H:Hp)(σ:St)(δ:List Sv)(O W:List Addr):Prop where
 val:∀(i:Nat) d,δ[i]? = some (.val d)->∃v,σ[i]? = some (some v)/\Rep D (L2.wo (O++W) H) d v
 own:∀(i:Nat) d,δ[i]? = some (.own d)->∃a xs ds,d=.lst ds/\σ[i]? = some (some (.ref a))/\a∈W/\H a=some (.lst xs)/\RepL D (L2.wo (O++W) H) ds xs
 inj:∀(i j:Nat) a d d',δ[i]? = some (.own d)->δ[j]? = some (.own d')->σ[i]? = some (some (.ref a))->σ[j]? = some (some (.ref a))->i=j
 ot:∃P:Nat->List Addr,(∀(i:Nat) d,δ[i]? = some (.ot d)->∃t ts,σ[i]? = some (some (.ref t))/\SqT D.K (L2.wo (O++W) H) t ts/\OtV D (L2.wo (O++W) H) H d ts (P i)/\OtL σ δ H W (P i))/\∀(i j:Nat) d d',δ[i]? = some (.ot d)->δ[j]? = some (.ot d')->i≠j->∀p∈P i,p∉P j
 o2:∀(i:Nat) d,δ[i]? = some (.o2 d)->(∃p L,d=o2D L/\σ[i]? = some (some (.ref p))/\O2At H W p L/\∀(j:Nat) d' a,δ[j]? = some (.own d')->σ[j]? = some (some (.ref a))->a∉p::L.map (·.1))/\(∀(j:Nat) d',δ[j]? = some (.o2 d')->j=i)/\∀(j:Nat) d',δ[j]? ≠ some (.ot d')
 od:OdAt H σ δ W
 len:σ.length=δ.length
 hid:Hid O W H H
theorem RSt.noot{D:Dm}{H:Hp}{σ:St}{δ:List Sv}{O W:List Addr}(h:∀(i:Nat) d,δ[i]? ≠ some (.ot d)):∃P:Nat->List Addr,(∀(i:Nat) d,δ[i]? = some (.ot d)->∃t ts,σ[i]? = some (some (.ref t))/\SqT D.K (L2.wo (O++W) H) t ts/\OtV D (L2.wo (O++W) H) H d ts (P i)/\OtL σ δ H W (P i))/\∀(i j:Nat) d d',δ[i]? = some (.ot d)->δ[j]? = some (.ot d')->i≠j->∀p∈P i,p∉P j:=⟨λ_=>[],λi d q=>absurd q (h i d),λi j d d' q=>absurd q (h i d)⟩
theorem Hid.later{O W:List Addr}{H H':Hp}(h:Hid O W H H)(e:Same H H'):Hid O W H' H':=⟨λa ha q=>h.ot a ha (e.free q),Same.refl _,λa ha=>by obtain⟨xs,q,m⟩:=h.wl a ha;exact⟨xs,e _ _ q,m⟩,h.dj,h.omS e⟩
theorem RSt.mono{D:Dm}{H H':Hp}{σ:St}{δ:List Sv}{O W:List Addr}(R:RSt D H σ δ O W)(e:Same H H'):RSt D H' σ δ O W where
 val:=λi d h=>by obtain⟨v,e1,e2⟩:=R.val i d h;exact⟨v,e1,e2.mono e.wo⟩
 own:=λi ds h=>by obtain⟨a,xs,ds,e0,e1,e2,e3,e4⟩:=R.own i ds h;exact⟨a,xs,ds,e0,e1,e2,e _ _ e3,e4.mono e.wo⟩
 inj:=R.inj
 ot:=by obtain⟨P,f,u⟩:=R.ot;refine⟨P,λi d h=>?_,u⟩;obtain⟨t,ts,e1,e2,e3,e4⟩:=f i d h;exact⟨t,ts,e1,e.wo.tseq e2,e3.mono e.wo λp _ xs q=>e _ _ q,λp hp=>⟨(e4 p hp).1,(e4 p hp).2.1.imp λxs q=>e _ _ q,(e4 p hp).2.2⟩⟩
 o2:=λi d h=>by obtain⟨⟨p,L,e0,e1,e2,e3⟩,u,n⟩:=R.o2 i d h;exact⟨⟨p,L,e0,e1,e2.mono e,e3⟩,u,n⟩
 od:=R.od.step (λj d h=>⟨h,rfl⟩) (λ_ h _=>h) (λa kvs _ h _=>e _ _ h)
 len:=R.len
 hid:=R.hid.later e
def Post(D:Dm)(E:St->XK)(σ:St)(O W:List Addr)(H0 H:Hp)(Q:VK):Re->Prop
 | .ok d c=>∀v H',Same H H'->Got D O W H0 H' d c v->Q v H'
 | .ex c=>∀H' C,D.mg c=some C->Same H H'->E σ C none H'
def dE(D:Dm)(E:St->XK)(δ:List Sv)(r:Re):TE:=λσ H Q=>∃O W,RSt D H σ δ O W/\Post D E σ O W H H Q r
def z7C(D:Dm)(E:St->XK)(σ:St)(O W:List Addr)(H0 H:Hp)(Q:List V->Hp->Prop):Rs->Prop
 | .ok l=>∀vs H',Same H H'->GotL D O W H0 H' l vs->Q vs H'
 | .ex c=>∀H' C,D.mg c=some C->Same H H'->E σ C none H'
def dA(D:Dm)(E:St->XK)(δ:List Sv)(r:Rs):TA:=λσ H Q=>∃O W,RSt D H σ δ O W/\z7C D E σ O W H H Q r
def z0V(D:Dm)(E:St->XK)(σ:St)(H:Hp)(Q:Bool->Hp->Prop):Rt->Prop
 | .ok b=>∀H',Same H H'->Q b H'
 | .ex c=>∀H' C,D.mg c=some C->Same H H'->E σ C none H'
def dT(D:Dm)(E:St->XK)(δ:List Sv)(r:Rt):TT:=λσ H Q=>∃O W,RSt D H σ δ O W/\z0V D E σ H Q r
theorem Post.step{D:Dm}{E:St->XK}{σ:St}{O W:List Addr}{H0 H H1:Hp}{Q:VK}{r:Re}(h:Post D E σ O W H0 H Q r)(e:Same H H1):Post D E σ O W H0 H1 Q r:=by
 cases r with
 | ok d c=>exact λv H' s g=>h v H' (e.trans s) g
 | ex c=>exact λH' C m s=>h H' C m (e.trans s)
theorem Post.later{D:Dm}{E:St->XK}{σ:St}{O W:List Addr}{H0 H H1:Hp}{Q:VK}{r:Re}(h:Post D E σ O W H0 H Q r)(e:Same H H1)(e0:Same H0 H1):Post D E σ O W H1 H1 Q r:=by
 cases r with
 | ok d c=>exact λv H' s g=>h v H' (e.trans s) (g.since e0)
 | ex c=>exact λH' C m s=>h H' C m (e.trans s)
theorem GotL.since{D:Dm}{O W:List Addr}{H0 H1 H:Hp}{l:List (DV×Cl)}{vs:List V}(h:GotL D O W H1 H l vs)(e:Same H0 H1):GotL D O W H0 H l vs:=by
 induction h with
 | nil=>exact .nil
 | cons g _ ih=>exact .cons (g.since e) ih
theorem z0V.later{D:Dm}{E:St->XK}{σ:St}{H H1:Hp}{Q:Bool->Hp->Prop}{r:Rt}(h:z0V D E σ H Q r)(e:Same H H1):z0V D E σ H1 Q r:=by
 cases r with
 | ok b=>exact λH' s=>h H' (e.trans s)
 | ex c=>exact λH' C m s=>h H' C m (e.trans s)
theorem PE.weak{X:Cx}{e:Expr}{t t':TE}(h:PE X e t)(k:∀σ H Q,t' σ H Q->t σ H Q):PE X e t':=λpins s σ H Q I q=>h pins s σ H Q I (k σ H Q q)
theorem PT.weak{X:Cx}{e:Expr}{t t':TT}(h:PT X e t)(k:∀σ H Q,t' σ H Q->t σ H Q):PT X e t':=λpins s σ H Q I q=>h pins s σ H Q I (k σ H Q q)
theorem PW.weak{X:Cx}{e:Expr}{t t':TT}(h:PW X e t)(k:∀σ H Q,t' σ H Q->t σ H Q):PW X e t':=λwhole pins s σ H Q I q=>h whole pins s σ H Q I (k σ H Q q)
theorem PA.weak{X:Cx}{e:List Expr}{t t':TA}(h:PA X e t)(k:∀σ H Q,t' σ H Q->t σ H Q):PA X e t':=λpos pins s σ H Q I q=>h pos pins s σ H Q I (k σ H Q q)
theorem PS.weak{X:Cx}{e:Stmt}{t t':TS}(h:PS X e t)(k:∀D σ H,t' D σ H->t D σ H):PS X e t':=λpins s σ H D I q=>h pins s σ H D I (k D σ H q)
theorem PSs.weak{X:Cx}{e:List Stmt}{t t':TS}(h:PSs X e t)(k:∀D σ H,t' D σ H->t D σ H):PSs X e t':=λpins s σ H D I q=>h pins s σ H D I (k D σ H q)
theorem q4U{X:Cx}{e:Expr}:PW X e (λ_ _ _=>False):=λ_ _ _ _ _ _ _ h=>h.elim
theorem q2S{X:Cx}{e:Expr}:PE X e (λ_ _ _=>False):=λ_ _ _ _ _ _ h=>h.elim
theorem q9a{X:Cx}{e:List Expr}:PA X e (λ_ _ _=>False):=λ_ _ _ _ _ _ _ h=>h.elim
end L2
end
noncomputable section
namespace L2
open PySem PySem.Spec PyProof.Rows
theorem q1t{n:Nat}(h:n<=mostLen):n<=sizeLine:=Nat.le_trans h (by decide)
section
variable {X:Cx} {E:St->XK} {δ:List Sv} {a b c e:Expr} {es:List Expr}
theorem z6m{r:V->Hp->VK->Prop}{k:DV->Cl->Option Re}{ra:Option Re}{re:Re}(hop:∀ta,PE X a ta->PE X e (tUn r ta))(ha:∀q,ra=some q->PE X a (dE X.D E δ q))(h:Re.thn ra k=some re)
  (hr:∀O W H0 H x Q dx cx σ,k dx cx=some re->Hid O W H0 H->Got X.D O W H0 H dx cx x->Post X.D E σ O W H0 H Q re->r x H Q):PE X e (dE X.D E δ re):=by
 cases hra:ra with
 | none=>rw[hra]at h;cases h
 | some q=>
  rw[hra]at h;have A:=ha q hra;cases q with
  | ex c=>
   cases h;exact(hop _ A).weak λσ H Q ⟨O,W,R,p⟩=>⟨O,W,R,p⟩
  | ok dx cx=>
   have h':k dx cx=some re:=h;exact(hop _ A).weak λσ H Q ⟨O,W,R,p⟩=>⟨O,W,R,λx H1 s1 g1=>hr O W H H1 x Q dx cx σ h' (R.hid.mono s1) g1 (p.step s1)⟩
theorem q7A{r:R2}{k:DV->Cl->DV->Cl->Option Re}{ra rb:Option Re}{re:Re}(ha:∀q,ra=some q->PE X a (dE X.D E δ q))(hb:∀q,rb=some q->PE X b (dE X.D E δ q))
  (h:(Re.thn ra λx cx=>Re.thn rb λy cy=>k x cx y cy)=some re)
  (hr:∀O W H0 H x y Q dx cx dy cy σ,k dx cx dy cy=some re->Hid O W H0 H->Got X.D O W H0 H dx cx x->Got X.D O W H0 H dy cy y->Post X.D E σ O W H0 H Q re->r x y H Q) :
  ∃ta tb,PE X a ta/\PE X b tb/\∀σ H Q,dE X.D E δ re σ H Q->tOp r ta tb σ H Q:=by
 cases hra:ra with
 | none=>rw[hra]at h;cases h
 | some q=>
  rw[hra]at h;have A:=ha q hra;cases q with
  | ex c=>
   cases h;exact⟨_,_,A,q2S,λσ H Q ⟨O,W,R,p⟩=>⟨O,W,R,p⟩⟩
  | ok dx cx=>
   have h':(Re.thn rb λy cy=>k dx cx y cy)=some re:=h;cases hrb:rb with
   | none=>rw[hrb]at h';cases h'
   | some q=>
    rw[hrb]at h';have B:=hb q hrb;cases q with
    | ex c=>
     cases h';exact⟨_,_,A,B,λσ H Q ⟨O,W,R,p⟩=>⟨O,W,R,λx H1 s1 g1=>⟨O,W,R.mono s1,λH' C m s=>p H' C m (s1.trans s)⟩⟩⟩
    | ok dy cy=>
     have h2:k dx cx dy cy=some re:=h';exact⟨_,_,A,B,λσ H Q ⟨O,W,R,p⟩=>⟨O,W,R,λx H1 s1 g1=>⟨O,W,R.mono s1,λy H2 s2 g2=>
      hr O W H H2 x y Q dx cx dy cy σ h2 ((R.hid.mono s1).mono s2) (g1.mono s2) (g2.since s1) (p.step (s1.trans s2))⟩⟩⟩
theorem z0u{r:R2}{k:DV->Cl->DV->Cl->Option Re}{ra rb:Option Re}{re:Re}(hop:∀ta tb,PE X a ta->PE X b tb->PE X e (tOp r ta tb))(ha:∀q,ra=some q->PE X a (dE X.D E δ q))(hb:∀q,rb=some q->PE X b (dE X.D E δ q))
  (h:(Re.thn ra λx cx=>Re.thn rb λy cy=>k x cx y cy)=some re)
  (hr:∀O W H0 H x y Q dx cx dy cy σ,k dx cx dy cy=some re->Hid O W H0 H->Got X.D O W H0 H dx cx x->Got X.D O W H0 H dy cy y->Post X.D E σ O W H0 H Q re->r x y H Q):PE X e (dE X.D E δ re):=by
 obtain⟨ta,tb,A,B,q⟩:=q7A ha hb h hr;exact(hop _ _ A B).weak q
theorem q3G{r:List V->Hp->VK->Prop}{k:List (DV×Cl)->Option Re}{ra:Option Rs}{re:Re}(hop:∀t,PA X es t->PE X e (tCB r t))(ha:∀q,ra=some q->PA X es (dA X.D E δ q))(h:Rs.thn ra k=some re)
  (hr:∀O W H0 H vs Q l σ,k l=some re->Hid O W H0 H->GotL X.D O W H0 H l vs->Post X.D E σ O W H0 H Q re->r vs H Q):PE X e (dE X.D E δ re):=by
 cases hra:ra with
 | none=>rw[hra]at h;cases h
 | some q=>
  rw[hra]at h;have A:=ha q hra;cases q with
  | ex c=>
   cases h;exact(hop _ A).weak λσ H Q ⟨O,W,R,p⟩=>⟨O,W,R,p⟩
  | ok l=>
   have h':k l=some re:=h;exact(hop _ A).weak λσ H Q ⟨O,W,R,p⟩=>⟨O,W,R,λvs H1 s1 g1=>hr O W H H1 vs Q l σ h' (R.hid.mono s1) g1 (p.step s1)⟩
end
theorem q6y{D:Dm}{H:Hp}:∀{L:List (Addr×List Int)},(∀q∈L,H q.1=some (.lst (q.2.map V.int)))->RepL D H (L.map λq=>.lst (q.2.map DV.int)) (L.map λq=>.ref q.1)
 | [],_=>q0s.mpr rfl
 | q::L,h=>q0e.mpr ⟨_,_,rfl,q0y.mpr ⟨q.1,_,rfl,h q (List.mem_cons_self ..),q1R _⟩,q6y λq' hq=>h q' (List.mem_cons_of_mem _ hq)⟩
theorem q4Z{D:Dm}{H:Hp}:∀{M:List (Option Addr×List Int)},ItAt H M->RepL D H (M.map itD) (M.map itV)
 | [],_=>q0s.mpr rfl
 | (none,ns)::M,h=>q0e.mpr ⟨_,_,rfl,q0R.mpr rfl,q4Z λp ns hm=>h p ns (List.mem_cons_of_mem _ hm)⟩
 | (some q,ns)::M,h=>q0e.mpr ⟨_,_,rfl,q0y.mpr ⟨q,_,rfl,h q ns (List.mem_cons_self ..),q1R _⟩,q4Z λp ns hm=>h p ns (List.mem_cons_of_mem _ hm)⟩
section
variable {X:Cx} {E:St->XK} {δ:List Sv} {pos:Pos}
theorem z4t{i:Nat}{x:Str}{r:Re}(hN:X.N[i]? = some x)(hv:Vis X.env.scope x)(hd:(x==("__debug__" : Str))=false)(hcd:(x==("__classdict__" : Str))=false)
  (h:(match δ[i]? with | some (.val d)=>some (Re.ok d .strong) | some (.own d)=>some (.ok d .top) | some (.ot d)=>some (.ok (otD d) .weak) | some (.o2 d)=>some (.ok d .weak) | _=>none)=some r):PE X (.Name x pos) (dE X.D E δ r):=
 (q2r hN hv hd hcd).weak λσ H Q ⟨O,W,R,p⟩=>by
  split at h
  ·rename_i d q;cases h;obtain⟨v,e1,e2⟩:=R.val i d q;exact⟨v,e1,p v H (Same.refl H) e2⟩
  ·rename_i d q;cases h;obtain⟨a,xs,ds,e0,e1,e2,e3,e4⟩:=R.own i d q;subst e0;refine⟨.ref a,e1,p _ H (Same.refl H) ⟨a,xs,rfl,e2,?_,e4⟩⟩;rw[q0g (R.hid.dj a e2)];exact e3
  ·rename_i d q;cases h;obtain⟨P,f,_⟩:=R.ot;obtain⟨t,ts,e1,e2,e3,e4⟩:=f i d q;have up:Same (L2.wo (O++W) H) (L2.wo O H):=q0D q5O;refine⟨.ref t,e1,p _ H (Same.refl H) ?_⟩;rcases e3 with⟨p1,xs,ds,es,us,f0,f1,f2,f3,f4,f5⟩ | ⟨M,f0,f1,f2,f3,f4⟩
   ·rw[f2]at e4;subst f0 f1;exact(q0C.mpr ⟨t,_,rfl,up.tseq e2,q0e.mpr ⟨_,_,rfl,q0y.mpr ⟨p1,xs,rfl,by rw[q0g (R.hid.dj p1 (e4 p1 (List.mem_singleton.mpr rfl)).1)];exact f3,f4.mono up⟩,f5.mono up⟩⟩:Rep X.D (L2.wo O H) (.tup (.lst ds::es)) (.ref t))
   ·rw[f2]at e4;subst f0 f1;exact(q0C.mpr ⟨t,_,rfl,up.tseq e2,q4Z λp ns hm=>by rw[q0g (R.hid.dj p (e4 p (List.mem_filterMap.mpr ⟨_,hm,rfl⟩)).1)];exact f4 p ns hm⟩:Rep X.D (L2.wo O H) (.tup (M.map itD)) (.ref t))
  ·rename_i d q;cases h;obtain⟨⟨a,L,e0,e1,e2,_⟩,_,_⟩:=R.o2 i d q;subst e0;refine⟨.ref a,e1,p _ H (Same.refl H) (q0y.mpr ⟨a,_,rfl,by rw[q0g (R.hid.dj a e2.1)];exact e2.2.1,?_⟩:Rep X.D (L2.wo O H) (o2D L) (.ref a))⟩;exact q6y λq hq=>by rw[q0g (R.hid.dj q.1 (e2.2.2.1 q hq).1)];exact(e2.2.2.1 q hq).2
  ·cases h
theorem z3f{i:Int}{j:Nat}:PE X (.Constant (.int i) j pos) (dE X.D E δ (.ok (.int i) .strong)):=z2s.weak λσ H Q ⟨O,W,R,p⟩=>p _ H (Same.refl H) q0G
theorem z5m{i:Bool}{j:Nat}:PE X (.Constant (.bool i) j pos) (dE X.D E δ (.ok (.bl i) .strong)):=z7T.weak λσ H Q ⟨O,W,R,p⟩=>p _ H (Same.refl H) q4w
theorem z3I{i:Str}{j:Nat}(h:i.length<=sizeLine):PE X (.Constant (.str i) j pos) (dE X.D E δ (.ok (.str i) .strong)):=z4O.weak λσ H Q ⟨O,W,R,p⟩=>p _ H (Same.refl H) (q1e.mpr ⟨rfl,h⟩:Rep X.D (L2.wo (O++W) H) (.str i) (.str i))
theorem z4x{j:Nat}:PE X (.Constant .none j pos) (dE X.D E δ (.ok .non .strong)):=z5K.weak λσ H Q ⟨O,W,R,p⟩=>p _ H (Same.refl H) z3H
end
section
variable {X:Cx} {E:St->XK} {δ:List Sv} {a b c e:Expr} {pos:Pos} {ra rb:Option Re} {re:Re}
theorem q8q{O W:List Addr}{H0 H:Hp}{C:Int->Int->Prop}{g:Int->Int->V}{x y:V}{Q:VK}{i j:Int}{ca cb:Cl}{D:Dm}(hd:Hid O W H0 H)(gx:Got D O W H0 H (.int i) ca x)(gy:Got D O W H0 H (.int j) cb y)(hc:C i j)(q:Q (g i j) H):rI C g x y H Q:=
 ⟨i,j,gx.int hd,gy.int hd,hc,q⟩
theorem z0C{O W:List Addr}{H0 H:Hp}{g:Int->Int->V}{x y:V}{Q:VK}{i j:Int}{ca cb:Cl}{D:Dm}(hd:Hid O W H0 H)(gx:Got D O W H0 H (.int i) ca x)(gy:Got D O W H0 H (.int j) cb y)(q:Q (g i j) H):rI0 g x y H Q:=
 ⟨i,j,gx.int hd,gy.int hd,q⟩
theorem z0a{ca cb:Cl}(h:ca ≠ .weak)(h':cb ≠ .weak):Cl.anew ca cb=.fresh:=by
 cases ca<;>cases cb<;>first | rfl | exact absurd rfl h | exact absurd rfl h'
def z1h(i j:Int):Prop:=CMul i j\/(i.natAbs<2^2000/\j.natAbs<2^2000)
theorem q8T{i:Int}{n:Nat}(h:i.natAbs<2^n):Builtin.Int.intBits i<=n:=by
 unfold Builtin.Int.intBits;by_cases hi:i=0
 ·subst hi;exact Nat.zero_le n
 ·rw[if_neg (by simpa using hi)];have:i.natAbs≠0:=λz=>hi (Int.natAbs_eq_zero.mp z)
  exact(Nat.log2_lt this).mpr h
theorem z1h.ok{i j:Int}(h:z1h i j):IntMulOk i j:=by
 rcases h with h | ⟨h1,h2⟩
 ·exact h.ok
 ·unfold IntMulOk;have b1:=q8T h1;have b2:=q8T h2;have:Builtin.Int.intTooBig ((Builtin.Int.intBits i:Int)+(Builtin.Int.intBits j:Int))=false:=by
   unfold Builtin.Int.intTooBig;rw[decide_eq_false];have:((bitsLine:Nat):Int)=134217728:=by decide
   omega
  rw[this,Bool.and_false];exact Bool.false_ne_true
theorem z3A:OpR X (binaryOp .Mult) (rI z1h λi j=>.int (i*j)):=opI λ_ _ _ _ _ _ _ hc q=>mul_int q hc.ok
theorem z1d:OpR X (binaryOp .FloorDiv) (rI (λ_ j=>0<j/\j<2^200) λi j=>.int (i/j)):=opI λi j _ _ _ _ _ hc q=>by
 have h1:(0:Int)<j:=hc.1;have h2:j.natAbs<2^200:=by have:=hc.2;omega
 refine floordiv_int (by omega) (by rw[Int.fdiv_eq_ediv_of_nonneg i (by omega)];exact q) (.inl (PyProof.noPylong_of_log2 ?_));exact Nat.lt_of_lt_of_le ((Nat.log2_lt (by omega)).mpr h2) (by decide)
def binR(X:Cx):Operator->R2
 | .Add=>λx y H Q=>rI0 (λi j=>.int (i+j)) x y H Q\/rCat x y H Q\/z5q X.K x y H Q
 | .Sub=>rI0 λi j=>.int (i - j)
 | .Mult=>λx y H Q=>rI z1h (λi j=>.int (i*j)) x y H Q\/rRep x y H Q
 | .Mod=>λx y H Q=>rI (λ_ j=>0<j) (λi j=>.int (i%j)) x y H Q\/rI (λ_ j=>j≠0) (λi j=>.int (i.fmod j)) x y H Q
 | .FloorDiv=>rI (λ_ j=>0<j/\j<2^200) λi j=>.int (i/j)
 | .LShift=>rI CPow λi j=>.int (i*2^j.toNat)
 | .RShift=>rI (λ_ j=>0<=j) λi j=>.int (i/2^j.toNat)
 | .BitAnd=>rI0 λi j=>.int (Builtin.bitAnd i j)
 | _=>λ_ _ _ _=>False
theorem z5b{op:Operator}:OpR X (binaryOp op) (binR X op):=by
 cases op with
 | Add=>exact z6C.or (z5G.or z3i)
 | Sub=>exact z6a
 | Mult=>exact z3A.or z5v
 | Mod=>exact z5L.or z3Q
 | FloorDiv=>exact z1d
 | LShift=>exact z6o
 | RShift=>exact z6f
 | BitAnd=>exact z5r
 | BitOr=>exact λ_ _ _ _ _ _ _ _ _ _ _ _ h=>h.elim
 | BitXor=>exact λ_ _ _ _ _ _ _ _ _ _ _ _ h=>h.elim
 | MatMult=>exact λ_ _ _ _ _ _ _ _ _ _ _ _ h=>h.elim
 | Div=>exact λ_ _ _ _ _ _ _ _ _ _ _ _ h=>h.elim
 | Pow=>exact λ_ _ _ _ _ _ _ _ _ _ _ _ h=>h.elim
theorem z6s{O W:List Addr}{H0 H:Hp}{op:Operator}{x y:V}{dx dy:DV}{cx cy:Cl}{Q:VK}{σ:St}(h:binD op dx dy cx cy=some re)(hd:Hid O W H0 H)(gx:Got X.D O W H0 H dx cx x)(gy:Got X.D O W H0 H dy cy y)
  (p:Post X.D E σ O W H0 H Q re):binR X op x y H Q:=by
 unfold binD at h;split at h
 ·cases h;exact .inl (z0C hd gx gy (p _ H (Same.refl H) q0G))
 ·cases h;exact z0C hd gx gy (p _ H (Same.refl H) q0G)
 ·split at h
  ·rename_i m;cases h;refine .inl (q8q hd gx gy ?_ (p _ H (Same.refl H) q0G));unfold q3C at m;simp only[Bool.or_eq_true,Bool.and_eq_true,decide_eq_true_eq]at m;exact m
  ·cases h
 ·split at h
  ·rename_i m;cases h;exact .inl (q8q hd gx gy m (p _ H (Same.refl H) q0G))
  ·split at h
   ·rename_i m;cases h;exact .inr (q8q hd gx gy m (p _ H (Same.refl H) q0G))
   ·cases h
 ·split at h
  ·rename_i m;cases h;exact q8q hd gx gy m (p _ H (Same.refl H) q0G)
  ·cases h
 ·split at h
  ·rename_i m;cases h;exact q8q hd gx gy m (p _ H (Same.refl H) q0G)
  ·cases h
 ·split at h
  ·rename_i m;cases h;exact q8q hd gx gy m (p _ H (Same.refl H) q0G)
  ·cases h
 ·cases h;exact z0C hd gx gy (p _ H (Same.refl H) q0G)
 ·rename_i xs ys;split at h
  ·rename_i m;cases h;by_cases hw:cx ≠ .weak/\cy ≠ .weak
   ·obtain⟨l1,v1,e1,k1,r1⟩:=gx.items hd hw.1;obtain⟨l2,v2,e2,k2,r2⟩:=gy.items hd hw.2;refine .inr (.inl ⟨l1,l2,v1,v2,e1,e2,k1,k2,by rw[r1.length,r2.length];exact q1t m,λq hq=>p _ _ (q0m hq) ?_⟩);rw[z0a hw.1 hw.2];exact q1J hd hq (r1.append r2)
   ·obtain⟨l1,v1,e1,k1,r1⟩:=gx.lst hd;obtain⟨l2,v2,e2,k2,r2⟩:=gy.lst hd;refine .inr (.inl ⟨l1,l2,v1,v2,e1,e2,k1,k2,by rw[r1.length,r2.length];exact q1t m,λq hq=>p _ _ (q0m hq) ?_⟩);have:Cl.anew cx cy=.weak:=(by cases cx<;>cases cy<;>first | rfl | exact absurd ⟨(by intro z;cases z),(by intro z;cases z)⟩ hw);rw[this];exact q4P hd hq (r1.append r2)
  ·cases h
 ·rename_i xs ys;split at h
  ·rename_i m;cases h;by_cases hw:cx ≠ .weak/\cy ≠ .weak
   ·obtain⟨l1,v1,e1,k1,r1⟩:=gx.itemsT hd hw.1;obtain⟨l2,v2,e2,k2,r2⟩:=gy.itemsT hd hw.2;have cl:(Cl.anew cx cy).notF=.strong:=by rw[z0a hw.1 hw.2];rfl
    rw[cl]at p;refine .inr (.inr ⟨l1,l2,v1,v2,e1,e2,k1,k2,λz=>m.2 (by have:=r1.length;rw[z]at this;exact List.length_eq_zero_iff.mp this.symm),by rw[r1.length,r2.length];exact q1t m.1,λz=>?_,λ_ q hq=>p _ _ (q0m hq) (q3m hd hq (r1.append r2))⟩);refine p _ _ (Same.refl _) ?_;have z2:ys=[]:=by have:=r2.length;rw[z]at this;exact List.length_eq_zero_iff.mp this.symm
    subst z2;rw[List.append_nil];cases cx with
    | weak=>exact absurd rfl hw.1
    | top=>rw[←e1];exact gx
    | strong=>rw[←e1];exact gx
    | fresh=>obtain⟨_,_,_,_,q,_⟩:=gx;cases q
    | ft=>rw[←e1];exact gx.ft hd
   ·obtain⟨l1,v1,e1,k1,r1⟩:=gx.tup hd;obtain⟨l2,v2,e2,k2,r2⟩:=gy.tup hd;have cl:(Cl.anew cx cy).notF=.weak:=(by cases cx<;>cases cy<;>first | rfl | exact absurd ⟨(by intro z;cases z),(by intro z;cases z)⟩ hw);rw[cl]at p;refine .inr (.inr ⟨l1,l2,v1,v2,e1,e2,k1,k2,λz=>m.2 (by have:=r1.length;rw[z]at this;exact List.length_eq_zero_iff.mp this.symm),by rw[r1.length,r2.length];exact q1t m.1,λz=>?_,λ_ q hq=>p _ _ (q0m hq) (q5o hd hq (r1.append r2))⟩);refine p _ _ (Same.refl _) ?_;have z2:ys=[]:=by have:=r2.length;rw[z]at this;exact List.length_eq_zero_iff.mp this.symm
    subst z2;rw[List.append_nil,←e1];exact gx.weak hd
  ·cases h
 ·rename_i xs k;split at h
  ·rename_i m;cases h;obtain⟨l1,v1,e1,k1,r1⟩:=gx.lstC hd;refine .inr ⟨l1,k,v1,e1,gy.int hd,k1,m.2.1,m.2.2,by rw[r1.length];exact q1t m.1,λq hq=>p _ _ (q0m hq) (q3H hd hq (r1.rep _))⟩
  ·cases h
 ·cases h
theorem z2B{op:Operator}(ha:∀q,ra=some q->PE X a (dE X.D E δ q))(hb:∀q,rb=some q->PE X b (dE X.D E δ q))(h:(Re.thn ra λx cx=>Re.thn rb λy cy=>binD op x y cx cy)=some re):PE X (.BinOp a op b pos) (dE X.D E δ re):=
 z0u (λ_ _=>z7L z5b) ha hb h λO W H0 H x y Q dx cx dy cy σ k hd gx gy p=>z6s k hd gx gy p
theorem z5W{ds:List DV}{i:Int}:atD ds i=L2.atI ds i:=rfl
theorem RepL.atI{D:Dm}{H:Hp}{ds:List DV}{xs:List V}{i:Int}{d:DV}(h:RepL D H ds xs)(e:atD ds i=some d):∃v,L2.atI xs i=some v/\Rep D H d v:=by
 rw[z5W]at e;unfold L2.atI at e ⊢;rw[h.length];cases q:ixN ds.length i with
 | none=>rw[q]at e;cases e
 | some j=>
  rw[q]at e;exact h.get e
theorem z6K{O W:List Addr}{H0 H:Hp}{x y:V}{dx dy:DV}{cx cy:Cl}{Q:VK}{σ:St}(h:((ixD dx dy).map λd=>Re.ok d cx.item)=some re)(hd:Hid O W H0 H)(gx:Got X.D O W H0 H dx cx x)(gy:Got X.D O W H0 H dy cy y)
  (p:Post X.D E σ O W H0 H Q re):rIx X.K x y H Q:=by
 obtain⟨d,h1,h2⟩:=Option.map_eq_some_iff.mp h;cases h2;unfold ixD at h1;split at h1
 ·rename_i ns i;obtain⟨a,e1,e2⟩:=q1T.mp (gx.all hd);obtain⟨n,h3,h4⟩:=Option.map_eq_some_iff.mp h1;cases h4;have q:L2.atI (ns.map V.int) i=some (.int n):=by
   unfold L2.atI;rw[List.length_map];have h3':((ixN ns.length i).bind λj=>ns[j]?)=some n:=h3;cases z:ixN ns.length i with
   | none=>rw[z]at h3';cases h3'
   | some j=>
    rw[z]at h3';have h5:ns[j]? = some n:=h3';show(ns.map V.int)[j]? = _;rw[List.getElem?_map,h5];rfl
  refine .inl ⟨a,_,i,_,e1,gy.int hd,e2.sq,q,p _ H (Same.refl H) ?_⟩;cases cx<;>exact q0G
 ·obtain⟨a,xs,e1,e2,e3⟩:=gx.lstC hd;obtain⟨v,q1,q2⟩:=e3.atI h1;exact .inl ⟨a,xs,_,v,e1,gy.int hd,SqL.of e2,q1,p _ H (Same.refl H) (Got.item q2)⟩
 ·obtain⟨a,xs,e1,e2,e3⟩:=gx.tupC hd;obtain⟨v,q1,q2⟩:=e3.atI h1;exact .inr (.inl ⟨a,xs,_,v,e1,gy.int hd,e2,q1,p _ H (Same.refl H) (Got.item q2)⟩)
 ·rename_i z i;obtain⟨e1,e2⟩:=gx.str hd;cases q:q2m z.cps.size i with
  | none=>rw[q]at h1;cases h1
  | some j=>
   rw[q]at h1;obtain⟨ch,h3,h4⟩:=Option.map_eq_some_iff.mp (show((z.cps[j]?).map λc=>DV.str ⟨#[c]⟩)=some d from h1);cases h4;refine .inr (.inr ⟨z,i,ch,e1,gy.int hd,e2,?_,p _ H (Same.refl H) ?_⟩)
   ·unfold L2.atI;have:ixN z.cps.toList.length i=some j:=by rw[Array.length_toList];exact q
    rw[this];show z.cps.toList[j]? = some ch;rw[Array.getElem?_toList];exact h3
   ·have one:Rep X.D (L2.wo (O++W) H) (.str ⟨#[ch]⟩) (.str ⟨#[ch]⟩):=q1e.mpr ⟨rfl,by show(1:Nat)<=sizeLine;decide⟩;have one':Rep X.D (L2.wo O H) (.str ⟨#[ch]⟩) (.str ⟨#[ch]⟩):=q1e.mpr ⟨rfl,by show(1:Nat)<=sizeLine;decide⟩;cases cx<;>first | exact one | exact one'
 ·cases h1
theorem z5p(ha:∀q,ra=some q->PE X a (dE X.D E δ q))(hb:∀q,rb=some q->PE X b (dE X.D E δ q))(hs:q5j b=false)(h:(Re.thn ra λx cx=>Re.thn rb λy _=>(ixD x y).map λd=>.ok d cx.item)=some re):PE X (.Subscript a b pos) (dE X.D E δ re):=
 z0u (λ_ _ h1 h2=>z7i z6h h1 h2 (by cases b<;>first | (intro _ _;rfl) | cases hs)) ha hb h λO W H0 H x y Q dx cx dy cy σ k hd gx gy p=>z6K k hd gx gy p
theorem q5p(n d:Nat)(o:Option Int):slIx n d o=HT.sIx n d o:=by cases o<;>rfl
theorem RepL.cut{D:Dm}{H:Hp}{ds:List DV}{xs:List V}(h:RepL D H ds xs)(lo hi:Option Int):RepL D H (cutD ds lo hi) (cutV xs lo hi):=by
 unfold cutD cutV;rw[q5p,q5p,←h.length];exact(h.drop _).take _
theorem z7h{O W:List Addr}{H0 H:Hp}{x:V}{dx:DV}{cx:Cl}{Q:VK}{σ:St}{lo hi:Option Int}(h:((slD dx lo hi).map λd=>Re.ok d (slCl dx cx))=some re)(hd:Hid O W H0 H)(gx:Got X.D O W H0 H dx cx x)
  (p:Post X.D E σ O W H0 H Q re):rSlL X.K x lo hi H Q\/rSlT X.K x lo hi H Q:=by
 obtain⟨d,h1,h2⟩:=Option.map_eq_some_iff.mp h;cases h2;unfold slD at h1;split at h1
 ·rename_i ns;cases h1;obtain⟨a,e1,e2⟩:=q1T.mp (gx.all hd);exact .inl ⟨a,_,e1,e2.sq,λq hq=>p _ _ (q0m hq) (q1J hd hq ((q1R ns).cut lo hi))⟩
 ·cases h1;obtain⟨a,xs,e1,e2,e3⟩:=gx.lstC hd;exact .inl ⟨a,xs,e1,SqL.of e2,λq hq=>p _ _ (q0m hq) (q3H hd hq (e3.cut lo hi))⟩
 ·rename_i ds;split at h1
  ·cases h1
  ·rename_i m;cases h1;obtain⟨a,xs,e1,e2,e3⟩:=gx.tupC hd;refine .inr ⟨a,xs,e1,e2,?_,λq hq=>p _ _ (q0m hq) (q7L hd hq (e3.cut lo hi))⟩;rw[q5p,q5p,←e3.length]at m;exact m
 ·cases h1
theorem q7H:SlR X (λx lo hi H Q=>rSlL X.K x lo hi H Q\/rSlT X.K x lo hi H Q):=z3W.or z5h
theorem z0A{i:Int}{cl:Cl}(h:PE X b (dE X.D E δ (.ok (.int i) cl))):PO X (some b) (λσ H Q=>∃O W,RSt X.D H σ δ O W/\∀H',Same H H'->Q (some i) H'):=λpins s σ H Q I ⟨O,W,R,p⟩=>
 z0q h pins s σ H Q I ⟨O,W,R,λv H' s1 g=>⟨i,g.int (R.hid.mono s1),p H' s1⟩⟩
theorem z6j{c:Str}(h:PE X b (dE X.D E δ (.ex c))):PO X (some b) (λσ H Q=>∃O W,RSt X.D H σ δ O W/\Post X.D E σ O W H H (λ_ _=>False) (.ex c)):=λpins s σ H Q I ⟨O,W,R,p⟩=>
 z0q h pins s σ H Q I ⟨O,W,R,p⟩
theorem q4V{o:Option Expr}:PO X o (λ_ _ _=>False):=λ_ _ _ _ _ _ h=>h.elim
theorem z5C{p2:Pos}{rc:Option Re}(ha:∀q,ra=some q->PE X a (dE X.D E δ q))(hb:∀q,rb=some q->PE X b (dE X.D E δ q))(hc:∀q,rc=some q->PE X c (dE X.D E δ q))(h:(Re.thn ra λx cx=>Re.thn rb λl _=>match l with
  | .int l=>Re.thn rc λu _=>(match u with
   | .int u=>(slD x (some l) (some u)).map λd=>.ok d (slCl x cx) | _=>none) | _=>none)=some re):PE X (.Subscript a (.Slice (some b) (some c) none p2) pos) (dE X.D E δ re):=by
 cases hra:ra with
 | none=>rw[hra]at h;cases h
 | some q=>
  rw[hra]at h;have A:=ha q hra;cases q with
  | ex c=>cases h;exact(q3K q7H A q4V q4V).weak λσ H Q ⟨O,W,R,p⟩=>⟨O,W,R,p⟩
  | ok dx cx=>
   cases hrb:rb with
   | none=>rw[hrb]at h;cases h
   | some q=>
    rw[hrb]at h;have B:=hb q hrb;cases q with
    | ex c=>cases h;exact(q3K q7H A (z6j B) q4V).weak λσ H Q ⟨O,W,R,p⟩=>⟨O,W,R,λx H1 s1 g1=>⟨O,W,R.mono s1,λH' C m s=>p H' C m (s1.trans s)⟩⟩
    | ok dy cy=>
     have h':(match(generalizing:=false) dy with | .int l=>Re.thn rc λu _=>(match u with | .int u=>(slD dx (some l) (some u)).map λd=>Re.ok d (slCl dx cx) | _=>none) | _=>none)=some re:=h;split at h'
     ·rename_i l;cases hrc:rc with
      | none=>rw[hrc]at h';cases h'
      | some q=>
       rw[hrc]at h';have C:=hc q hrc;cases q with
       | ex c'=>
        cases h';exact(q3K q7H A (z0A B) (z6j C)).weak λσ H Q ⟨O,W,R,p⟩=>⟨O,W,R,λx H1 s1 g1=>⟨O,W,R.mono s1,λH2 s2=>⟨O,W,(R.mono s1).mono s2,λH' C m s=>p H' C m (s1.trans (s2.trans s))⟩⟩⟩
       | ok dz cz=>
        have h2:(match(generalizing:=false) dz with | .int u=>(slD dx (some l) (some u)).map λd=>Re.ok d (slCl dx cx) | _=>none)=some re:=h';split at h2
        ·rename_i u;exact(q3K q7H A (z0A B) (z0A C)).weak λσ H Q ⟨O,W,R,p⟩=>⟨O,W,R,λx H1 s1 g1=>⟨O,W,R.mono s1,λH2 s2=>⟨O,W,(R.mono s1).mono s2,λH3 s3=>z7h h2 (((R.hid.mono s1).mono s2).mono s3) ((g1.mono s2).mono s3) (p.step (s1.trans (s2.trans s3)))⟩⟩⟩
        ·cases h2
     ·cases h'
end
end L2
end
noncomputable section
namespace L2
open PySem PySem.Spec PyProof.Rows
section
variable {X:Cx}
theorem q7h{y:Str}{c:Nat}(h:y.cps.toList=[c]):y=⟨#[c]⟩:=by
 obtain⟨⟨l⟩⟩:=y;simp only at h;rw[h]
def Its(x:Str):It:=⟨λi _=>i<x.cps.size,λi H v H'=>H'=H/\∃c,x.cps[i]? = some c/\v=.str ⟨#[c]⟩,λi _=>x.cps.size<=i⟩
theorem q7Y{P:Program}{w:World}{K:PySem.W.Frag}{tg:Expr}(it:Addr)(x:Str)(t:Tok):Turn P w K tg (Its x) [it] it (λi h=>h.IsStrIter it "str_ascii_iterator" x t i) where
 mem:=by simp
 obj:=λi h st b hb=>by
  have e:b=it:=by simpa using hb
  subst e;obtain⟨o,e,c,d⟩:=st;exact⟨o,e,λv z=>by rw[d]at z;cases z⟩
 keep:=λi h h' st k=>by obtain⟨o,e,r⟩:=st;exact⟨o,k it (by simp) o e,r⟩
 item:=by
  intro X hP hw hK hc i pins s σ H E I hf st hg;subst hP hw hK;obtain⟨f0,f1,f2,f3,f4,f5⟩:=hf it (by simp);have hi:i<x.cps.size:=hg;refine wpAny_pyNext_ascii_item st (c:=x.cps[i]) (by simp[hi]) λh' st' sb=>?_
  have I1:Inv X pins σ H {s with heap:=h',toks:=s.toks+1}:=I.turned (λb o hb e=>(sb.2 b hb).trans e) f0 f1 f3 f4 f5;obtain⟨o,e,c,d⟩:=id st';exact⟨_,rfl,q8j (s:={s with heap:=h',toks:=s.toks+1}) e c d (by decide) ⟨.str ⟨#[x.cps[i]]⟩,H,I1,⟨_,rfl⟩,⟨rfl,_,by simp[hi],rfl⟩,st',λb hb=>(hf b hb).1⟩⟩
 done:=by
  intro X hP hw hK hc i pins s σ H E I hf st hg;subst hP hw hK;obtain⟨f0,f1,f2,f3,f4,f5⟩:=hf it (by simp);have hi:x.cps.size<=i:=hg;exact wpAny_pyNext_ascii_end (I.ok.hd hc) st (by simp[hi]) λh' eb=>⟨rfl,I.turned (t':=s.toks) (λb o hb e=>eb b o hb e) f0 f1 f3 f4 f5⟩
 self:=λ_ _ _ _ _ st h=>wpAny_pyIter_striter_ascii st h
theorem q9g{P:Program}{w:World}{K:PySem.W.Frag}{tg:Expr}(it:Addr)(x:Str)(t:Tok):Turn P w K tg (Its x) [it] it (λi h=>h.IsStrIter it "str_iterator" x t i) where
 mem:=by simp
 obj:=λi h st b hb=>by
  have e:b=it:=by simpa using hb
  subst e;obtain⟨o,e,c,d⟩:=st;exact⟨o,e,λv z=>by rw[d]at z;cases z⟩
 keep:=λi h h' st k=>by obtain⟨o,e,r⟩:=st;exact⟨o,k it (by simp) o e,r⟩
 item:=by
  intro X hP hw hK hc i pins s σ H E I hf st hg;subst hP hw hK;obtain⟨f0,f1,f2,f3,f4,f5⟩:=hf it (by simp);have hi:i<x.cps.size:=hg;refine wpAny_pyNext_wide_item st (c:=x.cps[i]) (by simp[hi]) λh' st' sb=>?_
  have I1:Inv X pins σ H {s with heap:=h',toks:=s.toks+1}:=I.turned (λb o hb e=>(sb.2 b hb).trans e) f0 f1 f3 f4 f5;obtain⟨o,e,c,d⟩:=id st';exact⟨_,rfl,q8j (s:={s with heap:=h',toks:=s.toks+1}) e c d (by decide) ⟨.str ⟨#[x.cps[i]]⟩,H,I1,⟨_,rfl⟩,⟨rfl,_,by simp[hi],rfl⟩,st',λb hb=>(hf b hb).1⟩⟩
 done:=by
  intro X hP hw hK hc i pins s σ H E I hf st hg;subst hP hw hK;obtain⟨f0,f1,f2,f3,f4,f5⟩:=hf it (by simp);have hi:x.cps.size<=i:=hg;exact wpAny_pyNext_wide_end (I.ok.hd hc) st (by simp[hi]) λh' eb=>⟨rfl,I.turned (t':=s.toks) (λb o hb e=>eb b o hb e) f0 f1 f3 f4 f5⟩
 self:=λ_ _ _ _ _ st h=>wpAny_pyIter_striter_wide st h
def iStr(tl:TE):TI:=λσ H R=>tl σ H λv H1=>∃x:Str,v=.str x/\R (Its x) H1
theorem z4X{l tg:Expr}{tl:TE}(hl:PE X l tl):PI X tg l (iStr tl):=by
 intro pins s σ H R I h;refine thn (hl pins s σ H _ I h) λv s1 ⟨x,H1,I1,r1,q1⟩=>?_
 obtain⟨y,e,q⟩:=q1;subst e;obtain⟨t,rfl⟩:=(show ∃t,v=Value.str y t from r1);have fp:∀(o:Obj),∀b∈[s1.heap.objs.size],FpOk X pins H1 b:=λo b hb=>by
  have e:b=s1.heap.objs.size:=by simpa using hb
  subst e;exact I1.fpOk (Nat.le_refl _) (I1.hok.fresh (Nat.le_refl _))
 cases ha:y.cps.all (· < 128)with
 | false=>exact wpAny_pyIter_wide ha ⟨s1.heap.objs.size,[s1.heap.objs.size],_,_,H1,rfl,I1.kept (t':=s1.toks) λb o e=>Heap.get?_push_of_some _ e,q9g _ y t,⟨_,Heap.get?_push_size _ rfl,rfl,rfl⟩,fp default,q⟩
 | true=>exact wpAny_pyIter_ascii ha ⟨s1.heap.objs.size,[s1.heap.objs.size],_,_,H1,rfl,I1.kept (t':=s1.toks) λb o e=>Heap.get?_push_of_some _ e,q7Y _ y t,⟨_,Heap.get?_push_size _ rfl,rfl,rfl⟩,fp default,q⟩
end
end L2
end
noncomputable section
namespace L2
open PySem PySem.Spec PyProof.Rows
mutual
def toP:DV->PyData
 | .non=>.none | .bl b=>.bool b | .int i=>.int i | .str x=>.str x
 | .tup ds=>.tuple (toPs ds) | .lst ds=>.list (toPs ds)
 | _=>.none
def toPs:List DV->List PyData
 | []=>[]
 | d::r=>toP d::toPs r
end
mutual
theorem q5h:∀(n m:Nat) (d e:DV),d.plain n=true->e.plain m=true->PyData.eqv (toP d) (toP e)=deq d e
 | n,m,.non,e,_,h=>by cases e<;>first | (cases m<;>simp[DV.plain]at h;done) | (simp only[toP,PyData.eqv,deq])
 | n,m,.bl _,e,_,h=>by cases e<;>first | (cases m<;>simp[DV.plain]at h;done) | (simp only[toP,PyData.eqv,deq])
 | n,m,.int _,e,_,h=>by cases e<;>first | (cases m<;>simp[DV.plain]at h;done) | (simp only[toP,PyData.eqv,deq])
 | n,m,.str x,e,_,h=>by
  cases e with
  | str y=>simp only[toP,PyData.eqv,deq];rfl
  | non=>simp only[toP,PyData.eqv,deq]
  | bl _=>simp only[toP,PyData.eqv,deq]
  | int _=>simp only[toP,PyData.eqv,deq]
  | tup _=>simp only[toP,PyData.eqv,deq]
  | lst _=>simp only[toP,PyData.eqv,deq]
  | dct _ _=>cases m<;>simp[DV.plain]at h
  | exc _=>cases m<;>simp[DV.plain]at h
  | fn _=>cases m<;>simp[DV.plain]at h
  | lam _ _=>cases m<;>simp[DV.plain]at h
  | scr _=>cases m<;>simp[DV.plain]at h
 | 0,_,.tup _,_,h,_=>by simp[DV.plain]at h
 | 0,_,.lst _,_,h,_=>by simp[DV.plain]at h
 | n+1,m,.tup ds,e,h,h'=>by
  cases e with
  | tup es=>
   cases m with
   | zero=>simp[DV.plain]at h'
   | succ m=>
    simp only[toP,PyData.eqv,deq];exact q4S n m ds es (by simpa[DV.plain]using h) (by simpa[DV.plain]using h')
  | non=>simp only[toP,PyData.eqv,deq]
  | bl _=>simp only[toP,PyData.eqv,deq]
  | int _=>simp only[toP,PyData.eqv,deq]
  | str _=>simp only[toP,PyData.eqv,deq]
  | lst _=>simp only[toP,PyData.eqv,deq]
  | dct _ _=>cases m<;>simp[DV.plain]at h'
  | exc _=>cases m<;>simp[DV.plain]at h'
  | fn _=>cases m<;>simp[DV.plain]at h'
  | lam _ _=>cases m<;>simp[DV.plain]at h'
  | scr _=>cases m<;>simp[DV.plain]at h'
 | n+1,m,.lst ds,e,h,h'=>by
  cases e with
  | lst es=>
   cases m with
   | zero=>simp[DV.plain]at h'
   | succ m=>
    simp only[toP,PyData.eqv,deq];exact q4S n m ds es (by simpa[DV.plain]using h) (by simpa[DV.plain]using h')
  | non=>simp only[toP,PyData.eqv,deq]
  | bl _=>simp only[toP,PyData.eqv,deq]
  | int _=>simp only[toP,PyData.eqv,deq]
  | str _=>simp only[toP,PyData.eqv,deq]
  | tup _=>simp only[toP,PyData.eqv,deq]
  | dct _ _=>cases m<;>simp[DV.plain]at h'
  | exc _=>cases m<;>simp[DV.plain]at h'
  | fn _=>cases m<;>simp[DV.plain]at h'
  | lam _ _=>cases m<;>simp[DV.plain]at h'
  | scr _=>cases m<;>simp[DV.plain]at h'
 | n,_,.dct _ _,_,h,_=>by cases n<;>simp[DV.plain]at h
 | n,_,.exc _,_,h,_=>by cases n<;>simp[DV.plain]at h
 | n,_,.fn _,_,h,_=>by cases n<;>simp[DV.plain]at h
 | n,_,.lam _ _,_,h,_=>by cases n<;>simp[DV.plain]at h
 | n,_,.scr _,_,h,_=>by cases n<;>simp[DV.plain]at h
theorem q4S:∀(n m:Nat) (ds es:List DV),DV.plains n ds=true->DV.plains m es=true->PyData.eqvAll (toPs ds) (toPs es)=deqs ds es
 | _,_,[],[],_,_=>by simp only[toPs,PyData.eqvAll,deqs]
 | _,_,[],_::_,_,_=>by simp only[toPs,PyData.eqvAll,deqs]
 | _,_,_::_,[],_,_=>by simp only[toPs,PyData.eqvAll,deqs]
 | n,m,d::ds,e::es,h,h'=>by simp only[DV.plains,Bool.and_eq_true]at h h';simp only[toPs,PyData.eqvAll,deqs,q5h n m d e h.1 h'.1,q4S n m ds es h.2 h'.2]
end
mutual
theorem q4T:∀(n:Nat) (d:DV),d.plain n=true->(toP d).canLay0=true/\(toP d).depth<=n
 | n,.non,_=>by simp[toP,PyData.canLay0,PyData.depth]
 | n,.bl _,_=>by simp[toP,PyData.canLay0,PyData.depth]
 | n,.int _,_=>by simp[toP,PyData.canLay0,PyData.depth]
 | n,.str x,h=>by
  have h':(x.cps.all (· < 0x110000))=true:=by cases n<;>simpa[DV.plain]using h
  simp only[toP,PyData.canLay0,PyData.depth];exact⟨h',Nat.zero_le _⟩
 | 0,.tup _,h=>by simp[DV.plain]at h
 | 0,.lst _,h=>by simp[DV.plain]at h
 | n+1,.tup ds,h=>by have q:=q2Z n ds (by simpa[DV.plain]using h);simp only[toP,PyData.canLay0,PyData.depth,q.1,true_and];have:=q.2;omega
 | n+1,.lst ds,h=>by have q:=q2Z n ds (by simpa[DV.plain]using h);simp only[toP,PyData.canLay0,PyData.depth,q.1,true_and];have:=q.2;omega
 | n,.dct _ _,h=>by cases n<;>simp[DV.plain]at h
 | n,.exc _,h=>by cases n<;>simp[DV.plain]at h
 | n,.fn _,h=>by cases n<;>simp[DV.plain]at h
 | n,.lam _ _,h=>by cases n<;>simp[DV.plain]at h
 | n,.scr _,h=>by cases n<;>simp[DV.plain]at h
theorem q2Z:∀(n:Nat) (ds:List DV),DV.plains n ds=true->PyData.canLayAll0 (toPs ds)=true/\PyData.depthAll (toPs ds)<=n
 | _,[],_=>by simp[toPs,PyData.canLayAll0,PyData.depthAll]
 | n,d::ds,h=>by simp only[DV.plains,Bool.and_eq_true]at h;have q:=q4T n d h.1;have q':=q2Z n ds h.2;simp only[toPs,PyData.canLayAll0,PyData.depthAll,q.1,q'.1,Bool.and_self,true_and];have a:=q.2;have b:=q'.2;omega
end
section
variable {X:Cx} {pins:List (Addr×Obj)} {σ:St} {H:Hp} {s:Shared}
mutual
theorem q1r(I:Inv X pins σ H s):∀(n:Nat) {d:DV} {v:V} {u:Value},d.plain n=true->Rep X.D H d v->RelV v u->∃as,Reads s.heap u (toP d) as
 | _,.non,_,_,_,h,r=>by rw[q4Q.mp h]at r;cases r;exact⟨_,Reads.none⟩
 | _,.bl b,_,_,_,h,r=>by rw[q3X.mp h]at r;cases r;exact⟨_,Reads.bool b⟩
 | _,.int i,_,_,_,h,r=>by rw[q0R.mp h]at r;obtain⟨t,rfl⟩:=r;exact⟨_,Reads.int i t⟩
 | _,.str x,_,_,_,h,r=>by rw[(q1e.mp h).1]at r;obtain⟨t,rfl⟩:=r;exact⟨_,Reads.str x t⟩
 | 0,.tup _,_,_,p,_,_=>by simp[DV.plain]at p
 | 0,.lst _,_,_,p,_,_=>by simp[DV.plain]at p
 | n+1,.tup ds,_,_,p,h,r=>by obtain⟨a,xs,e1,e2,e3⟩:=q0C.mp h;rw[e1]at r;cases r;obtain⟨its,rv,⟨o,h1,h2,k,h3⟩,_⟩:=I.tuple e2;obtain⟨as,q⟩:=q4o I n (by simpa[DV.plain]using p) e3 rv;rw[toP];exact⟨as,Reads.tuple h1 h2 h3 (by simpa using q)⟩
 | n+1,.lst ds,_,_,p,h,r=>by obtain⟨a,xs,e1,e2,e3⟩:=q0y.mp h;rw[e1]at r;cases r;obtain⟨_,its,k,rv,_,h1⟩:=I.lstM e2;obtain⟨as,q⟩:=q4o I n (by simpa[DV.plain]using p) e3 rv;rw[toP];exact⟨_,Reads.list h1 rfl rfl (by simpa using q)⟩
 | n,.dct _ _,_,_,h,_,_=>by cases n<;>simp[DV.plain]at h
 | n,.exc _,_,_,h,_,_=>by cases n<;>simp[DV.plain]at h
 | n,.fn _,_,_,h,_,_=>by cases n<;>simp[DV.plain]at h
 | n,.lam _ _,_,_,h,_,_=>by cases n<;>simp[DV.plain]at h
 | n,.scr _,_,_,h,_,_=>by cases n<;>simp[DV.plain]at h
theorem q4o(I:Inv X pins σ H s):∀(n:Nat) {ds:List DV} {vs:List V} {us:List Value},DV.plains n ds=true->RepL X.D H ds vs->Vals vs us->∃as,ReadsAll s.heap us (toPs ds) as
 | _,[],_,_,_,h,r=>by rw[q0s.mp h]at r;cases r;exact⟨_,ReadsAll.nil⟩
 | n,d::ds,_,_,p,h,r=>by
  simp only[DV.plains,Bool.and_eq_true]at p;obtain⟨v,vs,e1,e2,e3⟩:=q0e.mp h;subst e1;cases r with
  | cons r1 r2=>
   obtain⟨as,q⟩:=q1r I n p.1 e2 r1;obtain⟨bs,q'⟩:=q4o I n p.2 e3 r2;rw[toPs];exact⟨_,ReadsAll.cons q q'⟩
end
theorem q3h{d:DV}(h:d.plain 60=true):SeqAt.shaped (toP d)=true:=by
 have q:=q4T 60 d h;unfold SeqAt.shaped;rw[q.1,Bool.true_and];exact decide_eq_true (Nat.le_trans q.2 (by decide))
theorem q6o{d:DV}(h:d.plain 60=true):∀(ds:List DV),DV.plains 60 ds=true->((toPs ds).any λy=>PyData.eqv y (toP d))=ds.any λx=>deq x d
 | [],_=>rfl
 | e::ds,p=>by simp only[DV.plains,Bool.and_eq_true]at p;rw[toPs,List.any_cons,List.any_cons,q5h 60 60 e d p.1 h,q6o h ds p.2]
end
section
variable {X:Cx} {E:St->XK} {δ:List Sv} {a b c e:Expr} {pos:Pos} {ra rb rc:Option Re} {re:Re}
def cmpR(X:Cx)(op:CmpOp):R2:=λx y H Q=>∃dx dy k,cmpD op dx dy=some k/\Rep X.D H dx x/\Rep X.D H dy y/\Q (.bl k) H
theorem z2j{op:CmpOp}(hu:X.A.units+64<cLine):OpR X (compareOp op) (cmpR X op):=by
 intro pins s σ H x y v u Q I rx ry h;obtain⟨dx,dy,k,hk,r1,r2,q⟩:=h;have fin:∀{k':Bool},k'=k->EP X pins σ Q (.bool k') s:=λ{k'} e=>⟨.bl k',H,I,rfl,by rw[e];exact q⟩
 unfold cmpD at hk;split at hk
 ·cases hk;exact z7q pins s σ H x y v u Q I rx ry ⟨_,_,q0R.mp r1,q0R.mp r2,q⟩
 ·cases hk;exact z7V pins s σ H x y v u Q I rx ry ⟨_,_,q0R.mp r1,q0R.mp r2,q⟩
 ·split at hk
  ·rename_i p;rw[Bool.and_eq_true]at p;cases hk;obtain⟨as,q1⟩:=q1r I 60 p.1 r1 rx;obtain⟨bs,q2⟩:=q1r I 60 p.2 r2 ry;exact eq_dataH q1 q2 (q3h p.1) (q3h p.2) hu (fin (q5h 60 60 _ _ p.1 p.2))
  ·cases hk
 ·split at hk
  ·rename_i p;rw[Bool.and_eq_true]at p;cases hk;obtain⟨as,q1⟩:=q1r I 60 p.1 r1 rx;obtain⟨bs,q2⟩:=q1r I 60 p.2 r2 ry;exact ne_dataH q1 q2 (q3h p.1) (q3h p.2) hu (fin (by rw[q5h 60 60 _ _ p.1 p.2]))
  ·cases hk
 ·rename_i ds;split at hk
  ·rename_i p;rw[Bool.and_eq_true]at p;cases hk;obtain⟨as,q1⟩:=q1r I 60 p.1 r1 rx;obtain⟨bs,q2⟩:=q1r I 61 (d:=.lst ds) (by simpa[DV.plain]using p.2) r2 ry;rw[toP]at q2;have l1:=q4T 60 _ p.1;have l2:=q2Z 60 ds p.2;have l3:=l1.2;exact SeqAt.in_list_reads q2 q1 l2.1 l1.1 (by omega) (fin (q6o p.1 ds p.2))
  ·cases hk
 ·rename_i ds;split at hk
  ·rename_i p;rw[Bool.and_eq_true]at p;cases hk;obtain⟨as,q1⟩:=q1r I 60 p.1 r1 rx;obtain⟨bs,q2⟩:=q1r I 61 (d:=.tup ds) (by simpa[DV.plain]using p.2) r2 ry;rw[toP]at q2;have l1:=q4T 60 _ p.1;have l2:=q2Z 60 ds p.2;have l3:=l1.2;exact SeqAt.in_tuple_reads q2 q1 l2.1 l1.1 (by omega) (fin (q6o p.1 ds p.2))
  ·cases hk
 ·rename_i yy xx;unfold inS at hk;split at hk
  ·rename_i c hc;cases hk;have e1:=(q1e.mp r1).1;have e2:=(q1e.mp r2).1;subst e1 e2;obtain⟨t,rfl⟩:=(show ∃t,v=Value.str yy t from rx);obtain⟨t',rfl⟩:=(show ∃t,u=Value.str xx t from ry);have:=q7h hc;subst this;exact PySem.P.in_str (fin (StrLaws.found_one xx c))
  ·cases hk
 ·rename_i yy xx;unfold inS at hk;split at hk
  ·rename_i c hc;cases hk;have e1:=(q1e.mp r1).1;have e2:=(q1e.mp r2).1;subst e1 e2;obtain⟨t,rfl⟩:=(show ∃t,v=Value.str yy t from rx);obtain⟨t',rfl⟩:=(show ∃t,u=Value.str xx t from ry);have:=q7h hc;subst this;exact PySem.P.notIn_str (fin (by rw[StrLaws.found_one xx c]))
  ·cases hk
 ·cases hk
theorem q5F{op:CmpOp}{b:Expr}(h:q3B b=false):behindInMarks op b=false:=by
 cases b<;>first | rfl | cases h
theorem z3c{op:CmpOp}(hu:X.A.units+64<cLine)(ha:∀q,ra=some q->PE X a (dE X.D E δ q))(hb:∀q,rb=some q->PE X b (dE X.D E δ q))(hs:q3B b=false)
  (h:(Re.thn ra λx _=>Re.thn rb λy _=>(cmpD op x y).map λk=>.ok (.bl k) .strong)=some re):PE X (.Compare a [op] [b] pos) (dE X.D E δ re):=
 z0u (λ_ _ h1 h2=>z4g (z2j hu) h1 h2 (q5F hs)) ha hb h λO W H0 H x y Q dx cx dy cy σ k hd gx gy p=>by obtain⟨k',e1,e2⟩:=Option.map_eq_some_iff.mp k;cases e2;exact⟨dx,dy,k',e1,gx.all hd,gy.all hd,p _ H (Same.refl H) q4w⟩
theorem q9E{op:CmpOp}(ha:∀q,ra=some q->PE X a (dE X.D E δ q))(hb:∀q,rb=some q->PE X b (dE X.D E δ q))
  (h:(Re.thn ra λx _=>Re.thn rb λy _=>(cmpD op x y).map λk=>.ok (.bl k) .strong)=some re):∃ta tb,PE X a ta/\PE X b tb/\∀σ H Q,dE X.D E δ re σ H Q->tOp (cmpR X op) ta tb σ H Q:=
 q7A ha hb h λO W H0 H x y Q dx cx dy cy σ k hd gx gy p=>by obtain⟨k',e1,e2⟩:=Option.map_eq_some_iff.mp k;cases e2;exact⟨dx,dy,k',e1,gx.all hd,gy.all hd,p _ H (Same.refl H) q4w⟩
theorem z5a{r:Rt}{σ:St}{H:Hp}{Q:Bool->Hp->Prop}(hb:∀d c,re=.ok d c->∃k,d=.bl k)(h:tstD (some re)=some r)(q:dT X.D E δ r σ H Q):dE X.D E δ re σ H (λx H'=>∃k,x=.bl k/\Q k H'):=by
 obtain⟨O,W,R,p⟩:=q;cases re with
 | ex c=>cases h;exact⟨O,W,R,p⟩
 | ok d c=>
  obtain⟨k,rfl⟩:=hb d c rfl;cases h;exact⟨O,W,R,λv H' s g=>⟨k,g.bl (R.hid.mono s),p H' s⟩⟩
theorem z4Z{op:CmpOp}(h:(Re.thn ra λx _=>Re.thn rb λy _=>(cmpD op x y).map λk=>.ok (.bl k) .strong)=some re):∀d c,re=.ok d c->∃k,d=.bl k:=by
 intro d c e;subst e;cases ra with
 | none=>cases h
 | some q=>
  cases q with
  | ex c=>cases h
  | ok d c=>
   cases rb with
   | none=>cases h
   | some q=>
    cases q with
    | ex c=>cases h
    | ok d' c'=>
     obtain⟨k,_,e⟩:=Option.map_eq_some_iff.mp (show((cmpD op d d').map λk=>Re.ok (.bl k) .strong)=_ from h);cases e;exact⟨k,rfl⟩
theorem z1H{op:CmpOp}{r:Rt}(hu:X.A.units+64<cLine)(ha:∀q,ra=some q->PE X a (dE X.D E δ q))(hb:∀q,rb=some q->PE X b (dE X.D E δ q))(hs:q3B b=false)
  (h:tstD (Re.thn ra λx _=>Re.thn rb λy _=>(cmpD op x y).map λk=>.ok (.bl k) .strong)=some r):PT X (.Compare a [op] [b] pos) (dT X.D E δ r):=by
 cases q:(Re.thn ra λx _=>Re.thn rb λy _=>(cmpD op x y).map λk=>Re.ok (.bl k) .strong)with
 | none=>rw[q]at h;cases h
 | some re=>
  rw[q]at h;obtain⟨ta,tb,A,B,w⟩:=q9E ha hb q;exact(z3X (z2j hu) A B (q5F hs)).weak λσ H Q z=>w σ H _ (z5a (z4Z q) h z)
end
section
variable {X:Cx} {E:St->XK} {δ:List Sv} {a b c e:Expr} {es:List Expr} {pos:Pos} {ra:Option Re} {rt ru:Option Rt} {r:Rt} {re:Re}
theorem q4x{D:Dm}{H:Hp}{d:DV}{v:V}{k:Bool}(h:q2j d=some k)(r:Rep D H d v):TruV D.K v H k:=by
 cases d with
 | non=>cases h;rw[q4Q.mp r];rfl
 | bl b=>cases h;rw[q3X.mp r];rfl
 | int i=>cases h;rw[q0R.mp r];rfl
 | str x=>
  cases h;obtain⟨e1,e2⟩:=q1e.mp r;rw[e1];refine⟨e2,?_⟩;show(x.cps.size != 0)=(((x.cps.size:Nat):Int) != 0);cases x.cps.size with
  | zero=>rfl
  | succ n=>simp only[bne,Nat.add_eq_zero_iff];rw[Bool.eq_iff_iff];simp;omega
 | tup ds=>
  cases h;obtain⟨a,xs,e1,e2,e3⟩:=q0C.mp r;rw[e1];refine .inr (.inl ⟨xs,e2,?_⟩);have:=e3.length;cases xs<;>cases ds<;>first | rfl | cases this
 | lst ds=>
  cases h;obtain⟨a,xs,e1,e2,e3⟩:=q0y.mp r;rw[e1];refine .inl ⟨xs,SqL.of e2,?_⟩;have:=e3.length;cases xs<;>cases ds<;>first | rfl | cases this
 | dct _ _=>cases h
 | exc _=>cases h
 | fn _=>cases h
 | lam _ _=>cases h
 | scr _=>cases h
theorem q9n(ha:∀q,ra=some q->PE X e (dE X.D E δ q))(he:∀whole,isTrue e X.env whole=(do let v ←whole;standAt e.pos;holding [v] (truthy v)))(h:tstD ra=some r):PT X e (dT X.D E δ r):=by
 cases hra:ra with
 | none=>rw[hra]at h;cases h
 | some q=>
  rw[hra]at h;have A:=ha q hra;cases q with
  | ex c=>cases h;exact(q7C A he).weak λσ H Q ⟨O,W,R,p⟩=>⟨O,W,R,p⟩
  | ok d cl=>
   obtain⟨k,e1,e2⟩:=Option.map_eq_some_iff.mp (show(q2j d).map Rt.ok=some r from h);cases e2;exact(q7C A he).weak λσ H Q ⟨O,W,R,p⟩=>⟨O,W,R,λx H1 s1 g1=>⟨k,q4x e1 (g1.all (R.hid.mono s1)),p H1 s1⟩⟩
theorem z2D{ta:TE}(ha:PE X a ta):PE X (.UnaryOp .Not a pos) (tUn (λx H Q=>∃k,TruV X.K x H k/\Q (.bl (!k)) H) ta):=by
 intro pins s σ H Q I h;refine UnaryOp_ (thn (ha pins s σ H _ I h) λv s1 ⟨x,H1,I1,r1,q1⟩=>?_);obtain⟨k,t,q1⟩:=q1;exact not_of (thn (q7t pins s1 σ H1 x v (λb H'=>b=k/\H'=H1) I1 r1 ⟨k,t,rfl,rfl⟩) λb s2 ⟨H2,I2,e1,e2⟩=>by
  subst e1 e2;exact⟨.bl (!b),H2,I2,rfl,q1⟩)
theorem z2F(ha:∀q,ra=some q->PE X a (dE X.D E δ q))(h:(Re.thn ra λx _=>(q2j x).map λk=>.ok (.bl (!k)) .strong)=some re):PE X (.UnaryOp .Not a pos) (dE X.D E δ re):=
 z6m (λ_=>z2D) ha h λO W H0 H x Q dx cx σ k hd gx p=>by obtain⟨b,e1,e2⟩:=Option.map_eq_some_iff.mp k;cases e2;exact⟨b,q4x e1 (gx.all hd),p _ H (Same.refl H) q4w⟩
theorem q6P{ta tb:TE}(ha:PE X a ta)(hb:PE X (.BoolOp .And (b::es) pos) tb):PE X (.BoolOp .And (a::b::es) pos) (λσ H Q=>ta σ H λx H1=>∃k,TruV X.K x H1 k/\if k=true then tb σ H1 Q else Q x H1):=by
 intro pins s σ H Q I h;refine BoolOp_and (thn (ha pins s σ H _ I h) λv s1 ⟨x,H1,I1,r1,q1⟩=>?_);obtain⟨k,t,q1⟩:=q1;refine thn (q7t pins s1 σ H1 x v (λb H'=>b=k/\H'=H1) I1 r1 ⟨k,t,rfl,rfl⟩) λc s2 ⟨H2,I2,e1,e2⟩=>?_
 subst e1 e2;cases c with
 | true=>exact hb pins s2 σ H2 Q I2 q1
 | false=>exact⟨x,H2,I2,r1,q1⟩
theorem z0l{ta tb:TE}(ha:PE X a ta)(hb:PE X (.BoolOp .Or (b::es) pos) tb):PE X (.BoolOp .Or (a::b::es) pos) (λσ H Q=>ta σ H λx H1=>∃k,TruV X.K x H1 k/\if k=true then Q x H1 else tb σ H1 Q):=by
 intro pins s σ H Q I h;refine BoolOp_or (thn (ha pins s σ H _ I h) λv s1 ⟨x,H1,I1,r1,q1⟩=>?_);obtain⟨k,t,q1⟩:=q1;refine thn (q7t pins s1 σ H1 x v (λb H'=>b=k/\H'=H1) I1 r1 ⟨k,t,rfl,rfl⟩) λc s2 ⟨H2,I2,e1,e2⟩=>?_
 subst e1 e2;cases c with
 | false=>exact hb pins s2 σ H2 Q I2 q1
 | true=>exact⟨x,H2,I2,r1,q1⟩
theorem z4a{rb:Option Re}(ha:∀q,ra=some q->PE X a (dE X.D E δ q))(hb:∀q,rb=some q->PE X (.BoolOp .And (b::es) pos) (dE X.D E δ q))(h:(Re.thn ra λx c=>andD x c rb)=some re):PE X (.BoolOp .And (a::b::es) pos) (dE X.D E δ re):=by
 cases hra:ra with
 | none=>rw[hra]at h;cases h
 | some q=>
  rw[hra]at h;have A:=ha q hra;cases q with
  | ex c=>cases h;exact(q6P A q2S).weak λσ H Q ⟨O,W,R,p⟩=>⟨O,W,R,p⟩
  | ok d cl=>
   have h':andD d cl rb=some re:=h;unfold andD at h';split at h'
   ·cases h'
   ·rename_i t;exact(q6P A (hb re h')).weak λσ H Q ⟨O,W,R,p⟩=>⟨O,W,R,λx H1 s1 g1=>⟨true,q4x t (g1.all (R.hid.mono s1)),iteT ⟨O,W,R.mono s1,p.later s1 s1⟩⟩⟩
   ·rename_i t;cases h';exact(q6P A q2S).weak λσ H Q ⟨O,W,R,p⟩=>⟨O,W,R,λx H1 s1 g1=>⟨false,q4x t (g1.all (R.hid.mono s1)),iteF (p _ H1 s1 g1)⟩⟩
theorem z6e{rb:Option Re}(ha:∀q,ra=some q->PE X a (dE X.D E δ q))(hb:∀q,rb=some q->PE X (.BoolOp .Or (b::es) pos) (dE X.D E δ q))(h:(Re.thn ra λx c=>orD x c rb)=some re):PE X (.BoolOp .Or (a::b::es) pos) (dE X.D E δ re):=by
 cases hra:ra with
 | none=>rw[hra]at h;cases h
 | some q=>
  rw[hra]at h;have A:=ha q hra;cases q with
  | ex c=>cases h;exact(z0l A q2S).weak λσ H Q ⟨O,W,R,p⟩=>⟨O,W,R,p⟩
  | ok d cl=>
   have h':orD d cl rb=some re:=h;unfold orD at h';split at h'
   ·cases h'
   ·rename_i t;cases h';exact(z0l A q2S).weak λσ H Q ⟨O,W,R,p⟩=>⟨O,W,R,λx H1 s1 g1=>⟨true,q4x t (g1.all (R.hid.mono s1)),iteT (p _ H1 s1 g1)⟩⟩
   ·rename_i t;exact(z0l A (hb re h')).weak λσ H Q ⟨O,W,R,p⟩=>⟨O,W,R,λx H1 s1 g1=>⟨false,q4x t (g1.all (R.hid.mono s1)),iteF ⟨O,W,R.mono s1,p.later s1 s1⟩⟩⟩
theorem q6Q{k:DV->Cl->Option Re}(h:tstD (Re.thn ra k)=some r):(ra=none/\False)\/(∃c,ra=some (.ex c)/\r=.ex c)\/∃d c,ra=some (.ok d c)/\tstD (k d c)=some r:=by
 cases hra:ra with
 | none=>rw[hra]at h;cases h
 | some q=>
  rw[hra]at h;cases q with
  | ex c=>cases h;exact .inr (.inl ⟨c,rfl,rfl⟩)
  | ok d c=>exact .inr (.inr ⟨d,c,rfl,h⟩)
theorem z2p{d:DV}{c:Cl}{r:Rt}(h:tstD (some (.ok d c))=some r):∃k,q2j d=some k/\r=.ok k:=by
 obtain⟨k,e1,e2⟩:=Option.map_eq_some_iff.mp (show(q2j d).map Rt.ok=some r from h);exact⟨k,e1,e2.symm⟩
theorem z1R(ha:∀q,tstD ra=some q->PT X a (dT X.D E δ q))(h:tstD (Re.thn ra λx _=>(q2j x).map λk=>.ok (.bl (!k)) .strong)=some r):PT X (.UnaryOp .Not a pos) (dT X.D E δ r):=by
 rcases q6Q h with⟨_,z⟩ | ⟨c,e1,e2⟩ | ⟨d,c,e1,e2⟩
 ·exact z.elim
 ·subst e1 e2;exact(z1U (ha (.ex c) rfl)).weak λσ H Q ⟨O,W,R,p⟩=>⟨O,W,R,p⟩
 ·cases t:q2j d with
  | none=>rw[t]at e2;cases e2
  | some k=>
   rw[t]at e2;cases e2;have A:=ha (.ok k) (by rw[e1];show(q2j d).map Rt.ok=_;rw[t];rfl);exact(z1U A).weak λσ H Q ⟨O,W,R,p⟩=>⟨O,W,R,λH1 s1=>p H1 s1⟩
theorem z1a{rb:Option Re}(ha:∀q,tstD ra=some q->PT X a (dT X.D E δ q))(hb:∀q,tstD rb=some q->PW X (.BoolOp .And (b::es) pos) (dT X.D E δ q))(h:tstD (Re.thn ra λx c=>andD x c rb)=some r):PW X (.BoolOp .And (a::b::es) pos) (dT X.D E δ r):=by
 rcases q6Q h with⟨_,z⟩ | ⟨c,e1,e2⟩ | ⟨d,c,e1,e2⟩
 ·exact z.elim
 ·subst e1 e2;exact(q9u (ha (.ex c) rfl) q4U).weak λσ H Q ⟨O,W,R,p⟩=>⟨O,W,R,p⟩
 ·unfold andD at e2;cases t:q2j d with
  | none=>rw[t]at e2;cases e2
  | some k=>
   rw[t]at e2;have A:=ha (.ok k) (by rw[e1];show(q2j d).map Rt.ok=_;rw[t];rfl);cases k with
   | true=>exact(q9u A (hb r e2)).weak λσ H Q ⟨O,W,R,p⟩=>⟨O,W,R,λH1 s1=>iteT ⟨O,W,R.mono s1,p.later s1⟩⟩
   | false=>
    obtain⟨k,t',rfl⟩:=z2p e2;rw[t]at t';cases t';exact(q9u A q4U).weak λσ H Q ⟨O,W,R,p⟩=>⟨O,W,R,λH1 s1=>iteF (p H1 s1)⟩
theorem z3m{rb:Option Re}(ha:∀q,tstD ra=some q->PT X a (dT X.D E δ q))(hb:∀q,tstD rb=some q->PW X (.BoolOp .Or (b::es) pos) (dT X.D E δ q))(h:tstD (Re.thn ra λx c=>orD x c rb)=some r):PW X (.BoolOp .Or (a::b::es) pos) (dT X.D E δ r):=by
 rcases q6Q h with⟨_,z⟩ | ⟨c,e1,e2⟩ | ⟨d,c,e1,e2⟩
 ·exact z.elim
 ·subst e1 e2;exact(z3s (ha (.ex c) rfl) q4U).weak λσ H Q ⟨O,W,R,p⟩=>⟨O,W,R,p⟩
 ·unfold orD at e2;cases t:q2j d with
  | none=>rw[t]at e2;cases e2
  | some k=>
   rw[t]at e2;have A:=ha (.ok k) (by rw[e1];show(q2j d).map Rt.ok=_;rw[t];rfl);cases k with
   | false=>exact(z3s A (hb r e2)).weak λσ H Q ⟨O,W,R,p⟩=>⟨O,W,R,λH1 s1=>iteF ⟨O,W,R.mono s1,p.later s1⟩⟩
   | true=>
    obtain⟨k,t',rfl⟩:=z2p e2;rw[t]at t';cases t';exact(z3s A q4U).weak λσ H Q ⟨O,W,R,p⟩=>⟨O,W,R,λH1 s1=>iteT (p H1 s1)⟩
theorem q0i{e:Expr}{es:List Expr}{env:Env}(h:q0u e=false):starEach (e::es) env=(false,eval e env)::starEach es env:=by
 cases e<;>first | rfl | cases h
theorem z1K:PA X [] (dA X.D E δ (.ok [])):=q3z.weak λσ H Q ⟨O,W,R,p⟩=>p [] H (Same.refl H) .nil
theorem q9j{rs:Option Rs}{q:Rs}(hs:q0u e=false)(ha:∀q,ra=some q->PE X e (dE X.D E δ q))(hb:∀q,rs=some q->PA X es (dA X.D E δ q))
  (h:(match(generalizing:=false) ra with | none=>none | some (.ex c)=>some (Rs.ex c) | some (.ok d c)=>(match(generalizing:=false) rs with | none=>none | some (.ex c)=>some (.ex c) | some (.ok l)=>some (.ok ((d,c)::l))))=some q):PA X (e::es) (dA X.D E δ q):=by
 cases hra:ra with
 | none=>rw[hra]at h;cases h
 | some z=>
  rw[hra]at h;have A:=ha z hra;cases z with
  | ex c=>cases h;exact(q0T A q9a (q0i hs)).weak λσ H Q ⟨O,W,R,p⟩=>⟨O,W,R,p⟩
  | ok d cl=>
   cases hrs:rs with
   | none=>rw[hrs]at h;cases h
   | some y=>
    rw[hrs]at h;have B:=hb y hrs;cases y with
    | ex c=>cases h;exact(q0T A B (q0i hs)).weak λσ H Q ⟨O,W,R,p⟩=>⟨O,W,R,λx H1 s1 g1=>⟨O,W,R.mono s1,λH' C m s=>p H' C m (s1.trans s)⟩⟩
    | ok l=>
     cases h;exact(q0T A B (q0i hs)).weak λσ H Q ⟨O,W,R,p⟩=>⟨O,W,R,λx H1 s1 g1=>⟨O,W,R.mono s1,λvs H2 s2 g2=>p _ H2 (s1.trans s2) (.cons (g1.mono s2) (g2.since s1))⟩⟩
theorem z3T{rs:Option Rs}(ha:∀q,rs=some q->PA X es (dA X.D E δ q))(h:(Rs.thn rs λl=>if l.length<=mostLen then some (.ok (.lst (l.map (·.1))) (if stros l then .fresh else .weak))else none)=some re):PE X (.List es pos) (dE X.D E δ re):=
 q3G (r:=λvs H Q=>vs.length<=sizeLine/\∀p,H p=none->Q (.ref p) (upd H p (.lst vs))) (λ_=>z6i) ha h λO W H0 H vs Q l σ k hd g p=>by
  split at k
  ·rename_i m;cases k;refine⟨by rw[g.length];exact q1t m,λq hq=>p _ _ (q0m hq) ?_⟩;by_cases z:stros l=true
   ·rw[if_pos z];exact q1J hd hq (g.stros hd z)
   ·rw[if_neg z];exact q4P hd hq (g.repL hd)
  ·cases k
theorem z3V{rs:Option Rs}{x1:Nat}(ha:∀q,rs=some q->PA X es (dA X.D E δ q))(h:(Rs.thn rs λl=>if l.length<=mostLen then some (.ok (.tup (l.map (·.1))) (if stros l then .strong else .weak))else none)=some re):PE X (.Tuple es x1 pos) (dE X.D E δ re):=
 q3G (r:=λvs H Q=>vs.length<=sizeLine/\∀p,H p=none->Q (.ref p) (upd H p (.tup vs))) (λ_=>q9y) ha h λO W H0 H vs Q l σ k hd g p=>by
  split at k
  ·rename_i m;cases k;refine⟨by rw[g.length];exact q1t m,λq hq=>p _ _ (q0m hq) ?_⟩;by_cases z:stros l=true
   ·rw[if_pos z];exact q3m hd hq (g.stros hd z)
   ·rw[if_neg z];exact q5o hd hq (g.repL hd)
  ·cases k
end
end L2
end
noncomputable section
namespace L2
open PySem PySem.Spec PyProof.Rows
def GotR(D:Dm)(O:List Addr)(H0 H:Hp)(d:DV)(fr:Bool)(v:V):Prop:=match fr with
 | false=>Rep D (L2.wo O H) d v
 | true=>∃p xs ds,v=.ref p/\d=.lst ds/\H0 p=none/\H p=some (.lst xs)/\RepL D (L2.wo (p::O) H) ds xs
def GotF(H H':Hp)(xs:List DV)(v:V):Prop:=∃(p:Addr) (L:List (Addr×List Int)),v=.ref p/\xs=L.map (λq=>.lst (q.2.map DV.int))/\H p=none/\H' p=some (.lst (L.map λq=>.ref q.1))/\(∀q∈L,H q.1=none/\H' q.1=some (.lst (q.2.map V.int)))/\(p::L.map (·.1)).Nodup
theorem GotF.since{H0 H1 H:Hp}{xs:List DV}{v:V}(g:GotF H1 H xs v)(f:∀a,H1 a=none->H0 a=none):GotF H0 H xs v:=by
 obtain⟨p,L,e1,e2,e3,e4,e5,e6⟩:=g;exact⟨p,L,e1,e2,f _ e3,e4,λq hq=>⟨f _ (e5 q hq).1,(e5 q hq).2⟩,e6⟩
theorem GotF.items{D:Dm}{H0 H:Hp}{xs:List DV}{v:V}{Z:List Addr}(g:GotF H0 H xs v)(hz:∀a∈Z,H0 a≠none):∃p vs,v=.ref p/\H0 p=none/\H p=some (.lst vs)/\RepL D (L2.wo (p::Z) H) xs vs:=by
 obtain⟨p,L,e1,e2,e3,e4,e5,e6⟩:=g;refine⟨p,_,e1,e3,e4,?_⟩;rw[e2];refine q6y λq hq=>?_
 rw[q0g λz=>?_]
 ·exact(e5 q hq).2
 ·rcases List.mem_cons.mp z with z | z
  ·exact(List.nodup_cons.mp e6).1 (List.mem_map.mpr ⟨q,hq,z⟩)
  ·exact hz _ z (e5 q hq).1
theorem GotF.fresh{D:Dm}{O W:List Addr}{H0 H1 H:Hp}{xs:List DV}{v:V}(g:GotF H0 H xs v)(hd:Hid O W H0 H1):Got D O W H0 H (.lst xs) .fresh v:=by
 obtain⟨p,vs,e1,e2,e3,e4⟩:=g.items (D:=D) (Z:=O++W) hd.ot;exact⟨p,vs,xs,e1,rfl,e2,e3,e4⟩
theorem SqT.immut{K:PySem.W.Frag}{O W:List Addr}{H:Hp}{t:Addr}{ts:List V}(hw:∀a∈W,∃o,H a=some o/\mutO o=true)(h:SqT K (L2.wo O H) t ts):SqT K (L2.wo (O++W) H) t ts:=by
 have ou:∀{u:HO},mutO u=false->L2.wo O H t=some u->L2.wo (O++W) H t=some u:=λ{u} hu e=>by
  obtain⟨ha,h⟩:=q0v e;rw[q0g λz=>?_]
  ·exact h
  ·rcases List.mem_append.mp z with z | z
   ·exact ha z
   ·obtain⟨ys,q,m⟩:=hw t z;rw[h]at q;cases q;rw[hu]at m;cases m
 rcases h with(h | ⟨o,h⟩) | h
 ·exact .inl (.inl (ou rfl h))
 ·exact .inl (.inr ⟨o,ou rfl h⟩)
 ·exact .inr h
def GotP(D:Dm)(O:List Addr)(H0 H:Hp)(d:DV)(v:V):Prop:=∃t M,v=.ref t/\d=.dct [] (M.map itD)/\SqT D.K (L2.wo O H) t (M.map itV)/\(M.filterMap (·.1)).Nodup/\(∀p∈M.filterMap (·.1),H0 p=none)/\ItAt H M
theorem GotP.since{D:Dm}{O:List Addr}{H0 H1 H:Hp}{d:DV}{v:V}(g:GotP D O H0 H d v)(f:∀a,H0 a=none->H1 a=none):GotP D O H1 H d v:=by
 obtain⟨t,M,e1,e2,e3,e4,e5,e6⟩:=g;exact⟨t,M,e1,e2,e3,e4,λp hp=>f _ (e5 p hp),e6⟩
theorem GotP.rep{D:Dm}{O W:List Addr}{H0 H:Hp}{ks:List DKey}{ds:List DV}{v:V}(g:GotP D O H0 H (.dct ks ds) v)(hw:∀a∈W,∃o,H a=some o/\mutO o=true)(hz:∀a∈O++W,H0 a≠none):Rep D (L2.wo (O++W) H) (.tup ds) v:=by
 obtain⟨t,M,e1,e2,e3,e4,e5,e6⟩:=g;cases e2;exact q0C.mpr ⟨t,_,e1,e3.immut hw,q4Z λp ns hm=>by rw[q0g λz=>hz p z (e5 p (List.mem_filterMap.mpr ⟨_,hm,rfl⟩))];exact e6 p ns hm⟩
def GotT(D:Dm)(O:List Addr)(H0 H:Hp)(d:DV)(v:V):Prop:=(∃t ts p xs ds es,v=.ref t/\d=.tup (.lst ds::es)/\SqT D.K (L2.wo O H) t (.ref p::ts)/\H0 p=none/\H p=some (.lst xs)/\RepL D (L2.wo (p::O) H) ds xs/\RepL D (L2.wo (p::O) H) es ts)\/(∃xs,d=.lst xs/\GotF H0 H xs v)\/GotP D O H0 H d v
theorem z6p{D:Dm}{O:List Addr}{H0 H:Hp}{ks:List DKey}{ds:List DV}{v:V}(g:GotT D O H0 H (.dct ks ds) v):GotP D O H0 H (.dct ks ds) v:=by
 rcases g with⟨_,_,_,_,_,_,_,e,_⟩ | ⟨_,e,_⟩ | g
 ·cases e
 ·cases e
 ·exact g
def spF(D:Dm)(n:Nat)(f:List DV->Option Ou):Sp:=λvs H Q E=>∃O ds o,Hdn O H/\ds.length=n/\RepL D (L2.wo O H) ds vs/\f ds=some o /\
 (match o with | .v d fr=>∀v H',Same H H'->GotR D O H H' d fr v->Q v H' | .t d=>∀v H',Same H H'->GotT D O H H' d v->Q v H' | .x c=>∀H' C,D.mg c=some C->Same H H'->E C none H')
def spH(D:Dm)(f:DV->List DV->Option (DV×List DV)):Sp:=λvs H Q _=>∃O p v d ds xs r,vs=[v,.ref p]/\Hdn O H/\p∉O/\H p=some (.lst xs)/\Rep D (L2.wo (O++[p]) H) d v/\RepL D (L2.wo (O++[p]) H) ds xs/\f d ds=some r /\
 ∀v' H' xs',Same (L2.wo [p] H) H'->H' p=some (.lst xs')->Rep D (L2.wo (O++[p]) H') r.1 v'->RepL D (L2.wo (O++[p]) H') r.2 xs'->Q v' H'
section
variable {X:Cx} {E:St->XK} {δ:List Sv} {e:Expr} {es:List Expr} {pos p:Pos} {re:Re} {rs:Option Rs} {k:Nat} {fa:Addr} {fd:FuncData} {ps:List Str} {x:Str}
theorem q9L{F:Nat->List DV->Option Ou}{f:Nat}{e0:Expr}{Pre:St->Hp->Prop}(hn:∀ds o,F f ds=some o->ds.length=ps.length)(C:∀t,PA X (e::es) t->PE X e0 (λσ H Q=>Pre σ H/\z1Z (spF X.D ps.length (F f)) [] E t σ H Q))(pre:∀σ H O W,RSt X.D H σ δ O W->Pre σ H)(ha:∀q,rs=some q->PA X (e::es) (dA X.D E δ q))
  (h:(Rs.thn rs λl=>q4k F f l)=some re):PE X e0 (dE X.D E δ re):=by
 cases hrs:rs with
 | none=>rw[hrs]at h;cases h
 | some q=>
  rw[hrs]at h;have A:=ha q hrs;cases q with
  | ex c=>cases h;exact(C _ A).weak λσ H Q ⟨O,W,R,p⟩=>⟨pre _ _ _ _ R,O,W,R,p⟩
  | ok l=>
   have h':q4k F f l=some re:=h;unfold q4k at h';split at h'
   ·cases h'
   ·rename_i c e1;cases h';refine(C _ A).weak λσ H Q ⟨O,W,R,p⟩=>⟨pre _ _ _ _ R,O,W,R,λvs H1 s1 g1=>?_⟩
    have hd:=R.hid.mono s1;show spF X.D ps.length (F f) (vs++[]) H1 Q (E σ);rw[List.append_nil];exact⟨O,_,_,hd.hdO,hn _ _ e1,g1.repL hd,e1,λH' C m s=>p H' C m (s1.trans s)⟩
   ·rename_i ks ds e1;cases h';refine(C _ A).weak λσ H Q ⟨O,W,R,p⟩=>⟨pre _ _ _ _ R,O,W,R,λvs H1 s1 g1=>?_⟩
    have hd:=R.hid.mono s1;show spF X.D ps.length (F f) (vs++[]) H1 Q (E σ);rw[List.append_nil];refine⟨O,_,_,hd.hdO,hn _ _ e1,g1.repL hd,e1,λv H' s g=>p v H' (s1.trans s) ?_⟩;exact(z6p g).rep (λa ha=>by obtain⟨o,e,m⟩:=hd.wl a ha;exact⟨o,s _ _ (hd.same _ _ e),m⟩) λa ha q=>hd.ot a ha (s1.free q)
   ·rename_i d hne e1;cases h';refine(C _ A).weak λσ H Q ⟨O,W,R,p⟩=>⟨pre _ _ _ _ R,O,W,R,λvs H1 s1 g1=>?_⟩
    have hd:=R.hid.mono s1;show spF X.D ps.length (F f) (vs++[]) H1 Q (E σ);rw[List.append_nil];by_cases z:(l.all λp=>p.2 == .strong||p.2 == .fresh)=true
    ·rw[if_pos z]at p;refine⟨O++W,_,_,hd.hdA,hn _ _ e1,g1.strong hd z,e1,λv H' s g=>p v H' (s1.trans s) ?_⟩;rcases g with⟨t,ts,q,xs,ds,es,f1,f2,f0,f3,f4,f5,f6⟩ | ⟨xs,f1,f2⟩ | ⟨_,_,_,f2,_⟩
     ·subst f2;exact⟨t,ts,q,xs,ds,es,f1,rfl,f0,s1.free f3,f4,f5,f6⟩
     ·subst f1;exact(f2.since λa ha=>s1.free ha).fresh hd
     ·exact absurd f2 (hne _ _)
    ·rw[if_neg z]at p;refine⟨O,_,_,hd.hdO,hn _ _ e1,g1.repL hd,e1,λv H' s g=>p v H' (s1.trans s) ?_⟩;rcases g with⟨t,ts,q,xs,ds,es,f1,f2,f0,f3,f4,f5,f6⟩ | ⟨xs,f1,f2⟩ | ⟨_,_,_,f2,_⟩
     ·have hq:q∉O:=λz=>hd.ot q (List.mem_append_left _ z) (s1.free f3);have up:Same (L2.wo (q::O) H') (L2.wo O H'):=q0D λb hb=>List.mem_cons_of_mem _ hb;rw[f2];exact q0C.mpr ⟨t,_,f1,f0,q0e.mpr ⟨_,_,rfl,q0y.mpr ⟨q,xs,rfl,by rw[q0g hq];exact f4,f5.mono up⟩,f6.mono up⟩⟩
     ·subst f1;have hO:∀a∈O,H1 a≠none:=λa ha q=>hd.ot a (List.mem_append_left _ ha) (s1.free q)
      obtain⟨q,vs,g1',g2',g3',g4'⟩:=f2.items (D:=X.D) hO;have hq:q∉O:=λz=>hO q z g2'
      exact q0y.mpr ⟨q,vs,g1',by rw[q0g hq];exact g3',g4'.mono (q0D λb hb=>List.mem_cons_of_mem _ hb)⟩
     ·exact absurd f2 (hne _ _)
   ·rename_i d fr e1;cases h';refine(C _ A).weak λσ H Q ⟨O,W,R,p⟩=>⟨pre _ _ _ _ R,O,W,R,λvs H1 s1 g1=>?_⟩
    have hd:=R.hid.mono s1;show spF X.D ps.length (F f) (vs++[]) H1 Q (E σ);rw[List.append_nil];by_cases z:(l.all λp=>p.2 == .strong||p.2 == .fresh)=true
    ·rw[if_pos z]at p;refine⟨O++W,_,_,hd.hdA,hn _ _ e1,g1.strong hd z,e1,λv H' s g=>p v H' (s1.trans s) ?_⟩;cases fr with
     | false=>exact g
     | true=>
      obtain⟨q,xs,ds,e1,e2,e3,e4,e5⟩:=g;exact⟨q,xs,ds,e1,e2,s1.free e3,e4,e5⟩
    ·rw[if_neg z]at p;refine⟨O,_,_,hd.hdO,hn _ _ e1,g1.repL hd,e1,λv H' s g=>p v H' (s1.trans s) ?_⟩;cases fr with
     | false=>exact g
     | true=>
      obtain⟨q,xs,ds,u1,e2,e3,e4,e5⟩:=g;subst e2;rw[Bool.true_and];cases y:imL (.lst ds)with
      | true=>exact⟨q,xs,ds,u1,rfl,s1.free e3,e4,RepL.immut (O:=q::O) (λa ha=>by obtain⟨o,e,m⟩:=hd.wl a ha;exact⟨o,s _ _ (hd.same _ _ e),m⟩) y e5⟩
      | false=>
       have hq:q∉O:=λz=>hd.ot q (List.mem_append_left _ z) (s1.free e3);exact q0y.mpr ⟨q,xs,u1,by rw[q0g hq];exact e4,e5.mono (q0D λb hb=>List.mem_cons_of_mem _ hb)⟩
theorem z0O{F:Nat->List DV->Option Ou}{f:Nat}(fo:FnOk X.prog X.w X.K X.mg X.base (CXx X.prog X.w X.base) k fa fd ps (spF X.D ps.length (F f)))(hn:∀ds o,F f ds=some o->ds.length=ps.length)(hr:Room k X.A)(hg:Gl X x)(hm:X.mg x=some (.ref fa))(hk:PySem.W.keepIn X.K (.ref fa)=true)
  (hb:q1q X.K fd ps []) (hx:q3U (CXx X.prog X.w X.base) X E) (ha:∀q,rs=some q->PA X (e::es) (dA X.D E δ q)) (hdb:(x==("__debug__" : Str))=false) (hs:q0u e=false) (hss:es.any q0u=false)
  (h:(Rs.thn rs λl=>q4k F f l)=some re):PE X (.Call (.Name x p) (e::es) [] pos) (dE X.D E δ re):=by
 have plain:∀(es:List Expr),es.any q0u=false->(backTo pos (starEach es X.env)).any (·.1)=false:=by
  intro es
  induction es with
  | nil=>intro _;rfl
  | cons y ys ih=>
   intro q;rw[List.any_cons,Bool.or_eq_false_iff]at q;rw[q0i q.1];show(false||(backTo pos (starEach ys X.env)).any (·.1))=false;rw[ih q.2];rfl
 exact q9L (Pre:=λ_ _=>True) hn (λt hA=>(q7z (p:=p) (pos:=pos) fo hr hg hm hk hb .nil hx hA hdb (q0i hs) (plain es hss)).weak λσ H Q h=>h.2) (λ_ _ _ _ _=>trivial) ha h
end
section
variable {X:Cx} {E:St->XK} {δ:List Sv} {e:Expr} {es:List Expr} {pos p:Pos} {re:Re} {rs:Option Rs}
theorem q2z{env:Env}{pos:Pos}:∀(es:List Expr),es.any q0u=false->(backTo pos (starEach es env)).any (·.1)=false
 | [],_=>rfl
 | y::ys,q=>by rw[List.any_cons,Bool.or_eq_false_iff]at q;rw[q0i q.1];show(false||(backTo pos (starEach ys env)).any (·.1))=false;rw[q2z ys q.2];rfl
def biR(X:Cx)(k:List (DV×Cl)->Option Re):List V->Hp->VK->Prop:=λvs H Q=>∃l re O W H0,k l=some re/\Hid O W H0 H/\GotL X.D O W H0 H l vs/\∃d c,re=.ok d c/\∀v H',Same H H'->Got X.D O W H0 H' d c v->Q v H'
theorem q7D{k:List (DV×Cl)->Option Re}{x:Str}{id:String}(hc:q1G X (.builtin id) (biR X k))(hk:∀l re,k l=some re->∃d c,re=.ok d c)(hg:Gl X x)(hm:X.mg x=none)(hv:bootBuiltins x=some (.builtin id))(hn:x ≠ "__name__")(hdb:(x==("__debug__" : Str))=false)
  (ha:∀q,rs=some q->PA X (e::es) (dA X.D E δ q)) (hs:q0u e=false) (hss:es.any q0u=false) (h:Rs.thn rs k=some re):PE X (.Call (.Name x p) (e::es) [] pos) (dE X.D E δ re):=
 q3G (λ_ hA=>q5e hc hg hm hv hA hn hdb (q0i hs) (q2z es hss)) ha h λO W H0 H vs Q l σ hl hd g p=>by obtain⟨d,c,rfl⟩:=hk l re hl;exact⟨l,_,O,W,H0,hl,hd,g,d,c,rfl,p⟩
theorem q9D{k:List (DV×Cl)->Option Re}{x:Str}{T:String}(hc:q1G X (.type T) (biR X k))(hk:∀l re,k l=some re->∃d c,re=.ok d c)(hg:Gl X x)(hm:X.mg x=none)(hv:bootBuiltins x=some (.type T))(hn:x ≠ "__name__")(hdb:(x==("__debug__" : Str))=false)
  (ha:∀q,rs=some q->PA X (e::es) (dA X.D E δ q)) (hs:q0u e=false) (hss:es.any q0u=false) (h:Rs.thn rs k=some re):PE X (.Call (.Name x p) (e::es) [] pos) (dE X.D E δ re):=
 q3G (λ_ hA=>q9b hc hg hm hv hA hn hdb (q0i hs) (q2z es hss)) ha h λO W H0 H vs Q l σ hl hd g p=>by obtain⟨d,c,rfl⟩:=hk l re hl;exact⟨l,_,O,W,H0,hl,hd,g,d,c,rfl,p⟩
theorem z4w:∀l re,lenD l=some re->∃d c,re=.ok d c:=λl re h=>by unfold lenD at h;split at h<;>cases h<;>exact⟨_,_,rfl⟩
theorem z3G:∀l re,minD l=some re->∃d c,re=.ok d c:=λl re h=>by
 unfold minD at h;split at h
 ·cases h;exact⟨_,_,rfl⟩
 ·split at h
  ·cases h;exact⟨_,_,rfl⟩
  ·cases h
 ·split at h
  ·cases h;exact⟨_,_,rfl⟩
  ·cases h
 ·cases h
theorem q3F{D:Dm}{H:Hp}:∀{ds:List DV} {ns:List Int} {xs:List V},ints? ds=some ns->RepL D H ds xs->xs=ns.map V.int
 | [],ns,xs,h,r=>by cases h;exact q0s.mp r
 | .int i::ds,ns,xs,h,r=>by have h':(ints? ds).map (i :: ·)=some ns:=h;obtain⟨ms,e1,e2⟩:=Option.map_eq_some_iff.mp h';obtain⟨v,vs,e3,e4,e5⟩:=q0e.mp r;have q:=q3F e1 e5;rw[←e2,e3,List.map_cons,q0R.mp e4,q]
 | .non::ds,ns,xs,h,_=>by cases h
 | .bl _::ds,ns,xs,h,_=>by cases h
 | .str _::ds,ns,xs,h,_=>by cases h
 | .tup _::ds,ns,xs,h,_=>by cases h
 | .lst _::ds,ns,xs,h,_=>by cases h
 | .dct _ _::ds,ns,xs,h,_=>by cases h
 | .exc _::ds,ns,xs,h,_=>by cases h
 | .fn _::ds,ns,xs,h,_=>by cases h
 | .lam _ _::ds,ns,xs,h,_=>by cases h
 | .scr _::ds,ns,xs,h,_=>by cases h
theorem q7G:∀(r:List Int) (m:Int),(minI m r=m\/minI m r∈r)/\minI m r<=m/\∀x∈r,minI m r<=x
 | [],m=>⟨.inl rfl,Int.le_refl _,λx h=>by cases h⟩
 | y::r,m=>by
  obtain⟨h0,h1,h2⟩:=q7G r (if y<m then y else m);unfold minI;by_cases q:y<m
  ·rw[if_pos q]at h0 h1 h2 ⊢;refine⟨.inr ?_,by omega,λx hx=>?_⟩
   ·rcases h0 with z | z
    ·rw[z];exact List.mem_cons_self ..
    ·exact List.mem_cons_of_mem _ z
   ·rcases List.mem_cons.mp hx with z | z
    ·rw[z];exact h1
    ·exact h2 x z
  ·rw[if_neg q]at h0 h1 h2 ⊢;refine⟨h0.imp id (List.mem_cons_of_mem _),h1,λx hx=>?_⟩;rcases List.mem_cons.mp hx with z | z
   ·rw[z];omega
   ·exact h2 x z
theorem q7i{n M:Int}{r:List Int}(h1:M∈n::r)(h2:∀x∈n::r,M<=x):M=minI n r:=by
 obtain⟨a,b,c⟩:=q7G r n;have d:minI n r∈n::r:=a.elim (λz=>by rw[z];exact List.mem_cons_self ..) (List.mem_cons_of_mem _);have e:=h2 _ d;have f:minI n r<=M:=by
  rcases List.mem_cons.mp h1 with z | z
  ·rw[z];exact b
  ·exact c M z
 omega
theorem z1t:∀l re,q9A l=some re->∃d c,re=.ok d c:=λl re h=>by unfold q9A at h;split at h<;>cases h<;>exact⟨_,_,rfl⟩
theorem z0g:∀l re,q4A l=some re->∃d c,re=.ok d c:=λl re h=>by unfold q4A at h;split at h<;>cases h<;>exact⟨_,_,rfl⟩
theorem z5d:q1G X (.builtin "len") (biR X lenD):=by
 intro pins s σ H xs us Q I r h;obtain⟨l,re,O,W,H0,hb,hd,g,d,c,rfl,p⟩:=h;unfold lenD at hb;split at hb
 ·cases hb;obtain⟨v,rfl,gv⟩:=g.one;obtain⟨a,ys,e1,e2,e3⟩:=gv.lst hd;exact q2p pins s σ H _ us Q I r ⟨a,ys,by rw[e1],.inl (SqL.of e2),by rw[e3.length];exact p _ H (Same.refl H) q0G⟩
 ·cases hb;obtain⟨v,rfl,gv⟩:=g.one;obtain⟨a,ys,e1,e2,e3⟩:=gv.tup hd;exact q2p pins s σ H _ us Q I r ⟨a,ys,by rw[e1],.inr e2,by rw[e3.length];exact p _ H (Same.refl H) q0G⟩
 ·cases hb;obtain⟨v,rfl,gv⟩:=g.one;obtain⟨a,e1,e2⟩:=q1T.mp (gv.all hd);exact q2p pins s σ H _ us Q I r ⟨a,_,by rw[e1],.inl e2.sq,by rw[List.length_map];exact p _ H (Same.refl H) q0G⟩
 ·cases hb;obtain⟨v,rfl,gv⟩:=g.one;obtain⟨e1,e2⟩:=gv.str hd;exact q6e pins s σ H _ us Q I r ⟨_,by rw[e1],e2,p _ H (Same.refl H) q0G⟩
 ·cases hb
theorem z4Q(hc:X.calm=true)(hu:X.A.units+1<cLine):q1G X (.builtin "min") (biR X minD):=by
 intro pins s σ H xs us Q I r h;obtain⟨l,re,O,W,H0,hb,hd,g,d,c,rfl,p⟩:=h;unfold minD at hb;split at hb
 ·cases hb;obtain⟨v,v',rfl,gv,gv'⟩:=g.two;exact q8J hc pins s σ H _ us Q I r ⟨_,_,by rw[gv.int hd,gv'.int hd],p _ H (Same.refl H) q0G⟩
 ·split at hb
  ·rename_i n r' hq;cases hb;obtain⟨v,rfl,gv⟩:=g.one;obtain⟨a,ys,e1,e2,e3⟩:=gv.lst hd;have e4:=q3F hq e3;subst e4;exact q9C hc pins s σ H _ us Q I r ⟨a,n::r',by rw[e1],SqL.of e2,by simp,λM m1 m2=>by rw[q7i m1 m2];exact p _ H (Same.refl H) q0G⟩
  ·cases hb
 ·split at hb
  ·rename_i n r' hq;cases hb;obtain⟨v,rfl,gv⟩:=g.one;obtain⟨a,ys,e1,e2,e3⟩:=gv.tup hd;have e4:=q3F hq e3;subst e4;exact q8R hc pins s σ H _ us Q I r ⟨a,n::r',by rw[e1],e2,by simp,λM m1 m2=>by rw[q7i m1 m2];exact p _ H (Same.refl H) q0G⟩
  ·cases hb
 ·cases hb
theorem q5Y{D:Dm}{H:Hp}:∀{ds:List DV} {bs:List Bool} {xs:List V},bools? ds=some bs->RepL D H ds xs->xs=bs.map V.bl
 | [],bs,xs,h,r=>by cases h;exact q0s.mp r
 | .bl i::ds,bs,xs,h,r=>by have h':(bools? ds).map (i :: ·)=some bs:=h;obtain⟨ms,e1,e2⟩:=Option.map_eq_some_iff.mp h';obtain⟨v,vs,e3,e4,e5⟩:=q0e.mp r;have q:=q5Y e1 e5;subst e2 e3 q;rw[q3X.mp e4];rfl
 | .non::_,_,_,h,_=>by cases h
 | .int _::_,_,_,h,_=>by cases h
 | .str _::_,_,_,h,_=>by cases h
 | .tup _::_,_,_,h,_=>by cases h
 | .lst _::_,_,_,h,_=>by cases h
 | .exc _::_,_,_,h,_=>by cases h
 | .fn _::_,_,_,h,_=>by cases h
 | .lam _ _::_,_,_,h,_=>by cases h
 | .scr _::_,_,_,h,_=>by cases h
 | .dct _ _::_,_,_,h,_=>by cases h
theorem z4L(hc:X.calm=true):q1G X (.builtin "sum") (biR X sumD):=by
 intro pins s σ H xs us Q I r h;obtain⟨l,re,O,W,H0,hb,hd,g,d,c,rfl,p⟩:=h;unfold sumD at hb;split at hb
 ·obtain⟨ns,hq,e⟩:=Option.map_eq_some_iff.mp hb;cases e;obtain⟨v,rfl,gv⟩:=g.one;obtain⟨a,ys,e1,e2,e3⟩:=gv.lst hd;have e4:=q3F hq e3;subst e4;exact z0e hc pins s σ H _ us Q I r ⟨a,ns,by rw[e1],SqL.of e2,p _ H (Same.refl H) q0G⟩
 ·cases hb
theorem z5n(hc:X.calm=true):q1G X (.builtin "all") (biR X allD):=by
 intro pins s σ H xs us Q I r h;obtain⟨l,re,O,W,H0,hb,hd,g,d,c,rfl,p⟩:=h;unfold allD at hb;split at hb
 ·obtain⟨bs,hq,e⟩:=Option.map_eq_some_iff.mp hb;cases e;obtain⟨v,rfl,gv⟩:=g.one;obtain⟨a,ys,e1,e2,e3⟩:=gv.lst hd;have e4:=q5Y hq e3;subst e4;exact q9X hc pins s σ H _ us Q I r ⟨a,bs,by rw[e1],SqL.of e2,p _ H (Same.refl H) q4w⟩
 ·cases hb
theorem q8G:bootBuiltins "sum" = some (.builtin "sum"):=by decide +kernel
theorem q8S:bootBuiltins "all" = some (.builtin "all"):=by decide +kernel
theorem z2L:∀l re,sumD l=some re->∃d c,re=.ok d c:=by
 intro l re h;unfold sumD at h;split at h
 ·obtain⟨_,_,e⟩:=Option.map_eq_some_iff.mp h;cases e;exact⟨_,_,rfl⟩
 ·cases h
theorem z3Z:∀l re,allD l=some re->∃d c,re=.ok d c:=by
 intro l re h;unfold allD at h;split at h
 ·obtain⟨_,_,e⟩:=Option.map_eq_some_iff.mp h;cases e;exact⟨_,_,rfl⟩
 ·cases h
theorem q5K:bootBuiltins "sorted" = some (.builtin "sorted"):=by decide +kernel
theorem z4e:q1G X (.type "list") (biR X q9A):=by
 intro pins s σ H xs us Q I r h;obtain⟨l,re,O,W,H0,hb,hd,g,d,c,rfl,p⟩:=h;unfold q9A at hb;split at hb
 ·cases hb;obtain⟨v,rfl,gv⟩:=g.one;obtain⟨a,e1,e2⟩:=q1T.mp (gv.all hd);exact q2g pins s σ H _ us Q I r ⟨a,_,by rw[e1],.inl e2.sq,λq hq=>p _ _ (q0m hq) (q1J hd hq (q1R _))⟩
 ·cases hb;obtain⟨v,rfl,gv⟩:=g.one;obtain⟨a,ys,e1,e2,e3⟩:=gv.lstC hd;exact q2g pins s σ H _ us Q I r ⟨a,ys,by rw[e1],.inl (SqL.of e2),λq hq=>p _ _ (q0m hq) (q3H hd hq e3)⟩
 ·cases hb;obtain⟨v,rfl,gv⟩:=g.one;obtain⟨a,ys,e1,e2,e3⟩:=gv.tupC hd;exact q2g pins s σ H _ us Q I r ⟨a,ys,by rw[e1],.inr e2,λq hq=>p _ _ (q0m hq) (q3H hd hq e3)⟩
 ·cases hb
theorem z1I:q1G X (.type "tuple") (biR X q4A):=by
 intro pins s σ H xs us Q I r h;obtain⟨l,re,O,W,H0,hb,hd,g,d,c,rfl,p⟩:=h;unfold q4A at hb;split at hb
 ·cases hb;obtain⟨v,rfl,gv⟩:=g.one;obtain⟨a,ys,e1,e2,e3⟩:=gv.lstC hd;exact q3g pins s σ H _ us Q I r ⟨a,ys,by rw[e1],.inl ⟨SqL.of e2,λq hq=>p _ _ (q0m hq) (q7L hd hq e3)⟩⟩
 ·cases hb;obtain⟨v,rfl,gv⟩:=g.one;obtain⟨a,ys,e1,e2,e3⟩:=gv.tupC hd;exact q3g pins s σ H _ us Q I r ⟨a,ys,by rw[e1],.inr ⟨e2,p _ _ (Same.refl H) (by rw[←e1];exact gv)⟩⟩
 ·cases hb
end
def tyS:DV->Option String
 | .non=>some "NoneType" | .bl _=>some "bool" | .int _=>some "int" | .str _=>some "str" | .tup _=>some "tuple" | .lst _=>some "list" | .dct _ _=>some "dict"
 | _=>none
def z4J(T t:String):Option Bool:=if(Value.type T==Value.type t)=true then some true else if PySem.W.kitMeta t=true then(fastBuiltinMro T).map (·.contains (.type t))else none
theorem q8W:(["NoneType","bool","int","str","tuple","list","dict"]:List String).all (λT=>(["int","bool","str","list","tuple","dict"]:List String).all λt=>z4J T t==some (T==t||(T == "bool" && t == "int")))=true:=by decide +kernel
theorem q3x{K:PySem.W.Frag}(T t:String)(h1:T∈["NoneType","bool","int","str","tuple","list","dict"])(h2:t∈["int","bool","str","list","tuple","dict"]) :
  PySem.W.kitOne K (.type T) (.type t)=some (T==t||(T == "bool" && t == "int")):=by
 have q:=List.all_eq_true.mp (List.all_eq_true.mp q8W T h1) t h2;exact(show z4J T t=_ from by simpa using q)
section
variable {X:Cx} {E:St->XK} {δ:List Sv} {e e':Expr} {pos p p':Pos} {re:Re} {ra:Option Re}
theorem z4E{pins:List (Addr×Obj)}{σ:St}{H:Hp}{s:Shared}{Q:Value->Shared->Prop}{EE:Value->Shared->Prop}{d:DV}{v:V}{u:Value}{T t:String}(I:Inv X pins σ H s)(r:Rep X.D H d v)(rv:RelV v u)(hT:tyS d=some T)(ht:t∈["int","bool","str","list","tuple","dict"])
  (h:∀tk,Q (.bool (T==t||(T == "bool" && t == "int"))) {s with toks:=tk}):wpAny (model X.prog X.w) X.A (call (.builtin "isinstance") [u,.type t]) Q EE s:=by
 cases d with
 | non=>cases hT;rw[q4Q.mp r]at rv;cases rv;exact PySem.W.kia_one PySem.W.kitx_none I.kIn True.intro (q3x _ _ (by simp) ht) (λz=>nomatch z) h
 | bl b=>cases hT;rw[q3X.mp r]at rv;cases rv;exact PySem.W.kia_one PySem.W.kitx_bool I.kIn True.intro (q3x _ _ (by simp) ht) (λz=>nomatch z) h
 | int b=>cases hT;rw[q0R.mp r]at rv;obtain⟨tk,rfl⟩:=rv;exact PySem.W.kia_one PySem.W.kitx_int I.kIn True.intro (q3x _ _ (by simp) ht) (λz=>nomatch z) h
 | str b=>cases hT;rw[(q1e.mp r).1]at rv;obtain⟨tk,rfl⟩:=rv;exact PySem.W.kia_one PySem.W.kitx_str I.kIn True.intro (q3x _ _ (by simp) ht) (λz=>nomatch z) h
 | tup ds=>
  cases hT;obtain⟨a,xs,e1,e2,e3⟩:=q0C.mp r;rw[e1]at rv;cases rv;obtain⟨its,_,⟨o,h1,h2,_⟩,_⟩:=I.tuple e2;exact PySem.W.kia_one PySem.W.kitx_tuple I.kIn ⟨o,h1,h2⟩ (q3x _ _ (by simp) ht) (λz=>nomatch z) h
 | lst ds=>
  cases hT;obtain⟨a,xs,e1,e2,e3⟩:=q0y.mp r;rw[e1]at rv;cases rv;obtain⟨_,its,n,_,_,h1⟩:=I.lstM e2;exact PySem.W.kia_one PySem.W.kitx_list I.kIn ⟨_,h1,rfl⟩ (q3x _ _ (by simp) ht) (λz=>nomatch z) h
 | dct ks vs=>
  cases hT;rcases q4e.mp r with⟨a,ob,kvs,e1,e2,_⟩ | ⟨a,ob,kvs,e1,e2,_⟩
  ·rw[e1]at rv;cases rv;obtain⟨_,_,_,_,_,⟨o,_,_,h1,h2,_⟩⟩:=(show q1f X.prog X.w H s.heap a (.frz ob (.dK kvs))from I.hok a _ e2);exact PySem.W.kia_one PySem.W.kitx_dict I.kIn ⟨o,h1,h2.1⟩ (q3x _ _ (by simp) ht) (λz=>nomatch z) h
  ·rw[e1]at rv;cases rv;obtain⟨_,_,_,_,_,o,_,_,h1,h2,_⟩:=(show q1f X.prog X.w H s.heap a (.frz ob (.dT kvs))from I.hok a _ e2);exact PySem.W.kia_one PySem.W.kitx_dict I.kIn ⟨o,h1,h2.1⟩ (q3x _ _ (by simp) ht) (λz=>nomatch z) h
 | exc _=>cases hT
 | fn _=>cases hT
 | lam _ _=>cases hT
 | scr _=>cases hT
def rIsi(X:Cx):List V->Hp->VK->Prop:=λxs H Q=>∃d T t x,xs=[x,.ty t]/\Rep X.D H d x/\tyS d=some T/\t∈["int","bool","str","list","tuple","dict"]/\Q (.bl (T==t||(T == "bool" && t == "int"))) H
theorem z1p:q1G X (.builtin "isinstance") (rIsi X):=by
 intro pins s σ H xs us Q I r h;obtain⟨d,T,t,x,rfl,r1,hT,ht,q⟩:=h;obtain⟨u,w',rfl,ru,rw'⟩:=z2X r;cases rw';exact z4E I r1 ru hT ht λtk=>⟨.bl _,H,I.tok tk,rfl,q⟩
def q4v:Str->Option String:=λx=>(["int","bool","str","list","tuple","dict"]:List String).find? λt=>Str.ofString t==x
theorem q9z{x:Str}{t:String}(h:q4v x=some t):bootBuiltins x=some (.type t)/\t∈["int","bool","str","list","tuple","dict"]/\Str.ofString t=x:=by
 unfold q4v at h;have h1:=List.find?_some h;have h2:=List.mem_of_find?_eq_some h;have h3:Str.ofString t=x:=by simpa using h1
 refine⟨?_,h2,h3⟩;subst h3;simp only[List.mem_cons,List.not_mem_nil,or_false]at h2;rcases h2 with rfl | rfl | rfl | rfl | rfl | rfl
 ·exact boot_int
 ·exact boot_bool
 ·exact boot_str
 ·exact boot_list
 ·exact boot_tuple
 ·exact boot_dict
def q9l:String->List Str
 | "NoneType"=>["NoneType"] | "bool"=>["bool","int"] | "int"=>["int"] | "str"=>["str"] | "tuple"=>["tuple"] | "list"=>["list"] | "dict"=>["dict"]
 | _=>[]
theorem q6K:(["NoneType","bool","int","str","tuple","list","dict"]:List String).all (λT=>(["int","bool","str","list","tuple","dict"]:List String).all λt=>(q9l T).contains (Str.ofString t)==(T==t||(T == "bool" && t == "int")))=true:=by decide +kernel
theorem z5M{d:DV}{x:Str}{t T:String}(h:q4v x=some t)(hT:tyS d=some T):(tyOf d).contains x=(T==t||(T == "bool" && t == "int")):=by
 obtain⟨_,h2,h3⟩:=q9z h;subst h3;have key:∀T∈(["NoneType","bool","int","str","tuple","list","dict"]:List String),(q9l T).contains (Str.ofString t)=(T==t||(T == "bool" && t == "int")):=λT hT=>by have q:=List.all_eq_true.mp (List.all_eq_true.mp q6K T hT) t h2;simpa using q
 cases d<;>cases hT
 ·exact key "NoneType" (by simp)
 ·exact key "bool" (by simp)
 ·exact key "int" (by simp)
 ·exact key "str" (by simp)
 ·exact key "tuple" (by simp)
 ·exact key "list" (by simp)
 ·exact key "dict" (by simp)
theorem z2O{G:Gs}{x:Str}{t:String}(ht:q4v x=some t)(hg:Gl X "isinstance")(hm:X.mg "isinstance" = none)(hgx:Gl X x)(hmx:X.mg x=none)(hnx:x ≠ "__name__")(hdx:(x==("__debug__" : Str))=false)
  (ha:∀q,ra=some q->PE X e (dE X.D E δ q)) (hs:q0u e=false) (h:(Re.thn ra λy _=>(isiD G y [x]).map λk=>.ok (.bl k) .strong)=some re):PE X (.Call (.Name "isinstance" p) [e,.Name x p'] [] pos) (dE X.D E δ re):=by
 obtain⟨b1,b2,b3⟩:=q9z ht;have T:PE X (.Name x p') (tC (.ty t)):=z2N hgx hmx b1 rfl hnx hdx;have C:=λta (hA:PE X e ta)=>q5e (p:=p) (pos:=pos) z1p hg hm boot_isinstance (q0T hA (q0T T q3z) (q0i hs)) (by decide) (by decide) (q0i hs)
 cases hra:ra with
 | none=>rw[hra]at h;cases h
 | some q=>
  rw[hra]at h;have A:=ha q hra;cases q with
  | ex c=>cases h;exact(C _ A).weak λσ H Q ⟨O,W,R,p⟩=>⟨O,W,R,p⟩
  | ok d cl=>
   obtain⟨k,e1,e2⟩:=Option.map_eq_some_iff.mp (show((isiD G d [x]).map λk=>Re.ok (.bl k) .strong)=some re from h);cases e2;have key:∃T,tyS d=some T/\k=(tyOf d).contains x:=by
    unfold isiD at e1;have px:q2k.contains x=true:=by
     rw[←b3];simp only[List.mem_cons,List.not_mem_nil,or_false]at b2;rcases b2 with rfl | rfl | rfl | rfl | rfl | rfl<;>decide +kernel
    cases d<;>first
     | (simp only[px,if_true]at e1;cases e1;exact⟨_,rfl,rfl⟩)
     | cases e1
   obtain⟨T,hT,hk⟩:=key;exact(C _ A).weak λσ H Q ⟨O,W,R,p⟩=>⟨O,W,R,λv H1 s1 g1=>⟨d,T,t,v,rfl,g1.all (R.hid.mono s1),hT,b2,by rw[←z5M ht hT,←hk];exact p _ H1 s1 q4w⟩⟩
end
end L2
end
noncomputable section
namespace L2
open PySem PySem.Spec PyProof.Rows
structure LamAt(X:Cx)(scope:Scope)(c P:Addr):Prop where
 code:X.env.code=.ref c
 hd:∀h:Heap,X.K.In h->PySem.W.CodeHd h c P
 tab:(P,X.env.qual ++ "<lambda>")∈q0I X.K
 fre:∀y∈scope.names,y.2=NameKind.free->X.env.kindOf y.1=some .cell
section
variable {X:Cx} {pins:List (Addr×Obj)} {σ:St} {H:Hp} {s:Shared} {params:Arguments} {body:Expr} {scope:Scope} {pos:Pos} {c P:Addr} {M:Model} {A:Around} {E:Value->Shared->Prop} {Q:Value->Shared->Prop}
end
end L2
namespace L2
open PySem PySem.Spec PyProof.Rows
structure Cells(l:List Addr)(h:Heap)(H:Hp):Prop where
 none:∀c∈l,H c=none
 cel:∀c∈l,∃o v,h.get? c=some o/\o.data=.cell v
section
variable {P:Program} {w:World} {K:PySem.W.Frag} {mg:Str->Option Value} {base:Heap} {A:Around} {outer:List Env} {s s':Shared} {H:Hp} {l:List Addr} {Q Q':VK} {u:Value}
structure CellsT(l:List Addr)(h:Heap)(H:Hp):Prop where
 at_:∀c∈l,∃o v,H c=some (.frz o (.own c))/\h.get? c=some o/\o.data=.cell v
def ov(l:List Addr)(H H':Hp):Hp:=λb=>if b∈l then H b else H' b
end
end L2
end
noncomputable section
namespace L2
open PySem PySem.Spec PyProof.Rows
structure RoomL(k:Nat)(A:Around):Prop where
 hd:A.handled=none
 dp:A.depth+3*k+5<recursionLimit
 un:A.units+16*k+198<cLine
def z7Q(P:Program)(w:World)(K:PySem.W.Frag)(mg:Str->Option Value)(base:Heap)(fn bl cl:List Str)(k:Nat)(Fl:List DV->Option Ou):Prop:=
 ∀(A:Around) (outer:List Env) (s:Shared) (H:Hp) (us:List Value) (vs:List V) (Q:VK) (E:XK) (O:List Addr) (f:Addr) (m:LamD) (cs ds:List DV) (d:DV),RoomL k A->Env0 P w K mg base A outer s H->Vals vs us->Hdn O H->m.fn=fn->m.bl=bl->m.cl=cl ->
  Rep ⟨K,mg⟩ (L2.wo O H) (.lam m cs) (.ref f)->RepL ⟨K,mg⟩ (L2.wo O H) ds vs->Fl (.lam m cs::ds)=some (.v d false)->(∀v H',Same H H'->Rep ⟨K,mg⟩ (L2.wo O H') d v->Q v H') ->
  codeAny (model P w) A (.call (.ref f) ⟨us,[]⟩) (CR (CXx P w base) outer P w H s Q E) s
section
variable {X:Cx} {E:St->XK} {δ:List Sv} {e:Expr} {es:List Expr} {pos p:Pos} {rs:Option Rs} {re:Re} {k i:Nat} {x:Str} {fn bl cl:List Str} {m:LamD} {cs:List DV}
end
end L2
end
noncomputable section
namespace L2
open PySem PySem.Spec PyProof.Rows
section
variable {D:Dm} {O l:List Addr} {H:Hp}
theorem q6H{b:Addr}{u:HO}(hl:∀c∈l,∃o,H c=some (.frz o (.own c)))(h:L2.wo O H b=some u)(hu:∀o c,u ≠ .frz o (.own c)):L2.wo O (L2.wo l H) b=some u:=by
 obtain⟨hb,e⟩:=q0v h;rw[q0g hb,q0g λz=>by obtain⟨o,g⟩:=hl b z;rw[e]at g;cases g;exact hu _ _ rfl];exact e
mutual
theorem z6x(hl:∀c∈l,∃o,H c=some (.frz o (.own c))):∀{d:DV} {v:V},d.nolam=true->Rep D (L2.wo O H) d v->Rep D (L2.wo O (L2.wo l H)) d v
 | .non,_,_,h=>by unfold Rep at h ⊢;exact h
 | .bl _,_,_,h=>by unfold Rep at h ⊢;exact h
 | .int _,_,_,h=>by unfold Rep at h ⊢;exact h
 | .str _,_,_,h=>by unfold Rep at h ⊢;exact h
 | .tup ds,_,m,h=>by
  unfold Rep at h ⊢;obtain⟨a,xs,e1,e2,e3⟩:=h;unfold DV.nolam at m;refine⟨a,xs,e1,?_,q3T hl m e3⟩;rcases e2 with(h | ⟨o,h⟩) | h
  ·exact .inl (.inl (q6H hl h (by intro o c z;cases z)))
  ·exact .inl (.inr ⟨o,q6H hl h (by intro o c z;cases z)⟩)
  ·exact .inr h
 | .lst ds,_,m,h=>by unfold Rep at h ⊢;obtain⟨a,xs,e1,e2,e3⟩:=h;unfold DV.nolam at m;exact⟨a,xs,e1,q6H hl e2 (by intro o c z;cases z),q3T hl m e3⟩
 | .dct _ _,_,m,h=>by
  unfold Rep at h ⊢;unfold DV.nolam at m;rcases h with⟨a,ob,kvs,e1,e2,e3,e4⟩ | ⟨a,ob,kvs,e1,e2,e3,e4⟩
  ·exact .inl ⟨a,ob,kvs,e1,q6H hl e2 (by intro o c z;cases z),e3,q3T hl m e4⟩
  ·exact .inr ⟨a,ob,kvs,e1,q6H hl e2 (by intro o c z;cases z),e3,q3T hl m e4⟩
 | .exc C,_,_,h=>by unfold Rep at h ⊢;obtain⟨a,C,e1,e2,e3⟩:=h;exact⟨a,C,e1,e2,q6H hl e3 (by intro o c z;cases z)⟩
 | .fn _,_,_,h=>by unfold Rep at h ⊢;exact h
 | .lam _ _,_,m,_=>by unfold DV.nolam at m;cases m
 | .scr _,_,_,h=>by
  unfold Rep at h ⊢;obtain⟨a,e1,e2⟩:=h;refine⟨a,e1,?_⟩;rcases e2 with⟨o,h⟩ | h
  ·exact .inl ⟨o,q6H hl h (by intro o c z;cases z)⟩
  ·exact .inr h
theorem q3T(hl:∀c∈l,∃o,H c=some (.frz o (.own c))):∀{ds:List DV} {xs:List V},DV.nolams ds=true->RepL D (L2.wo O H) ds xs->RepL D (L2.wo O (L2.wo l H)) ds xs
 | [],_,_,h=>by unfold RepL at h ⊢;exact h
 | d::ds,_,m,h=>by unfold RepL at h ⊢;obtain⟨v,vs,e1,e2,e3⟩:=h;unfold DV.nolams at m;rw[Bool.and_eq_true]at m;exact⟨v,vs,e1,z6x hl m.1 e2,q3T hl m.2 e3⟩
end
end
section
variable {X:Cx} {pins:List (Addr×Obj)} {σ:St} {H:Hp} {s:Shared} {sc:Scope} {N ps:List Str}
structure LamTx(N ps:List Str)(sc:Scope):Prop where
 kind:sc.kind=.function
 co:sc.isCoroutine=false
 gen:sc.isGenerator=false
 nd:N.Nodup
 pre:N.take ps.length=ps
 par:∀x∈ps,sc.names.lookup x=some .local
 nocell:∀y∈sc.names,y.2 ≠ .cell
 fre:∀i x,ps.length<=i->N[i]? = some x->sc.names.lookup x=some .free
end
end L2
end
noncomputable section
namespace L2
open PySem PySem.Spec PyProof.Rows
section
variable {X:Cx} {E:St->XK} {δ:List Sv} {v:Expr} {te:TE} {pos kpos:Pos} {i:Int} {j:Nat}
theorem Inv.notSys{pins:List (Addr×Obj)}{σ:St}{H:Hp}{s:Shared}(I:Inv X pins σ H s){a:Addr}(h:s.heap.objs.size<=a):(a==sysModules)=false:=by
 have h1:mainGlobals<X.base.objs.size:=I.mod.glob.lt;have h2:=Nat.le_trans I.ok.bsz I.sz;have:(1:Nat)<a:=Nat.lt_of_lt_of_le (Nat.lt_of_le_of_lt (by decide:(1:Nat)<=mainGlobals) h1) (Nat.le_trans h2 h);exact beq_eq_false_iff_ne.mpr (Nat.ne_of_gt this)
theorem q2l{O:List Addr}{H:Hp}{p b:Addr}{o u:HO}(hp:H p=some (.dK []))(h:L2.wo O H b=some u)(hu:u ≠ .dK []):L2.wo O (upd H p o) b=some u:=by
 obtain⟨hb,e⟩:=q0v h;rw[q0g hb,q0f (λz=>by rw[z,hp]at e;cases e;exact hu rfl)];exact e
mutual
theorem z2M{D:Dm}{O:List Addr}{H:Hp}{p:Addr}{o:HO}(hp:H p=some (.dK [])):∀{d:DV} {v:V},Rep D (L2.wo O H) d v->Rep D (L2.wo O (upd H p o)) d v
 | .non,_,h=>by unfold Rep at h ⊢;exact h
 | .bl _,_,h=>by unfold Rep at h ⊢;exact h
 | .int _,_,h=>by unfold Rep at h ⊢;exact h
 | .str _,_,h=>by unfold Rep at h ⊢;exact h
 | .tup ds,_,h=>by
  unfold Rep at h ⊢;obtain⟨a,xs,e1,e2,e3⟩:=h;refine⟨a,xs,e1,?_,q2x hp e3⟩;rcases e2 with(h | ⟨o,h⟩) | h
  ·exact .inl (.inl (q2l hp h (by intro z;cases z)))
  ·exact .inl (.inr ⟨o,q2l hp h (by intro z;cases z)⟩)
  ·exact .inr h
 | .lst ds,_,h=>by unfold Rep at h ⊢;obtain⟨a,xs,e1,e2,e3⟩:=h;exact⟨a,xs,e1,q2l hp e2 (by intro z;cases z),q2x hp e3⟩
 | .dct _ _,_,h=>by
  unfold Rep at h ⊢;rcases h with⟨a,ob,kvs,e1,e2,e3,e4⟩ | ⟨a,ob,kvs,e1,e2,e3,e4⟩
  ·exact .inl ⟨a,ob,kvs,e1,q2l hp e2 (by intro z;cases z),e3,q2x hp e4⟩
  ·exact .inr ⟨a,ob,kvs,e1,q2l hp e2 (by intro z;cases z),e3,q2x hp e4⟩
 | .exc C,_,h=>by unfold Rep at h ⊢;obtain⟨a,C,e1,e2,e3⟩:=h;exact⟨a,C,e1,e2,q2l hp e3 (by intro z;cases z)⟩
 | .fn _,_,h=>by unfold Rep at h ⊢;exact h
 | .lam m cs,_,h=>by
  unfold Rep at h ⊢;obtain⟨f,pr,bd,sc,q,cl,l,ws,e1,⟨c',oc,u,vs,t,pm,ctv,f1,f2,f3⟩,e3,e4,e5,g1,g2,g3⟩:=h;refine⟨f,pr,bd,sc,q,cl,l,ws,e1,⟨c',oc,u,vs,t,pm,ctv,q2l hp f1 (by intro z;cases z),q2l hp f2 (by intro z;cases z),f3⟩,e3,e4,q2x hp e5,g1,λc hc=>?_,λi x v h1 h2=>?_⟩
  ·obtain⟨o,v,k1,k2⟩:=g2 c hc;exact⟨o,v,q2l hp k1 (by intro z;cases z),k2⟩
  ·obtain⟨c,o,u,k1,k2,k3⟩:=g3 i x v h1 h2;exact⟨c,o,u,k1,q2l hp k2 (by intro z;cases z),k3⟩
 | .scr _,_,h=>by
  unfold Rep at h ⊢;obtain⟨a,e1,e2⟩:=h;refine⟨a,e1,?_⟩;rcases e2 with⟨o,h⟩ | h
  ·exact .inl ⟨o,q2l hp h (by intro z;cases z)⟩
  ·exact .inr h
theorem q2x{D:Dm}{O:List Addr}{H:Hp}{p:Addr}{o:HO}(hp:H p=some (.dK [])):∀{ds:List DV} {xs:List V},RepL D (L2.wo O H) ds xs->RepL D (L2.wo O (upd H p o)) ds xs
 | [],_,h=>by unfold RepL at h ⊢;exact h
 | d::ds,_,h=>by unfold RepL at h ⊢;obtain⟨v,vs,e1,e2,e3⟩:=h;exact⟨v,vs,e1,z2M hp e2,q2x hp e3⟩
end
theorem z3j:PE X (.Dict [] [] pos) (λσ H Q=>∀a o,H a=none->Q (.ref a) (upd H a (.frz o (.dK [])))):=λpins s σ H Q I h=>
 wpAny_Dict_empty ⟨.ref s.heap.objs.size,_,I.laid (a:=s.heap.objs.size) (o:=.frz {cls:=.type "dict",data:=.dict #[]} (.dK [])) (t':=s.toks) (λ_ _ q=>Heap.get?_push_of_some _ q) (Nat.le_refl _) ⟨Heap.get?_push_size _ rfl,Nat.zero_le _,I.notSys (Nat.le_refl _),[],.nil,Heap.DictOf.new _⟩,rfl,h _ _ (I.hok.fresh (Nat.le_refl _))⟩
theorem z3O:PE X (.Dict [] [] pos) (dE X.D E δ (.ok (.dct [] []) .strong)):=
 z3j.weak λσ H Q ⟨O,W,R,p⟩ a ob ha=>p _ _ (q0m ha) (q4e.mpr (.inl ⟨a,ob,_,rfl,by rw[q0g λz=>R.hid.ot a z ha];exact q0n,rfl,q0s.mpr rfl⟩):Rep X.D (L2.wo (O++W) _) (.dct [] []) _)
end
end L2
end
noncomputable section
namespace L2
open PySem PySem.Spec PyProof.Rows
structure Wk(D:Dm)(J:It)(ds:List DV)(Oc Oi:List Addr)(H1:Hp):Prop where
 go:∀i H,Same (L2.wo Oc H1) (L2.wo Oc H)->i<ds.length->J.go i H
 same:∀i H x H',J.yld i H x H'->Same H H'
 yld:∀i H x H' d O2,Same (L2.wo Oc H1) (L2.wo Oc H)->Same (L2.wo Oi H1) (L2.wo Oi H)->J.yld i H x H'->ds[i]? = some d->(∀a∈O2,H a≠none/\(a∈Oi\/H1 a=none))->Rep D (L2.wo O2 H') d x
 stop:∀H,Same (L2.wo Oc H1) (L2.wo Oc H)->J.stop ds.length H
def hidW(O W:List Addr):Cl->List Addr
 | .top=>O
 | .weak=>O
 | _=>O++W
def z7w(D:Dm)(E:St->XK)(σ:St)(O W:List Addr)(H:Hp)(R:It->Hp->Prop):Ri->Prop
 | .ok ds c=>∀J H',Same H H'->Wk D J ds (hidW O W c) (q1b O W c) H'->R J H'
 | .ex c=>∀H' C,D.mg c=some C->Same H H'->E σ C none H'
def dI(D:Dm)(E:St->XK)(δ:List Sv)(r:Ri):TI:=λσ H R=>∃O W,RSt D H σ δ O W/\z7w D E σ O W H R r
theorem PI.weak{X:Cx}{tg iter:Expr}{t t':TI}(h:PI X tg iter t)(k:∀σ H R,t' σ H R->t σ H R):PI X tg iter t':=λpins s σ H R I q=>h pins s σ H R I (k σ H R q)
theorem q9S{O O2:List Addr}{H1 H:Hp}(s:Same (L2.wo O H1) (L2.wo O H))(h:∀a∈O2,H a≠none/\(a∈O\/H1 a=none)):Same (L2.wo O H1) (L2.wo O2 H):=λb o e=>by
 have q:=s b o e;obtain⟨hb,e⟩:=q0v e;obtain⟨_,q⟩:=q0v q;rw[q0g λz=>?_]
 ·exact q
 ·rcases(h b z).2 with w | w
  ·exact hb w
  ·rw[w]at e;cases e
theorem Wk.list{D:Dm}{ds:List DV}{Oc Oi:List Addr}{H1:Hp}{a:Addr}{xs:List V}(h:SqL D.K (L2.wo Oc H1) a xs)(r:RepL D (L2.wo Oi H1) ds xs):Wk D (Itl D.K a) ds Oc Oi H1 where
 go:=λi H s hi=>⟨xs,xs[i]'(by rw[r.length];exact hi),q0Y.seq (s.seq h),List.getElem?_eq_getElem _⟩
 same:=λi H x H' y=>by rw[y.1];exact Same.refl _
 yld:=λi H x H' d O2 s s' y e ho=>by obtain⟨e1,y⟩:=y;subst e1;obtain⟨v,q1,q2⟩:=r.get e;have:=y xs (q0Y.seq (s.seq h));rw[q1]at this;cases this;exact q2.mono (q9S s' ho)
 stop:=λH s=>⟨xs,q0Y.seq (s.seq h),by rw[r.length];exact Nat.le_refl _⟩
theorem Wk.tup{D:Dm}{ds:List DV}{Oc Oi:List Addr}{H1:Hp}{a:Addr}{xs:List V}(h:SqT D.K (L2.wo Oc H1) a xs)(r:RepL D (L2.wo Oi H1) ds xs):Wk D (Itt D.K a) ds Oc Oi H1 where
 go:=λi H s hi=>⟨xs,xs[i]'(by rw[r.length];exact hi),q0Y.tseq (s.tseq h),List.getElem?_eq_getElem _⟩
 same:=λi H x H' y=>by rw[y.1];exact Same.refl _
 yld:=λi H x H' d O2 s s' y e ho=>by obtain⟨e1,y⟩:=y;subst e1;obtain⟨v,q1,q2⟩:=r.get e;have:=y xs (q0Y.tseq (s.tseq h));rw[q1]at this;cases this;exact q2.mono (q9S s' ho)
 stop:=λH s=>⟨xs,q0Y.tseq (s.tseq h),by rw[r.length];exact Nat.le_refl _⟩
theorem q2N(lo:Int)(n:Nat):(upTo lo n).length=n:=by unfold upTo;rw[List.length_map,List.length_range]
theorem z1c{lo:Int}{n i:Nat}{d:DV}(h:(upTo lo n)[i]? = some d):i<n/\d=.int (lo+i):=by
 have hl:i<n:=by have:=(List.getElem?_eq_some_iff.mp h).1;rw[q2N]at this;exact this
 unfold upTo at h;rw[List.getElem?_map,List.getElem?_range hl]at h;cases h;exact⟨hl,rfl⟩
theorem Wk.range{D:Dm}{Oc Oi:List Addr}{H1:Hp}(lo:Int)(n:Nat):Wk D (Itr lo n) (upTo lo n) Oc Oi H1 where
 go:=λi H s hi=>by rw[q2N]at hi;exact hi
 same:=λi H x H' y=>by rw[y.1];exact Same.refl _
 yld:=λi H x H' d O2 s s' y e ho=>by obtain⟨e1,y⟩:=y;subst e1;obtain⟨_,e2⟩:=z1c e;subst e2;exact q0R.mpr y
 stop:=λH s=>by rw[q2N];exact Nat.le_refl _
theorem Wk.str{D:Dm}{Oc Oi:List Addr}{H1:Hp}(x:Str):Wk D (Its x) (x.cps.toList.map λc=>.str ⟨#[c]⟩) Oc Oi H1 where
 go:=λi H s hi=>by rw[List.length_map]at hi;exact hi
 same:=λi H v H' y=>by rw[y.1];exact Same.refl _
 yld:=λi H v H' d O2 s s' y e ho=>by obtain⟨e1,c,hc,rfl⟩:=y;subst e1;rw[List.getElem?_map,Array.getElem?_toList,hc]at e;cases e;exact q1e.mpr ⟨rfl,by show 1<=sizeLine;decide⟩
 stop:=λH s=>by rw[List.length_map];exact Nat.le_refl _
theorem q1W(hi:Int)(n:Nat):(q4H hi n).length=n:=by unfold q4H;rw[List.length_map,List.length_range]
theorem q8b{hi:Int}{n i:Nat}{d:DV}(h:(q4H hi n)[i]? = some d):i<n/\d=.int (hi - i):=by
 have hl:i<n:=by have:=(List.getElem?_eq_some_iff.mp h).1;rw[q1W]at this;exact this
 unfold q4H at h;rw[List.getElem?_map,List.getElem?_range hl]at h;cases h;exact⟨hl,rfl⟩
theorem Wk.down{D:Dm}{Oc Oi:List Addr}{H1:Hp}(hi:Int)(n:Nat):Wk D (Itd hi n) (q4H hi n) Oc Oi H1 where
 go:=λi H s h=>by rw[q1W]at h;exact h
 same:=λi H x H' y=>by rw[y.1];exact Same.refl _
 yld:=λi H x H' d O2 s s' y e ho=>by obtain⟨e1,y⟩:=y;subst e1;obtain⟨_,e2⟩:=q8b e;subst e2;exact q0R.mpr y
 stop:=λH s=>by rw[q1W];exact Nat.le_refl _
section
variable {X:Cx} {E:St->XK} {δ:List Sv} {tg e e':Expr} {es:List Expr} {pos p:Pos} {ra rb:Option Re} {rs:Option Rs} {ri:Ri}
theorem Got.walkL{D:Dm}{O W:List Addr}{H0 H:Hp}{ds:List DV}{c:Cl}{v:V}(g:Got D O W H0 H (.lst ds) c v)(hd:Hid O W H0 H):∃a xs,v=.ref a/\SqL D.K (L2.wo (hidW O W c) H) a xs/\RepL D (L2.wo (q1b O W c) H) ds xs:=by
 cases c with
 | weak=>obtain⟨a,xs,e1,e2,e3⟩:=q0y.mp g;exact⟨a,xs,e1,SqL.of e2,e3⟩
 | top=>obtain⟨a,xs,e1,e0,e2,e3⟩:=g;exact⟨a,xs,e1,SqL.of e2,e3⟩
 | strong=>obtain⟨a,xs,e1,e2,e3⟩:=q0y.mp g;exact⟨a,xs,e1,SqL.of e2,e3⟩
 | fresh=>obtain⟨a,xs,e1,e2,e3⟩:=q0y.mp (g.strong hd);exact⟨a,xs,e1,SqL.of e2,e3⟩
 | ft=>obtain⟨a,xs,e1,e2,e3⟩:=q0y.mp (g.ft hd);exact⟨a,xs,e1,SqL.of e2,e3⟩
theorem Got.walkT{D:Dm}{O W:List Addr}{H0 H:Hp}{ds:List DV}{c:Cl}{v:V}(g:Got D O W H0 H (.tup ds) c v)(hd:Hid O W H0 H):∃a xs,v=.ref a/\SqT D.K (L2.wo (hidW O W c) H) a xs/\RepL D (L2.wo (q1b O W c) H) ds xs:=by
 cases c with
 | weak=>exact q0C.mp g
 | top=>
  obtain⟨a,xs,e1,e2,e3⟩:=q0C.mp (show Rep D (L2.wo (O++W) H) (.tup ds) v from g);exact⟨a,xs,e1,(q0D q5O).tseq e2,e3⟩
 | strong=>exact q0C.mp g
 | fresh=>obtain⟨_,_,_,_,q,_⟩:=g;cases q
 | ft=>exact q0C.mp (g.ft hd)
theorem Got.walkS{D:Dm}{O W:List Addr}{H0 H:Hp}{ns:List Int}{c:Cl}{v:V}(g:Got D O W H0 H (.scr ns) c v)(hd:Hid O W H0 H):∃a,v=.ref a/\SqL D.K (L2.wo (hidW O W c) H) a (ns.map V.int):=by
 cases c with
 | weak=>obtain⟨a,e1,e2⟩:=q1T.mp g;exact⟨a,e1,e2.sq⟩
 | top=>obtain⟨a,e1,e2⟩:=q1T.mp (show Rep D (L2.wo (O++W) H) (.scr ns) v from g);exact⟨a,e1,(q0D q5O).seq e2.sq⟩
 | strong=>obtain⟨a,e1,e2⟩:=q1T.mp g;exact⟨a,e1,e2.sq⟩
 | fresh=>obtain⟨_,_,_,_,q,_⟩:=g;cases q
 | ft=>obtain⟨a,e1,e2⟩:=q1T.mp (g.ft hd);exact⟨a,e1,e2.sq⟩
theorem q7S(ha:∀q,ra=some q->PE X e (dE X.D E δ q))(h:q0X ra=some ri):PI X tg e (dI X.D E δ ri):=by
 cases hra:ra with
 | none=>rw[hra]at h;cases h
 | some q=>
  rw[hra]at h;have A:=ha q hra;cases q with
  | ex c=>cases h;exact(q6G A).weak λσ H R' ⟨O,W,R,p⟩=>⟨O,W,R,p⟩
  | ok d c=>
   obtain⟨ds,e1,e2⟩:=Option.map_eq_some_iff.mp (show((seqD d).map λds=>Ri.ok ds c)=some ri from h);cases e2;unfold seqD at e1;split at e1
   ·cases e1;exact(q6G A).weak λσ H R' ⟨O,W,R,p⟩=>⟨O,W,R,λv H1 s1 g1=>by
     obtain⟨a,e1,e2⟩:=g1.walkS (R.hid.mono s1);exact⟨a,e1,⟨_,q0Y.seq e2⟩,p _ H1 s1 (.list e2 (q1R _))⟩⟩
   ·cases e1;exact(q6G A).weak λσ H R' ⟨O,W,R,p⟩=>⟨O,W,R,λv H1 s1 g1=>by
     obtain⟨a,xs,e1,e2,e3⟩:=g1.walkL (R.hid.mono s1);exact⟨a,e1,⟨xs,q0Y.seq e2⟩,p _ H1 s1 (.list e2 e3)⟩⟩
   ·cases e1;exact(z5O A).weak λσ H R' ⟨O,W,R,p⟩=>⟨O,W,R,λv H1 s1 g1=>by
     obtain⟨a,xs,e1,e2,e3⟩:=g1.walkT (R.hid.mono s1);exact⟨a,e1,⟨xs,q0Y.tseq e2⟩,p _ H1 s1 (.tup e2 e3)⟩⟩
   ·cases e1;exact(z4X A).weak λσ H R' ⟨O,W,R,p⟩=>⟨O,W,R,λv H1 s1 g1=>⟨_,(g1.str (R.hid.mono s1)).1,p _ H1 s1 (Wk.str _)⟩⟩
   ·cases e1
theorem q1O{i:Int}(h:q0N i=true) : -(2^62)<=i/\i<2^62:=by
 unfold q0N at h;simpa[Bool.and_eq_true]using h
theorem q4X{o:Option (List DV)}{ri:Ri}(h:q0X (o.map λds=>Re.ok (.lst ds) .fresh)=some ri):∃ds,o=some ds/\ri=.ok ds .fresh:=by
 cases o with
 | none=>cases h
 | some ds=>cases h;exact⟨ds,rfl,rfl⟩
theorem q8l(hg:Gl X "range")(hm:X.mg "range" = none)(ha:∀q,rs=some q->PA X [e] (dA X.D E δ q))(hs:q0u e=false)(h:q0X (Rs.thn rs λl=>(rngD l).map λds=>Re.ok (.lst ds) .fresh)=some ri)(hl:∀l,rs=some (.ok l)->l.length=1) :
  PI X tg (.Call (.Name "range" p) [e] [] pos) (dI X.D E δ ri):=by
 have C:=λt (hA:PA X [e] t)=>q9d (tg:=tg) (p:=p) (pos:=pos) hg hm hA (q0i hs);cases hrs:rs with
 | none=>rw[hrs]at h;cases h
 | some q=>
  rw[hrs]at h;have A:=ha q hrs;cases q with
  | ex c=>cases h;exact(C _ A).weak λσ H R' ⟨O,W,R,p⟩=>⟨O,W,R,p⟩
  | ok l=>
   have l1:=hl l hrs;obtain⟨ds,e1,e2⟩:=q4X (show q0X ((rngD l).map λds=>Re.ok (.lst ds) .fresh)=some ri from h);cases e2;unfold rngD at e1;split at e1
   ·rename_i j c;split at e1
    ·rename_i m;cases e1;rw[Bool.and_eq_true]at m;have q:=q1O m.1;exact(C _ A).weak λσ H R' ⟨O,W,R,p⟩=>⟨O,W,R,λvs H1 s1 g1=>by
      obtain⟨v,rfl,gv⟩:=g1.one;exact⟨j,by rw[gv.int (R.hid.mono s1)],q.1,q.2,p _ H1 s1 (.range _ _)⟩⟩
    ·cases e1
   ·cases l1
   ·cases l1
   ·cases e1
theorem q8B(hg:Gl X "range")(hm:X.mg "range" = none)(ha:∀q,rs=some q->PA X [e,e'] (dA X.D E δ q))(hs:q0u e=false)(hs':q0u e'=false)(h:q0X (Rs.thn rs λl=>(rngD l).map λds=>Re.ok (.lst ds) .fresh)=some ri)(hl:∀l,rs=some (.ok l)->l.length=2) :
  PI X tg (.Call (.Name "range" p) [e,e'] [] pos) (dI X.D E δ ri):=by
 have C:=λt (hA:PA X [e,e'] t)=>q8I (tg:=tg) (p:=p) (pos:=pos) hg hm hA (by rw[q0i hs,q0i hs'];rfl) (q0i hs');cases hrs:rs with
 | none=>rw[hrs]at h;cases h
 | some q=>
  rw[hrs]at h;have A:=ha q hrs;cases q with
  | ex c=>cases h;exact(C _ A).weak λσ H R' ⟨O,W,R,p⟩=>⟨O,W,R,p⟩
  | ok l=>
   have l1:=hl l hrs;obtain⟨ds,e1,e2⟩:=q4X (show q0X ((rngD l).map λds=>Re.ok (.lst ds) .fresh)=some ri from h);cases e2;unfold rngD at e1;split at e1
   ·cases l1
   ·rename_i i c j c';split at e1
    ·rename_i m;cases e1;rw[Bool.and_eq_true,Bool.and_eq_true]at m;have q:=q1O m.1.1;have q':=q1O m.1.2;exact(C _ A).weak λσ H R' ⟨O,W,R,p⟩=>⟨O,W,R,λvs H1 s1 g1=>by
      obtain⟨v,v',rfl,gv,gv'⟩:=g1.two;exact⟨i,j,by rw[gv.int (R.hid.mono s1),gv'.int (R.hid.mono s1)],⟨q.1,q.2,q'.1,q'.2⟩,p _ H1 s1 (.range _ _)⟩⟩
    ·cases e1
   ·cases l1
   ·cases e1
theorem q8v{e'':Expr}(hg:Gl X "range")(hm:X.mg "range" = none)(ha:∀q,rs=some q->PA X [e,e',e''] (dA X.D E δ q))(hs:q0u e=false)(hs':q0u e'=false)(hs'':q0u e''=false)(h:q0X (Rs.thn rs λl=>(rngD l).map λds=>Re.ok (.lst ds) .fresh)=some ri)(hl:∀l,rs=some (.ok l)->l.length=3) :
  PI X tg (.Call (.Name "range" p) [e,e',e''] [] pos) (dI X.D E δ ri):=by
 have C:=λt (hA:PA X [e,e',e''] t)=>q9w (tg:=tg) (p:=p) (pos:=pos) hg hm hA (by rw[q0i hs,q0i hs',q0i hs''];rfl) (by rw[q0i hs',q0i hs''];rfl);cases hrs:rs with
 | none=>rw[hrs]at h;cases h
 | some q=>
  rw[hrs]at h;have A:=ha q hrs;cases q with
  | ex c=>cases h;exact(C _ A).weak λσ H R' ⟨O,W,R,p⟩=>⟨O,W,R,p⟩
  | ok l=>
   have l1:=hl l hrs;obtain⟨ds,e1,e2⟩:=q4X (show q0X ((rngD l).map λds=>Re.ok (.lst ds) .fresh)=some ri from h);cases e2;unfold rngD at e1;split at e1
   ·cases l1
   ·cases l1
   ·rename_i i c j c' k c'';split at e1
    ·rename_i m;cases e1;rw[Bool.and_eq_true,Bool.and_eq_true,Bool.and_eq_true,decide_eq_true_eq,decide_eq_true_eq]at m;have q:=q1O m.1.1.1;have q':=q1O m.1.1.2;have k1:=m.2;subst k1;exact(C _ A).weak λσ H R' ⟨O,W,R,p⟩=>⟨O,W,R,λvs H1 s1 g1=>by
      obtain⟨v,v',v'',rfl,gv,gv',gv''⟩:=g1.three;exact⟨i,j,by rw[gv.int (R.hid.mono s1),gv'.int (R.hid.mono s1),gv''.int (R.hid.mono s1)],⟨q.1,q.2,q'.1,q'.2⟩,p _ H1 s1 (.down _ _)⟩⟩
    ·cases e1
   ·cases e1
end
def q7R:List Nat->TGs
 | []=>gNil
 | i::is=>z4F (q9c i) (q7R is)
def gT(K:PySem.W.Frag):Tg->TG
 | .one i=>q9c i
 | .many is=>gTup K is.length (q7R is)
theorem RSt.setVal{D:Dm}{H:Hp}{σ:St}{δ:List Sv}{O W:List Addr}{v:V}{d:DV}(R:RSt D H σ δ O W)(r:Rep D (L2.wo (O++W) H) d v)(i:Nat):RSt D H (σ.set i (some v)) (δ.set i (.val d)) O W where
 val:=λj d' h=>by
  by_cases hj:j=i
  ·subst hj;have hl:j<δ.length:=by
    have:=(List.getElem?_eq_some_iff.mp h).1;rw[List.length_set]at this;exact this
   rw[List.getElem?_set_self hl]at h;cases h;exact⟨v,List.getElem?_set_self (by rw[R.len];exact hl),r⟩
  ·rw[List.getElem?_set_ne (Ne.symm hj)]at h ⊢;exact R.val j d' h
 own:=λj ds' h=>by
  by_cases hj:j=i
  ·subst hj;have hl:j<δ.length:=by
    have:=(List.getElem?_eq_some_iff.mp h).1;rw[List.length_set]at this;exact this
   rw[List.getElem?_set_self hl]at h;cases h
  ·rw[List.getElem?_set_ne (Ne.symm hj)]at h ⊢;exact R.own j ds' h
 inj:=λj k a d1 d2 h1 h2 e1 e2=>by
  have ne:∀{j:Nat} {d1:DV},(δ.set i (.val d))[j]? = some (.own d1)->j≠i:=λ{j d1} h1 z=>by
   subst z;have hl:j<δ.length:=by have:=(List.getElem?_eq_some_iff.mp h1).1;rw[List.length_set]at this;exact this
   rw[List.getElem?_set_self hl]at h1;cases h1
  have n1:=ne h1;have n2:=ne h2;rw[List.getElem?_set_ne (Ne.symm n1)]at h1 e1;rw[List.getElem?_set_ne (Ne.symm n2)]at h2 e2;exact R.inj j k a d1 d2 h1 h2 e1 e2
 ot:=by
  have ne:∀{j:Nat} {s:Sv},(∀d,s ≠ .val d)->(δ.set i (.val d))[j]? = some s->j≠i:=λ{j s} hs h1 z=>by
   subst z;have hl:j<δ.length:=by have:=(List.getElem?_eq_some_iff.mp h1).1;rw[List.length_set]at this;exact this
   rw[List.getElem?_set_self hl]at h1;cases h1;exact hs _ rfl
  obtain⟨P,f,u⟩:=R.ot;refine⟨P,λj d' h=>?_,λj k d1 d2 h1 h2=>?_⟩
  ·have nj:=ne (by intro d z;cases z) h;rw[List.getElem?_set_ne (Ne.symm nj)]at h ⊢;obtain⟨t,ts,e1,e2,e3,e4⟩:=f j d' h;refine⟨t,ts,e1,e2,e3,λp hp=>⟨(e4 p hp).1,(e4 p hp).2.1,λk d2 q=>?_⟩⟩;have nk:=ne (by intro d z;cases z) q;rw[List.getElem?_set_ne (Ne.symm nk)]at q ⊢;exact(e4 p hp).2.2 k d2 q
  ·rw[List.getElem?_set_ne (Ne.symm (ne (by intro d z;cases z) h1))]at h1;rw[List.getElem?_set_ne (Ne.symm (ne (by intro d z;cases z) h2))]at h2;exact u j k d1 d2 h1 h2
 o2:=λj d' h=>by
  have ne:∀{j:Nat} {s:Sv},(∀d,s ≠ .val d)->(δ.set i (.val d))[j]? = some s->j≠i:=λ{j s} hs h1 z=>by
   subst z;have hl:j<δ.length:=by have:=(List.getElem?_eq_some_iff.mp h1).1;rw[List.length_set]at this;exact this
   rw[List.getElem?_set_self hl]at h1;cases h1;exact hs _ rfl
  have nj:=ne (by intro d z;cases z) h;rw[List.getElem?_set_ne (Ne.symm nj)]at h ⊢;obtain⟨⟨p,L,e0,e1,e2,e3⟩,u,n⟩:=R.o2 j d' h;refine⟨⟨p,L,e0,e1,e2,λk d2 a q q2=>?_⟩,λk d2 q=>?_,λk d2 q=>?_⟩
  ·have nk:=ne (by intro d z;cases z) q;rw[List.getElem?_set_ne (Ne.symm nk)]at q q2;exact e3 k d2 a q q2
  ·have nk:=ne (by intro d z;cases z) q;rw[List.getElem?_set_ne (Ne.symm nk)]at q;exact u k d2 q
  ·have nk:=ne (by intro d z;cases z) q;rw[List.getElem?_set_ne (Ne.symm nk)]at q;exact n k d2 q
 od:=R.od.step (q7l _ (by intro d z;cases z)) (λ_ h _=>h) (λ_ _ _ h _=>h)
 len:=by rw[List.length_set,List.length_set];exact R.len
 hid:=R.hid
theorem q5Q{D:Dm}{H:Hp}{O W:List Addr}{Q:St->Hp->Prop}:∀{is:List Nat} {ds:List DV} {xs:List V} {σ:St} {δ δ':List Sv},RSt D H σ δ O W->RepL D (L2.wo (O++W) H) ds xs->q4E δ is ds=some δ'->(∀σ',RSt D H σ' δ' O W->Q σ' H)->q7R is xs σ H Q
 | [],[],xs,σ,δ,δ',R,r,h,q=>by cases h;exact⟨q0s.mp r,q σ R⟩
 | i::is,d::ds,xs,σ,δ,δ',R,r,h,q=>by obtain⟨v,vs,e1,e2,e3⟩:=q0e.mp r;exact⟨v,vs,e1,q5Q (R.setVal e2 i) e3 h q⟩
 | [],_::_,_,_,_,_,_,_,h,_=>by cases h
 | _::_,[],_,_,_,_,_,_,h,_=>by cases h
theorem q1S:∀{is:List Nat} {ds:List DV} {δ δ':List Sv},q4E δ is ds=some δ'->is.length=ds.length/\δ'.length=δ.length
 | [],[],_,_,h=>by cases h;exact⟨rfl,rfl⟩
 | i::is,d::ds,δ,δ',h=>by obtain⟨a,b⟩:=q1S (is:=is) h;exact⟨by rw[List.length_cons,List.length_cons,a],by rw[b,List.length_set]⟩
 | [],_::_,_,_,h=>by cases h
 | _::_,[],_,_,h=>by cases h
theorem q6L{D:Dm}{H:Hp}{O W:List Addr}{Q:St->Hp->Prop}{tg:Tg}{d:DV}{x:V}{σ:St}{δ δ':List Sv}(R:RSt D H σ δ O W)(r:Rep D (L2.wo (O++W) H) d x)(h:tg.bind d δ=some δ')(q:∀σ',RSt D H σ' δ' O W->Q σ' H):gT D.K tg x σ H Q:=by
 cases tg with
 | one i=>cases h;exact q _ (R.setVal r i)
 | many is=>
  unfold Tg.bind at h;dsimp only at h;split at h
  ·rename_i ds;obtain⟨a,xs,e1,e2,e3⟩:=q0C.mp r;exact⟨a,xs,e1,q0Y.tseq e2,by rw[e3.length,(q1S h).1],q5Q R e3 h q⟩
  ·cases h
theorem RSt.less{D:Dm}{H:Hp}{σ:St}{δ δ':List Sv}{O W:List Addr}(R:RSt D H σ δ' O W)(hl:δ.length=δ'.length)(h:∀(i:Nat) sv,δ[i]? = some sv->sv=.no\/δ'[i]? = some sv):RSt D H σ δ O W where
 val:=λi d e=>by
  rcases h i _ e with z | z
  ·cases z
  ·exact R.val i d z
 own:=λi d e=>by
  rcases h i _ e with z | z
  ·cases z
  ·exact R.own i d z
 inj:=λi j a d d' e e'=>by
  rcases h i _ e with z | z
  ·cases z
  ·rcases h j _ e' with y | y
   ·cases y
   ·exact R.inj i j a d d' z y
 ot:=by
  obtain⟨P,f,u⟩:=R.ot;refine⟨P,λi d e=>?_,λi j d1 d2 h1 h2=>?_⟩
  ·rcases h i _ e with z | z
   ·cases z
   ·obtain⟨t,ts,e1,e2,e3,e4⟩:=f i d z;refine⟨t,ts,e1,e2,e3,λp hp=>⟨(e4 p hp).1,(e4 p hp).2.1,λk d2 q=>?_⟩⟩;rcases h k _ q with y | y
    ·cases y
    ·exact(e4 p hp).2.2 k d2 y
  ·rcases h i _ h1 with z | z
   ·cases z
   ·rcases h j _ h2 with y | y
    ·cases y
    ·exact u i j d1 d2 z y
 o2:=λi d e=>by
  rcases h i _ e with z | z
  ·cases z
  ·obtain⟨⟨p,L,e0,e1,e2,e3⟩,u,n⟩:=R.o2 i d z;refine⟨⟨p,L,e0,e1,e2,λk d2 a q q2=>?_⟩,λk d2 q=>?_,λk d2 q=>?_⟩
   ·rcases h k _ q with y | y
    ·cases y
    ·exact e3 k d2 a y q2
   ·rcases h k _ q with y | y
    ·cases y
    ·exact u k d2 y
   ·rcases h k _ q with y | y
    ·cases y
    ·exact n k d2 y
 od:=R.od.step (λj d e=>by
  rcases h j _ e with z | z
  ·cases z
  ·exact⟨z,rfl⟩) (λ_ h _=>h) (λ_ _ _ h _=>h)
 len:=by rw[hl];exact R.len
 hid:=R.hid
theorem q6I:∀{is:List Nat} {ds:List DV} {δ δ':List Sv},q4E δ is ds=some δ'->(∀i∈is,δ[i]? = some .no\/δ[i]? = none)->∀(i:Nat) sv,δ[i]? = some sv->sv=.no\/δ'[i]? = some sv
 | [],[],_,_,h,_,i,sv,e=>by cases h;exact .inr e
 | j::is,d::ds,δ,δ',h,hn,i,sv,e=>by
  by_cases hij:i∈j::is
  ·rcases hn i hij with z | z
   ·rw[z]at e;cases e;exact .inl rfl
   ·rw[z]at e;cases e
  ·have hne:j≠i:=λz=>hij (by rw[z];exact List.mem_cons_self);have hni:i∉is:=λz=>hij (List.mem_cons_of_mem _ z);have key:∀{is:List Nat} {ds:List DV} {δ δ':List Sv},q4E δ is ds=some δ'->i∉is->δ[i]? = some sv->δ'[i]? = some sv:=by
    intro is
    induction is with
    | nil=>intro ds δ δ' h _ e;cases ds with
     | nil=>cases h;exact e
     | cons _ _=>cases h
    | cons k is ih=>intro ds δ δ' h hi e;cases ds with
     | nil=>cases h
     | cons d ds=>
      refine ih h (λz=>hi (List.mem_cons_of_mem _ z)) ?_;rw[List.getElem?_set_ne (λz=>hi (by rw[z];exact List.mem_cons_self))];exact e
   exact .inr (key h hij e)
 | [],_::_,_,_,h,_,_,_,_=>by cases h
 | _::_,[],_,_,h,_,_,_,_=>by cases h
theorem q6l{tg:Tg}{d:DV}{δ δ':List Sv}(h:tg.bind d δ=some δ')(hn:∀i∈q2V tg,δ[i]? = some .no\/δ[i]? = none):δ.length=δ'.length/\∀(i:Nat) sv,δ[i]? = some sv->sv=.no\/δ'[i]? = some sv:=by
 cases tg with
 | one j=>
  cases h;refine⟨(List.length_set ..).symm,λi sv e=>?_⟩;by_cases hij:i=j
  ·subst hij;rcases hn i (by simp[q2V])with z | z
   ·rw[z]at e;cases e;exact .inl rfl
   ·rw[z]at e;cases e
  ·exact .inr (by rw[List.getElem?_set_ne (Ne.symm hij)];exact e)
 | many is=>
  unfold Tg.bind at h;dsimp only at h;split at h
  ·exact⟨(q1S h).2.symm,q6I h hn⟩
  ·cases h
theorem RSt.inner{D:Dm}{H:Hp}{σ:St}{δ:List Sv}{O W:List Addr}(R:RSt D H σ δ O W)(fr:List (Option Nat))(hnd:∀(j k i:Nat),fr[j]? = some (some i)->fr[k]? = some (some i)->j=k):RSt D H (L2.inner fr σ) (q0K fr δ) O W:=by
 have look:∀(j:Nat) sv,(q0K fr δ)[j]? = some sv->sv ≠ .no->∃i,fr[j]? = some (some i)/\δ[i]? = some sv:=λj sv h hn=>by
  unfold q0K at h;rw[List.getElem?_map]at h;cases q:fr[j]? with
  | none=>rw[q]at h;cases h
  | some o=>
   rw[q]at h;cases o with
   | none=>cases h;exact absurd rfl hn
   | some i=>
    refine⟨i,rfl,?_⟩;have h':(δ.getD i .no).plain=sv:=by simpa using h
    rw[List.getD_eq_getElem?_getD]at h';cases z:δ[i]? with
    | none=>rw[z]at h';exact absurd h'.symm hn
    | some sv'=>
     rw[z]at h';cases sv' with
     | ot d=>exact absurd h'.symm hn
     | o2 d=>exact absurd h'.symm hn
     | od d=>exact congrArg some h'
     | no=>exact congrArg some h'
     | val d=>exact congrArg some h'
     | own d=>exact congrArg some h'
 have sig:∀(j i:Nat) (v:V),fr[j]? = some (some i)->σ[i]? = some (some v)->(L2.inner fr σ)[j]? = some (some v):=λj i v q e=>by unfold L2.inner;rw[List.getElem?_map,q];simp[e]
 have noot:∀(j:Nat) d,(q0K fr δ)[j]? ≠ some (.ot d):=λj d h=>by
  unfold q0K at h;rw[List.getElem?_map]at h;cases q:fr[j]? with
  | none=>rw[q]at h;cases h
  | some o=>
   rw[q]at h;cases o with
   | none=>cases h
   | some i=>
    have h':(δ.getD i .no).plain=.ot d:=by simpa using h
    cases z:δ.getD i .no with
    | ot d2=>rw[z]at h';cases h'
    | o2 d2=>rw[z]at h';cases h'
    | od d2=>rw[z]at h';cases h'
    | no=>rw[z]at h';cases h'
    | val d2=>rw[z]at h';cases h'
    | own d2=>rw[z]at h';cases h'
 have noo2:∀(j:Nat) d,(q0K fr δ)[j]? ≠ some (.o2 d):=λj d h=>by
  unfold q0K at h;rw[List.getElem?_map]at h;cases q:fr[j]? with
  | none=>rw[q]at h;cases h
  | some o=>
   rw[q]at h;cases o with
   | none=>cases h
   | some i=>
    have h':(δ.getD i .no).plain=.o2 d:=by simpa using h
    cases z:δ.getD i .no with
    | ot d2=>rw[z]at h';cases h'
    | o2 d2=>rw[z]at h';cases h'
    | od d2=>rw[z]at h';cases h'
    | no=>rw[z]at h';cases h'
    | val d2=>rw[z]at h';cases h'
    | own d2=>rw[z]at h';cases h'
 refine⟨λj d h=>?_,λj d h=>?_,λj k a d d' h1 h2 e1 e2=>?_,RSt.noot noot,λj d h=>absurd h (noo2 j d),λj d h=>?_,?_,R.hid⟩
 ·obtain⟨i,q1,q2⟩:=look j _ h (by intro z;cases z);obtain⟨v,e1,e2⟩:=R.val i d q2;exact⟨v,sig j i v q1 e1,e2⟩
 ·obtain⟨i,q1,q2⟩:=look j _ h (by intro z;cases z);obtain⟨a,xs,ds,e0,e1,e2⟩:=R.own i d q2;exact⟨a,xs,ds,e0,sig j i _ q1 e1,e2⟩
 ·obtain⟨i,q1,q2⟩:=look j _ h1 (by intro z;cases z);obtain⟨i',q1',q2'⟩:=look k _ h2 (by intro z;cases z);obtain⟨b,xs,ds,_,z1,_⟩:=R.own i d q2;obtain⟨b',xs',ds',_,z1',_⟩:=R.own i' d' q2';have y:=sig j i _ q1 z1;have y':=sig k i' _ q1' z1';rw[e1]at y;rw[e2]at y';cases y;cases y';have:=R.inj i i' a d d' q2 q2' z1 z1';subst this;exact hnd j k i q1 q1'
 ·obtain⟨i,q1,q2⟩:=look j _ h (by intro z;cases z);obtain⟨⟨a,o,e0,e1,e2⟩,u⟩:=R.od i d q2;refine⟨⟨a,o,e0,sig j i _ q1 e1,e2⟩,λk d' z=>?_⟩;obtain⟨i',q1',q2'⟩:=look k _ z (by intro z;cases z);rw[u i' d' q2']at q1';exact hnd k j i q1' q1
 ·unfold L2.inner q0K;rw[List.length_map,List.length_map]
section
variable {X:Cx} {E:St->XK} {δ:List Sv} {iter elt tgE:Expr} {ifs:List Expr} {pos:Pos} {N':List Str} {scope:Scope} {fr:List (Option Nat)} {tg:Tg} {ri:Option Ri} {re:Re}
theorem q7B{D:Dm}{J:It}{ds:List DV}{O W:List Addr}{H H1:Hp}{σ:St}{c:Cl}{g:DV->Option Rc}{xs:List DV}{tc:TT}{te:TE}{δ0:List Sv}{Q:VK}(w:Wk D J ds (hidW O W c) (q1b O W c) H1)(hd0:Hid O W H H)(hc:c ≠ .weak)(R:RSt D H1 σ δ0 O W)
  (hn:∀i∈q2V tg,δ0[i]? = some .no\/δ0[i]? = none) (hz:ds.length<=sizeLine) (hx:q0B g ds=some xs) (s1:Same H H1)
  (step:∀d rc,d∈ds->g d=some rc->∃δ',tg.bind d δ0=some δ'/\∀σ' H2,Same H1 H2->RSt D H2 σ' δ' O W->∀K:Bool->Hp->Prop,(rc=.skip->∀H3,Same H2 H3->K false H3)->(∀x,rc=.item x->∀H3,Same H2 H3->K true H3)->tc σ' H2 K)
  (stepE:∀d x,d∈ds->g d=some (.item x)->∀δ',tg.bind d δ0=some δ'->∀σ' H2,Same H1 H2->RSt D H2 σ' δ' O W->∀K:VK,(∀v H3,Same H2 H3->Rep D (L2.wo (O++W) H3) x v->K v H3)->te σ' H2 K)
  (fin:∀v H',Same H H'->Got D O W H H' (.lst xs) .fresh v->Q v H') :
  z4r J (gT D.K tg) tc te (λys H'=>∀p,H' p=none->Q (.ref p) (upd H' p (.lst ys))) σ H1:=by
 have ci:q1b O W c=O++W:=by cases c<;>first | rfl | exact absurd rfl hc
 rw[ci]at w;refine⟨λi n ys σ' H'=>n=ds.length - i/\i<=ds.length/\ys.length<=i/\RSt D H' σ' δ0 O W/\Same H1 H'/\∃done rest,q0B g (ds.drop i)=some rest/\done++rest=xs/\RepL D (L2.wo (O++W) H') done ys,
  ⟨ds.length,rfl,Nat.zero_le _,Nat.zero_le _,R,Same.refl _,[],xs,hx,rfl,q0s.mpr rfl⟩,?_⟩
 rintro i n ys σ2 H2 ⟨rfl,hi',hy,R2,s2,done,rest,h1,h2,r2⟩
 by_cases hlt:i<ds.length
 ·refine .inr ⟨w.go i H2 s2.wo hlt,Nat.lt_of_le_of_lt hy (Nat.lt_of_lt_of_le hlt hz),λx' H3 y=>?_⟩;have y1:=w.same i H2 x' H3 y;have y3:Rep D (L2.wo (O++W) H3) ds[i] x':=w.yld i H2 x' H3 _ (O++W) s2.wo s2.wo y (List.getElem?_eq_getElem hlt) λa ha=>⟨R2.hid.ot a ha,.inl ha⟩;rw[List.drop_eq_getElem_cons hlt]at h1;have hm:ds[i]∈ds:=List.getElem_mem hlt;unfold q0B at h1;split at h1
  ·cases h1
  ·rename_i q;obtain⟨δ',b1,b2⟩:=step _ _ hm q;refine q6L (R2.mono y1) y3 b1 λσ3 R3=>?_
   have back:=q6l b1 hn;refine b2 σ3 H3 (s2.trans y1) R3 _ (λ_ H4 s4=>?_) (λx z=>nomatch z);show if false=true then _ else _
   rw[if_neg Bool.false_ne_true];exact⟨ds.length - (i+1),by omega,rfl,hlt,Nat.le_succ_of_le hy,(R3.less back.1 back.2).mono s4,(s2.trans y1).trans s4,done,rest,h1,h2,r2.mono (y1.trans s4).wo⟩
  ·rename_i x q;split at h1
   ·cases h1
   ·rename_i rest' q';cases h1;obtain⟨δ',b1,b2⟩:=step _ _ hm q;refine q6L (R2.mono y1) y3 b1 λσ3 R3=>?_
    have back:=q6l b1 hn;refine b2 σ3 H3 (s2.trans y1) R3 _ (λz=>nomatch z) (λx' z H4 s4=>?_);cases z;show if true=true then _ else _
    rw[if_pos rfl];refine stepE _ x hm q δ' b1 σ3 H4 ((s2.trans y1).trans s4) (R3.mono s4) _ λv H5 s5 rv=>?_
    exact⟨ds.length - (i+1),by omega,rfl,hlt,by rw[List.length_append,List.length_singleton];omega,(R3.less back.1 back.2).mono (s4.trans s5),((s2.trans y1).trans s4).trans s5,done++[x],rest',q',by rw[List.append_assoc];exact h2,
     (r2.mono ((y1.trans s4).trans s5).wo).append (RepL.one rv)⟩
 ·have e:i=ds.length:=by omega
  subst e;rw[List.drop_length]at h1;cases h1;rw[List.append_nil]at h2;subst h2;have s0:=s1.trans s2;refine .inl ⟨w.stop H2 s2.wo,λp hp=>fin _ _ (s0.trans (q0m hp)) ?_⟩;have hd:Hid O W H H2:=hd0.mono s0;exact q1J hd hp r2
abbrev E0s:St->XK:=λ_ _ _ _=>False
theorem PE.any{Y:Cx}{e:Expr}{ι:Sort _}{t:ι->TE}(h:∀k,PE Y e (t k)):PE Y e (λσ H Q=>∃k,t k σ H Q):=λpins s σ H Q I ⟨k,q⟩=>h k pins s σ H Q I q
theorem PTs.any{Y:Cx}{ι:Sort _}{es:List Expr}{t:ι->TT}(h:∀k,PTs Y es (t k)):PTs Y es (λσ H Q=>∃k,t k σ H Q):=λpins s σ H Q I ⟨k,q⟩=>h k pins s σ H Q I q
theorem Rc.of_item{r:Option Re}{x:DV}(h:Rc.of r=some (.item x)):∃c,r=some (.ok x c)/\stro x c=true:=by
 unfold Rc.of at h;split at h
 ·rename_i d c;split at h
  ·rename_i m;cases h;exact⟨c,rfl,m⟩
  ·cases h
 ·cases h
theorem Rc.of_skip{r:Option Re}(h:Rc.of r=some .skip):False:=by
 unfold Rc.of at h;split at h
 ·split at h<;>cases h
 ·cases h
theorem q5G{fr:List (Option Nat)}{δ:List Sv}{i:Nat}(h:fr[i]? = some none):(q0K fr δ)[i]? = some .no:=by
 unfold q0K;rw[List.getElem?_map,h];rfl
def q1j(X:Cx)(E:St->XK)(δ:List Sv)(tgE iter:Expr)(ifs:List Expr)(elt:Expr)(scope:Scope)(N':List Str)(fr:List (Option Nat))(tg:Tg)(re:Re):Prop:=
 ∃(x:St->XK) (wi:TI) (tc:TT) (te:XK->TE),z1l X x/\PI X tgE iter wi/\(∀C cells s₂ H₂ fp x1,PTs (q0r X scope N' C cells s₂ H₂ fp x1) ifs tc)/\(∀C cells s₂ H₂ fp x1,PE (q0r X scope N' C cells s₂ H₂ fp x1) elt (te x1)) /\
  ∀σ H Q,dE X.D E δ re σ H Q->z2K fr wi (gT X.K tg) tc (te (x σ)) σ H Q
theorem q5c{iter:Expr}{env:Env}(hset:q3B iter=false):∀x,foldedSetIterable iter env x=pure x:=by cases iter<;>first | (intro _;rfl) | cases hset
theorem q1j.pe(P:q1j X E δ tgE iter ifs elt scope N' fr tg re)(S:CompScope X.N N' scope X.env.scope fr)(hc:X.calm=true)(hG:∀C cells s₂ H₂ fp x1,PG (q0r X scope N' C cells s₂ H₂ fp x1) tgE (gT X.K tg))(hset:q3B iter=false) :
  PE X (.ListComp elt [⟨tgE,iter,ifs,0⟩] scope pos) (dE X.D E δ re):=by
 obtain⟨x,wi,tc,te,hx,h1,h2,h3,h4⟩:=P;exact(z4m (pos:=pos) S hc hx h1 hG h2 h3 (q5c hset)).weak h4
theorem q4s{evElt:List Sv->Option Re}(S:CompScope X.N N' scope X.env.scope fr)(hc:X.calm=true)(hnd:∀(j k i:Nat),fr[j]? = some (some i)->fr[k]? = some (some i)->j=k)(hsl:∀i∈q2V tg,fr[i]? = some none)(hi:∀q,ri=some q->PI X tgE iter (dI X.D E δ q))
  (hG:∀C cells s₂ H₂ fp x1,PG (q0r X scope N' C cells s₂ H₂ fp x1) tgE (gT X.K tg)) (he:∀δ' r,evElt δ'=some r->∀C cells s₂ H₂ fp x1,PE (q0r X scope N' C cells s₂ H₂ fp x1) elt (dE X.D E0s δ' r))
  (h:(Ri.thn ri λds c=>if c=.weak\/mostLen<ds.length then none else q1o (q0B (λd=>(tg.bind d (q0K fr δ)).bind λδ'=>Rc.of (evElt δ')) ds))=some re):q1j X E δ tgE iter [] elt scope N' fr tg re:=by
 cases hri:ri with
 | none=>rw[hri]at h;cases h
 | some q=>
  rw[hri]at h;have A:=hi q hri;refine⟨_,_,_,λ_=>_,q3M,A,(λC cells s₂ H₂ fp x1=>z3Y),(λC cells s₂ H₂ fp x1=>PE.any (ι:={p:List Sv×Re // evElt p.1=some p.2}) (t:=λk=>dE X.D E0s k.1.1 k.1.2) λk=>he k.1.1 k.1.2 k.2 C cells s₂ H₂ fp x1),?_⟩;cases q with
  | ex c=>cases h;exact λσ H Q ⟨O,W,R,p⟩=>⟨O,W,R,p⟩
  | ok ds c=>
   have h':(if c=.weak\/mostLen<ds.length then none else q1o (q0B (λd=>(tg.bind d (q0K fr δ)).bind λδ'=>Rc.of (evElt δ')) ds))=some re:=h;split at h'
   ·cases h'
   ·rename_i m;rw[not_or]at m;unfold q1o at h';split at h'
    ·cases h'
    ·rename_i xs hx;cases h';refine λσ H Q ⟨O,W,R,p⟩=>⟨O,W,R,λJ H1 s1 w=>?_⟩
     refine q7B (tg:=tg) (D:=X.D) w R.hid m.1 ((R.mono s1).inner fr hnd) (λi hi=>.inl (q5G (hsl i hi))) (q1t (by omega)) hx s1 (λd rc hm hg=>?_) (λd x hm hg δ' hb σ' H2 s2 R2 K hK=>?_) p
     ·cases hb:tg.bind d (q0K fr δ)with
      | none=>rw[hb]at hg;cases hg
      | some δ'=>
       rw[hb]at hg;refine⟨δ',rfl,λσ' H2 s2 R2 K k1 k2=>?_⟩;cases rc with
       | skip=>exact(Rc.of_skip hg).elim
       | item x=>exact k2 x rfl H2 (Same.refl _)
     ·rw[hb]at hg;obtain⟨cl,e1,e2⟩:=Rc.of_item hg;exact⟨⟨⟨δ',.ok x cl⟩,e1⟩,O,W,R2,λv H3 s3 g3=>hK v H3 s3 (g3.stro (R2.hid.mono s3) e2)⟩
theorem q4l{evElt:List Sv->Option Re}{evC:List Sv->Option Rt}{cond:Expr}(S:CompScope X.N N' scope X.env.scope fr)(hc:X.calm=true)(hnd:∀(j k i:Nat),fr[j]? = some (some i)->fr[k]? = some (some i)->j=k)(hsl:∀i∈q2V tg,fr[i]? = some none)(hi:∀q,ri=some q->PI X tgE iter (dI X.D E δ q))
  (hG:∀C cells s₂ H₂ fp x1,PG (q0r X scope N' C cells s₂ H₂ fp x1) tgE (gT X.K tg)) (he:∀δ' r,evElt δ'=some r->∀C cells s₂ H₂ fp x1,PE (q0r X scope N' C cells s₂ H₂ fp x1) elt (dE X.D E0s δ' r))
  (ht:∀δ' r,evC δ'=some r->∀C cells s₂ H₂ fp x1,PT (q0r X scope N' C cells s₂ H₂ fp x1) cond (dT X.D E0s δ' r))
  (h:(Ri.thn ri λds c=>if c=.weak\/mostLen<ds.length then none else q1o (q0B (λd=>(tg.bind d (q0K fr δ)).bind λδ'=>Rc.test (evC δ') (Rc.of (evElt δ'))) ds))=some re):q1j X E δ tgE iter [cond] elt scope N' fr tg re:=by
 cases hri:ri with
 | none=>rw[hri]at h;cases h
 | some q=>
  rw[hri]at h;have A:=hi q hri;refine⟨_,_,_,λ_=>_,q3M,A,(λC cells s₂ H₂ fp x1=>PTs.any (ι:={p:List Sv×Rt // evC p.1=some p.2}) (t:=λk=>dT X.D E0s k.1.1 k.1.2) λk=>z3M (ht k.1.1 k.1.2 k.2 C cells s₂ H₂ fp x1)),
   (λC cells s₂ H₂ fp x1=>PE.any (ι:={p:List Sv×Re // evElt p.1=some p.2}) (t:=λk=>dE X.D E0s k.1.1 k.1.2) λk=>he k.1.1 k.1.2 k.2 C cells s₂ H₂ fp x1),?_⟩
  cases q with
  | ex c=>cases h;exact λσ H Q ⟨O,W,R,p⟩=>⟨O,W,R,p⟩
  | ok ds c=>
   have h':(if c=.weak\/mostLen<ds.length then none else q1o (q0B (λd=>(tg.bind d (q0K fr δ)).bind λδ'=>Rc.test (evC δ') (Rc.of (evElt δ'))) ds))=some re:=h;split at h'
   ·cases h'
   ·rename_i m;rw[not_or]at m;unfold q1o at h';split at h'
    ·cases h'
    ·rename_i xs hx;cases h';refine λσ H Q ⟨O,W,R,p⟩=>⟨O,W,R,λJ H1 s1 w=>?_⟩
     refine q7B (tg:=tg) (D:=X.D) w R.hid m.1 ((R.mono s1).inner fr hnd) (λi hi=>.inl (q5G (hsl i hi))) (q1t (by omega)) hx s1 (λd rc hm hg=>?_) (λd x hm hg δ' hb σ' H2 s2 R2 K hK=>?_) p
     ·cases hb:tg.bind d (q0K fr δ)with
      | none=>rw[hb]at hg;cases hg
      | some δ'=>
       rw[hb]at hg;have hg':Rc.test (evC δ') (Rc.of (evElt δ'))=some rc:=hg;refine⟨δ',rfl,λσ' H2 s2 R2 K k1 k2=>?_⟩;unfold Rc.test at hg';split at hg'
       ·rename_i q;refine⟨⟨⟨δ',.ok true⟩,q⟩,O,W,R2,λH3 s3=>?_⟩;cases rc with
        | skip=>exact(Rc.of_skip hg').elim
        | item x=>exact k2 x rfl H3 s3
       ·rename_i q;cases hg';exact⟨⟨⟨δ',.ok false⟩,q⟩,O,W,R2,λH3 s3=>k1 rfl H3 s3⟩
       ·cases hg'
     ·rw[hb]at hg;have hg':Rc.test (evC δ') (Rc.of (evElt δ'))=some (.item x):=hg;unfold Rc.test at hg';split at hg'
      ·obtain⟨cl,e1,e2⟩:=Rc.of_item hg';exact⟨⟨⟨δ',.ok x cl⟩,e1⟩,O,W,R2,λv H3 s3 g3=>hK v H3 s3 (g3.stro (R2.hid.mono s3) e2)⟩
      ·cases hg'
      ·cases hg'
end
end L2
end
noncomputable section
namespace L2
open PySem PySem.Spec PyProof.Rows
theorem Inv.turnedL{X:Cx}{pins:List (Addr×Obj)}{σ:St}{H:Hp}{s:Shared}{h':Heap}{t':Nat}{ch:List Addr}(I:Inv X pins σ H s)(k:∀b o,b∉ch->s.heap.get? b=some o->h'.get? b=some o)(hf:∀b∈ch,FpOk X pins H b):Inv X pins σ H {s with heap:=h',toks:=t'}:=by
 have nit:∀b u,H b=some u->b∉ch:=λb u e z=>by rw[(hf b z).1]at e;cases e
 refine I.step (g':=s.gens) (d':=s.drawn) (ch:=ch) (λb hb=>?_) (λb o _ _ hc e _=>k b o hc e) (λb o _ _ hc e _=>⟨o.slots,k b o hc e⟩) (λ_ _ _ _ n=>n)
  (λb o hc e=>⟨o,k b o hc e⟩) (λ_ _ e=>e) (λ_ _ _ e=>e) (λ_ _ e=>e) (λm hm=>?_) (λb u e=>?_) I.bare
 ·obtain⟨_,f1,_,f3,f4,f5⟩:=hf b hb;exact⟨f3,f1,f4,f5⟩
 ·obtain⟨o,es,ep,ho,r⟩:=hm;exact⟨o,es,ep,k _ o (λz=>(hf _ z).2.1 rfl) ho,r⟩
 ·refine(I.hok b u e).stay (λc v hc q=>k c v ?_ q) (λ_ q=>q) (λ_ _ q=>q) λ_ _ _ _ _ q=>q;rcases hc with z | z
  ·rw[z];exact nit b u e
  ·exact nit c _ z
def SqD(t:Bool)(K:PySem.W.Frag)(H:Hp)(a:Addr)(xs:List V):Prop:=match t with | false=>SqL K H a xs | true=>SqT K H a xs
theorem Same.sqd{t:Bool}{K:PySem.W.Frag}{H H':Hp}{a:Addr}{xs:List V}(e:Same H H')(h:SqD t K H a xs):SqD t K H' a xs:=by
 cases t
 ·exact e.seq h
 ·exact e.tseq h
theorem Inv.sqd{X:Cx}{pins:List (Addr×Obj)}{σ:St}{H:Hp}{s:Shared}{t:Bool}{a:Addr}{xs:List V}(I:Inv X pins σ H s)(h:SqD t X.K H a xs):∃its:List Value,Vals xs its/\SqK t s.heap a its.toArray:=by
 cases t
 ·obtain⟨its,rv,p,_⟩:=I.list h;exact⟨its,rv,p.isList⟩
 ·obtain⟨its,rv,p,_⟩:=I.tuple h;exact⟨its,rv,p⟩
theorem Inv.sqd_inj{X:Cx}{pins:List (Addr×Obj)}{σ:St}{H:Hp}{s:Shared}{t:Bool}{a:Addr}{xs ys:List V}(I:Inv X pins σ H s)(h:SqD t X.K H a xs)(h':SqD t X.K H a ys):xs=ys:=by
 cases t
 ·exact I.list_inj h h'
 ·exact I.tuple_inj h h'
def itK(t:Bool)(h:Heap)(ia la:Addr)(k:Nat):Prop:=match t with | false=>h.IsListIter ia la k | true=>h.IsTupleIter ia la k
theorem z1y{t:Bool}{ia la:Addr}{vs:Array Value}{k:Nat}{h:Heap}(p:itK t h ia la k)(q:SqK t h la vs):sK t ia la vs k h:=by
 cases t<;>exact⟨p,q⟩
theorem z1b{t:Bool}{ia la:Addr}{vs:Array Value}{k:Nat}{h:Heap}(p:sK t ia la vs k h):itK t h ia la k:=by
 cases t<;>exact p.1
theorem q7u{t:Bool}{ia la:Addr}{k:Nat}{h h':Heap}(p:itK t h ia la k)(e:∀o,h.get? ia=some o->h'.get? ia=some o):itK t h' ia la k:=by
 cases t
 ·exact Heap.IsListIter.at p e
 ·obtain⟨o,z,r⟩:=p;exact⟨o,e o z,r⟩
theorem q3c{t:Bool}{ia la:Addr}{k:Nat}{h:Heap}(p:itK t h ia la k):∃o xs,h.get? ia=some o/\o.data=.fields xs:=by
 cases t
 ·obtain⟨o,e,_,d⟩:=p;exact⟨o,_,e,d⟩
 ·obtain⟨o,e,_,d⟩:=p;exact⟨o,_,e,d⟩
theorem SqK.lt{t:Bool}{h:Heap}{a:Addr}{vs:Array Value}(p:SqK t h a vs):a<h.objs.size:=by
 cases t
 ·obtain⟨o,e,_⟩:=p;exact Heap.lt_size e
 ·obtain⟨o,e,_⟩:=p;exact Heap.lt_size e
def Itz(K:PySem.W.Frag)(t1 t2:Bool)(a b:Addr):It:=
  ⟨λi H=>∃xs ys x y,SqD t1 K H a xs/\SqD t2 K H b ys/\xs[i]? = some x/\ys[i]? = some y,
   λi H x H'=>∃p v u,x=.ref p/\H p=none/\(∀xs,SqD t1 K H a xs->xs[i]? = some v)/\(∀ys,SqD t2 K H b ys->ys[i]? = some u)/\H'=upd H p (.tup [v,u]),
   λi H=>∃xs ys,SqD t1 K H a xs/\SqD t2 K H b ys/\(xs.length<=i\/ys.length<=i)⟩
theorem z1x{P:Program}{w:World}{K:PySem.W.Frag}{elts:List Expr}{k:Nat}{pos:Pos}{z TI TO i1 i2 l1 l2:Addr}(t1 t2:Bool)(D:ZipApart z TI TO i1 i2 l1 l2) :
  Turn P w K (.Tuple elts k pos) (Itz K t1 t2 l1 l2) [z,TI,TO,i1,i2] z (λi h=>IsZip h z TI TO .none/\IsPair h TI (.ref i1) (.ref i2)/\(∃a b,IsPair h TO a b)/\itK t1 h i1 l1 i/\itK t2 h i2 l2 i) where
 mem:=by simp
 obj:=λi h st b hb=>by
  obtain⟨hz,hTI,⟨a,a',hTO⟩,h1,h2⟩:=st;simp only[List.mem_cons,List.not_mem_nil,or_false]at hb;rcases hb with rfl | rfl | rfl | rfl | rfl
  ·exact⟨_,hz,λv q=>by cases q⟩
  ·exact⟨_,hTI,λv q=>by cases q⟩
  ·exact⟨_,hTO,λv q=>by cases q⟩
  ·obtain⟨o,xs,e,d⟩:=q3c h1;exact⟨o,e,λv q=>by rw[d]at q;cases q⟩
  ·obtain⟨o,xs,e,d⟩:=q3c h2;exact⟨o,e,λv q=>by rw[d]at q;cases q⟩
 keep:=λi h h' st q=>by obtain⟨hz,hTI,⟨a,a',hTO⟩,h1,h2⟩:=st;exact⟨q z (by simp) _ hz,q TI (by simp) _ hTI,⟨a,a',q TO (by simp) _ hTO⟩,q7u h1 λo e=>q i1 (by simp) o e,q7u h2 λo e=>q i2 (by simp) o e⟩
 item:=by
  intro X hP hw hK hc i pins s σ H E I hf st hg;subst hP hw hK;obtain⟨hz,hTI,⟨a,a',hTO⟩,h1,h2⟩:=st;obtain⟨xs,ys,x,y,q1,q2,hx,hy⟩:=hg;obtain⟨its,rv,p⟩:=I.sqd q1;obtain⟨its2,rv2,p2⟩:=I.sqd q2;obtain⟨u,hu,ru⟩:=rv.get hx;obtain⟨u2,hu2,ru2⟩:=rv2.get hy;refine z0o D (z1T t1 D.l1i1) (z1T t2 D.l2i2) hz hTI hTO (z1y h1 p) (z1y h2 p2) (x:=u) (y:=u2) (by simpa using hu) (by simpa using hu2) λh' a1 a2 a3 a4 a5 a6 a7=>⟨_,rfl,?_⟩
  refine wpAny_letOwnedTupleGo_zip a1 λh2' hz' hs'=>?_;have hsz:s.heap.objs.size≠z:=Nat.ne_of_gt (Heap.lt_size hz);have keep:∀b o,b∉[z,TI,TO,i1,i2]->s.heap.get? b=some o->h2'.get? b=some o:=λb o hb e=>
   hs'.extBut _ _ (λq=>hb (by simp[q])) (a7 b o (λq=>hb (by simp[q])) (λq=>hb (by simp[q])) (λq=>hb (by simp[q])) (λq=>hb (by simp[q])) e)
  have I1:Inv X pins σ H {s with heap:=h2'}:=I.turnedL (t':=s.toks) keep hf;have hn:H s.heap.objs.size=none:=I.hok.fresh (Nat.le_refl _);have f5:=I.fpOk (Nat.le_refl _) hn;have new:h2'.get? s.heap.objs.size=some {cls:=.type "tuple",data:=.seq #[u,u2]}:=hs'.extBut _ _ hsz a5;have h0:X.s₀.heap.get? s.heap.objs.size=none:=Heap.get?_none_of_le I.sz;have I2:Inv X pins σ (upd H s.heap.objs.size (.tup [x,y])) {s with heap:=h2'}:=I1.track hn h0 f5.2.1 (λn c e=>f5.2.2.2.2.1 n c e) (λq hq=>f5.2.2.2.2.2 q hq)
   ⟨by show(2:Nat)<=sizeLine;decide,[u,u2],.cons ru (.cons ru2 .nil),_,new,⟨rfl,rfl⟩,_,rfl⟩
  refine⟨.ref s.heap.objs.size,_,I2,rfl,⟨_,x,y,rfl,hn,λxs' e=>by rw[I.sqd_inj e q1];exact hx,λys' e=>by rw[I.sqd_inj e q2];exact hy,rfl⟩,
   ⟨hz',hs'.extBut _ _ D.TIz (a7 _ _ D.TIz D.TITO D.TIi1 D.TIi2 hTI),⟨_,_,hs'.extBut _ _ D.TOz a2⟩,q7u (z1b a3) (λo e=>hs'.extBut _ _ D.i1z e),q7u (z1b a4) (λo e=>hs'.extBut _ _ D.i2z e)⟩,λb hb=>?_⟩
  have lt:∀b∈[z,TI,TO,i1,i2],b≠s.heap.objs.size:=λb hb=>by
   simp only[List.mem_cons,List.not_mem_nil,or_false]at hb;rcases hb with rfl | rfl | rfl | rfl | rfl
   ·exact Ne.symm hsz
   ·exact Nat.ne_of_lt (Heap.lt_size hTI)
   ·exact Nat.ne_of_lt (Heap.lt_size hTO)
   ·obtain⟨o,_,e,_⟩:=q3c h1;exact Nat.ne_of_lt (Heap.lt_size e)
   ·obtain⟨o,_,e,_⟩:=q3c h2;exact Nat.ne_of_lt (Heap.lt_size e)
  rw[q0f (lt b hb)];exact(hf b hb).1
 done:=by
  intro X hP hw hK hc i pins s σ H E I hf st hg;subst hP hw hK;obtain⟨hz,hTI,⟨a,a',hTO⟩,h1,h2⟩:=st;obtain⟨xs,ys,q1,q2,hx⟩:=hg;obtain⟨its,rv,p⟩:=I.sqd q1;obtain⟨its2,rv2,p2⟩:=I.sqd q2;have e1:=rv.length;have e2:=rv2.length;refine q8U (I.ok.hd hc) D (z1T t1 D.l1i1) (z1T t2 D.l2i2) hz hTI hTO (z1y h1 p) (z1y h2 p2) (by
   rcases hx with q | q
   ·left;simp;omega
   ·right;simp;omega) λh' a7=>⟨rfl,I.turnedL (t':=s.toks) (ch:=[z,TI,TO,i1,i2]) (λb o hb e=>a7 b o (λq=>hb (by simp[q])) (λq=>hb (by simp[q])) (λq=>hb (by simp[q])) (λq=>hb (by simp[q])) e) hf⟩
 self:=λ_ _ _ _ _ st h=>wpAny_pyIter_zip st.1 h
theorem q3r:∀(xs ys:List DV),(zpD xs ys).length=min xs.length ys.length
 | [],ys=>by simp[zpD]
 | _::_,[]=>by simp[zpD]
 | x::xs,y::ys=>by rw[zpD,List.length_cons,q3r xs ys,List.length_cons,List.length_cons];omega
theorem z0h:∀{xs ys:List DV} {i:Nat} {d:DV},(zpD xs ys)[i]? = some d->∃x y,xs[i]? = some x/\ys[i]? = some y/\d=.tup [x,y]
 | [],_,_,_,h=>by simp[zpD]at h
 | _::_,[],_,_,h=>by simp[zpD]at h
 | x::xs,y::ys,0,d,h=>by simp[zpD]at h;exact⟨x,y,rfl,rfl,h.symm⟩
 | x::xs,y::ys,i+1,d,h=>by rw[zpD,List.getElem?_cons_succ]at h;simpa using z0h h
theorem q7W{O W:List Addr}{c c':Cl}:∀b∈hidW O W (Cl.meet c c'),b∈hidW O W c:=by
 cases c<;>cases c'<;>intro b hb<;>first | exact hb | exact List.mem_append_left _ hb
theorem q8s{O W:List Addr}{c c':Cl}:∀b∈hidW O W (Cl.meet c c'),b∈hidW O W c':=by
 cases c<;>cases c'<;>intro b hb<;>first | exact hb | exact List.mem_append_left _ hb
theorem q5m{O W:List Addr}{c c':Cl}:∀b∈q1b O W (Cl.meet c c'),b∈q1b O W c:=by
 cases c<;>cases c'<;>intro b hb<;>first | exact hb | exact List.mem_append_left _ hb
theorem q5a{O W:List Addr}{c c':Cl}:∀b∈q1b O W (Cl.meet c c'),b∈q1b O W c':=by
 cases c<;>cases c'<;>intro b hb<;>first | exact hb | exact List.mem_append_left _ hb
theorem Wk.zip{D:Dm}{ds es:List DV}{Oc Oi:List Addr}{H1:Hp}{a b:Addr}{xs ys:List V}{t1 t2:Bool}(h:SqD t1 D.K (L2.wo Oc H1) a xs)(r:RepL D (L2.wo Oi H1) ds xs)(h':SqD t2 D.K (L2.wo Oc H1) b ys)(r':RepL D (L2.wo Oi H1) es ys):Wk D (Itz D.K t1 t2 a b) (zpD ds es) Oc Oi H1 where
 go:=λi H s hi=>by rw[q3r]at hi;exact⟨xs,ys,xs[i]'(by rw[r.length];omega),ys[i]'(by rw[r'.length];omega),q0Y.sqd (s.sqd h),q0Y.sqd (s.sqd h'),List.getElem?_eq_getElem _,List.getElem?_eq_getElem _⟩
 same:=λi H x H' y=>by obtain⟨p,v,u,_,hp,_,_,e⟩:=y;rw[e];exact q0m hp
 yld:=λi H x H' d O2 s s' y e ho=>by
  obtain⟨p,v,u,ex,hp,y1,y2,eH⟩:=y;obtain⟨d1,d2,q1,q2,rfl⟩:=z0h e;obtain⟨v1,z1,z2⟩:=r.get q1;obtain⟨v2,z3,z4⟩:=r'.get q2;have w1:=y1 xs (q0Y.sqd (s.sqd h));have w2:=y2 ys (q0Y.sqd (s.sqd h'));rw[z1]at w1;cases w1;rw[z3]at w2;cases w2;have hpo:p∉O2:=λz=>(ho p z).1 hp
  subst eH;refine q0C.mpr ⟨p,_,ex,SqT.of (by rw[q0g hpo];exact q0n),?_⟩;have up:Same (L2.wo Oi H1) (L2.wo O2 (upd H p (.tup [v,u]))):=(q9S s' ho).trans (q0m hp).wo;exact q0e.mpr ⟨_,_,rfl,z2.mono up,RepL.one (z4.mono up)⟩
 stop:=λH s=>by refine⟨xs,ys,q0Y.sqd (s.sqd h),q0Y.sqd (s.sqd h'),?_⟩;rw[q3r,r.length,r'.length];omega
section
variable {X:Cx} {E:St->XK} {δ:List Sv} {e e':Expr} {elts:List Expr} {k:Nat} {tpos pos p:Pos} {ra rb:Option Re} {ri:Ri}
theorem q6V{n a b:Nat}(ha:a<n)(hb:b<n):ZipApart (n+4) (n+2) (n+3) n (n+1) a b:=by
 constructor<;>(show @Ne Nat _ _)<;>omega
theorem z5y{ta:TA}(hg:Gl X "zip")(hm:X.mg "zip" = none)(ha:PA X [e,e'] ta)(hs:q0u e=false)(hs':q0u e'=false) :
  PI X (.Tuple elts k tpos) (.Call (.Name "zip" p) [e,e'] [] pos) (λσ H R=>ta σ H λvs H1=>∃t1 t2 a b,vs=[.ref a,.ref b]/\(∃xs,SqD t1 X.K H1 a xs)/\(∃ys,SqD t2 X.K H1 b ys)/\R (Itz X.K t1 t2 a b) H1):=by
 intro pins s σ H R I h;refine Call_ (q3P I hg hm boot_zip (PyProof.Rows.callWith_type1 (thn (ha pos pins s σ H _ I h) λus s1 ⟨vs,H1,I1,r1,q1⟩=>?_) (by rw[q0i hs]) (q2z [e'] (by simp[hs']))));obtain⟨t1,t2,a,b,e1,⟨xs,hx⟩,⟨ys,hy⟩,q⟩:=q1;subst e1;obtain⟨u,u',rfl,ru,ru'⟩:=r1.two;cases ru;cases ru';obtain⟨its,rv,p1⟩:=I1.sqd hx;obtain⟨its2,rv2,p2⟩:=I1.sqd hy;have la:=p1.lt;have lb:=p2.lt;refine z0z t1 t2 p1 p2 λh' z1 z2 z3 z4 z5 z6 z7=>?_
 have I2:Inv X pins σ H1 {s1 with heap:=h'}:=I1.kept (t':=s1.toks) z7;refine wpAny_pyIter_zip z1 ⟨s1.heap.objs.size+4,[s1.heap.objs.size+4,s1.heap.objs.size+2,s1.heap.objs.size+3,s1.heap.objs.size,s1.heap.objs.size+1],_,_,H1,rfl,I2,
  z1x (l1:=a) (l2:=b) t1 t2 (q6V la lb),⟨z1,z2,⟨_,_,z3⟩,z1b z4,z1b z5⟩,λc hc=>?_,q⟩
 have hc':s1.heap.objs.size<=c:=by
  simp only[List.mem_cons,List.not_mem_nil,or_false]at hc;rcases hc with rfl | rfl | rfl | rfl | rfl
  ·exact Nat.le_add_right ..
  ·exact Nat.le_add_right ..
  ·exact Nat.le_add_right ..
  ·exact Nat.le_refl _
  ·exact Nat.le_add_right ..
 exact I1.fpOk hc' (I1.hok.fresh hc')
theorem q5I{D:Dm}{O W:List Addr}{H0 H:Hp}{d:DV}{t:Bool}{ds:List DV}{c:Cl}{v:V}(k:z3C d=some (t,ds))(g:Got D O W H0 H d c v)(hd:Hid O W H0 H):∃a xs,v=.ref a/\SqD t D.K (L2.wo (hidW O W c) H) a xs/\RepL D (L2.wo (q1b O W c) H) ds xs:=by
 cases d<;>cases k
 ·exact g.walkT hd
 ·exact g.walkL hd
theorem z2S(hg:Gl X "zip")(hm:X.mg "zip" = none)(hs:q0u e=false)(hs':q0u e'=false)(ha:∀q,ra=some q->PE X e (dE X.D E δ q))(hb:∀q,rb=some q->PE X e' (dE X.D E δ q))
  (h:q0X (Re.thn ra λx c=>Re.thn rb λy c'=>zipD x y c c')=some ri):PI X (.Tuple elts k tpos) (.Call (.Name "zip" p) [e,e'] [] pos) (dI X.D E δ ri):=by
 have C:=λta tb (hA:PE X e ta) (hB:PE X e' tb)=>z5y (elts:=elts) (k:=k) (tpos:=tpos) (p:=p) (pos:=pos) hg hm (q0T hA (q0T hB q3z (q0i hs')) (q0i hs)) hs hs';cases hra:ra with
 | none=>rw[hra]at h;cases h
 | some q=>
  rw[hra]at h;have A:=ha q hra;cases q with
  | ex c=>cases h;exact(C _ _ A q2S).weak λσ H R' ⟨O,W,R,p⟩=>⟨O,W,R,p⟩
  | ok dx cx=>
   cases hrb:rb with
   | none=>rw[hrb]at h;cases h
   | some q=>
    rw[hrb]at h;have B:=hb q hrb;cases q with
    | ex c=>cases h;exact(C _ _ A B).weak λσ H R' ⟨O,W,R,p⟩=>⟨O,W,R,λx H1 s1 g1=>⟨O,W,R.mono s1,λH' C m s=>p H' C m (s1.trans s)⟩⟩
    | ok dy cy=>
     have h':q0X (zipD dx dy cx cy)=some ri:=h;unfold zipD at h';split at h'
     ·rename_i t1 ds1 t2 ds2 k1 k2;cases h';exact(C _ _ A B).weak λσ H R' ⟨O,W,R,p⟩=>⟨O,W,R,λx H1 s1 g1=>⟨O,W,R.mono s1,λy H2 s2 g2=>by
       have hd:=(R.hid.mono s1).mono s2;obtain⟨a,xs,e1,e2,e3⟩:=q5I k1 (g1.mono s2) hd;obtain⟨b,ys,e1',e2',e3'⟩:=q5I k2 (g2.since s1) hd;refine⟨t1,t2,a,b,by rw[e1,e1'],⟨xs,q0Y.sqd e2⟩,⟨ys,q0Y.sqd e2'⟩,p _ H2 (s1.trans s2) (.zip ((q0D q7W).sqd e2) (e3.mono (q0D q5m)) ((q0D q8s).sqd e2') (e3'.mono (q0D q5a)))⟩⟩⟩
     ·cases h'
end
end L2
end
noncomputable section
namespace L2
open PySem PySem.Spec PyProof.Rows
def dEnd(D:Dm)(E:St->XK)(H0:Hp)(O:List Addr)(Dn:Ends):Out->Prop
 | .nx δ=>∀σ H W,RSt D H σ δ O W->(∀a∈W,H0 a=none)->Same H0 H->Dn.nx σ H
 | .rt d fr=>∀v H,Same H0 H->GotR D O H0 H d fr v->Dn.rt v H
 | .rtt d=>∀v H,Same H0 H->GotT D O H0 H d v->Dn.rt v H
 | .ex c δ=>∀σ H W C,D.mg c=some C->RSt D H σ δ O W->(∀a∈W,H0 a=none)->Same H0 H->E σ C none H
 | .rtm d s=>∀v H a o,Same H0 H->OdOk s a o->H a=some o->Rep D (L2.wo (O++[a]) H) d v->Dn.rt v H
def dS(D:Dm)(E:St->XK)(δ:List Sv)(o:Out):TS:=λDn σ H=>∃H0 O W,RSt D H σ δ O W/\(∀a∈W,H0 a=none)/\(∀a∈O,H0 a≠none)/\Same H0 H/\dEnd D E H0 O Dn o
section
variable {X:Cx} {E:St->XK} {δ δ1:List Sv} {st:Stmt} {rest body els:List Stmt} {o:Out} {e c:Expr} {pos pos':Pos} {ra:Option Re} {rt:Option Rt} {i:Nat} {x:Str}
theorem z3N:PSs X [] (dS X.D E δ (.nx δ)):=q2L.weak λDn σ H ⟨H0,O,W,R,fr,fo,sm,k⟩=>k σ H W R fr sm
theorem z1F(h1:PS X st (dS X.D E δ (.nx δ1)))(h2:PSs X rest (dS X.D E δ1 o)):PSs X (st::rest) (dS X.D E δ o):=
 (q0E h1 h2).weak λDn σ H ⟨H0,O,W,R,fr,fo,sm,k⟩=>⟨H0,O,W,R,fr,fo,sm,λσ' H' W' R' fr' sm'=>⟨H0,O,W',R',fr',fo,sm',k⟩⟩
theorem z5w{d:DV}{fr:Bool}(h1:PS X st (dS X.D E δ (.rt d fr))):PSs X (st::rest) (dS X.D E δ (.rt d fr)):=
 (q0E h1 q0w).weak λDn σ H ⟨H0,O,W,R,fr,fo,sm,k⟩=>⟨H0,O,W,R,fr,fo,sm,k⟩
theorem z4j{d:DV}(h1:PS X st (dS X.D E δ (.rtt d))):PSs X (st::rest) (dS X.D E δ (.rtt d)):=
 (q0E h1 q0w).weak λDn σ H ⟨H0,O,W,R,fr,fo,sm,k⟩=>⟨H0,O,W,R,fr,fo,sm,k⟩
theorem z3P{d s:DV}(h1:PS X st (dS X.D E δ (.rtm d s))):PSs X (st::rest) (dS X.D E δ (.rtm d s)):=
 (q0E h1 q0w).weak λDn σ H ⟨H0,O,W,R,fr,fo,sm,k⟩=>⟨H0,O,W,R,fr,fo,sm,k⟩
theorem z6l{c:Str}{δ':List Sv}(h1:PS X st (dS X.D E δ (.ex c δ'))):PSs X (st::rest) (dS X.D E δ (.ex c δ')):=
 (q0E h1 q0w).weak λDn σ H ⟨H0,O,W,R,fr,fo,sm,k⟩=>⟨H0,O,W,R,fr,fo,sm,k⟩
theorem q5v{D:Dm}{H0 H:Hp}{O W:List Addr}{σ:St}{Dn:Ends}{c:Str}{Q:VK}(R:RSt D H σ δ O W)(fr:∀a∈W,H0 a=none)(sm:Same H0 H)(k:dEnd D E H0 O Dn (.ex c δ)):Post D E σ O W H H Q (.ex c):=
 λH' C m s=>k σ H' W C m (R.mono s) fr (sm.trans s)
theorem z4C(hc:∀q,rt=some q->PT X c (dT X.D E δ q)){ro rp:Option Out}(h1:∀q,ro=some q->PSs X body (dS X.D E δ q))(h2:∀q,rp=some q->PSs X els (dS X.D E δ q))(h:(Rt.thnS δ rt λk=>if k then ro else rp)=some o):PS X (.If c body els pos) (dS X.D E δ o):=by
 cases hrt:rt with
 | none=>rw[hrt]at h;cases h
 | some q=>
  rw[hrt]at h;have C:=hc q hrt;cases q with
  | ex c=>cases h;exact(q5S C q0w q0w).weak λDn σ H ⟨H0,O,W,R,fr,fo,sm,k⟩=>⟨O,W,R,λH' C m s=>k σ H' W C m (R.mono s) fr (sm.trans s)⟩
  | ok b=>
   cases b with
   | true=>
    have h':ro=some o:=h;exact(q5S C (h1 o h') q0w).weak λDn σ H ⟨H0,O,W,R,fr,fo,sm,k⟩=>⟨O,W,R,λH1 s1=>iteT ⟨H0,O,W,R.mono s1,fr,fo,sm.trans s1,k⟩⟩
   | false=>
    have h':rp=some o:=h;exact(q5S C q0w (h2 o h')).weak λDn σ H ⟨H0,O,W,R,fr,fo,sm,k⟩=>⟨O,W,R,λH1 s1=>iteF ⟨H0,O,W,R.mono s1,fr,fo,sm.trans s1,k⟩⟩
theorem z2J(ha:∀q,ra=some q->PE X e (dE X.D E δ q))(h:(Re.thnS δ ra λd c=>some (retD d c))=some o):PS X (.Return (some e) pos) (dS X.D E δ o):=by
 cases hra:ra with
 | none=>rw[hra]at h;cases h
 | some q=>
  rw[hra]at h;have A:=ha q hra;cases q with
  | ex c=>cases h;exact(q4B A).weak λDn σ H ⟨H0,O,W,R,fr,fo,sm,k⟩=>⟨O,W,R,q5v R fr sm k⟩
  | ok d cl=>
   have h2:some (retD d cl)=some o:=h;cases h2;by_cases hft:cl=.ft
   ·subst hft;refine(q4B A).weak λDn σ H ⟨H0,O,W,R,fr,fo,sm,k⟩=>⟨O,W,R,λv H1 s1 g=>(k:dEnd X.D E H0 O Dn (.rtt d)) v H1 (sm.trans s1) ?_⟩
    obtain⟨t,ts,p,xs,ds,es,e1,e2,e0,e3,e4,e5,e6⟩:=g;have up:Same (L2.wo (p::(O++W)) H1) (L2.wo (p::O) H1):=q0D λb hb=>by rcases List.mem_cons.mp hb with z | z;exact List.mem_cons.mpr (.inl z);exact List.mem_cons_of_mem _ (List.mem_append_left _ z)
    exact .inl ⟨t,ts,p,xs,ds,es,e1,e2,(q0D q5O).tseq e0,sm.free e3,e4,e5.mono up,e6.mono up⟩
   have hrt:retD d cl=.rt d (frD d cl):=by cases cl<;>first | rfl | exact absurd rfl hft
   rw[hrt];refine(q4B A).weak λDn σ H ⟨H0,O,W,R,fr,fo,sm,k⟩=>⟨O,W,R,λv H1 s1 g=>(k:dEnd X.D E H0 O Dn (.rt d (frD d cl))) v H1 (sm.trans s1) ?_⟩
   have hd:=R.hid.mono s1;cases hf:frD d cl with
   | false=>exact g.weak hd
   | true=>
    unfold frD at hf;split at hf
    ·obtain⟨p,xs,ds,e1,e2,e3,e4,e5⟩:=g;exact⟨p,xs,ds,e1,e2,sm.free e3,e4,e5.mono (q0D λb hb=>by rcases List.mem_cons.mp hb with z | z;exact List.mem_cons.mpr (.inl z);exact List.mem_cons_of_mem _ (List.mem_append_left _ z))⟩
    ·obtain⟨a,xs,e1,e0,e2,e3⟩:=g;exact⟨a,xs,_,e1,rfl,fr a e0,q0Y _ _ e2,e3.mono (q0D λb hb=>by rcases List.mem_cons.mp hb with z | z;rw[z];exact List.mem_append_right _ e0;exact List.mem_append_left _ z)⟩
    ·cases hf
theorem q3n{v:Expr}{t:Option Expr}{l:Nat}{env:Env}(h:q4D v=false):swapsWith v t l env=pure false:=by
 cases v<;>first | rfl | cases h
theorem q1v{O W:List Addr}{p b:Addr}:b∈O++p::W↔b∈p::(O++W):=by
 simp only[List.mem_append,List.mem_cons];constructor
 ·rintro(h | h | h)
  ·exact .inr (.inl h)
  ·exact .inl h
  ·exact .inr (.inr h)
 ·rintro(h | h | h)
  ·exact .inr (.inl h)
  ·exact .inl h
  ·exact .inr (.inr h)
theorem q0c{α:Type}{l:List α}{i j:Nat}{a b:α}(h:(l.set i a)[j]? = some b)(hn:a≠b):j≠i:=λz=>by
 subst z;have hl:j<l.length:=by have:=(List.getElem?_eq_some_iff.mp h).1;rw[List.length_set]at this;exact this
 rw[List.getElem?_set_self hl]at h;exact hn (Option.some.inj h)
theorem q3b{α:Type}{l:List α}{i:Nat}{a b:α}(h:(l.set i a)[i]? = some b):i<l.length/\a=b:=by
 have hl:i<l.length:=(by have:=(List.getElem?_eq_some_iff.mp h).1;rw[List.length_set]at this;exact this);rw[List.getElem?_set_self hl]at h;exact⟨hl,Option.some.inj h⟩
theorem RSt.alloc{D:Dm}{H H':Hp}{σ:St}{O W:List Addr}{p:Addr}{xs:List V}{ds:List DV}(R:RSt D H σ δ O W)(s:Same H H')(hp:H p=none)(hp':H' p=some (.lst xs))(r:RepL D (L2.wo (p::(O++W)) H') ds xs)(i:Nat) :
  RSt D H' (σ.set i (some (.ref p))) (δ.set i (.own (.lst ds))) O (p::W):=by
 have old:Same (L2.wo (O++W) H) (L2.wo (O++p::W) H'):=λb o e=>by obtain⟨hb,e⟩:=q0v e;have hbp:b≠p:=q0p e hp;rw[q0g (λz=>by rcases List.mem_cons.mp (q1v.mp z)with z | z;exact hbp z;exact hb z)];exact s b o e
 have eqv:Same (L2.wo (p::(O++W)) H') (L2.wo (O++p::W) H'):=q0D λb hb=>q1v.mp hb;refine⟨λj d h=>?_,λj ds' h=>?_,λj k a d1 d2 h1 h2 e1 e2=>?_,?_,λj d h=>by
   have hj:=q0c h (by intro z;cases z);rw[List.getElem?_set_ne (Ne.symm hj)]at h ⊢;obtain⟨⟨p1,L,e0,e1,e2,e3⟩,u,n⟩:=R.o2 j d h;refine⟨⟨p1,L,e0,e1,(e2.mono s).sub λa _ ha=>List.mem_cons_of_mem _ ha,λk d2 a q q2=>?_⟩,λk d2 q=>?_,λk d2 q=>?_⟩
   ·by_cases hk:k=i
    ·subst hk;obtain⟨_,z⟩:=q3b q2;cases z;intro z;obtain⟨_,ys,w⟩:=e2.dom z;rw[hp]at w;cases w
    ·rw[List.getElem?_set_ne (Ne.symm hk)]at q q2;exact e3 k d2 a q q2
   ·have hk:=q0c q (by intro z;cases z);rw[List.getElem?_set_ne (Ne.symm hk)]at q;exact u k d2 q
   ·have hk:=q0c q (by intro z;cases z);rw[List.getElem?_set_ne (Ne.symm hk)]at q;exact n k d2 q,R.od.step (q7l _ (by intro d z;cases z)) (λ_ h _=>List.mem_cons_of_mem _ h) (λa kvs _ h _=>s _ _ h),by rw[List.length_set,List.length_set];exact R.len,⟨λa ha=>?_,Same.refl _,λa ha=>?_,λa ha=>?_,R.hid.omS s⟩⟩
 ·have hj:=q0c h (by intro z;cases z);rw[List.getElem?_set_ne (Ne.symm hj)]at h ⊢;obtain⟨v,e1,e2⟩:=R.val j d h;exact⟨v,e1,e2.mono old⟩
 ·by_cases hj:j=i
  ·subst hj;obtain⟨hl,e⟩:=q3b h;cases e;exact⟨p,xs,ds,rfl,List.getElem?_set_self (by rw[R.len];exact hl),List.mem_cons_self,hp',r.mono eqv⟩
  ·rw[List.getElem?_set_ne (Ne.symm hj)]at h ⊢;obtain⟨a,ys,ds1,e0,e1,e2,e3,e4⟩:=R.own j ds' h;exact⟨a,ys,ds1,e0,e1,List.mem_cons_of_mem _ e2,s _ _ e3,e4.mono old⟩
 ·have key:∀{j:Nat} {d1:DV},(δ.set i (.own (.lst ds)))[j]? = some (.own d1)->(σ.set i (some (.ref p)))[j]? = some (some (V.ref a))->(j=i/\a=p)\/(j≠i/\δ[j]? = some (.own d1)/\σ[j]? = some (some (V.ref a))/\a≠p):=λ{j d1} h e=>by
   by_cases hj:j=i
   ·subst hj;obtain⟨_,z⟩:=q3b e;cases z;exact .inl ⟨rfl,rfl⟩
   ·rw[List.getElem?_set_ne (Ne.symm hj)]at h e;refine .inr ⟨hj,h,e,λz=>?_⟩;obtain⟨a',ys,ds1,_,q1,_,q3,_⟩:=R.own j d1 h;rw[e]at q1;cases q1;rw[z,hp]at q3;cases q3
  rcases key h1 e1 with⟨z1,z2⟩ | ⟨z1,z2,z3,z4⟩<;>rcases key h2 e2 with⟨y1,y2⟩ | ⟨y1,y2,y3,y4⟩
  ·rw[z1,y1]
  ·exact absurd z2 y4
  ·exact absurd y2 z4
  ·exact R.inj j k a d1 d2 z2 y2 z3 y3
 ·obtain⟨P,f,u⟩:=R.ot;refine⟨P,λj d h=>?_,λj k d1 d2 h1 h2=>?_⟩
  ·have hj:=q0c h (by intro z;cases z);rw[List.getElem?_set_ne (Ne.symm hj)]at h ⊢;obtain⟨t,ts,e1,e2,e3,e4⟩:=f j d h;refine⟨t,ts,e1,old.tseq e2,e3.mono old λp1 _ ys q=>s _ _ q,λp1 hp1=>⟨List.mem_cons_of_mem _ (e4 p1 hp1).1,(e4 p1 hp1).2.1.imp λys q=>s _ _ q,λk d2 q=>?_⟩⟩;by_cases hk:k=i
   ·subst hk;intro z;obtain⟨_,z⟩:=q3b z;obtain⟨ys,y⟩:=(e4 p1 hp1).2.1;cases z;rw[hp]at y;cases y
   ·rw[List.getElem?_set_ne (Ne.symm hk)]at q ⊢;exact(e4 p1 hp1).2.2 k d2 q
  ·rw[List.getElem?_set_ne (Ne.symm (q0c h1 (by intro z;cases z)))]at h1;rw[List.getElem?_set_ne (Ne.symm (q0c h2 (by intro z;cases z)))]at h2;exact u j k d1 d2 h1 h2
 ·rcases List.mem_cons.mp (q1v.mp ha)with z | z
  ·rw[z,hp'];intro q;cases q
  ·intro q;exact R.hid.ot a z (s.free q)
 ·rcases List.mem_cons.mp ha with z | z
  ·exact⟨_,by rw[z];exact hp',rfl⟩
  ·obtain⟨ys,q,m⟩:=R.hid.wl a z;exact⟨ys,s _ _ q,m⟩
 ·rcases List.mem_cons.mp ha with z | z
  ·intro q;exact R.hid.ot p (List.mem_append_left _ (by rw[←z];exact q)) hp
  ·exact R.hid.dj a z
theorem q9N{i:Nat}{δ:List Sv}(h:noOt i δ=true){j:Nat}{d:DV}(q:δ[j]? = some (.ot d)):j=i:=by
 unfold noOt at h;rw[List.all_eq_true]at h;have hj:j<δ.length:=(List.getElem?_eq_some_iff.mp q).1;have:=h j (List.mem_range.mpr hj);rw[q]at this;simpa using this
theorem q9i{i:Nat}{δ:List Sv}(h:noOt i δ=true){j:Nat}{d:DV}(q:δ[j]? = some (.o2 d)):j=i:=by
 unfold noOt at h;rw[List.all_eq_true]at h;have hj:j<δ.length:=(List.getElem?_eq_some_iff.mp q).1;have:=h j (List.mem_range.mpr hj);rw[q]at this;simpa using this
theorem q8Q{i:Nat}{δ:List Sv}(h:noOt i δ=true){j:Nat}{d:DV}(q:δ[j]? = some (.od d)):j=i:=by
 unfold noOt at h;rw[List.all_eq_true]at h;have hj:j<δ.length:=(List.getElem?_eq_some_iff.mp q).1;have:=h j (List.mem_range.mpr hj);rw[q]at this;simpa using this
theorem RSt.allocT{D:Dm}{H H':Hp}{σ:St}{O W:List Addr}{t p:Addr}{ts xs:List V}{ds es:List DV}(R:RSt D H σ δ O W)(s:Same H H')(ht:SqT D.K (L2.wo (O++W) H') t (.ref p::ts))(hp:H p=none)(hp':H' p=some (.lst xs))(r:RepL D (L2.wo (p::(O++W)) H') ds xs)(r2:RepL D (L2.wo (p::(O++W)) H') es ts)(i:Nat)(hno:noOt i δ=true) :
  RSt D H' (σ.set i (some (.ref t))) (δ.set i (.ot (.tup (.lst ds::es)))) O (p::W):=by
 have old:Same (L2.wo (O++W) H) (L2.wo (O++p::W) H'):=λb o e=>by obtain⟨hb,e⟩:=q0v e;have hbp:b≠p:=q0p e hp;rw[q0g (λz=>by rcases List.mem_cons.mp (q1v.mp z)with z | z;exact hbp z;exact hb z)];exact s b o e
 have eqv:Same (L2.wo (p::(O++W)) H') (L2.wo (O++p::W) H'):=q0D λb hb=>q1v.mp hb;have ht':SqT D.K (L2.wo (O++p::W) H') t (.ref p::ts):=by
  have ne:∀{o:HO},L2.wo (O++W) H' t=some o->(∀ys,o ≠ .lst ys)->L2.wo (O++p::W) H' t=some o:=λ{o} e ho=>by
   obtain⟨hb,e⟩:=q0v e;rw[q0g (λz=>by
    rcases List.mem_cons.mp (q1v.mp z)with z | z
    ·rw[z,hp']at e;cases e;exact ho _ rfl
    ·exact hb z)]
   exact e
  rcases ht with(h | ⟨o,h⟩) | h
  ·exact .inl (.inl (ne h (by intro ys z;cases z)))
  ·exact .inl (.inr ⟨o,ne h (by intro ys z;cases z)⟩)
  ·exact .inr h
 refine⟨λj d h=>?_,λj ds' h=>?_,λj k a d1 d2 h1 h2 e1 e2=>?_,?_,λj d h=>absurd (q9i hno (by have hj:=q0c h (by intro z;cases z);rw[List.getElem?_set_ne (Ne.symm hj)]at h;exact h)) (q0c h (by intro z;cases z)),R.od.step (q7l _ (by intro d z;cases z)) (λ_ h _=>List.mem_cons_of_mem _ h) (λa kvs _ h _=>s _ _ h),by rw[List.length_set,List.length_set];exact R.len,⟨λa ha=>?_,Same.refl _,λa ha=>?_,λa ha=>?_,R.hid.omS s⟩⟩
 ·have hj:=q0c h (by intro z;cases z);rw[List.getElem?_set_ne (Ne.symm hj)]at h ⊢;obtain⟨v,e1,e2⟩:=R.val j d h;exact⟨v,e1,e2.mono old⟩
 ·have hj:=q0c h (by intro z;cases z);rw[List.getElem?_set_ne (Ne.symm hj)]at h ⊢;obtain⟨a,ys,ds1,e0,e1,e2,e3,e4⟩:=R.own j ds' h;exact⟨a,ys,ds1,e0,e1,List.mem_cons_of_mem _ e2,s _ _ e3,e4.mono old⟩
 ·have n1:=q0c h1 (by intro z;cases z);have n2:=q0c h2 (by intro z;cases z);rw[List.getElem?_set_ne (Ne.symm n1)]at h1 e1;rw[List.getElem?_set_ne (Ne.symm n2)]at h2 e2;exact R.inj j k a d1 d2 h1 h2 e1 e2
 ·have at':∀{j:Nat} {d:DV},(δ.set i (.ot (.tup (.lst ds::es))))[j]? = some (.ot d)->j=i:=λ{j d} h=>by
   by_cases hj:j=i
   ·exact hj
   ·rw[List.getElem?_set_ne (Ne.symm hj)]at h;exact q9N hno h
  refine⟨λ_=>[p],λj d h=>?_,λj k d1 d2 h1 h2 ne=>absurd ((at' h1).trans (at' h2).symm) ne⟩;have hj:=at' h;subst hj;obtain⟨hl,e⟩:=q3b h;cases e;refine⟨t,_,List.getElem?_set_self (by rw[R.len];exact hl),ht',.inl ⟨p,xs,ds,es,ts,rfl,rfl,rfl,hp',r.mono eqv,r2.mono eqv⟩,λp1 hp1=>?_⟩;rw[List.mem_singleton.mp hp1];refine⟨List.mem_cons_self,⟨xs,hp'⟩,λk d2 q=>?_⟩;have hk:=q0c q (by intro z;cases z);rw[List.getElem?_set_ne (Ne.symm hk)]at q ⊢;intro z;obtain⟨a,ys,ds1,f0,f1,f2,f3,f4⟩:=R.own k d2 q;rw[z]at f1;cases f1;rw[hp]at f3;cases f3
 ·rcases List.mem_cons.mp (q1v.mp ha)with z | z
  ·rw[z,hp'];intro q;cases q
  ·intro q;exact R.hid.ot a z (s.free q)
 ·rcases List.mem_cons.mp ha with z | z
  ·exact⟨_,by rw[z];exact hp',rfl⟩
  ·obtain⟨ys,q,m⟩:=R.hid.wl a z;exact⟨ys,s _ _ q,m⟩
 ·rcases List.mem_cons.mp ha with z | z
  ·intro q;exact R.hid.ot p (List.mem_append_left _ (by rw[←z];exact q)) hp
  ·exact R.hid.dj a z
theorem RSt.write{D:Dm}{H:Hp}{σ:St}{O W:List Addr}{a:Addr}{xs':List V}{ds ds':List DV}(R:RSt D H σ δ O W)(hi:δ[i]? = some (.own (.lst ds)))(ha:σ[i]? = some (some (.ref a)))(r:RepL D (L2.wo (O++W) H) ds' xs') :
  RSt D (upd H a (.lst xs')) σ (δ.set i (.own (.lst ds'))) O W:=by
 obtain⟨a',xs,ds0,e0,e1,e2,e3,e4⟩:=R.own i _ hi;rw[ha]at e1;cases e1;have old:Same (L2.wo (O++W) H) (L2.wo (O++W) (upd H a (.lst xs'))):=λb o e=>by obtain⟨hb,e⟩:=q0v e;rw[q0g hb,q0f λz=>hb (by rw[z];exact List.mem_append_right _ e2)];exact e
 have hl:i<δ.length:=(List.getElem?_eq_some_iff.mp hi).1;refine⟨λj d h=>?_,λj ds'' h=>?_,λj k b d1 d2 h1 h2 q1 q2=>?_,?_,λj d h=>by
   have hj:=q0c h (by intro z;cases z);rw[List.getElem?_set_ne (Ne.symm hj)]at h;obtain⟨⟨p1,L,f0,f1,f2,f3⟩,u,n⟩:=R.o2 j d h;refine⟨⟨p1,L,f0,f1,f2.write (f3 i _ a hi ha),λk d2 b q q2=>?_⟩,λk d2 q=>?_,λk d2 q=>?_⟩
   ·by_cases hk:k=i
    ·subst hk;exact f3 k _ b hi q2
    ·rw[List.getElem?_set_ne (Ne.symm hk)]at q;exact f3 k d2 b q q2
   ·have hk:=q0c q (by intro z;cases z);rw[List.getElem?_set_ne (Ne.symm hk)]at q;exact u k d2 q
   ·have hk:=q0c q (by intro z;cases z);rw[List.getElem?_set_ne (Ne.symm hk)]at q;exact n k d2 q,R.od.step (z0d (by intro d z;cases z)) (λ_ h _=>h) (λb kvs _ h m=>by rw[q0f (λz=>by rw[z,e3]at h;cases h;cases m)];exact h),by rw[List.length_set];exact R.len,⟨λb hb q=>?_,Same.refl _,λb hb=>?_,R.hid.dj,R.hid.omW (by assumption)⟩⟩
 ·have hj:=q0c h (by intro z;cases z);rw[List.getElem?_set_ne (Ne.symm hj)]at h;obtain⟨v,q1,q2⟩:=R.val j d h;exact⟨v,q1,q2.mono old⟩
 ·by_cases hj:j=i
  ·subst hj;obtain⟨_,e⟩:=q3b h;cases e;exact⟨a,xs',ds',rfl,ha,e2,q0n,r.mono old⟩
  ·rw[List.getElem?_set_ne (Ne.symm hj)]at h;obtain⟨b,ys,ds1,q0,q1,q2,q3,q4⟩:=R.own j ds'' h;refine⟨b,ys,ds1,q0,q1,q2,?_,q4.mono old⟩;rw[q0f λz=>hj (R.inj j i a ds'' _ h hi (by rw[←z];exact q1) ha)];exact q3
 ·have key:∀{j:Nat} {d1:DV},(δ.set i (.own (.lst ds')))[j]? = some (.own d1)->∃d0,δ[j]? = some (.own d0):=λ{j d1} h=>by
   by_cases hj:j=i
   ·subst hj;exact⟨_,hi⟩
   ·rw[List.getElem?_set_ne (Ne.symm hj)]at h;exact⟨d1,h⟩
  obtain⟨d1',z1⟩:=key h1;obtain⟨d2',z2⟩:=key h2;exact R.inj j k b d1' d2' z1 z2 q1 q2
 ·obtain⟨P,f,u⟩:=R.ot;refine⟨P,λj d h=>?_,λj k d1 d2 h1 h2=>?_⟩
  ·have hj:=q0c h (by intro z;cases z);rw[List.getElem?_set_ne (Ne.symm hj)]at h;obtain⟨t,ts,f1,f2,f3,f4⟩:=f j d h;have un:∀p1∈P j,∀ys,H p1=some (.lst ys)->upd H a (.lst xs') p1=some (.lst ys):=λp1 hp1 ys q=>by
    rw[q0f λz=>(f4 p1 hp1).2.2 i _ hi (by rw[z];exact ha)];exact q
   refine⟨t,ts,f1,old.tseq f2,f3.mono old un,λp1 hp1=>⟨(f4 p1 hp1).1,(f4 p1 hp1).2.1.imp λys q=>un p1 hp1 ys q,λk d2 q=>?_⟩⟩;by_cases hk:k=i
   ·subst hk;exact(f4 p1 hp1).2.2 k _ hi
   ·rw[List.getElem?_set_ne (Ne.symm hk)]at q;exact(f4 p1 hp1).2.2 k d2 q
  ·rw[List.getElem?_set_ne (Ne.symm (q0c h1 (by intro z;cases z)))]at h1;rw[List.getElem?_set_ne (Ne.symm (q0c h2 (by intro z;cases z)))]at h2;exact u j k d1 d2 h1 h2
 ·by_cases hba:b=a
  ·rw[hba,q0n]at q;cases q
  ·rw[q0f hba]at q;exact R.hid.ot b hb q
 ·by_cases hba:b=a
  ·exact⟨_,by rw[hba];exact q0n,rfl⟩
  ·obtain⟨ys,q,m⟩:=R.hid.wl b hb;exact⟨ys,by rw[q0f hba];exact q,m⟩
theorem q3t{H0 H:Hp}{a:Addr}{o:HO}(h:Same H0 H)(ha:H0 a=none):Same H0 (upd H a o):=λb u e=>by
 rw[q0f (q0p e ha)];exact h b u e
theorem z2n{Dn:Ends}{σ:St}{H H0:Hp}{O W:List Addr}{own:Bool}{d:DV}{cl:Cl}{D:Dm}(h:(if own then q4a i δ d cl else(if stro d cl then some (.nx (δ.set i (.val d)))else none))=some o)
  (R:RSt D H σ δ O W) (fr:∀a∈W,H0 a=none) (sm:Same H0 H) (k:dEnd D E H0 O Dn o):∀v H',Same H H'->Got D O W H H' d cl v->Dn.nx (σ.set i (some v)) H':=λv H1 s1 g=>by
 cases own with
 | true=>
  simp only[if_true]at h;unfold q4a at h;split at h
  ·cases h;obtain⟨p,xs,ds,e1,e2,e3,e4,e5⟩:=g;subst e1 e2;exact k _ H1 (p::W) (R.alloc s1 e3 e4 e5 i) (λa ha=>by
    rcases List.mem_cons.mp ha with z | z
    ·rw[z];exact sm.free e3
    ·exact fr a z) (sm.trans s1)
  ·split at h
   ·rename_i hno;cases h;obtain⟨t,ts,p,xs,ds,es,e1,e2,e0,e3,e4,e5,e6⟩:=g;subst e1 e2;exact k _ H1 (p::W) (R.allocT s1 e0 e3 e4 e5 e6 i hno) (λa ha=>by
     rcases List.mem_cons.mp ha with z | z
     ·rw[z];exact sm.free e3
     ·exact fr a z) (sm.trans s1)
   ·cases h
  ·cases h
 | false=>
  simp only[Bool.false_eq_true,if_false]at h;split at h
  ·rename_i m;cases h;exact k _ H1 W ((R.mono s1).setVal (g.stro (R.hid.mono s1) m) i) fr (sm.trans s1)
  ·cases h
theorem q9r{own:Bool}(hN:X.N.Nodup)(hi:X.N[i]? = some x)(hx:Loc X.env.scope x)(hf:X.fn x=true\/X.env.scope.names.lookup x=some .local)(ha:∀q,ra=some q->PE X e (dE X.D E δ q))(hc:swapsWith e (some (.Name x pos')) pos.line X.env=pure false)
  (h:(Re.thnS δ ra λd c=>if own then q4a i δ d c else(if stro d c then some (.nx (δ.set i (.val d)))else none))=some o):PS X (.Assign [.Name x pos'] e pos) (dS X.D E δ o):=by
 cases hra:ra with
 | none=>rw[hra]at h;cases h
 | some q=>
  rw[hra]at h;have A:=ha q hra;cases q with
  | ex c=>cases h;exact(q7P hN hi hx A hc hf).weak λDn σ H ⟨H0,O,W,R,fr,fo,sm,k⟩=>⟨O,W,R,q5v R fr sm k⟩
  | ok d cl=>exact(q7P hN hi hx A hc hf).weak λDn σ H ⟨H0,O,W,R,fr,fo,sm,k⟩=>⟨O,W,R,z2n h R fr sm k⟩
theorem q6F{own:Bool}{tgE iter elt:Expr}{ifs:List Expr}{scope:Scope}{N':List Str}{fr:List (Option Nat)}{tg:Tg}{re:Re}(S:CompScope X.N N' scope X.env.scope fr)(hc:X.calm=true)(hN:X.N.Nodup)(hi:X.N[i]? = some x)(hx:X.env.scope.names.lookup x=some .local)
  (P:q1j X E δ tgE iter ifs elt scope N' fr tg re) (hG:∀C cells s₂ H₂ fp x1,PG (q0r X scope N' C cells s₂ H₂ fp x1) tgE (gT X.K tg)) (hset:q3B iter=false) {cpos:Pos} (hsw:swapsWith (.ListComp elt [⟨tgE,iter,ifs,0⟩] scope cpos) (some (.Name x pos')) pos.line X.env=pure true)
  (h:(Re.thnS δ (some re) λd c=>if own then q4a i δ d c else(if stro d c then some (.nx (δ.set i (.val d)))else none))=some o):PS X (.Assign [.Name x pos'] (.ListComp elt [⟨tgE,iter,ifs,0⟩] scope cpos) pos) (dS X.D E δ o):=by
 obtain⟨xE,wi,tc,te,hX,h1,h2,h3,h4⟩:=P;refine(q8h S hc hX hN hi hx h1 hG h2 h3 hsw (q5c hset)).weak λDn σ H ⟨H0,O,W,R,fr,fo,sm,k⟩=>?_
 unfold tAsg;refine h4 σ H _ ⟨O,W,R,?_⟩;cases re with
 | ex c=>cases h;exact q5v R fr sm k
 | ok d cl=>exact z2n h R fr sm k
theorem q8g{apos cpos npos:Pos}(hv:PE X (.Name x npos) (tVar i))(he:∀q,ra=some q->PE X e (dE X.D E δ q))(hs:q0u e=false)(hline:(apos.endLine==cpos.line)=true)
  (h:(match δ[i]? with
   | some (.own (.lst ds))=>Re.thnS δ ra λd c=>if stro d c/\ds.length<mostLen then some (.nx (δ.set i (.own (.lst (ds++[d])))))else none
   | _=>none)=some o):PS X (.Expr (.Call (.Attribute (.Name x npos) "append" apos) [e] [] cpos) pos) (dS X.D E δ o):=by
 split at h
 ·rename_i ds hi;have C:=λt (hA:PE X e t)=>z2Z (pos:=pos) (z4B PySem.F.plainAttrs_list PySem.F.slot_list_append PySem.F.type_list_append q9o hv (q0T hA q3z (q0i hs)) rfl (by rw[q0i hs];rfl) hline (q0i hs) rfl) rfl
  cases hra:ra with
  | none=>rw[hra]at h;cases h
  | some q=>
   rw[hra]at h;have A:=he q hra;cases q with
   | ex c=>
    cases h;exact(C _ A).weak λDn σ H ⟨H0,O,W,R,fr,fo,sm,k⟩=>by obtain⟨a,xs,ds0,e0,e1,e2,e3,e4⟩:=R.own i _ hi;exact⟨.ref a,e1,.inl ⟨rfl,xs,SqL.of e3⟩,O,W,R,q5v (Q:=λ_ _=>False) R fr sm k⟩
   | ok d cl=>
    have h':(if stro d cl/\ds.length<mostLen then some (Out.nx (δ.set i (.own (.lst (ds++[d])))))else none)=some o:=h;split at h'
    ·rename_i m;cases h';exact(C _ A).weak λDn σ H ⟨H0,O,W,R,fr,fo,sm,k⟩=>by obtain⟨a,xs,ds0,e0,e1,e2,e3,e4⟩:=R.own i _ hi;cases e0;refine⟨.ref a,e1,.inl ⟨rfl,xs,SqL.of e3⟩,O,W,R,λv H1 s1 g=>?_⟩;have R1:=R.mono s1;refine⟨a,xs,v,rfl,rfl,s1 _ _ e3,by rw[e4.length];exact Nat.lt_of_lt_of_le m.2 (by decide),?_⟩;exact k σ _ W (R1.write hi e1 ((e4.mono s1.wo).append (RepL.one (g.stro (R.hid.mono s1) m.1)))) fr (q3t (sm.trans s1) (fr a e2))
    ·cases h'
 ·cases h
theorem q9v{npos spos:Pos}{ix:Expr}{rb:Option Re}(hv:PE X (.Name x npos) (tVar i))(he:∀q,ra=some q->PE X e (dE X.D E δ q))(hx:∀q,rb=some q->PE X ix (dE X.D E δ q))(hsl:q5j ix=false)
  (h:(match δ[i]? with
   | some (.own (.lst ds))=>Re.thnS δ ra λd c=>Re.thnS δ rb λk _=>(match k with
    | .int k=>(match q2m ds.length k with
     | some j=>if stro d c then some (.nx (δ.set i (.own (.lst (ds.set j d)))))else none
     | none=>none)
    | _=>none)
   | _=>none)=some o):PS X (.Assign [.Subscript (.Name x npos) ix spos] e pos) (dS X.D E δ o):=by
 have sub:∀v,assign (.Subscript (.Name x npos) ix spos) X.env v=(do
   let ov ←holding [v] (eval (.Name x npos) X.env)
   let iv ←holding [v,ov] (eval ix X.env)
   standAt spos
   holding [v,ov,iv] (setItem ov iv v)
   release [v,ov,iv] []):=by cases ix<;>first | (intro _;rfl) | cases hsl
 have C:=λt tk (hA:PE X e t) (hK:PE X ix tk)=>z5I (pos:=pos) hA (z5z hv hK z1E sub) (by cases e<;>rfl) (by cases e<;>rfl) rfl;split at h
 ·rename_i ds hi;cases hra:ra with
  | none=>rw[hra]at h;cases h
  | some q=>
   rw[hra]at h;have A:=he q hra;cases q with
   | ex c=>
    cases h;exact(C _ _ A q2S).weak λDn σ H ⟨H0,O,W,R,fr,fo,sm,k⟩=>⟨O,W,R,q5v (Q:=λ_ _=>False) R fr sm k⟩
   | ok d cl=>
    cases hrb:rb with
    | none=>rw[hrb]at h;cases h
    | some q=>
     rw[hrb]at h;have B:=hx q hrb;cases q with
     | ex c=>
      cases h;exact(C _ _ A B).weak λDn σ H ⟨H0,O,W,R,fr,fo,sm,k⟩=>⟨O,W,R,λv H1 s1 g=>by
       have R1:=R.mono s1;obtain⟨a,xs,ds0,e0,e1,e2,e3,e4⟩:=R1.own i _ hi;exact⟨.ref a,e1,O,W,R1,q5v (Q:=λ_ _=>False) R1 fr (sm.trans s1) k⟩⟩
     | ok dk ck=>
      have h':(match(generalizing:=false) dk with
       | .int k=>(match q2m ds.length k with
        | some j=>if stro d cl then some (Out.nx (δ.set i (.own (.lst (ds.set j d)))))else none
        | none=>none)
       | _=>none)=some o:=h
      split at h'
      ·rename_i k0;split at h'
       ·rename_i j hj;split at h'
        ·rename_i m;cases h';exact(C _ _ A B).weak λDn σ H ⟨H0,O,W,R,fr,fo,sm,k⟩=>⟨O,W,R,λv H1 s1 g=>by
          have R1:=R.mono s1;obtain⟨a,xs,ds0,e0,e1,e2,e3,e4⟩:=R1.own i _ hi;cases e0;refine⟨.ref a,e1,O,W,R1,λy H2 s2 g2=>?_⟩;have R2:=R1.mono s2;refine⟨a,xs,k0,j,rfl,g2.int (R1.hid.mono s2),s2 _ _ e3,by rw[e4.length];exact hj,?_⟩;exact k σ _ W (R2.write hi e1 (RepL.set ((g.mono s2).stro ((R.hid.mono s1).mono s2) m) j (e4.mono s2.wo))) fr (q3t ((sm.trans s1).trans s2) (fr a e2))⟩
        ·cases h'
       ·cases h'
      ·cases h'
 ·cases h
theorem RSt.freeze{D:Dm}{H:Hp}{σ:St}{O W:List Addr}{d:DV}(R:RSt D H σ δ O W)(hi:δ[i]? = some (.own d)):∃W',(∀a∈W',a∈W)/\RSt D H σ (δ.set i (.val d)) O W':=by
 obtain⟨a,xs,ds,e0,e1,e2,e3,e4⟩:=R.own i d hi;subst e0;have hl:i<δ.length:=(List.getElem?_eq_some_iff.mp hi).1;have sub:∀b∈O++W.filter (λb=>decide (b≠a)),b∈O++W:=λb hb=>by
  rcases List.mem_append.mp hb with z | z
  ·exact List.mem_append_left _ z
  ·exact List.mem_append_right _ (List.mem_filter.mp z).1
 have hao:a∉O++W.filter (λb=>decide (b≠a)):=λz=>by
  rcases List.mem_append.mp z with z | z
  ·exact R.hid.dj a e2 z
  ·exact absurd rfl (of_decide_eq_true (List.mem_filter.mp z).2)
 refine⟨W.filter λb=>decide (b≠a),λb hb=>(List.mem_filter.mp hb).1,⟨λj d h=>?_,λj ds' h=>?_,λj k b d1 d2 h1 h2 q1 q2=>?_,?_,λj d h=>by
   have hj:=q0c h (by intro z;cases z);rw[List.getElem?_set_ne (Ne.symm hj)]at h;obtain⟨⟨p1,L,f0,f1,f2,f3⟩,u,n⟩:=R.o2 j d h;refine⟨⟨p1,L,f0,f1,f2.sub λb hb hbw=>List.mem_filter.mpr ⟨hbw,decide_eq_true λz=>f3 i _ a hi e1 (by rw[←z];exact hb)⟩,λk d2 b q q2=>?_⟩,λk d2 q=>?_,λk d2 q=>?_⟩
   ·have hk:=q0c q (by intro z;cases z);rw[List.getElem?_set_ne (Ne.symm hk)]at q;exact f3 k d2 b q q2
   ·have hk:=q0c q (by intro z;cases z);rw[List.getElem?_set_ne (Ne.symm hk)]at q;exact u k d2 q
   ·have hk:=q0c q (by intro z;cases z);rw[List.getElem?_set_ne (Ne.symm hk)]at q;exact n k d2 q,R.od.step (z0d (by intro d z;cases z)) (λb hb ⟨kvs,h,m⟩=>List.mem_filter.mpr ⟨hb,decide_eq_true λz=>by rw[z,e3]at h;cases h;cases m⟩) (λ_ _ _ h _=>h),by rw[List.length_set];exact R.len,
  ⟨λb hb=>R.hid.ot b (sub b hb),Same.refl _,λb hb=>R.hid.wl b (List.mem_filter.mp hb).1,λb hb=>R.hid.dj b (List.mem_filter.mp hb).1,R.hid.om⟩⟩⟩
 ·by_cases hj:j=i
  ·subst hj;obtain⟨_,e⟩:=q3b h;cases e;exact⟨.ref a,e1,q0y.mpr ⟨a,xs,rfl,by rw[q0g hao];exact e3,e4.mono (q0D sub)⟩⟩
  ·rw[List.getElem?_set_ne (Ne.symm hj)]at h;obtain⟨v,q1,q2⟩:=R.val j d h;exact⟨v,q1,q2.mono (q0D sub)⟩
 ·have hj:=q0c h (by intro z;cases z);rw[List.getElem?_set_ne (Ne.symm hj)]at h;obtain⟨b,ys,ds1,q0,q1,q2,q3,q4⟩:=R.own j ds' h;refine⟨b,ys,ds1,q0,q1,List.mem_filter.mpr ⟨q2,decide_eq_true λz=>hj (R.inj j i a ds' _ h hi (by rw[←z];exact q1) e1)⟩,q3,q4.mono (q0D sub)⟩
 ·have n1:=q0c h1 (by intro z;cases z);have n2:=q0c h2 (by intro z;cases z);rw[List.getElem?_set_ne (Ne.symm n1)]at h1;rw[List.getElem?_set_ne (Ne.symm n2)]at h2;exact R.inj j k b d1 d2 h1 h2 q1 q2
 ·obtain⟨P,f,u⟩:=R.ot;refine⟨P,λj d h=>?_,λj k d1 d2 h1 h2=>?_⟩
  ·have hj:=q0c h (by intro z;cases z);rw[List.getElem?_set_ne (Ne.symm hj)]at h;obtain⟨t,ts,f1,f2,f3,f4⟩:=f j d h;refine⟨t,ts,f1,(q0D sub).tseq f2,f3.mono (q0D sub) λ_ _ _ q=>q,λp1 hp1=>⟨List.mem_filter.mpr ⟨(f4 p1 hp1).1,decide_eq_true λz=>(f4 p1 hp1).2.2 i _ hi (by rw[z];exact e1)⟩,(f4 p1 hp1).2.1,λk d2 q=>?_⟩⟩;have hk:=q0c q (by intro z;cases z);rw[List.getElem?_set_ne (Ne.symm hk)]at q;exact(f4 p1 hp1).2.2 k d2 q
  ·rw[List.getElem?_set_ne (Ne.symm (q0c h1 (by intro z;cases z)))]at h1;rw[List.getElem?_set_ne (Ne.symm (q0c h2 (by intro z;cases z)))]at h2;exact u j k d1 d2 h1 h2
theorem q8e{d:DV}(hi:δ[i]? = some (.own d))(h:PSs X rest (dS X.D E (δ.set i (.val d)) o)):PSs X rest (dS X.D E δ o):=h.weak λDn σ H ⟨H0,O,W,R,fr,fo,sm,k⟩=>by
 obtain⟨W',hs,R'⟩:=R.freeze hi;exact⟨H0,O,W',R',λa ha=>fr a (hs a ha),fo,sm,k⟩
end
end L2
end
noncomputable section
namespace L2
open PySem PySem.Spec PyProof.Rows
theorem PSs.any{X:Cx}{body:List Stmt}{ι:Sort _}{t:ι->TS}(h:∀k,PSs X body (t k)):PSs X body (λD σ H=>∃k,t k D σ H):=λpins s σ H D I ⟨k,q⟩=>h k pins s σ H D I q
structure Lp(H0 H1:Hp)(O W:List Addr):Prop where
 out:∀{H:Hp},Same (L2.wo W H1) H->Same H0 H
 outW:∀{a:Addr},L2.wo W H1 a=none->H0 a=none
 in1:∀a∈W,L2.wo W H1 a=none
 in2:∀a∈O,L2.wo W H1 a≠none
 wsame:∀{H:Hp},Same (L2.wo W H1) H->Same (L2.wo (O++W) H1) (L2.wo (O++W) H)
theorem Lp.mk'{H0 H1:Hp}{O W:List Addr}(fr:∀a∈W,H0 a=none)(fo:∀a∈O,H0 a≠none)(sm:Same H0 H1):Lp H0 H1 O W where
 out:=λ{H} s b u e=>s b u (by
  rw[q0g λz=>by rw[fr b z]at e;cases e];exact sm b u e)
 outW:=λ{a} q=>by
  by_cases z:a∈W
  ·exact fr a z
  ·rw[q0g z]at q;exact sm.free q
 in1:=λa ha=>z4i ha
 in2:=λa ha=>by rw[q0g λz=>fo a ha (fr a z)];intro q;exact fo a ha (sm.free q)
 wsame:=λ{H} s b u e=>by obtain⟨hb,e⟩:=q0v e;rw[q0g hb];exact s b u (by rw[q0g λz=>hb (List.mem_append_right _ z)];exact e)
theorem Lp.gotR{H0 H1:Hp}{O W:List Addr}{D:Dm}{H:Hp}{d:DV}{fr:Bool}{v:V}(L:Lp H0 H1 O W)(g:GotR D O (L2.wo W H1) H d fr v):GotR D O H0 H d fr v:=by
 cases fr with
 | false=>exact g
 | true=>
  obtain⟨p,xs,ds,e1,e2,e3,e4,e5⟩:=g;exact⟨p,xs,ds,e1,e2,L.outW e3,e4,e5⟩
theorem Lp.gotT{H0 H1:Hp}{O W:List Addr}{D:Dm}{H:Hp}{d:DV}{v:V}(L:Lp H0 H1 O W)(g:GotT D O (L2.wo W H1) H d v):GotT D O H0 H d v:=by
 rcases g with⟨t,ts,p,xs,ds,es,e1,e2,e0,e3,e4,e5,e6⟩ | ⟨xs,e1,e2⟩ | g
 ·exact .inl ⟨t,ts,p,xs,ds,es,e1,e2,e0,L.outW e3,e4,e5,e6⟩
 ·exact .inr (.inl ⟨xs,e1,e2.since λa ha=>L.outW ha⟩)
 ·exact .inr (.inr (g.since λa ha=>L.outW ha))
section
variable {X:Cx} {E:St->XK} {δ:List Sv} {tgE iter c:Expr} {body:List Stmt} {o:Out} {pos:Pos} {tg:Tg} {ri:Option Ri} {evB:List Sv->Option Out} {evC:List Sv->Option Rt}
theorem z2H(hp:PassesOwn (model X.prog X.w) X.A X.env X.xe)(hc:X.calm=true)(hi:∀q,ri=some q->PI X tgE iter (dI X.D E δ q))(hG:PG X tgE (gT X.K tg))(hb:∀δ' o,evB δ'=some o->PSs X body (dS X.D E δ' o))(hset:q3B iter=false)
  (h:(Ri.thnS δ ri λds c=>if c=.strong\/c=.fresh then q1L tg evB ds δ else none)=some o):PS X (.For tgE iter body [] pos) (dS X.D E δ o):=by
 have B:PSs X body (λD σ H=>∃k:{p:List Sv×Out // evB p.1=some p.2},dS X.D E k.1.1 k.1.2 D σ H):=PSs.any λk=>hb k.1.1 k.1.2 k.2;cases hri:ri with
 | none=>rw[hri]at h;cases h
 | some q=>
  rw[hri]at h;have A:=hi q hri;cases q with
  | ex c=>cases h;exact(z2w hp hc A hG B (q5c hset)).weak λDn σ H ⟨H0,O,W,R,fr,fo,sm,k⟩=>⟨O,W,R,λH' C m s=>k σ H' W C m (R.mono s) fr (sm.trans s)⟩
  | ok ds c=>
   have h':(if c=.strong\/c=.fresh then q1L tg evB ds δ else none)=some o:=h;split at h'
   ·rename_i m;refine(z2w hp hc A hG B (q5c hset)).weak λDn σ H ⟨H0,O,W,R,fr,fo,sm,k⟩=>⟨O,W,R,λJ H1 s1 w=>?_⟩
    have R1:=R.mono s1;have L:=Lp.mk' fr fo (sm.trans s1);have w:Wk X.D J ds (O++W) (O++W) H1:=(by rcases m with m | m<;>subst m<;>exact w);refine⟨λi n σ H=>n=ds.length - i/\i<=ds.length/\∃δi W',q1L tg evB (ds.drop i) δi=some o/\RSt X.D H σ δi O W'/\(∀a∈W',L2.wo W H1 a=none)/\Same (L2.wo W H1) H,
     ⟨ds.length,rfl,Nat.zero_le _,δ,W,h',R1,L.in1,q0Y⟩,?_⟩
    rintro i n σ2 H2 ⟨rfl,hi,δi,W2,hgo,R2,b1,b2⟩
    by_cases hlt:i<ds.length
    ·refine .inr ⟨w.go i H2 (L.wsame b2) hlt,λσ H=>∃δi W',q1L tg evB (ds.drop (i+1)) δi=some o/\RSt X.D H σ δi O W'/\(∀a∈W',L2.wo W H1 a=none)/\Same (L2.wo W H1) H,
      λσ' H' q=>⟨ds.length - (i+1),by omega,rfl,hlt,q⟩,λx H3 y=>?_⟩
     have y1:=w.same i H2 x H3 y;have y3:Rep X.D (L2.wo (O++W2) H3) ds[i] x:=w.yld i H2 x H3 _ (O++W2) (L.wsame b2) (L.wsame b2) y (List.getElem?_eq_getElem hlt) λa ha=>⟨R2.hid.ot a ha,by
      rcases List.mem_append.mp ha with z | z
      ·exact .inl (List.mem_append_left _ z)
      ·have q:=b1 a z;by_cases hw:a∈W
       ·exact .inl (List.mem_append_right _ hw)
       ·rw[q0g hw]at q;exact .inr q⟩
     rw[List.drop_eq_getElem_cons hlt]at hgo;unfold q1L at hgo;split at hgo
     ·cases hgo
     ·rename_i δ1 hb1;refine q6L (R2.mono y1) y3 hb1 λσ3 R3=>?_
      split at hgo
      ·rename_i δ2 hev;exact⟨⟨⟨δ1,.nx δ2⟩,hev⟩,L2.wo W H1,O,W2,R3,b1,L.in2,b2.trans y1,λσ' H' W' R' fr' sm'=>⟨δ2,W',hgo,R',fr',sm'⟩⟩
      ·rename_i hne;refine⟨⟨⟨δ1,o⟩,hgo⟩,L2.wo W H1,O,W2,R3,b1,L.in2,b2.trans y1,?_⟩;cases o with
       | nx δ2=>exact absurd hgo (hne δ2)
       | rt d fr'=>exact λv H' s' g=>k v H' (L.out s') (L.gotR g)
       | rtt d=>exact λv H' s' g=>k v H' (L.out s') (L.gotT g)
       | rtm d s=>exact λv H' a o s'=>k v H' a o (L.out s')
       | ex c' δ'=>exact λσ' H' W' C m R' fr' sm'=>k σ' H' W' C m R' (λa ha=>L.outW (fr' a ha)) (L.out sm')
    ·have e:i=ds.length:=by omega
     subst e;rw[List.drop_length]at hgo;cases hgo;exact .inl ⟨w.stop H2 (L.wsame b2),k σ2 H2 W2 R2 (λa ha=>L.outW (b1 a ha)) (L.out b2)⟩
   ·cases h'
end
end L2
end
noncomputable section
namespace L2
open PySem PySem.Spec PyProof.Rows
section
variable {κ:Type} [DecidableEq κ]
def valV(kvs:List (κ×V))(k:κ):Option V:=(kvs.find? λkv=>decide (kv.1=k)).map (·.2)
def putK(kvs:List (κ×V))(k:κ)(v:V):List (κ×V):=
 if(kvs.any λkv=>decide (kv.1=k))=true then kvs.map (λkv=>if kv.1=k then(kv.1,v)else kv)else kvs++[(k,v)]
theorem q7E{p:κ×V}{r:List (κ×V)}{k:κ}(e:p.1=k):valV (p::r) k=some p.2:=by simp[valV,List.find?_cons,e]
theorem q7I{p:κ×V}{r:List (κ×V)}{k:κ}(e:¬p.1=k):valV (p::r) k=valV r k:=by simp[valV,List.find?_cons,e]
theorem q7f(k:κ):∀kvs:List (κ×V),(kvs.any λkv=>decide (kv.1=k))=(valV kvs k).isSome
 | []=>rfl
 | p::r=>by
  rw[List.any_cons];by_cases e:p.1=k
  ·simp only[q7E e,decide_eq_true e,Bool.true_or,Option.isSome_some]
  ·rw[q7I e,decide_eq_false e,Bool.false_or];exact q7f k r
theorem q4m(kvs:List (κ×V))(k:κ)(v:V):(putK kvs k v).length<=kvs.length+1:=by
 unfold putK;split
 ·rw[List.length_map];omega
 ·rw[List.length_append,List.length_cons,List.length_nil];omega
theorem RelO.isSome_eq{o:Option V}{u:Option Value}(r:RelO o u):o.isSome=u.isSome:=by
 cases o with
 | none=>cases u with
  | none=>rfl
  | some _=>exact(show False from r).elim
 | some _=>cases u with
  | none=>exact(show False from r).elim
  | some _=>rfl
theorem KV.any{kvs:List (κ×V)}{vs:List (κ×Value)}(r:KV kvs vs)(k:κ):(kvs.any λkv=>decide (kv.1=k))=vs.any λkv=>decide (kv.1=k):=by
 unfold KV at r
 induction r with
 | nil=>rfl
 | cons h t ih=>rw[List.any_cons,List.any_cons,ih,h.1]
theorem KV.repl{kvs:List (κ×V)}{vs:List (κ×Value)}(r:KV kvs vs)(k:κ){y:V}{u:Value}(ry:RelV y u) :
  KV (kvs.map λkv=>if kv.1=k then(kv.1,y)else kv) (vs.map λkv=>if kv.1=k then(kv.1,u)else kv):=by
 unfold KV at r ⊢
 induction r with
 | nil=>exact .nil
 | @cons p q ps qs h t ih=>
  rw[List.map_cons,List.map_cons];refine .cons ?_ ih;obtain⟨h1,h2⟩:=h;by_cases e:p.1=k
  ·rw[if_pos e,if_pos (h1.symm.trans e)];exact⟨h1,ry⟩
  ·rw[if_neg e,if_neg (λz=>e (h1.trans z))];exact⟨h1,h2⟩
theorem KV.put{kvs:List (κ×V)}{vs:List (κ×Value)}(r:KV kvs vs)(k:κ){y:V}{u:Value}(ry:RelV y u):KV (putK kvs k y) (stored vs k u):=by
 unfold putK stored;rw[r.any k];by_cases e:(vs.any λkv=>decide (kv.1=k))=true
 ·rw[if_pos e,if_pos e];exact r.repl k ry
 ·rw[if_neg e,if_neg e];exact Paired.snoc r ⟨rfl,ry⟩
theorem KV.length{kvs:List (κ×V)}{vs:List (κ×Value)}(r:KV kvs vs):kvs.length=vs.length:=Paired.length r
end
theorem z6u{P:Program}{w:World}{k:Key}{u:Value}(r:RelV (kV k) u):(q1d P w).is k u=true:=by
 cases k with
 | inl i=>obtain⟨t,e⟩:=(show ∃t,u=Value.int i t from r);subst e;exact q6J P w i t
 | inr x=>obtain⟨t,e⟩:=(show ∃t,u=Value.str x t from r);subst e;exact q6t P w x t
theorem q5Z{P:Program}{w:World}:∀{ks:List Key} {us:List Value},Vals (ks.map kV) us->ItemsAre (q1d P w) ks us
 | [],_,r=>by rw[List.map_nil]at r;cases r;exact .nil
 | k::ks,_,r=>by
  rw[List.map_cons]at r;cases r with
  | cons h t=>exact .cons (z6u h) (q5Z t)
abbrev KT(H:Hp):List (List Key×V)->List (List Key×Addr×Value)->Prop:=Paired λp q=>p.1=q.1/\H q.2.1=some (.tup (p.1.map kV))/\RelV p.2 q.2.2
theorem KT.val{H:Hp}{kvs:List (List Key×V)}{xs:List (List Key×Addr×Value)}(r:KT H kvs xs)(k:List Key):RelO (valV kvs k) ((atKey xs k).map (·.2)):=by
 induction r with
 | nil=>exact True.intro
 | @cons p q ps qs h t ih=>
  obtain⟨h1,_,h2⟩:=h;by_cases e:p.1=k
  ·have e':q.1=k:=h1.symm.trans e;have b:atKey (q::qs) k=some q.2:=by simp[atKey,List.find?_cons,e']
   rw[q7E e,b];exact h2
  ·have e':¬q.1=k:=λz=>e (h1.trans z);have b:atKey (q::qs) k=atKey qs k:=by simp[atKey,List.find?_cons,e']
   rw[q7I e,b];exact ih
theorem KT.repl{H:Hp}{kvs:List (List Key×V)}{xs:List (List Key×Addr×Value)}(r:KT H kvs xs)(k:List Key){y:V}{u:Value}(ry:RelV y u) :
  KT H (kvs.map λkv=>if kv.1=k then(kv.1,y)else kv) (xs.map (putAt k u)):=by
 induction r with
 | nil=>exact .nil
 | @cons p q ps qs h t ih=>
  rw[List.map_cons,List.map_cons];refine .cons ?_ ih;obtain⟨h1,h2,h3⟩:=h;unfold putAt;by_cases e:p.1=k
  ·rw[if_pos e,if_pos (h1.symm.trans e)];exact⟨h1,h2,ry⟩
  ·rw[if_neg e,if_neg (λz=>e (h1.trans z))];exact⟨h1,h2,h3⟩
theorem KT.put{H:Hp}{kvs:List (List Key×V)}{xs:List (List Key×Addr×Value)}(r:KT H kvs xs)(k:List Key){b:Addr}{y:V}{u:Value}(hb:H b=some (.tup (k.map kV)))(ry:RelV y u) :
  KT H (putK kvs k y) (storedH xs k b u):=by
 have e:(kvs.any λkv=>decide (kv.1=k))=(atKey xs k).isSome:=(by rw[q7f,(r.val k).isSome_eq,Option.isSome_map]);unfold putK storedH;rw[e];by_cases q:(atKey xs k).isSome=true
 ·rw[if_pos q,if_pos q];exact r.repl k ry
 ·rw[if_neg q,if_neg q];exact Paired.snoc r ⟨rfl,hb,ry⟩
theorem KT.keeps{H H':Hp}{kvs:List (List Key×V)}{xs:List (List Key×Addr×Value)}(r:KT H kvs xs)(ht:∀b ys,H b=some (.tup ys)->H' b=some (.tup ys)):KT H' kvs xs:=
 Paired.mapP r λ_ _ z=>⟨z.1,ht _ _ z.2.1,z.2.2⟩
section
variable {P:Program} {w:World} {H:Hp} {h:Heap} {a:Addr}
theorem z5i{u:HO}(ok:HOk P w H h)(e:Rd H a u):q1f P w H h a u:=e.ok ok
theorem z7e{kvs:List (Key×V)}(ok:HOk P w H h)(e:Rd H a (.dK kvs)):kvs.length<=sizeLine/\(a==sysModules)=false/\∃vs,KV kvs vs/\h.DictOf (q1d P w) a vs:=
 show q1f P w H h a (.dK kvs)from z5i ok e
theorem z7n{kvs:List (Key×V)}(ok:HOk P w H h)(e:H a=some (.dK kvs)):kvs.length<=sizeLine/\(a==sysModules)=false/\∃vs,KV kvs vs/\h.DictOf (q1d P w) a vs:=z7e ok (.inl e)
theorem z2x{ks:List Key}(ok:HOk P w H h)(e:H a=some (.tup (ks.map kV))):(tupleKind (q1d P w)).is h ks a:=by
 obtain⟨_,its,r,o,h1,h2,n,h3⟩:=(show q1f P w H h a (.tup (ks.map kV))from ok a _ e);exact⟨o,its.toArray,n,h1,h2.1,h3,by simpa using q5Z r⟩
theorem z7F{kvs:List (List Key×V)}(ok:HOk P w H h)(e:Rd H a (.dT kvs)):kvs.length<=sizeLine/\(a==sysModules)=false /\
  ∃xs,KT H kvs xs/\h.DictOfH (tupleKind (q1d P w)) a xs:=by
 obtain⟨z,y,xs,r,o,es,ep,h1,h2,h3,h4,h5⟩:=(show q1f P w H h a (.dT kvs)from z5i ok e);refine⟨z,y,xs,r,o,es,ep,h1,h2,h3,h4,λx hx=>?_,h5⟩;have all:∀{l:List (List Key×V)} {m:List (List Key×Addr×Value)},KT H l m->∀x∈m,(tupleKind (q1d P w)).is h x.1 x.2.1:=by
  intro l m q
  induction q with
  | nil=>intro x hx;exact nomatch hx
  | @cons p q ps qs hq t ih=>
   intro x hx;rcases List.mem_cons.mp hx with e | hx
   ·subst e;exact z2x ok (by rw[←hq.1];exact hq.2.1)
   ·exact ih x hx
 exact all r x hx
theorem z7c{kvs:List (List Key×V)}(ok:HOk P w H h)(e:H a=some (.dT kvs)):kvs.length<=sizeLine/\(a==sysModules)=false /\
  ∃xs,KT H kvs xs/\h.DictOfH (tupleKind (q1d P w)) a xs:=z7F ok (.inl e)
end
def DPut(H:Hp)(a:Addr)(y v:V)(H':Hp):Prop:=
 (∃kvs k,H a=some (.dK kvs)/\y=kV k/\kvs.length<sizeLine/\H'=upd H a (.dK (putK kvs k v))) \/
 ∃kvs k b,H a=some (.dT kvs)/\y=.ref b/\H b=some (.tup (k.map kV))/\kvs.length<sizeLine/\H'=upd H a (.dT (putK kvs k v))
theorem DPut.t{H:Hp}{a b:Addr}{kvs:List (List Key×V)}{k:List Key}{v:V}(e:H a=some (.dT kvs))(eb:H b=some (.tup (k.map kV)))(hl:kvs.length<sizeLine) :
  DPut H a (.ref b) v (upd H a (.dT (putK kvs k v))):=.inr ⟨kvs,k,b,e,rfl,eb,hl,rfl⟩
section
variable {X:Cx} {pins:List (Addr×Obj)} {σ:St} {H:Hp} {s:Shared} {a:Addr} {y v:V} {u r:Value} {o:Option V} {A:Around} {E:Value->Shared->Prop}
theorem Inv.big(I:Inv X pins σ H s):sysModules<s.heap.objs.size:=by
 have h:mainGlobals<s.heap.objs.size:=(I.mod.glob.keeps I.bk).lt;exact Nat.lt_trans (by decide) h
theorem q8K{h':Heap}{t':Nat}{ob:HO}(I:Inv X pins σ H s)(mu:Mut (H a))(hs:Heap.SameBut a s.heap h')(he:∃q,h'.get? a=some q)(new:q1f X.prog X.w (upd H a ob) h' a ob) :
  Inv X pins σ (upd H a ob) {s with heap:=h',toks:=t'}:=
 I.write (x:=a) (e:=a) mu (.inl rfl) (λb q hb z=>(hs.2 b hb).trans z) he new
theorem z6A{P:Program}{w:World}{H':Hp}{h':Heap}{kvs:List (Key×V)}{vs:List (Key×Value)}(z:kvs.length<=sizeLine)(hd:(a==sysModules)=false)(rel:KV kvs vs)(dd:h'.DictOf (q1d P w) a vs) :
  q1f P w H' h' a (.dK kvs):=⟨z,hd,vs,rel,dd⟩
theorem z0j{H':Hp}{Q:Unit->Shared->Prop}(hu:A.units+1<cLine)(I:Inv X pins σ H s)(g:DPut H a y v H')(ry:RelV y u)(rv:RelV v r)(h:∀s',Inv X pins σ H' s'->Q () s') :
  wpAny (model X.prog X.w) A (setItem (.ref a) u r) Q E s:=by
 rcases g with⟨kvs,k,e,ey,l,eH⟩ | ⟨kvs,k,b,e,ey,eb,l,eH⟩
 ·subst ey eH;obtain⟨z,hd,vs,rel,dd⟩:=z7n I.hok e;have hz:vs.length<=sizeLine:=by rw[←rel.length];exact z
  have hl:(putK kvs k v).length<=sizeLine:=by have:=q4m kvs k v;omega
  refine wpAny_setItem_pairs (hsz:=hz) (z6u ry) dd λh' dd' hs=>h _ ?_;have he:∃q,h'.get? a=some q:=let ⟨q,_,_,hq,_⟩:=dd';⟨q,hq⟩;exact q8K I (by rw[e];exact True.intro) hs he (z6A hl hd (rel.put k rv) dd')
 ·subst ey eH;cases(show u=Value.ref b from ry);obtain⟨z,hd,xs,rel,dd⟩:=z7c I.hok e;have hz:xs.length<=sizeLine:=by rw[←Paired.length rel];exact z
  have hl:(putK kvs k v).length<=sizeLine:=by have:=q4m kvs k v;omega
  refine wpAny_setItem_heap (hsz:=hz) (tupleKind_room_in1 hu) (z2x I.hok eb) dd λh' dd' hs=>h _ ?_;obtain⟨q,es,ep,hq,h2,h3,h4,_,h5⟩:=dd';refine q8K I (by rw[e];exact True.intro) hs ⟨q,hq⟩ ⟨hl,hd,_,(rel.put k eb rv).keeps λc ys ec=>?_,q,es,ep,hq,h2,h3,h4,h5⟩;rw[q0f (z7E ec e (λz=>nomatch z))];exact ec
end
section
variable {X:Cx} {pins:List (Addr×Obj)} {σ:St} {H:Hp} {s:Shared} {a:Addr} {kvs:List (Key×V)} {k:Key} {u:Value} {A:Around} {E:Value->Shared->Prop}
end
def z7Z(td ty tv:TE):TS:=λD σ H=>tv σ H λv H1=>td σ H1 λx H2=>ty σ H2 λy H3=>∃a H4,x=.ref a/\DPut H3 a y v H4/\D.nx σ H4
section
variable {X:Cx} {o i e value:Expr} {pos pos' tpos:Pos} {td ty tv:TE}
theorem z3l(hu:X.A.units+1<cLine)(ho:PE X o td)(hi:PE X i ty)(hv:PE X value tv)(hs:swapsWith value (some (.Subscript o i pos')) pos.line X.env=pure false) :
  PS X (.Assign [.Subscript o i pos'] value pos) (z7Z td ty tv):=by
 intro pins s σ H D I h;refine wpAny_Assign_Subscript (thn (hv pins s σ H _ I h) λr s1 ⟨v,H1,I1,rv,q1⟩=>thn (ho pins s1 σ H1 _ I1 q1) λu s2 ⟨x,H2,I2,rx,q2⟩=>thn (hi pins s2 σ H2 _ I2 q2) λiv s3 ⟨y,H3,I3,ry,a,H4,ex,g,q3⟩=>?_) hs;subst ex;obtain rfl:u=Value.ref a:=rx;exact z0j hu I3 g ry rv λs4 I4=>⟨σ,H4,I4,q3⟩
end
theorem z0W{P:Program}{w:World}{H:Hp}(h:Heap)(hb:sysModules<h.objs.size):q1f P w H (h.push {cls:=.type "dict",data:=.dict #[]}) h.objs.size (.dT []):=
 ⟨Nat.zero_le _,beq_eq_false_iff_ne.mpr (Ne.symm (Nat.ne_of_lt hb)),[],.nil,_,#[],0,Heap.get?_push_size _ rfl,⟨rfl,rfl,rfl⟩,rfl,rfl,List.nodup_nil⟩
def z6w:TE:=λ_ H Q=>∀p,H p=none->Q (.ref p) (upd H p (.dT []))
section
variable {X:Cx} {pos:Pos}
theorem z1f:PE X (.Dict [] [] pos) z6w:=λpins s σ H Q I h=>
 wpAny_Dict_empty ⟨.ref s.heap.objs.size,_,I.laid (a:=s.heap.objs.size) (o:=.dT []) (t':=s.toks) (λ_ _ q=>Heap.get?_push_of_some _ q) (Nat.le_refl _) (z0W s.heap I.big),rfl,h _ (I.hok.fresh (Nat.le_refl _))⟩
end
end L2
end
noncomputable section
namespace L2
open PySem PySem.Spec PyProof.Rows
section
variable {D:Dm} {H H':Hp} {σ:St} {δ:List Sv} {O W:List Addr} {i:Nat}
theorem RSt.growD{p:Addr}{o0:HO}(R:RSt D H σ δ O W)(hp:H p=none)(hm:mutO o0=true):RSt D (upd H p o0) σ δ O (p::W):=by
 have s:Same H (upd H p o0):=q0m hp;have old:Same (L2.wo (O++W) H) (L2.wo (O++(p::W)) (upd H p o0)):=λb o e=>by
  obtain⟨hb,e⟩:=q0v e;rw[q0g λz=>?_]
  ·exact s b o e
  ·rcases List.mem_cons.mp (q1v.mp z)with z | z
   ·rw[z,hp]at e;cases e
   ·exact hb z
 refine⟨λj d h=>?_,λj d h=>?_,R.inj,?_,λj d h=>?_,R.od.step (λj d h=>⟨h,rfl⟩) (λ_ h _=>List.mem_cons_of_mem _ h) (λa _ _ h _=>s _ _ h),R.len,⟨λa ha=>?_,Same.refl _,λa ha=>?_,λa ha=>?_,R.hid.omS s⟩⟩
 ·obtain⟨v,e1,e2⟩:=R.val j d h;exact⟨v,e1,e2.mono old⟩
 ·obtain⟨a,ys,ds1,e0,e1,e2,e3,e4⟩:=R.own j d h;exact⟨a,ys,ds1,e0,e1,List.mem_cons_of_mem _ e2,s _ _ e3,e4.mono old⟩
 ·obtain⟨P,f,u⟩:=R.ot;refine⟨P,λj d h=>?_,u⟩;obtain⟨t,ts,e1,e2,e3,e4⟩:=f j d h;exact⟨t,ts,e1,old.tseq e2,e3.mono old λ_ _ _ q=>s _ _ q,λp hp=>⟨List.mem_cons_of_mem _ (e4 p hp).1,(e4 p hp).2.1.imp λ_ q=>s _ _ q,(e4 p hp).2.2⟩⟩
 ·obtain⟨⟨p1,L,e0,e1,e2,e3⟩,u,n⟩:=R.o2 j d h;exact⟨⟨p1,L,e0,e1,(e2.mono s).sub λa _ ha=>List.mem_cons_of_mem _ ha,e3⟩,u,n⟩
 ·rcases List.mem_cons.mp (q1v.mp ha)with z | z
  ·rw[z,q0n];intro q;cases q
  ·intro q;exact R.hid.ot a z (s.free q)
 ·rcases List.mem_cons.mp ha with z | z
  ·exact⟨_,by rw[z];exact q0n,hm⟩
  ·obtain⟨ys,q,m⟩:=R.hid.wl a z;exact⟨ys,s _ _ q,m⟩
 ·rcases List.mem_cons.mp ha with z | z
  ·intro q;exact R.hid.ot p (List.mem_append_left _ (by rw[←z];exact q)) hp
  ·exact R.hid.dj a z
theorem RSt.setOd{p:Addr}{d0:DV}{o0:HO}(R:RSt D H σ δ O W)(hp:p∈W)(hok:OdOk d0 p o0)(hH:H p=some o0)(hno:noOt i δ=true):RSt D H (σ.set i (some (.ref p))) (δ.set i (.od d0)) O W:=by
 refine⟨λj d h=>?_,λj d h=>?_,λj k a d1 d2 q1 q2 e1 e2=>?_,RSt.noot λj d h=>?_,λj d h=>?_,λj d h=>?_,by rw[List.length_set,List.length_set];exact R.len,R.hid⟩
 ·have hj:=q0c h (by intro z;cases z);rw[List.getElem?_set_ne (Ne.symm hj)]at h ⊢;exact R.val j d h
 ·have hj:=q0c h (by intro z;cases z);rw[List.getElem?_set_ne (Ne.symm hj)]at h ⊢;exact R.own j d h
 ·have n1:=q0c q1 (by intro z;cases z);have n2:=q0c q2 (by intro z;cases z);rw[List.getElem?_set_ne (Ne.symm n1)]at q1 e1;rw[List.getElem?_set_ne (Ne.symm n2)]at q2 e2;exact R.inj j k a d1 d2 q1 q2 e1 e2
 ·have hj:=q0c h (by intro z;cases z);rw[List.getElem?_set_ne (Ne.symm hj)]at h;exact absurd (q9N hno h) hj
 ·have hj:=q0c h (by intro z;cases z);rw[List.getElem?_set_ne (Ne.symm hj)]at h;exact absurd (q9i hno h) hj
 ·have hj:j=i:=by
   by_cases hj:j=i
   ·exact hj
   ·rw[List.getElem?_set_ne (Ne.symm hj)]at h;exact q8Q hno h
  subst hj;obtain⟨hl,e⟩:=q3b h;cases e;refine⟨⟨p,o0,hok,List.getElem?_set_self (by rw[R.len];exact hl),hp,hH⟩,λk d' q=>?_⟩;by_cases hk:k=j
  ·exact hk
  ·rw[List.getElem?_set_ne (Ne.symm hk)]at q;exact q8Q hno q
theorem RSt.writeOd{p:Addr}{o0 o1:HO}{d d1:DV}(R:RSt D H σ δ O W)(hi:δ[i]? = some (.od d))(ha:σ[i]? = some (some (.ref p)))(hp:p∈W)(hH:H p=some o0)(hdc:dicO o0=true)(hok:OdOk d1 p o1):RSt D (upd H p o1) σ (δ.set i (.od d1)) O W:=by
 have old:Same (L2.wo (O++W) H) (L2.wo (O++W) (upd H p o1)):=λb o e=>by obtain⟨hb,e⟩:=q0v e;rw[q0g hb,q0f λz=>hb (by rw[z];exact List.mem_append_right _ hp)];exact e
 have lne:∀{b:Addr} {ys:List V},H b=some (.lst ys)->b≠p:=λ{b ys} h z=>by rw[z,hH]at h;cases h;cases hdc
 refine⟨λj d h=>?_,λj d h=>?_,λj k a d1 d2 q1 q2 e1 e2=>?_,?_,λj d h=>?_,λj d h=>?_,by rw[List.length_set];exact R.len,⟨λb hb q=>?_,Same.refl _,λb hb=>?_,R.hid.dj,R.hid.omW hp⟩⟩
 ·have hj:=q0c h (by intro z;cases z);rw[List.getElem?_set_ne (Ne.symm hj)]at h;obtain⟨v,q1,q2⟩:=R.val j d h;exact⟨v,q1,q2.mono old⟩
 ·have hj:=q0c h (by intro z;cases z);rw[List.getElem?_set_ne (Ne.symm hj)]at h;obtain⟨b,ys,ds1,q0,q1,q2,q3,q4⟩:=R.own j d h;exact⟨b,ys,ds1,q0,q1,q2,by rw[q0f (lne q3)];exact q3,q4.mono old⟩
 ·have n1:=q0c q1 (by intro z;cases z);have n2:=q0c q2 (by intro z;cases z);rw[List.getElem?_set_ne (Ne.symm n1)]at q1;rw[List.getElem?_set_ne (Ne.symm n2)]at q2;exact R.inj j k a d1 d2 q1 q2 e1 e2
 ·obtain⟨P,f,u⟩:=R.ot;refine⟨P,λj d h=>?_,λj k d1 d2 h1 h2=>?_⟩
  ·have hj:=q0c h (by intro z;cases z);rw[List.getElem?_set_ne (Ne.symm hj)]at h;obtain⟨t,ts,f1,f2,f3,f4⟩:=f j d h;refine⟨t,ts,f1,old.tseq f2,f3.mono old λp1 _ ys q=>by rw[q0f (lne q)];exact q,λp1 hp1=>⟨(f4 p1 hp1).1,(f4 p1 hp1).2.1.imp λys q=>by rw[q0f (lne q)];exact q,λk d2 q=>?_⟩⟩;have hk:=q0c q (by intro z;cases z);rw[List.getElem?_set_ne (Ne.symm hk)]at q;exact(f4 p1 hp1).2.2 k d2 q
  ·rw[List.getElem?_set_ne (Ne.symm (q0c h1 (by intro z;cases z)))]at h1;rw[List.getElem?_set_ne (Ne.symm (q0c h2 (by intro z;cases z)))]at h2;exact u j k d1 d2 h1 h2
 ·have hj:=q0c h (by intro z;cases z);rw[List.getElem?_set_ne (Ne.symm hj)]at h;obtain⟨⟨p1,L1,f0,f1,f2,f3⟩,u,n⟩:=R.o2 j d h;refine⟨⟨p1,L1,f0,f1,f2.write λz=>?_,λk d2 b q q2=>?_⟩,λk d2 q=>?_,λk d2 q=>?_⟩
  ·obtain⟨_,ys,w⟩:=f2.dom z;exact lne w rfl
  ·have hk:=q0c q (by intro z;cases z);rw[List.getElem?_set_ne (Ne.symm hk)]at q;exact f3 k d2 b q q2
  ·have hk:=q0c q (by intro z;cases z);rw[List.getElem?_set_ne (Ne.symm hk)]at q;exact u k d2 q
  ·have hk:=q0c q (by intro z;cases z);rw[List.getElem?_set_ne (Ne.symm hk)]at q;exact n k d2 q
 ·have hj:j=i:=by
   by_cases hj:j=i
   ·exact hj
   ·rw[List.getElem?_set_ne (Ne.symm hj)]at h;exact(R.od i _ hi).2 j _ h
  subst hj;obtain⟨hl,e⟩:=q3b h;cases e;refine⟨⟨p,o1,hok,ha,hp,q0n⟩,λk d' q=>?_⟩;by_cases hk:k=j
  ·exact hk
  ·rw[List.getElem?_set_ne (Ne.symm hk)]at q;exact(R.od j _ hi).2 k _ q
 ·by_cases hba:b=p
  ·rw[hba,q0n]at q;cases q
  ·rw[q0f hba]at q;exact R.hid.ot b hb q
 ·by_cases hba:b=p
  ·exact⟨_,by rw[hba];exact q0n,hok.mut⟩
  ·obtain⟨ys,q,m⟩:=R.hid.wl b hb;exact⟨ys,by rw[q0f hba];exact q,m⟩
end
section
variable {X:Cx} {E:St->XK} {δ:List Sv} {o:Out} {e ek ed ea:Expr} {pos pos' npos spos apos cpos:Pos} {ra rb rc:Option Re} {i:Nat} {x:Str} {re:Re}
end
end L2
end
noncomputable section
namespace L2
open PySem PySem.Spec PyProof.Rows
def kP(p:Int×Int):List Key:=[.inl p.1,.inl p.2]
theorem z1X{p q:Int×Int}(h:kP p=kP q):p=q:=by
 unfold kP at h;obtain⟨a,b⟩:=p;obtain⟨c,d⟩:=q;simp at h;rw[h.1,h.2]
def kD(p:Int×Int):DKey:=.t [.inl p.1,.inl p.2]
theorem z5J{p q:Int×Int}(h:kD p=kD q):p=q:=z1X (DKey.t.inj h)
section
variable {X:Cx} {E:St->XK} {δ:List Sv} {o:Out} {e ek ed ea:Expr} {es:List Expr} {x1:Nat} {pos pos' npos spos apos cpos tpos:Pos} {ra rb rc:Option Re} {rs:Option Rs} {i:Nat} {x:Str} {re:Re}
end
end L2
end
noncomputable section
namespace L2
open PySem
def Kp(a:Addr)(h h':Heap):Prop:=∀b o,b≠a->h.get? b=some o->h'.get? b=some o
theorem Kp.of{a:Addr}{h h':Heap}(x:Heap.SameBut a h h'):Kp a h h':=λb o n e=>x.extBut b o n e
theorem Kp.push{a:Addr}{h h':Heap}(x:Kp a h h')(o':Obj):Kp a h (h'.push o'):=λb o n e=>Heap.get?_push_of_some _ (x b o n e)
section
variable {prog:Program} {w:World} {A:Around} {E:Value->Shared->Prop} {s:Shared} {d it:Addr} {i ep:Nat} {od:Obj} {es:Array DictEntry} {ok ov:Value}
def q8w(h:Heap)(it d:Addr)(i n ep:Nat):Prop:=h.get? it=some {cls:=.type "dict_keyiterator",dict:=none,data:=.fields #[.ref d,.int i 0,.int n 0,.int ep 0],slots:=#[]}
theorem q9P{Q:Value->Shared->Prop}(hd:(d==sysModules)=false)(hT:s.TypeIs (.ref d) "dict")(ho:s.heap.get? d=some od)(hdat:od.data=.dict es ep)
  (q:Q (.ref s.heap.objs.size) {s with heap:=s.heap.push {cls:=.type "dict_keyiterator",data:=.fields #[.ref d,.int 0 0,.int es.size 0,.int ep 0]}}):wpAny (model prog w) A (pyIter (.ref d)) Q E s:=by
 have no:¬((d==sysModules)=true):=by rw[hd];exact Bool.false_ne_true
 refine wpAny_pyIter_slot hT F.slot_dict_iter (wpAny_call_entry F.slot_dict_iter hT F.entry_dict_iter ?_ (F.args_dict_iter_1 _));unfold Builtin.«dict.__iter__» Builtin.Dict.dictSlotNone Builtin.Dict.showsAll;refine wpAny_bind (wpAny_bind (wpAny_notOrdered_dict hT (wpAny_pure ?_)));show wpAny _ _ ((if(d==sysModules)=true then _ else _) >>= _) _ _ s;rw[if_neg no];exact wpAny_bind (wpAny_pure (wpAny_bind (wpAny_dictEntries ho hdat (wpAny_bind (wpAny_dictEpoch ho hdat (wpAny_bind (wpAny_newObj_type (wpAny_pure ⟨_,rfl,"dict_keyiterator",_,⟨_,Heap.get?_push_size _ rfl,rfl⟩,F.slot_dict_keyiterator_next.lookup,q⟩))))))))
theorem q5U{Q:Option Value->Shared->Prop}(hh:A.handled=none)(hit:q8w s.heap it d i es.size ep)(hod:s.heap.get? d=some od)(hdd:od.data=.dict es ep)
  (some_:∀en h',es[i]? = some en->q8w h' it d (i+1) es.size ep->Kp it s.heap h'->Q (some en.key) {s with heap:=h'})
  (none_:∀h',es[i]? = none->Kp it s.heap h'->Q none {s with heap:=h'}):wpAny (model prog w) A (pyNext (.ref it)) Q E s:=by
 have ty:∀{h:Heap} {j:Nat},q8w h it d j es.size ep->Shared.TypeIs {s with heap:=h} (.ref it) "dict_keyiterator":=λz=>⟨_,z,rfl⟩;have ow:Builtin.Dict_items.ownsTuple "dict_keyiterator" = false:=by decide
 have nn:¬((Value.ref d==Value.none)=true):=Bool.false_ne_true;unfold pyNext;refine wpAny_bind (wpAny_attempt (wpAny_callSpecial?_slot (name:=Str.ofString "__next__") (ty hit) F.slot_dict_keyiterator_next (wpAny_call_entry F.slot_dict_keyiterator_next (ty hit) F.entry_dict_keyiterator_next ?_ (F.args_dict_keyiterator_next_1 _))));refine wpAny_bind (wpAny_pure (wpAny_bind (wpAny_bind (wpAny_bind (wpAny_typeNameOfWhole_keyiter (ty hit) (wpAny_pure (wpAny_bind (wpAny_fieldsOf hit rfl ?_))))))));simp only[ow,Bool.false_eq_true,if_false];show wpAny _ _ (if(Value.ref d==Value.none)=true then _ else _) _ _ s;rw[if_neg nn];refine wpAny_bind (wpAny_pure (wpAny_bind (wpAny_dictEntries hod hdd ?_)));rw[if_neg (by simp)];refine wpAny_bind (wpAny_pure (wpAny_bind (wpAny_dictEpoch hod hdd ?_)));rw[if_neg (by simp)];refine wpAny_pure ?_;dsimp only;rw[if_neg (show ¬((i:Int)<0) by omega),Int.toNat_natCast];cases hx:es[i]? with
 | none=>
  dsimp only;refine wpAny_bind (wpAny_bind (wpAny_typeNameOfWhole_keyiter (ty hit) (wpAny_pure ?_)));simp only[ow,Bool.false_eq_true,if_false];refine wpAny_bind (wpAny_setField_rec hit (by simp) λh1 z1 s1=>wpAny_bind ?_);unfold newExc newTuple;refine wpAny_bind (wpAny_newObj_type (wpAny_bind (m:=firstArgMember _ _) (wpAny_of_eq (a:=Value.none) (by first | rfl | (simp only[firstArgMember];rfl)) (wpAny_newObj_type (wpAny_raiseNew_none hh (wpAny_bind (wpAny_isInstance (T:="StopIteration") (b:=true) ⟨_,Heap.get?_push_size _ rfl,rfl⟩ isSubtype_stop (wpAny_pure ?_)))) (by size_fits)))) (by size_fits));exact none_ _ hx (((Kp.of s1).push _).push _)
 | some en=>
  dsimp only;refine wpAny_bind (wpAny_bind (wpAny_typeNameOfWhole_keyiter (ty hit) (wpAny_pure (wpAny_bind (wpAny_isOneOf_keyiter (ty hit) ?_)))));simp only[ow,Bool.false_eq_true,if_false];refine wpAny_bind (wpAny_setField_rec hit (by simp) λh1 z1 s1=>?_);have e1:q8w h1 it d (i+1) es.size ep:=by unfold q8w;rw[show((i+1:Nat):Int)=(i:Int)+1 by omega];exact z1
  refine wpAny_bind (wpAny_holding (wpAny_bind (wpAny_isOneOf_keyiter (ty e1) ?_)));exact wpAny_pure (wpAny_pure ⟨_,rfl,wpAny_pure (some_ en h1 hx e1 (.of s1))⟩)
end
end L2
end
noncomputable section
namespace L2
open PySem PyProof.Rows
def q2u:Bool->Keyed->Array Keyed->Nat->Nat->Nat->StateT SortSt Sem (Option Nat):=sortPriv% PySem.Builtin.gallop
def bydM(left:Bool)(key:Keyed)(arr:Array Keyed)(base i:Nat):StateT SortSt Sem (Option Bool):=elem' arr (base+i) >>= λx=>if left then lt' x key else lt' key x >>= λo=>pure (o.map (!·))
section
variable {prog:Program} {w:World} {A:Around} {E:Value->Shared->Prop} {s:Shared} {κ:SortKind} {S:Keyed->Prop} {r:Keyed->Int} {st:SortSt}
def Cmp(prog:Program)(w:World)(A:Around)(s:Shared)(κ:SortKind)(S:Keyed->Prop)(r:Keyed->Int):Prop:=∀x y,S x->S y->∀C:Bool->Shared->Prop,C (decide (r x<r y)) s->wpAny (model prog w) A (keyLt' κ x.1 y.1) C (λ_ _=>False) s
theorem q0t{arr:Array Keyed}{i:Nat}{x:Keyed}{Q:Keyed->SortSt->Prop}(h:arr[i]? = some x)(q:Q x st):wpS (model prog w) A E s (elem' arr i) Q st:=by
 rw[elem'_eq,h];exact wpS_pure q
theorem q5D{x y:Keyed}{Q:Option Bool->SortSt->Prop}(hc:Cmp prog w A s κ S r)(hk:kindOf st=κ)(hx:S x)(hy:S y)(q:Q (some (decide (r x<r y))) st):wpS (model prog w) A E s (lt' x y) Q st:=by
 rw[lt'_eq];refine wpS_bind (wpS_get ?_);rw[hk];have L:wpS (model prog w) A E s (liftM (keyLt' κ x.1 y.1).attempt:StateT SortSt Sem (Except Value Bool)) (λa st'=>a=.ok (decide (r x<r y))/\st'=st) st:=by show wpAny (model prog w) A ((keyLt' κ x.1 y.1).attempt >>= λa=>pure (a,st)) _ E s;refine wpAny_bind (wpAny_attempt (wpAny_mono (hc x y hx hy (λb s'=>b=decide (r x<r y)/\s'=s) ⟨rfl,rfl⟩) (λb s' h=>?_) λ_ _ z=>z.elim));obtain⟨rfl,rfl⟩:=h;exact wpAny_pure ⟨rfl,rfl,rfl⟩
 refine wpS_bind (wpS_mono L λa st' h=>?_);obtain⟨rfl,rfl⟩:=h;exact wpS_pure q
def byd(r:Keyed->Int)(left:Bool)(key x:Keyed):Bool:=if left then decide (r x<r key)else !(decide (r key<r x))
theorem q2B{left:Bool}{key:Keyed}{arr:Array Keyed}{base i:Nat}{x:Keyed}{Q:Option Bool->SortSt->Prop}(hc:Cmp prog w A s κ S r)(hk:kindOf st=κ)(hx:S x)(hy:S key)(h:arr[base+i]? = some x)(q:Q (some (byd r left key x)) st) :
  wpS (model prog w) A E s (bydM left key arr base i) Q st:=by
 unfold bydM;refine wpS_bind (q0t h ?_);cases left with
 | true=>exact q5D hc hk hx hy q
 | false=>exact wpS_bind (q5D hc hk hy hx (wpS_pure q))
section
variable {left:Bool} {key:Keyed} {arr:Array Keyed} {base n:Nat} {b:Nat->Bool}
theorem z2d{Q:Option Nat->SortSt->Prop}(hc:Cmp prog w A s κ S r)(hk:kindOf st=κ)(hy:S key)(hb:∀i,i<n->∃x,arr[base+i]? = some x/\S x/\byd r left key x=b i)(mono:∀i j,i<=j->j<n->b j=true->b i=true){lo hi:Nat}(h1:lo<=hi)(h2:hi<=n)(hlo:∀i,i<lo->b i=true)(hhi:∀i,hi<=i->i<n->b i=false)
  (q:∀k,k<=n->(∀i,i<k->b i=true)->(∀i,k<=i->i<n->b i=false)->Q (some k) st) {f:Nat->Option (Option Nat)×Nat×Nat->StateT SortSt Sem (ForInStep (Option (Option Nat)×Nat×Nat))} {g:Nat->Nat->Option Bool->StateT SortSt Sem (ForInStep (Option (Option Nat)×Nat×Nat))} {kk:Option (Option Nat)×Nat×Nat->StateT SortSt Sem (Option Nat)}
  (f1:∀i l h,l ≥ h->f i (none,l,h)=pure (.done (none,l,h))) (f2:∀i l h,¬l ≥ h->f i (none,l,h)=bydM left key arr base (l+(h - l)/2) >>= g l h) (f3:∀l h,g l h (some true)=pure (.yield (none,l+(h - l)/2+1,h))) (f4:∀l h,g l h (some false)=pure (.yield (none,l,l+(h - l)/2))) (f5:∀l h,kk (none,l,h)=pure (some h)) :
  wpS (model prog w) A E s (forIn [:n] ((none:Option (Option Nat)),lo,hi) f >>= kk) Q st:=by
 refine wpS_bind (wpS_mono (wpS_forRange (a:=0) (b:=n) (I:=λ(i:Nat) (c:Option (Option Nat)×Nat×Nat) (st':SortSt)=>st'=st/\c.1=none/\c.2.1<=c.2.2/\c.2.2<=n/\(c.2.2 - c.2.1)+i<=n/\(∀i,i<c.2.1->b i=true)/\∀i,c.2.2<=i->i<n->b i=false)
  (Q:=λ(c:Option (Option Nat)×Nat×Nat) (st':SortSt)=>st'=st/\c.1=none/\c.2.2<=n/\(∀i,i<c.2.2->b i=true)/\∀i,c.2.2<=i->i<n->b i=false) ?step ?fin ⟨rfl,rfl,h1,h2,by show hi - lo+0<=n;omega,hlo,hhi⟩) λc st' h=>?_)
 case step=>
  rintro i ⟨c0,l,h⟩ st' _ hi' ⟨rfl,e0,g1,g2,g3,g4,g5⟩
  dsimp only at e0 g1 g2 g3 g4 g5 ⊢;subst e0;by_cases z:l ≥ h
  ·rw[f1 _ _ _ z];have:l=h:=by omega
   subst this;exact wpS_pure ⟨rfl,rfl,g2,g4,g5⟩
  ·rw[f2 _ _ _ z];have hm:l+(h - l)/2<h:=by omega
   obtain⟨x,ex,sx,bx⟩:=hb (l+(h - l)/2) (by omega);refine wpS_bind (q2B hc hk sx hy ex ?_);rw[bx];cases hbm:b (l+(h - l)/2)with
   | true=>
    rw[f3];exact wpS_pure ⟨rfl,rfl,by show l+(h - l)/2+1<=h;omega,g2,by show h - (l+(h - l)/2+1)+(i+1)<=n;omega,λj hj=>mono j _ (by show j<=l+(h - l)/2;have:j<l+(h - l)/2+1:=hj;omega) (by omega) hbm,g5⟩
   | false=>
    rw[f4];exact wpS_pure ⟨rfl,rfl,by show l<=l+(h - l)/2;omega,by show l+(h - l)/2<=n;omega,by show l+(h - l)/2 - l+(i+1)<=n;omega,g4,λj hj hjn=>by
     cases hbj:b j with
     | false=>rfl
     | true=>rw[mono _ j hj hjn hbj]at hbm;cases hbm⟩
 case fin=>
  rintro⟨c0,l,h⟩ st' ⟨rfl,e0,g1,g2,g3,g4,g5⟩
  dsimp only at e0 g1 g2 g3 g4 g5 ⊢;have:l=h:=by omega
  subst this;exact⟨rfl,e0,g2,g4,g5⟩
 ·obtain⟨c0,l,h'⟩:=c;obtain⟨rfl,e0,g2,g4,g5⟩:=h;dsimp only at e0 g2 g4 g5;subst e0;rw[f5];exact wpS_pure (q _ g2 g4 g5)
theorem q7X{hint:Nat}{Q:Option Nat->SortSt->Prop}(hc:Cmp prog w A s κ S r)(hk:kindOf st=κ)(hy:S key)(hb:∀i,i<n->∃x,arr[base+i]? = some x/\S x/\byd r left key x=b i)(mono:∀i j,i<=j->j<n->b j=true->b i=true)(hh:hint<n)
  (q:∀k,k<=n->(∀i,i<k->b i=true)->(∀i,k<=i->i<n->b i=false)->Q (some k) st):wpS (model prog w) A E s (q2u left key arr base n hint) Q st:=by
 have up:∀{i},i<n->b i=false->∀j,i<=j->j<n->b j=false:=λ{i} hi h j hj hjn=>by
  cases hbj:b j with
  | false=>rfl
  | true=>rw[mono _ j hj hjn hbj]at h;cases h
 obtain⟨x0,e0,s0,b0⟩:=hb hint hh;refine wpS_bind (m:=bydM left key arr base hint) (q2B hc hk s0 hy e0 ?_);dsimp only;rw[b0];cases hb0:b hint with
 | true=>
  rw[if_pos rfl];refine wpS_bind (wpS_mono (wpS_forRange (a:=0) (b:=n) (I:=λ(i:Nat) (c:Option (Option Nat)×Nat×Nat) (st':SortSt)=>st'=st/\c.1=none/\c.2.1<c.2.2/\i+1<=c.2.2/\c.2.1<n - hint/\b (hint+c.2.1)=true)
   (Q:=λ(c:Option (Option Nat)×Nat×Nat) (st':SortSt)=>st'=st/\c.1=none/\c.2.1<c.2.2/\c.2.1<n - hint/\b (hint+c.2.1)=true/\(c.2.2<n - hint->b (hint+c.2.2)=false)) ?step ?fin ⟨rfl,rfl,Nat.zero_lt_one,Nat.le_refl _,by show 0<n - hint;omega,hb0⟩) λc st' h=>?_)
  case step=>
   rintro i ⟨c0,l,o⟩ st' _ hi' ⟨rfl,e0,g1,g2,g3,g4⟩
   dsimp only at e0 g1 g2 g3 g4 ⊢;subst e0;split
   ·rename_i z;exact wpS_pure ⟨rfl,rfl,g1,g3,g4,λw=>absurd w (by show ¬o<n - hint;omega)⟩
   ·rename_i z;obtain⟨x,ex,sx,bx⟩:=hb (hint+o) (by omega);refine wpS_bind (q2B hc hk sx hy ex ?_);dsimp only;rw[bx];cases hbo:b (hint+o)with
    | true=>
     rw[if_neg (by simp)];exact wpS_pure ⟨rfl,rfl,by show o<2*o+1;omega,by show i+1+1<=2*o+1;omega,by show o<n - hint;omega,hbo⟩
    | false=>
     rw[if_pos (by simp)];exact wpS_pure ⟨rfl,rfl,g1,g3,g4,λ_=>hbo⟩
  case fin=>
   rintro⟨c0,l,o⟩ st' ⟨rfl,e0,g1,g2,g3,g4⟩
   dsimp only at e0 g1 g2 g3 g4 ⊢;exact⟨rfl,e0,g1,g3,g4,λw=>absurd w (by omega)⟩
  ·obtain⟨c0,l,o⟩:=c;obtain⟨rfl,e0,g1,g3,g4,g5⟩:=h;dsimp only at e0 g1 g3 g4 g5 ⊢;subst e0;dsimp only;refine z2d (E:=E) (Q:=Q) (lo:=hint+l+1) (hi:=hint+min o (n - hint)) hc hk hy hb mono (by omega) (by omega) (λi hi=>mono i _ (by omega) (by omega) g4) (λi hi hin=>up (i:=hint+o) (by omega) (g5 (by omega)) i (by omega) hin) q (λi l h z=>if_pos z) (λi l h z=>if_neg z) (λl h=>rfl) (λl h=>rfl) (λl h=>rfl)
 | false=>
  rw[if_neg (by simp)];refine wpS_bind (wpS_mono (wpS_forRange (a:=0) (b:=n) (I:=λ(i:Nat) (c:Option (Option Nat)×Nat×Nat) (st':SortSt)=>st'=st/\c.1=none/\c.2.1<c.2.2/\i+1<=c.2.2/\c.2.1<hint+1/\b (hint - c.2.1)=false)
   (Q:=λ(c:Option (Option Nat)×Nat×Nat) (st':SortSt)=>st'=st/\c.1=none/\c.2.1<c.2.2/\c.2.1<hint+1/\b (hint - c.2.1)=false/\(c.2.2<hint+1->b (hint - c.2.2)=true)) ?step ?fin ⟨rfl,rfl,Nat.zero_lt_one,Nat.le_refl _,Nat.succ_pos _,hb0⟩) λc st' h=>?_)
  case step=>
   rintro i ⟨c0,l,o⟩ st' _ hi' ⟨rfl,e0,g1,g2,g3,g4⟩
   dsimp only at e0 g1 g2 g3 g4 ⊢;subst e0;split
   ·rename_i z;exact wpS_pure ⟨rfl,rfl,g1,g3,g4,λw=>absurd w (by show ¬o<hint+1;omega)⟩
   ·rename_i z;obtain⟨x,ex,sx,bx⟩:=hb (hint - o) (by omega);refine wpS_bind (q2B hc hk sx hy ex ?_);dsimp only;rw[bx];cases hbo:b (hint - o)with
    | true=>
     rw[if_pos rfl];exact wpS_pure ⟨rfl,rfl,g1,g3,g4,λ_=>hbo⟩
    | false=>
     rw[if_neg (by simp)];exact wpS_pure ⟨rfl,rfl,by show o<2*o+1;omega,by show i+1+1<=2*o+1;omega,by show o<hint+1;omega,hbo⟩
  case fin=>
   rintro⟨c0,l,o⟩ st' ⟨rfl,e0,g1,g2,g3,g4⟩
   dsimp only at e0 g1 g2 g3 g4 ⊢;exact⟨rfl,e0,g1,g3,g4,λw=>absurd w (by omega)⟩
  ·obtain⟨c0,l,o⟩:=c;obtain⟨rfl,e0,g1,g3,g4,g5⟩:=h;dsimp only at e0 g1 g3 g4 g5 ⊢;subst e0;dsimp only;refine z2d (E:=E) (Q:=Q) (lo:=hint+1 - min o (hint+1)) (hi:=hint - l) hc hk hy hb mono (by omega) (by omega) (λi hi=>mono i _ (by omega) (by omega) (g5 (by omega))) (λi hi hin=>up (by omega) g4 i hi hin) q (λi l h z=>if_pos z) (λi l h z=>if_neg z) (λl h=>rfl) (λl h=>rfl) (λl h=>rfl)
end
end
end L2
end
noncomputable section
namespace L2
open PySem PyProof.Rows
variable {α:Type} {r:α->Int} {la lb out:List α} {ia ib:Nat}
abbrev q1s(r:α->Int)(l:List α):Prop:=l.Pairwise λx y=>r x<r y
structure Mg(r:α->Int)(la lb out:List α)(ia ib:Nat):Prop where
 pm:out.Perm (la.take ia++lb.take ib)
 up:q1s r out
 fa:∀x∈out,∀y∈la.drop ia,r x<r y
 fb:∀x∈out,∀y∈lb.drop ib,r x<r y
structure Mfin(r:α->Int)(la lb out:List α):Prop where
 pm:out.Perm (la++lb)
 up:q1s r out
theorem q1Z{l:List α}(h:q1s r l){i j:Nat}{x y:α}(hi:l[i]? = some x)(hj:l[j]? = some y)(hij:i<j):r x<r y:=by
 obtain⟨h1,rfl⟩:=List.getElem?_eq_some_iff.mp hi;obtain⟨h2,rfl⟩:=List.getElem?_eq_some_iff.mp hj;exact List.pairwise_iff_getElem.mp h i j h1 h2 hij
theorem q3R{l:List α}(h:q1s r l){i:Nat}{x:α}(hi:l[i]? = some x):∀y∈l.drop (i+1),r x<r y:=λy hy=>by
 obtain⟨j,hj⟩:=List.mem_iff_getElem?.mp hy;rw[List.getElem?_drop]at hj;exact q1Z h hi hj (by omega)
theorem q1M{l:List α}{i:Nat}{x:α}(hi:l[i]? = some x):l.drop i=x::l.drop (i+1):=by
 obtain⟨h1,rfl⟩:=List.getElem?_eq_some_iff.mp hi;exact List.drop_eq_getElem_cons h1
theorem q3a{l:List α}{i:Nat}{x:α}(hi:l[i]? = some x):l.take (i+1)=l.take i++[x]:=by
 rw[List.take_add_one,hi];rfl
theorem Mg.swap(h:Mg r la lb out ia ib):Mg r lb la out ib ia:=⟨h.pm.trans List.perm_append_comm,h.up,h.fb,h.fa⟩
theorem Mg.tookB(h:Mg r la lb out ia ib)(hb:q1s r lb){x:α}(hx:lb[ib]? = some x)(hlt:∀y∈la.drop ia,r x<r y):Mg r la lb (out++[x]) ia (ib+1):=by
 refine⟨?_,?_,λz hz y hy=>?_,λz hz y hy=>?_⟩
 ·rw[q3a hx,←List.append_assoc];exact h.pm.append_right _
 ·refine List.pairwise_append.mpr ⟨h.up,List.pairwise_singleton _ _,λz hz y hy=>?_⟩;rw[List.mem_singleton.mp hy];exact h.fb z hz x (by rw[q1M hx];exact List.mem_cons_self ..)
 ·rcases List.mem_append.mp hz with q | q
  ·exact h.fa z q y hy
  ·rw[List.mem_singleton.mp q];exact hlt y hy
 ·rcases List.mem_append.mp hz with q | q
  ·exact h.fb z q y (by rw[q1M hx];exact List.mem_cons_of_mem _ hy)
  ·rw[List.mem_singleton.mp q];exact q3R hb hx y hy
theorem Mg.tookA(h:Mg r la lb out ia ib)(ha:q1s r la){x:α}(hx:la[ia]? = some x)(hlt:∀y∈lb.drop ib,r x<r y):Mg r la lb (out++[x]) (ia+1) ib:=(h.swap.tookB ha hx hlt).swap
theorem Mg.runB(h:Mg r la lb out ia ib)(hb:q1s r lb):∀(k:Nat),ib+k<=lb.length->(∀i x,i<k->lb[ib+i]? = some x->∀y∈la.drop ia,r x<r y)->Mg r la lb (out++(lb.drop ib).take k) ia (ib+k)
 | 0,_,_=>by rw[List.take_zero,List.append_nil];exact h
 | k+1,hk,hlt=>by have ih:=h.runB hb k (by omega) λi x hi=>hlt i x (by omega);have hx:lb[ib+k]? = some lb[ib+k]:=List.getElem?_eq_getElem (by omega);have e:(lb.drop ib).take (k+1)=(lb.drop ib).take k++[lb[ib+k]]:=q3a (by rw[List.getElem?_drop];exact hx);rw[e,←List.append_assoc];exact ih.tookB hb hx (hlt k _ (by omega) hx)
theorem Mg.runA(h:Mg r la lb out ia ib)(ha:q1s r la)(k:Nat)(hk:ia+k<=la.length)(hlt:∀i x,i<k->la[ia+i]? = some x->∀y∈lb.drop ib,r x<r y):Mg r la lb (out++(la.drop ia).take k) (ia+k) ib:=(h.swap.runB ha k hk hlt).swap
theorem Mg.endB(h:Mg r la lb out ia ib)(ha:q1s r la)(hb:lb.length<=ib)(hi:ia<=la.length):Mfin r la lb (out++la.drop ia):=by
 have q:=h.runA ha (la.length - ia) (by omega) λi x _ _ y hy=>by rw[List.drop_of_length_le hb]at hy;cases hy
 rw[List.take_of_length_le (by rw[List.length_drop];exact Nat.le_refl _)]at q;refine⟨?_,q.up⟩;have:=q.pm;rw[show ia+(la.length - ia)=la.length by omega,List.take_length,List.take_of_length_le hb]at this;exact this
theorem Mg.lastA(h:Mg r la lb out ia ib)(hb:q1s r lb){x:α}(hx:la[ia]? = some x)(h1:ia+1=la.length)(hi:ib<=lb.length)(hlt:∀y∈lb,r y<r x):Mfin r la lb (out++lb.drop ib++[x]):=by
 have hd:la.drop ia=[x]:=by rw[q1M hx,List.drop_of_length_le (by omega)]
 have q:=h.runB hb (lb.length - ib) (by omega) λi z _ hz y hy=>by rw[hd]at hy;rw[List.mem_singleton.mp hy];exact hlt z (List.mem_of_getElem? hz)
 rw[List.take_of_length_le (by rw[List.length_drop];exact Nat.le_refl _),show ib+(lb.length - ib)=lb.length by omega]at q;refine⟨?_,List.pairwise_append.mpr ⟨q.up,List.pairwise_singleton _ _,λz hz y hy=>?_⟩⟩
 ·have p:=q.pm.append_right [x];rw[List.take_length]at p;refine p.trans ?_;have e:la=la.take ia++[x]:=by rw[←q3a hx,List.take_of_length_le (by omega)]
  refine List.Perm.trans ?_ (List.Perm.append_right lb (List.Perm.of_eq e.symm));rw[List.append_assoc,List.append_assoc];exact List.Perm.append_left _ List.perm_append_comm
 ·exact q.fa z hz y (by rw[hd];exact hy)
theorem Mg.start(hb:q1s r lb){x:α}(hx:lb[0]? = some x)(hlt:∀y∈la,r x<r y):Mg r la lb [x] 0 1:=
 Mg.tookB (out:=[]) (ia:=0) (ib:=0) ⟨.refl _,.nil,λ_ h=>(nomatch h),λ_ h=>(nomatch h)⟩ hb hx hlt
end L2
end
noncomputable section
namespace L2
open PySem PyProof.Rows
def q7M:Array Keyed->Array Keyed->StateT SortSt Sem (Array Keyed):=sortPriv% PySem.Builtin.mergeLo
def q7p:Array Keyed->Array Keyed->StateT SortSt Sem (Array Keyed):=sortPriv% PySem.Builtin.mergeHi
structure MOk(r:Keyed->Int)(S:Keyed->Prop)(a b:Array Keyed):Prop where
 ra:q1s r a.toList
 rb:q1s r b.toList
 sa:∀x∈a.toList,S x
 sb:∀x∈b.toList,S x
 ne:∀x∈a.toList,∀y∈b.toList,r x≠r y
 na:0<a.size
 nb:0<b.size
 h0:∀x,b[0]? = some x->∀y∈a.toList,r x<r y
 hl:∀x,a[a.size - 1]? = some x->∀y∈b.toList,r y<r x
def q2W(st st':SortSt):Prop:=∃g,st'=SortSt.mk' (kindOf st) (arrOf st) (pendingOf st) g (failedOf st)
section
variable {prog:Program} {w:World} {A:Around} {E:Value->Shared->Prop} {s:Shared} {κ:SortKind} {S:Keyed->Prop} {r:Keyed->Int} {st:SortSt} {a b:Array Keyed}
theorem q1n{a:Array Keyed}{i:Nat}(h:i<a.size):∃x,a[i]? = some x/\a.toList[i]? = some x/\x∈a.toList:=
 ⟨a[i],Array.getElem?_eq_getElem h,by rw[Array.getElem?_toList];exact Array.getElem?_eq_getElem h,by simp⟩
theorem q2C(a:Array Keyed)(i:Nat):(a.extract i a.size).toList=a.toList.drop i:=by
 simp[List.take_of_length_le]
theorem q2e(a:Array Keyed)(i k:Nat):(a.extract i (i+k)).toList=(a.toList.drop i).take k:=by
 simp[List.extract_eq_drop_take]
structure MI(r:Keyed->Int)(a b out:Array Keyed)(ia ib:Nat):Prop where
 g:Mg r a.toList b.toList out.toList ia ib
 la:ia+1<a.size
 lb:ib<b.size
theorem q2W.refl(st:SortSt):q2W st st:=⟨gallopOf st,rfl⟩
theorem MOk.aftA(m:MOk r S a b){ia ib:Nat}{x y:Keyed}(hx:a.toList[ia]? = some x)(hy:b.toList[ib]? = some y)(h:r x<r y):∀z∈b.toList.drop ib,r x<r z:=λz hz=>by
 rw[q1M hy]at hz;rcases List.mem_cons.mp hz with rfl | hz
 ·exact h
 ·exact Int.lt_trans h (q3R m.rb hy z hz)
theorem MOk.aftB(m:MOk r S a b){ia ib:Nat}{x y:Keyed}(hx:a.toList[ia]? = some x)(hy:b.toList[ib]? = some y)(h:r y<r x):∀z∈a.toList.drop ia,r y<r z:=λz hz=>by
 rw[q1M hx]at hz;rcases List.mem_cons.mp hz with rfl | hz
 ·exact h
 ·exact Int.lt_trans h (q3R m.ra hx z hz)
theorem MOk.doneB(m:MOk r S a b){out:Array Keyed}{ia ib:Nat}(g:Mg r a.toList b.toList out.toList ia ib)(hb:ib=b.size)(ha:ia<=a.size):Mfin r a.toList b.toList (out++a.extract ia++b.extract ib).toList:=by
 have e:=g.endB m.ra (by rw[Array.length_toList];omega) (by rw[Array.length_toList];omega);have e2:(out++a.extract ia++b.extract ib).toList=out.toList++a.toList.drop ia:=(by rw[Array.toList_append,Array.toList_append,q2C,q2C,List.drop_of_length_le (l:=b.toList) (by rw[Array.length_toList];omega),List.append_nil]);rw[e2];exact e
theorem MOk.doneA(m:MOk r S a b){out:Array Keyed}{ia ib:Nat}(g:Mg r a.toList b.toList out.toList ia ib)(ha:ia+1=a.size)(hb:ib<=b.size):Mfin r a.toList b.toList (out++b.extract ib++a.extract ia).toList:=by
 obtain⟨x,e1,e2,e3⟩:=q1n (a:=a) (i:=ia) (by omega);have e:=g.lastA m.rb e2 (by rw[Array.length_toList];omega) (by rw[Array.length_toList];omega) (m.hl x (by rw[show a.size - 1=ia by omega];exact e1));have e4:(out++b.extract ib++a.extract ia).toList=out.toList++b.toList.drop ib++[x]:=(by rw[Array.toList_append,Array.toList_append,q2C,q2C,q1M e2,List.drop_of_length_le (l:=a.toList) (by rw[Array.length_toList];omega)]);rw[e4];exact e
theorem q3o{left:Bool}{key:Keyed}{arr:Array Keyed}{base n hint:Nat}{Q:Option Nat->SortSt->Prop}(hc:Cmp prog w A s κ S r)(hk:kindOf st=κ)(hy:S key)(hsz:base+n<=arr.size)(hS:∀i x,i<n->arr[base+i]? = some x->S x/\r x≠r key)
  (hup:∀i j x y,i<j->j<n->arr[base+i]? = some x->arr[base+j]? = some y->r x<r y) (hh:hint<n)
  (q:∀k,k<=n->(∀i x,i<k->arr[base+i]? = some x->r x<r key)->(∀i x,k<=i->i<n->arr[base+i]? = some x->r key<r x)->Q (some k) st):wpS (model prog w) A E s (q2u left key arr base n hint) Q st:=by
 have get:∀i,i<n->∃x,arr[base+i]? = some x:=λi hi=>⟨_,Array.getElem?_eq_getElem (by omega)⟩;refine q7X (b:=λi=>match arr[base+i]? with | some x=>decide (r x<r key) | none=>false) hc hk hy (λi hi=>?_) (λi j hij hj hb=>?_) hh λk hk1 hkt hkf=>q k hk1 (λi x hi hx=>?_) λi x hi hin hx=>?_
 ·obtain⟨x,x1⟩:=get i hi;obtain⟨s1,s2⟩:=hS i x hi x1;refine⟨x,x1,s1,?_⟩;rw[x1];cases left with
  | true=>rfl
  | false=>
   show(!(decide (r key<r x)))=decide (r x<r key);rw[←decide_not];exact decide_eq_decide.mpr ⟨λz=>by omega,λz=>by omega⟩
 ·obtain⟨x,x1⟩:=get i (by omega);obtain⟨z,z1⟩:=get j hj;rw[z1]at hb;rw[x1];have hb':r z<r key:=of_decide_eq_true hb;refine decide_eq_true ?_;rcases Nat.lt_or_ge i j with w | w
  ·exact Int.lt_trans (hup i j x z w hj x1 z1) hb'
  ·have:i=j:=by omega
   subst this;rw[x1]at z1;cases z1;exact hb'
 ·have e:=hkt i hi;rw[hx]at e;exact of_decide_eq_true e
 ·have e:=hkf i hi hin;rw[hx]at e;have:=of_decide_eq_false e;have:=(hS i x hin hx).2;omega
theorem MOk.gA(m:MOk r S a b){y:Keyed}(hy:y∈b.toList)(i:Nat)(x:Keyed)(hx:a[i]? = some x):S x/\r x≠r y:=by
 have:x∈a.toList:=List.mem_of_getElem? (i:=i) (by rw[Array.getElem?_toList];exact hx);exact⟨m.sa x this,m.ne x this y hy⟩
theorem MOk.gB(m:MOk r S a b){y:Keyed}(hy:y∈a.toList)(i:Nat)(x:Keyed)(hx:b[i]? = some x):S x/\r x≠r y:=by
 have:x∈b.toList:=List.mem_of_getElem? (i:=i) (by rw[Array.getElem?_toList];exact hx);exact⟨m.sb x this,λe=>m.ne y hy x this e.symm⟩
theorem MOk.uA(m:MOk r S a b){i j:Nat}{x y:Keyed}(h:i<j)(hx:a[i]? = some x)(hy:a[j]? = some y):r x<r y:=q1Z m.ra (by rw[Array.getElem?_toList];exact hx) (by rw[Array.getElem?_toList];exact hy) h
theorem MOk.uB(m:MOk r S a b){i j:Nat}{x y:Keyed}(h:i<j)(hx:b[i]? = some x)(hy:b[j]? = some y):r x<r y:=q1Z m.rb (by rw[Array.getElem?_toList];exact hx) (by rw[Array.getElem?_toList];exact hy) h
theorem q9e{σ α:Type}{M:Model}{m:StateT σ Sem α}{Q:α->σ->Prop}{st:σ}(h:∀QQ:α->σ->Prop,(∀x st',Q x st'->QQ x st')->wpS M A E s m QQ st):wpS M A E s m Q st:=h Q λ_ _ h=>h
theorem q6v{Q:Array Keyed->SortSt->Prop}(hc:Cmp prog w A s κ S r)(hk:kindOf st=κ)(m:MOk r S a b)(q:∀o st',Mfin r a.toList b.toList o.toList->q2W st st'->Q o st'):wpS (model prog w) A E s (q7M a b) Q st:=by
 refine wpS_bind (m:=liftM (rule "list.sort.merge-lo")) (wpS_lift (wpAny_rule ⟨rfl,?_⟩));obtain⟨b0,e0,e0',_⟩:=q1n m.nb;refine wpS_bind (m:=elem' b 0) (q0t e0 ?_);have g0:Mg r a.toList b.toList #[b0].toList 0 1:=Mg.start m.rb e0' (m.h0 b0 e0);dsimp -zeta only
 extract_lets -merge -underBinder +onlyGivenNames out ia ib
 split
 ·rename_i hz;exact wpS_pure (q _ _ (m.doneB g0 (by simpa using hz) (Nat.zero_le _)) (.refl _))
 rename_i hz1;split
 ·rename_i hz;exact wpS_pure (q _ _ (m.doneA g0 (by simpa using hz) m.nb) (.refl _))
 rename_i hz2;have hz1':¬1=b.size:=by simpa using hz1
 have hz2':¬0+1=a.size:=by simpa using hz2
 have i0:MI r a b #[b0] 0 1:=⟨g0,by have:=m.na;omega,by have:=m.nb;omega⟩
 clear hz1 hz2 hz1' hz2'
 refine wpS_bind (wpS_get ?_)
 extract_lets -merge -underBinder +onlyGivenNames mg
 clear_value mg
 refine wpS_bind (wpS_mono (wpS_forRange (a:=0) (b:=a.size+b.size) (I:=λ(i:Nat) (c:Option (Array Keyed)×Array Keyed×Nat×Nat×Nat) (st':SortSt)=>q2W st st'/\c.1=none/\MI r a b c.2.1 c.2.2.1 c.2.2.2.1/\i<=c.2.2.1+c.2.2.2.1)
  (Q:=λ(c:Option (Array Keyed)×Array Keyed×Nat×Nat×Nat) (st':SortSt)=>q2W st st'/\∃o,c.1=some o/\Mfin r a.toList b.toList o.toList) ?step ?fin ⟨.refl _,rfl,i0,Nat.zero_le _⟩) λc st' h=>?post)
 case post=>
  obtain⟨c0,c1⟩:=c;obtain⟨hs,o,e,f⟩:=h;dsimp only at e;subst e;exact wpS_pure (q _ _ f hs)
 case fin=>
  rintro⟨c0,o,ia,ib,g⟩ st' ⟨hs,e,i,hi⟩
  dsimp only at e i hi;have:=i.la;have:=i.lb;omega
 rintro i ⟨c0,o,ia,ib,g⟩ st1 _ hi ⟨hs,e,h,hm⟩
 dsimp only at e h hm;subst e
 extract_lets -merge -underBinder +onlyGivenNames s1 out1 s2 ia1 s3 ib1 mg1 ac bc
 clear_value mg1 ac bc
 have hk1:kindOf st1=κ:=by obtain⟨g,rfl⟩:=hs;exact hk
 refine wpS_bind (wpS_mono (wpS_forRange (a:=0) (b:=a.size+b.size) (I:=λ(j:Nat) (c:Option (Array Keyed)×Array Keyed×Nat×Nat×Nat×Nat) (st':SortSt)=>st'=st1/\c.1=none/\MI r a b c.2.1 c.2.2.1 c.2.2.2.1/\i+j<=c.2.2.1+c.2.2.2.1)
  (Q:=λ(c:Option (Array Keyed)×Array Keyed×Nat×Nat×Nat×Nat) (st':SortSt)=>st'=st1/\((∃o,c.1=some o/\Mfin r a.toList b.toList o.toList)\/(c.1=none/\MI r a b c.2.1 c.2.2.1 c.2.2.2.1/\i+1<=c.2.2.1+c.2.2.2.1))) ?istep ?ifin ⟨rfl,rfl,h,hm⟩) λc st2 h2=>?ipost)
 case ifin=>
  rintro⟨c0,o,ia,ib,ac,bc⟩ st' ⟨hs,e,h,hi⟩
  dsimp only at e h hi;have:=h.la;have:=h.lb;omega
 case istep=>
  rintro j ⟨c0,o,ia,ib,ac,bc⟩ st' _ hj ⟨rfl,e,h,hi⟩
  dsimp only at e h hi;subst e;dsimp -zeta only;obtain⟨x,x1,x2,x3⟩:=q1n (a:=a) (i:=ia) (by have:=h.la;omega);obtain⟨y,y1,y2,y3⟩:=q1n (a:=b) (i:=ib) h.lb;refine wpS_bind (m:=elem' b ib) (q0t y1 (wpS_bind (m:=elem' a ia) (q0t x1 (wpS_bind (m:=lt' y x) (q5D hc hk1 (m.sb _ y3) (m.sa _ x3) ?_)))));dsimp -zeta only;by_cases hyx:r y<r x
  ·rw[decide_eq_true hyx,if_pos rfl];have g:=h.g.tookB m.rb y2 (m.aftB x2 y2 hyx);rw[←Array.toList_push]at g;refine wpS_bind (m:=elem' b ib) (q0t y1 ?_);dsimp only;split
   ·rename_i hz;exact wpS_pure ⟨rfl,.inl ⟨_,rfl,m.doneB g (by simpa using hz) (by have:=h.la;omega)⟩⟩
   ·rename_i hz;have hz':¬ib+1=b.size:=by simpa using hz
    have h':MI r a b (o.push y) ia (ib+1):=⟨g,h.la,by have:=h.lb;omega⟩;split
    ·exact wpS_pure ⟨rfl,.inr ⟨rfl,h',by dsimp only;omega⟩⟩
    ·exact wpS_pure ⟨rfl,rfl,h',by dsimp only;omega⟩
  ·have hxy:r x<r y:=by have:=m.ne x x3 y y3;omega
   rw[decide_eq_false hyx,if_neg (by simp)];have g:=h.g.tookA m.ra x2 (m.aftA x2 y2 hxy);rw[←Array.toList_push]at g;refine wpS_bind (m:=elem' a ia) (q0t x1 ?_);dsimp only;split
   ·rename_i hz;exact wpS_pure ⟨rfl,.inl ⟨_,rfl,m.doneA g (by simpa using hz) (by have:=h.lb;omega)⟩⟩
   ·rename_i hz;have hz':¬ia+1+1=a.size:=by simpa using hz
    have h':MI r a b (o.push x) (ia+1) ib:=⟨g,by have:=h.la;omega,h.lb⟩;split
    ·exact wpS_pure ⟨rfl,.inr ⟨rfl,h',by dsimp only;omega⟩⟩
    ·exact wpS_pure ⟨rfl,rfl,h',by dsimp only;omega⟩
 clear h hm
 obtain⟨c0,o2,ia2,ib2,ac2,bc2⟩:=c;obtain⟨rfl,h⟩:=h2;dsimp only at h;rcases h with⟨o,e,f⟩ | ⟨e,h,hm⟩
 ·subst e;exact wpS_pure ⟨hs,o,rfl,f⟩
 subst e
 extract_lets -merge -underBinder +onlyGivenNames r2 s4 out2 s5 ia2' s6 ib2' s7 ac2' bc2'
 refine wpS_bind (m:=liftM (rule "list.sort.gallop")) (wpS_lift (wpAny_rule ⟨rfl,?_⟩))
 extract_lets -merge -underBinder +onlyGivenNames mg2
 clear_value mg2
 refine wpS_bind (wpS_mono (wpS_forRange (a:=0) (b:=a.size+b.size) (I:=λ(j:Nat) (c:Option (Array Keyed)×Array Keyed×Nat×Nat×Nat×Nat×Nat) (st':SortSt)=>q2W st st'/\c.1=none/\MI r a b c.2.1 c.2.2.1 c.2.2.2.1/\i+1+j<=c.2.2.1+c.2.2.2.1)
  (Q:=λ(c:Option (Array Keyed)×Array Keyed×Nat×Nat×Nat×Nat×Nat) (st':SortSt)=>q2W st st'/\((∃o,c.1=some o/\Mfin r a.toList b.toList o.toList)\/(c.1=none/\MI r a b c.2.1 c.2.2.1 c.2.2.2.1/\i+1<=c.2.2.1+c.2.2.2.1))) ?gstep ?gfin ⟨hs,rfl,h,hm⟩) λc st3 h3=>?gpost)
 case gfin=>
  rintro⟨c0,o,ia,ib,mg,ac,bc⟩ st' ⟨hs,e,h,hi⟩
  dsimp only at e h hi;have:=h.la;have:=h.lb;omega
 case gpost=>
  obtain⟨c0,o3,ia3,ib3,mg3,ac3,bc3⟩:=c;obtain⟨hs3,h3⟩:=h3;dsimp only at h3;rcases h3 with⟨o,e,f⟩ | ⟨e,h3,hm3⟩
  ·subst e;exact wpS_pure ⟨hs3,o,rfl,f⟩
  ·subst e;dsimp only;refine wpS_bind (wpS_modify ?_);exact wpS_pure ⟨by obtain⟨g,rfl⟩:=hs3;exact⟨_,rfl⟩,rfl,h3,hm3⟩
 clear h hm
 rintro j ⟨c0,o,ia,ib,mg,ac,bc⟩ st3 _ hj ⟨hs3,e,h,hm⟩
 dsimp only at e h hm;subst e;refine q9e λQQ hQ=>?_
 extract_lets -merge -underBinder +onlyGivenNames t1 out3 t2 ia3 t3 ib3 t4 mg3 t5 ac3 bc3 jp
 have main:∀g,wpS (model prog w) A E s (jp () g) QQ st3:=by
  intro g;dsimp -zeta only[jp];refine wpS_bind (wpS_modify ?_);obtain⟨st4,e4⟩:∃st4,st4=SortSt.mk' (kindOf st3) (arrOf st3) (pendingOf st3) g (failedOf st3):=⟨_,rfl⟩;show wpS (model prog w) A E s _ QQ (SortSt.mk' (kindOf st3) (arrOf st3) (pendingOf st3) g (failedOf st3));rw[←e4];have hs4:q2W st st4:=by obtain⟨g,rfl⟩:=hs3;exact⟨_,e4⟩
  have hk4:kindOf st4=κ:=by obtain⟨g,rfl⟩:=hs4;exact hk
  clear_value jp
  clear e4
  obtain⟨y,y1,y2,y3⟩:=q1n (a:=b) (i:=ib) h.lb;refine wpS_bind (m:=elem' b ib) (q0t y1 ?_);refine wpS_bind (m:=q2u false y a ia (a.size - ia) 0) (q3o hc hk4 (m.sb _ y3) (by have:=h.la;omega) (λi x _ hx=>m.gA y3 _ x hx) (λi j x z hij _ hx hz=>m.uA (by omega) hx hz) (by have:=h.la;omega) λk hk1 hkt hkf=>?_);have hk2:k<a.size - ia:=by
   obtain⟨x,x1,x2,x3⟩:=q1n (a:=a) (i:=a.size - 1) (by have:=h.la;omega);rcases Nat.lt_or_ge k (a.size - ia)with z | z
   ·exact z
   ·have e:=hkt (a.size - 1 - ia) x (by have:=h.la;omega) (by rw[show ia+(a.size - 1 - ia)=a.size - 1 by have:=h.la;omega];exact x1);have:=m.hl x x1 y y3;omega
  dsimp -zeta only
  extract_lets -merge -underBinder +onlyGivenNames ac4 jp2
  have main2:∀o4 ia4,Mg r a.toList b.toList o4.toList ia4 ib->ia4=ia+k->ia4+1<a.size->wpS (model prog w) A E s (jp2 () o4 ia4) QQ st4:=by
   intro o4 ia4 g4 e4 l4;dsimp -zeta only[jp2]
   clear_value jp2
   obtain⟨x,x1,x2,x3⟩:=q1n (a:=a) (i:=ia4) (by omega);have hyx:r y<r x:=hkf k x (Nat.le_refl _) hk2 (by rw[←e4];exact x1);have g5:=g4.tookB m.rb y2 (m.aftB x2 y2 hyx);rw[←Array.toList_push]at g5;refine wpS_bind (m:=elem' b ib) (q0t y1 ?_)
   extract_lets -merge -underBinder +onlyGivenNames o5 ib5
   have hib5:ib5=ib+1:=rfl;have ho5:o5=o4.push y:=rfl;rw[←hib5,←ho5]at g5
   clear_value ib5 o5
   split
   ·rename_i hz;exact wpS_pure (hQ _ _ ⟨hs4,.inl ⟨_,rfl,m.doneB g5 (by simpa using hz) (by omega)⟩⟩)
   rename_i hz;have hz':¬ib5=b.size:=by simpa using hz
   have lb5:ib5<b.size:=by have:=h.lb;omega
   refine wpS_bind (m:=elem' a ia4) (q0t x1 ?_);refine wpS_bind (m:=q2u true x b ib5 (b.size - ib5) 0) (q3o hc hk4 (m.sa _ x3) (by omega) (λi z _ hz=>m.gB x3 _ z hz) (λi j z z' hij _ hz hz'=>m.uB (by omega) hz hz') (by omega) λk5 hk5 hkt5 hkf5=>?_);dsimp -zeta only
   extract_lets -merge -underBinder +onlyGivenNames bc5 jp3
   have main3:∀o6 ib6,Mg r a.toList b.toList o6.toList ia4 ib6->ib6=ib5+k5->ib6<b.size->wpS (model prog w) A E s (jp3 () o6 ib6) QQ st4:=by
    intro o6 ib6 g6 e6 l6;dsimp -zeta only[jp3]
    clear_value jp3
    obtain⟨z,z1,z2,z3⟩:=q1n (a:=b) (i:=ib6) l6;have g7:=g6.tookA m.ra x2 (m.aftA x2 z2 (hkf5 k5 z (Nat.le_refl _) (by omega) (by rw[←e6];exact z1)));rw[←Array.toList_push]at g7;refine wpS_bind (m:=elem' a ia4) (q0t x1 ?_);dsimp only;split
    ·rename_i hz;exact wpS_pure (hQ _ _ ⟨hs4,.inl ⟨_,rfl,m.doneA g7 (by simpa using hz) (by omega)⟩⟩)
    rename_i hz;have hz':¬ia4+1+1=a.size:=by simpa using hz
    have h7:MI r a b (o6.push x) (ia4+1) ib6:=⟨g7,by omega,l6⟩;split
    ·exact wpS_pure (hQ _ _ ⟨hs4,.inr ⟨rfl,h7,by dsimp only;omega⟩⟩)
    ·exact wpS_pure (hQ _ _ ⟨hs4,rfl,h7,by dsimp only;omega⟩)
   clear_value jp3
   split
   ·rename_i hkp;have g6:=g5.runB m.rb k5 (by rw[Array.length_toList];omega) λi z hi hz=>m.aftB x2 hz (hkt5 i z hi (by rw[Array.getElem?_toList]at hz;exact hz))
    rw[←q2e,←Array.toList_append]at g6;dsimp only;split
    ·rename_i hz;exact wpS_pure (hQ _ _ ⟨hs4,.inl ⟨_,rfl,m.doneB g6 (by simpa using hz) (by omega)⟩⟩)
    ·rename_i hz;have hz':¬ib5+k5=b.size:=by simpa using hz
     exact main3 _ _ g6 rfl (by omega)
   ·rename_i hkp;exact main3 _ _ g5 (by omega) lb5
  clear_value jp2
  split
  ·rename_i hkp;have g6:=h.g.runA m.ra k (by rw[Array.length_toList];omega) λi z hi hz=>m.aftA hz y2 (hkt i z hi (by rw[Array.getElem?_toList]at hz;exact hz))
   rw[←q2e,←Array.toList_append]at g6;dsimp only;split
   ·rename_i hz;exact wpS_pure (hQ _ _ ⟨hs4,.inl ⟨_,rfl,m.doneA g6 (by simpa using hz) (by show ib<=b.size;have:=h.lb;omega)⟩⟩)
   ·rename_i hz;have hz':¬ia+k+1=a.size:=by simpa using hz
    split
    ·rename_i hw;have hw':ia+k=a.size:=by simpa using hw
     omega
    ·exact main2 _ _ g6 rfl (by show ia+k+1<a.size;omega)
  ·rename_i hkp;exact main2 _ _ h.g (by show ia=ia+k;omega) (by show ia+1<a.size;exact h.la)
 split
 ·exact main _
 ·exact main _
end
end L2
end
noncomputable section
namespace L2
open PySem PyProof.Rows
section
variable {prog:Program} {w:World} {A:Around} {E:Value->Shared->Prop} {s:Shared} {κ:SortKind} {S:Keyed->Prop} {r:Keyed->Int} {st:SortSt} {a b:Array Keyed}
theorem q7F{α:Type}{r:α->Int}{l:List α}(h:q1s r l):q1s (λx=>- r x) l.reverse:=by
 refine List.pairwise_reverse.mpr (h.imp λ{x y} h=>?_);show - r y < - r x;omega
theorem MOk.rev(m:MOk r S a b):MOk (λx=>- r x) S b.reverse a.reverse where
 ra:=by rw[Array.toList_reverse];exact q7F m.rb
 rb:=by rw[Array.toList_reverse];exact q7F m.ra
 sa:=λx hx=>m.sb x (by simpa using hx)
 sb:=λx hx=>m.sa x (by simpa using hx)
 ne:=λx hx y hy e=>m.ne y (by simpa using hy) x (by simpa using hx) (by omega)
 na:=by rw[Array.size_reverse];exact m.nb
 nb:=by rw[Array.size_reverse];exact m.na
 h0:=λx hx y hy=>by have:=m.hl x (by rw[Array.getElem?_reverse (by exact m.na)]at hx;exact hx) y (by simpa using hy);omega
 hl:=λx hx y hy=>by have:=m.h0 x (by rw[Array.size_reverse,Array.getElem?_reverse (by have:=m.nb;omega)]at hx;rw[show b.size - 1 - (b.size - 1)=0 by omega]at hx;exact hx) y (by simpa using hy);omega
theorem Mfin.rev{α:Type}{r:α->Int}{la lb o:List α}(h:Mfin (λx=>- r x) lb.reverse la.reverse o):Mfin r la lb o.reverse:=by
 refine⟨?_,?_⟩
 ·refine(List.reverse_perm _).trans (h.pm.trans ?_);exact((List.reverse_perm _).append (List.reverse_perm _)).trans List.perm_append_comm
 ·refine List.pairwise_reverse.mpr (h.up.imp λ{x y} h=>?_);have h : - r x < - r y:=h;show r y<r x;omega
structure MJ(r:Keyed->Int)(a b out:Array Keyed)(na nb:Nat):Prop where
 g:Mg (λx=>- r x) b.reverse.toList a.reverse.toList out.toList (b.size - nb) (a.size - na)
 l1:1<=na
 l2:2<=nb
 l3:na<=a.size
 l4:nb<=b.size
theorem q4W(a:Array Keyed){n:Nat}(h:n<=a.size):a.reverse.toList.drop (a.size - n)=(a.toList.take n).reverse:=by
 rw[Array.toList_reverse,List.drop_reverse,Array.length_toList,show a.size - (a.size - n)=n by omega]
theorem ext0(a:Array Keyed)(n:Nat):(a.extract 0 n).toList=a.toList.take n:=by
 simp
theorem q9M(a:Array Keyed){i n:Nat}(hi:i<=n)(hn:n<=a.size):(a.extract i n).reverse.toList=(a.reverse.toList.drop (a.size - n)).take (n - i):=by
 rw[q4W a hn,Array.toList_reverse];have e:(a.extract i n).toList=(a.toList.take n).drop i:=(by rw[show n=i+(n - i) by omega,q2e,List.drop_take,show i+(n - i) - i=n - i by omega]);rw[e,List.take_reverse,List.length_take,Array.length_toList,Nat.min_eq_left hn,show n - (n - i)=i by omega]
theorem MOk.doneA'(m:MOk r S a b){out:Array Keyed}{na nb:Nat}(g:Mg (λx=>- r x) b.reverse.toList a.reverse.toList out.toList (b.size - nb) (a.size - na))(ha:na=0)(hb:nb<=b.size):Mfin r a.toList b.toList (a.extract 0 na++b.extract 0 nb++out.reverse).toList:=by
 have e:=g.endB m.rev.ra (by simp;omega) (by simp);rw[q4W b hb,Array.toList_reverse,Array.toList_reverse]at e;have e2:(a.extract 0 na++b.extract 0 nb++out.reverse).toList=(out.toList++(b.toList.take nb).reverse).reverse:=(by subst ha;simp);rw[e2];exact e.rev
theorem MOk.doneB'(m:MOk r S a b){out:Array Keyed}{na nb:Nat}(g:Mg (λx=>- r x) b.reverse.toList a.reverse.toList out.toList (b.size - nb) (a.size - na))(ha:nb=1)(hb:na<=a.size):Mfin r a.toList b.toList (b.extract 0 nb++a.extract 0 na++out.reverse).toList:=by
 subst ha;have hs:=m.nb;obtain⟨x,e1,e2,e3⟩:=q1n (a:=b.reverse) (i:=b.size - 1) (by simp;omega);have e:=g.lastA m.rev.rb e2 (by simp;omega) (by simp) (m.rev.hl x (by rw[Array.size_reverse];exact e1));have ex:b[0]? = some x:=(by rw[Array.getElem?_reverse (by omega),show b.size - 1 - (b.size - 1)=0 by omega]at e1;exact e1);rw[q4W a hb,Array.toList_reverse,Array.toList_reverse]at e;have e4:(b.extract 0 1++a.extract 0 na++out.reverse).toList=(out.toList++(a.toList.take na).reverse++[x]).reverse:=by
  have e5:(b.extract 0 1).toList=[x]:=by
   rw[ext0];have:b.toList[0]? = some x:=by rw[Array.getElem?_toList];exact ex
   rw[q3a this];rfl
  rw[Array.toList_append,Array.toList_append,e5,ext0];simp
 rw[e4];exact e.rev
theorem q3q(a:Array Keyed){n:Nat}(h1:1<=n)(h:n<=a.size):∃x,a[n - 1]? = some x/\a.reverse.toList[a.size - n]? = some x/\x∈a.toList:=by
 obtain⟨x,e1,e2,e3⟩:=q1n (a:=a) (i:=n - 1) (by omega);refine⟨x,e1,?_,e3⟩;rw[Array.getElem?_toList,Array.getElem?_reverse (by omega),show a.size - 1 - (a.size - n)=n - 1 by omega];exact e1
theorem z1Y{a:Array Keyed}{n i:Nat}{x:Keyed}(h:n<=a.size)(hi:i<n)(hx:a.reverse.toList[a.size - n+i]? = some x):a[n - 1 - i]? = some x:=by
 rw[Array.getElem?_toList,Array.getElem?_reverse (by omega),show a.size - 1 - (a.size - n+i)=n - 1 - i by omega]at hx;exact hx
theorem MOk.runHi(m:MOk r S a b){out:Array Keyed}{na nb k:Nat}{y:Keyed}(g:Mg (λx=>- r x) b.reverse.toList a.reverse.toList out.toList (b.size - nb) (a.size - na))(hl:na<=a.size)(hk:k<=na)(hy:b.reverse.toList[b.size - nb]? = some y)(ht:∀i x,k<=i->i<na->a[i]? = some x->r y<r x) :
  Mg (λx=>- r x) b.reverse.toList a.reverse.toList (out++(a.extract k na).reverse).toList (b.size - nb) (a.size - k):=by
 have e:=g.runB m.rev.rb (na - k) (by simp;omega) λi x hi hx=>m.rev.aftB hy hx (by
  have hx':=z1Y hl (by omega) hx;have:=ht _ x (by omega) (by omega) hx';show - r x < - r y;omega)
 rw[←q9M a hk hl,←Array.toList_append,show a.size - na+(na - k)=a.size - k by omega]at e;exact e
theorem MOk.runHi2(m:MOk r S a b){out:Array Keyed}{na nb k:Nat}{x:Keyed}(g:Mg (λx=>- r x) b.reverse.toList a.reverse.toList out.toList (b.size - nb) (a.size - na))(hl:nb<=b.size)(hk:k<=nb)(hx:a.reverse.toList[a.size - na]? = some x)(ht:∀i y,k<=i->i<nb->b[i]? = some y->r x<r y) :
  Mg (λx=>- r x) b.reverse.toList a.reverse.toList (out++(b.extract k nb).reverse).toList (b.size - k) (a.size - na):=by
 have e:=g.runA m.rev.ra (nb - k) (by simp;omega) λi y hi hy=>m.rev.aftA hy hx (by
  have hy':=z1Y hl (by omega) hy;have:=ht _ y (by omega) (by omega) hy';show - r y < - r x;omega)
 rw[←q9M b hk hl,←Array.toList_append,show b.size - nb+(nb - k)=b.size - k by omega]at e;exact e
theorem MOk.oneHi(m:MOk r S a b){out:Array Keyed}{na nb:Nat}{x y:Keyed}(g:Mg (λx=>- r x) b.reverse.toList a.reverse.toList out.toList (b.size - nb) (a.size - na))(h1:1<=na)(hl:na<=a.size)(hx:a.reverse.toList[a.size - na]? = some x)(hy:b.reverse.toList[b.size - nb]? = some y)(h:r y<r x) :
  Mg (λx=>- r x) b.reverse.toList a.reverse.toList (out.push x).toList (b.size - nb) (a.size - (na - 1)):=by
 have e:=g.tookB m.rev.rb hx (m.rev.aftB hy hx (by show - r x < - r y;omega));rw[←Array.toList_push,show a.size - na+1=a.size - (na - 1) by omega]at e;exact e
theorem MOk.oneHi2(m:MOk r S a b){out:Array Keyed}{na nb:Nat}{x y:Keyed}(g:Mg (λx=>- r x) b.reverse.toList a.reverse.toList out.toList (b.size - nb) (a.size - na))(h1:1<=nb)(hl:nb<=b.size)(hx:a.reverse.toList[a.size - na]? = some x)(hy:b.reverse.toList[b.size - nb]? = some y)(h:r x<r y) :
  Mg (λx=>- r x) b.reverse.toList a.reverse.toList (out.push y).toList (b.size - (nb - 1)) (a.size - na):=by
 have e:=g.tookA m.rev.ra hy (m.rev.aftA hy hx (by show - r y < - r x;omega));rw[←Array.toList_push,show b.size - nb+1=b.size - (nb - 1) by omega]at e;exact e
theorem q6U{Q:Array Keyed->SortSt->Prop}(hc:Cmp prog w A s κ S r)(hk:kindOf st=κ)(m:MOk r S a b)(q:∀o st',Mfin r a.toList b.toList o.toList->q2W st st'->Q o st'):wpS (model prog w) A E s (q7p a b) Q st:=by
 refine wpS_bind (m:=liftM (rule "list.sort.merge-hi")) (wpS_lift (wpAny_rule ⟨rfl,?_⟩));have hna:=m.na;have hnb:=m.nb;obtain⟨a0,e0,e0',_⟩:=q3q a hna (Nat.le_refl _);have g0:Mg (λx=>- r x) b.reverse.toList a.reverse.toList #[a0].toList (b.size - b.size) (a.size - (a.size - 1)):=by rw[show b.size - b.size=0 by omega,show a.size - (a.size - 1)=1 by omega];rw[Nat.sub_self]at e0';exact Mg.start m.rev.rb e0' (m.rev.h0 a0 (by rw[Array.getElem?_toList]at e0';exact e0'))
 extract_lets -merge -underBinder +onlyGivenNames total done first na nb
 refine wpS_bind (m:=elem' a (a.size - 1)) (q0t e0 ?_)
 extract_lets -merge -underBinder +onlyGivenNames out
 split
 ·rename_i hz;exact wpS_pure (q _ _ (m.doneA' g0 (by simpa using hz) (Nat.le_refl _)) (.refl _))
 rename_i hz1;split
 ·rename_i hz;exact wpS_pure (q _ _ (m.doneB' g0 (by simpa using hz) (by omega)) (.refl _))
 rename_i hz2;have hz1':¬a.size - 1=0:=by simpa using hz1
 have hz2':¬b.size=1:=by simpa using hz2
 have i0:MJ r a b #[a0] (a.size - 1) b.size:=⟨g0,by omega,by omega,by omega,by omega⟩
 clear hz1 hz2 hz1' hz2'
 refine wpS_bind (wpS_get ?_)
 extract_lets -merge -underBinder +onlyGivenNames mg
 clear_value mg
 refine wpS_bind (wpS_mono (wpS_forRange (a:=0) (b:=a.size+b.size) (I:=λ(i:Nat) (c:Option (Array Keyed)×Nat×Nat×Array Keyed×Nat) (st':SortSt)=>q2W st st'/\c.1=none/\MJ r a b c.2.2.2.1 c.2.1 c.2.2.1/\i+c.2.1+c.2.2.1<=a.size+b.size)
  (Q:=λ(c:Option (Array Keyed)×Nat×Nat×Array Keyed×Nat) (st':SortSt)=>q2W st st'/\∃o,c.1=some o/\Mfin r a.toList b.toList o.toList) ?step ?fin ⟨.refl _,rfl,i0,by show 0+(a.size - 1)+b.size<=_;omega⟩) λc st' h=>?post)
 case post=>
  obtain⟨c0,c1⟩:=c;obtain⟨hs,o,e,f⟩:=h;dsimp only at e;subst e;exact wpS_pure (q _ _ f hs)
 case fin=>
  rintro⟨c0,na,nb,o,g⟩ st' ⟨hs,e,i,hi⟩
  dsimp only at e i hi;have:=i.l1;have:=i.l2;omega
 rintro i ⟨c0,na,nb,o,g⟩ st1 _ hi ⟨hs,e,h,hm⟩
 dsimp only at e h hm;subst e
 extract_lets -merge -underBinder +onlyGivenNames s1 na1 s2 nb1 s3 out1 mg1 ac bc
 clear_value mg1 ac bc
 have hk1:kindOf st1=κ:=by obtain⟨g,rfl⟩:=hs;exact hk
 refine wpS_bind (wpS_mono (wpS_forRange (a:=0) (b:=a.size+b.size) (I:=λ(j:Nat) (c:Option (Array Keyed)×Nat×Nat×Array Keyed×Nat×Nat) (st':SortSt)=>st'=st1/\c.1=none/\MJ r a b c.2.2.2.1 c.2.1 c.2.2.1/\i+j+c.2.1+c.2.2.1<=a.size+b.size)
  (Q:=λ(c:Option (Array Keyed)×Nat×Nat×Array Keyed×Nat×Nat) (st':SortSt)=>st'=st1/\((∃o,c.1=some o/\Mfin r a.toList b.toList o.toList)\/(c.1=none/\MJ r a b c.2.2.2.1 c.2.1 c.2.2.1/\i+1+c.2.1+c.2.2.1<=a.size+b.size))) ?istep ?ifin ⟨rfl,rfl,h,hm⟩) λc st2 h2=>?ipost)
 case ifin=>
  rintro⟨c0,na,nb,o,ac,bc⟩ st' ⟨hs,e,h,hi⟩
  dsimp only at e h hi;have:=h.l1;have:=h.l2;omega
 case istep=>
  rintro j ⟨c0,na,nb,o,ac,bc⟩ st' _ hj ⟨rfl,e,h,hi⟩
  dsimp only at e h hi;subst e;obtain⟨x,x1,x2,x3⟩:=q3q a h.l1 h.l3;obtain⟨y,y1,y2,y3⟩:=q3q b (n:=nb) (by have:=h.l2;omega) h.l4;have h1:=h.l1;have h2:=h.l2;have h3:=h.l3;have h4:=h.l4;refine wpS_bind (m:=elem' b (nb - 1)) (q0t y1 (wpS_bind (m:=elem' a (na - 1)) (q0t x1 (wpS_bind (m:=lt' y x) (q5D hc hk1 (m.sb _ y3) (m.sa _ x3) ?_)))));dsimp -zeta only;by_cases hyx:r y<r x
  ·rw[decide_eq_true hyx,if_pos rfl];have g:=m.oneHi h.g h1 h3 x2 y2 hyx;refine wpS_bind (m:=elem' a (na - 1)) (q0t x1 ?_);dsimp only;split
   ·rename_i hz;exact wpS_pure ⟨rfl,.inl ⟨_,rfl,m.doneA' g (by simpa using hz) h4⟩⟩
   ·rename_i hz;have hz':¬na - 1=0:=by simpa using hz
    have h':MJ r a b (o.push x) (na - 1) nb:=⟨g,by omega,h2,by omega,h4⟩;split
    ·exact wpS_pure ⟨rfl,.inr ⟨rfl,h',by dsimp only;omega⟩⟩
    ·exact wpS_pure ⟨rfl,rfl,h',by dsimp only;omega⟩
  ·have hxy:r x<r y:=by have:=m.ne x x3 y y3;omega
   rw[decide_eq_false hyx,if_neg (by simp)];have g:=m.oneHi2 h.g (by omega) h4 x2 y2 hxy;refine wpS_bind (m:=elem' b (nb - 1)) (q0t y1 ?_);dsimp only;split
   ·rename_i hz;exact wpS_pure ⟨rfl,.inl ⟨_,rfl,m.doneB' g (by simpa using hz) h3⟩⟩
   ·rename_i hz;have hz':¬nb - 1=1:=by simpa using hz
    have h':MJ r a b (o.push y) na (nb - 1):=⟨g,h1,by omega,h3,by omega⟩;split
    ·exact wpS_pure ⟨rfl,.inr ⟨rfl,h',by dsimp only;omega⟩⟩
    ·exact wpS_pure ⟨rfl,rfl,h',by dsimp only;omega⟩
 clear h hm
 obtain⟨c0,na2,nb2,o2,ac2,bc2⟩:=c;obtain⟨rfl,h⟩:=h2;dsimp only at h;rcases h with⟨o,e,f⟩ | ⟨e,h,hm⟩
 ·subst e;exact wpS_pure ⟨hs,o,rfl,f⟩
 subst e
 extract_lets -merge -underBinder +onlyGivenNames r2 s4 na2' s5 nb2' s6 out2 s7 ac2' bc2'
 refine wpS_bind (m:=liftM (rule "list.sort.gallop")) (wpS_lift (wpAny_rule ⟨rfl,?_⟩))
 extract_lets -merge -underBinder +onlyGivenNames mg2
 clear_value mg2
 refine wpS_bind (wpS_mono (wpS_forRange (a:=0) (b:=a.size+b.size) (I:=λ(j:Nat) (c:Option (Array Keyed)×Nat×Nat×Array Keyed×Nat×Nat×Nat) (st':SortSt)=>q2W st st'/\c.1=none/\MJ r a b c.2.2.2.1 c.2.1 c.2.2.1/\i+1+j+c.2.1+c.2.2.1<=a.size+b.size)
  (Q:=λ(c:Option (Array Keyed)×Nat×Nat×Array Keyed×Nat×Nat×Nat) (st':SortSt)=>q2W st st'/\((∃o,c.1=some o/\Mfin r a.toList b.toList o.toList)\/(c.1=none/\MJ r a b c.2.2.2.1 c.2.1 c.2.2.1/\i+1+c.2.1+c.2.2.1<=a.size+b.size))) ?gstep ?gfin ⟨hs,rfl,h,hm⟩) λc st3 h3=>?gpost)
 case gfin=>
  rintro⟨c0,na,nb,o,mg,ac,bc⟩ st' ⟨hs,e,h,hi⟩
  dsimp only at e h hi;have:=h.l1;have:=h.l2;omega
 case gpost=>
  obtain⟨c0,na3,nb3,o3,mg3,ac3,bc3⟩:=c;obtain⟨hs3,h3⟩:=h3;dsimp only at h3;rcases h3 with⟨o,e,f⟩ | ⟨e,h3,hm3⟩
  ·subst e;exact wpS_pure ⟨hs3,o,rfl,f⟩
  ·subst e;dsimp only;refine wpS_bind (wpS_modify ?_);exact wpS_pure ⟨by obtain⟨g,rfl⟩:=hs3;exact⟨_,rfl⟩,rfl,h3,hm3⟩
 clear h hm
 rintro j ⟨c0,na,nb,o,mg,ac,bc⟩ st3 _ hj ⟨hs3,e,h,hm⟩
 dsimp only at e h hm;subst e;refine q9e λQQ hQ=>?_
 extract_lets -merge -underBinder +onlyGivenNames t1 na3 t2 nb3 t3 out3 t4 mg3 t5 ac3 bc3 jp
 have main:∀g,wpS (model prog w) A E s (jp () g) QQ st3:=by
  intro g;dsimp -zeta only[jp];refine wpS_bind (wpS_modify ?_);obtain⟨st4,e4⟩:∃st4,st4=SortSt.mk' (kindOf st3) (arrOf st3) (pendingOf st3) g (failedOf st3):=⟨_,rfl⟩;show wpS (model prog w) A E s _ QQ (SortSt.mk' (kindOf st3) (arrOf st3) (pendingOf st3) g (failedOf st3));rw[←e4];have hs4:q2W st st4:=by obtain⟨g,rfl⟩:=hs3;exact⟨_,e4⟩
  have hk4:kindOf st4=κ:=by obtain⟨g,rfl⟩:=hs4;exact hk
  clear_value jp
  clear e4
  have h1:=h.l1;have h2:=h.l2;have h3:=h.l3;have h4:=h.l4;obtain⟨y,y1,y2,y3⟩:=q3q b (n:=nb) (by omega) h4;refine wpS_bind (m:=elem' b (nb - 1)) (q0t y1 ?_);refine wpS_bind (m:=q2u false y a 0 na (na - 1)) (q3o hc hk4 (m.sb _ y3) (by omega) (λi x _ hx=>m.gA y3 _ x hx) (λi j x z hij _ hx hz=>m.uA (by omega) hx hz) (by omega) λk hk1 hkt hkf=>?_);simp only[Nat.zero_add]at hkt hkf;dsimp -zeta only
  extract_lets -merge -underBinder +onlyGivenNames kk ac4 jp2
  have main2:∀na4 o4,Mg (λx=>- r x) b.reverse.toList a.reverse.toList o4.toList (b.size - nb) (a.size - na4)->na4=k->1<=na4->wpS (model prog w) A E s (jp2 () na4 o4) QQ st4:=by
   intro na4 o4 g4 e4 l4;dsimp -zeta only[jp2]
   clear_value jp2
   obtain⟨x,x1,x2,x3⟩:=q3q a (n:=na4) l4 (by omega);have hxy:r x<r y:=hkt (na4 - 1) x (by omega) x1;have g5:=m.oneHi2 g4 (by omega) h4 x2 y2 hxy
   extract_lets -merge -underBinder +onlyGivenNames nb5
   have hnb5:nb5=nb - 1:=rfl
   clear_value nb5
   rw[←hnb5]at g5 y1;refine wpS_bind (m:=elem' b nb5) (q0t y1 ?_)
   extract_lets -merge -underBinder +onlyGivenNames o5
   have ho5:o5=o4.push y:=rfl;rw[←ho5]at g5
   clear_value o5
   split
   ·rename_i hz;exact wpS_pure (hQ _ _ ⟨hs4,.inl ⟨_,rfl,m.doneB' g5 (by simpa using hz) (by omega)⟩⟩)
   rename_i hz;have hz':¬nb5=1:=by simpa using hz
   refine wpS_bind (m:=elem' a (na4 - 1)) (q0t x1 ?_);refine wpS_bind (m:=q2u true x b 0 nb5 (nb5 - 1)) (q3o hc hk4 (m.sa _ x3) (by omega) (λi z _ hz=>m.gB x3 _ z hz) (λi j z z' hij _ hz hz'=>m.uB (by omega) hz hz') (by omega) λk5 hk5 hkt5 hkf5=>?_);simp only[Nat.zero_add]at hkt5 hkf5;have hk6:1<=k5:=by
    obtain⟨z,z1,z2,z3⟩:=q1n (a:=b) (i:=0) hnb;rcases Nat.lt_or_ge 0 k5 with w | w
    ·exact w
    ·have:=hkf5 0 z w (by omega) z1;have:=m.h0 z z1 x x3;omega
   dsimp -zeta only
   extract_lets -merge -underBinder +onlyGivenNames kk5 bc5 jp3
   have main3:∀nb6 o6,Mg (λx=>- r x) b.reverse.toList a.reverse.toList o6.toList (b.size - nb6) (a.size - na4)->nb6=k5->2<=nb6->wpS (model prog w) A E s (jp3 () nb6 o6) QQ st4:=by
    intro nb6 o6 g6 e6 l6;dsimp -zeta only[jp3]
    clear_value jp3
    obtain⟨z,z1,z2,z3⟩:=q3q b (n:=nb6) (by omega) (by omega);have g7:=m.oneHi g6 l4 (by omega) x2 z2 (hkt5 (nb6 - 1) z (by omega) z1);refine wpS_bind (m:=elem' a (na4 - 1)) (q0t x1 ?_);dsimp only;split
    ·rename_i hz;exact wpS_pure (hQ _ _ ⟨hs4,.inl ⟨_,rfl,m.doneA' g7 (by simpa using hz) (by omega)⟩⟩)
    rename_i hz;have hz':¬na4 - 1=0:=by simpa using hz
    have h7:MJ r a b (o6.push x) (na4 - 1) nb6:=⟨g7,by omega,l6,by omega,by omega⟩;split
    ·exact wpS_pure (hQ _ _ ⟨hs4,.inr ⟨rfl,h7,by dsimp only;omega⟩⟩)
    ·exact wpS_pure (hQ _ _ ⟨hs4,rfl,h7,by dsimp only;omega⟩)
   clear_value jp3
   split
   ·rename_i hkp;have g6:=m.runHi2 g5 (by omega) hk5 x2 (λi z hi hz hz'=>hkf5 i z hi hz hz');dsimp only;split
    ·rename_i hz;exact wpS_pure (hQ _ _ ⟨hs4,.inl ⟨_,rfl,m.doneB' g6 (by simpa using hz) (by omega)⟩⟩)
    ·rename_i hz;have hz':¬k5=1:=by simpa using hz
     split
     ·rename_i hw;have hw':k5=0:=by simpa using hw
      omega
     ·exact main3 _ _ g6 rfl (by omega)
   ·rename_i hkp;have hkp':¬nb5 - k5>0:=hkp;exact main3 _ _ g5 (by omega) (by omega)
  clear_value jp2
  split
  ·rename_i hkp;have g6:=m.runHi h.g h3 hk1 y2 (λi z hi hz hz'=>hkf i z hi hz hz');dsimp only;split
   ·rename_i hz;exact wpS_pure (hQ _ _ ⟨hs4,.inl ⟨_,rfl,m.doneA' g6 (by simpa using hz) h4⟩⟩)
   ·rename_i hz;have hz':¬k=0:=by simpa using hz
    exact main2 _ _ g6 rfl (by omega)
  ·rename_i hkp;have hkp':¬na - k>0:=hkp;exact main2 _ _ h.g (by show na=k;omega) h1
 split
 ·exact main _
 ·exact main _
end
end L2
end
noncomputable section
namespace L2
open PySem PyProof.Rows
section
variable {prog:Program} {w:World} {A:Around} {E:Value->Shared->Prop} {s:Shared} {κ:SortKind} {S:Keyed->Prop} {r:Keyed->Int} {st:SortSt}
theorem z4v{σ:Type}{M:Model}{x st:σ}{Q:PUnit->σ->Prop}(h:Q ⟨⟩ x):wpS M A E s (set x:StateT σ Sem PUnit) Q st:=by
 unfold wpS;rw[StateT.run_set];exact wpAny_pure ⟨rfl,h⟩
theorem z2k:∀(l:List Keyed) (k:Nat) (xs:Array Keyed) (pre mid post:List Keyed),xs.toList=pre++mid++post->mid.length=l.length->∀sa,pre.length=sa+k->((l.zipIdx k).foldl (λa x=>match x with | (p,j)=>a.setIfInBounds (sa+j) p) xs).toList=pre++l++post
 | [],k,xs,pre,mid,post,e,hm,sa,hp=>by rw[List.length_nil]at hm;rw[List.length_eq_zero_iff.mp hm]at e;exact e
 | x::l,k,xs,pre,mid,post,e,hm,sa,hp=>by
  obtain⟨y,mid',rfl⟩:∃y m',mid=y::m':=by
   cases mid with
   | nil=>simp at hm
   | cons y m'=>exact⟨y,m',rfl⟩
  rw[List.zipIdx_cons,List.foldl_cons];have e1:(xs.setIfInBounds (sa+k) x).toList=(pre++[x])++mid'++post:=by rw[Array.toList_setIfInBounds,e,←hp];simp
  have:=z2k l (k+1) (xs.setIfInBounds (sa+k) x) (pre++[x]) mid' post e1 (by simpa using hm) sa (by simp;omega);rw[show pre++x::l++post=pre++[x]++l++post by simp];exact this
theorem q8H{xs:Array Keyed}{pre mid post:List Keyed}(e:xs.toList=pre++mid++post)(i:Nat)(hi:i<mid.length):xs[pre.length+i]? = mid[i]?:=by
 rw[←Array.getElem?_toList,e,List.append_assoc,List.getElem?_append_right (by omega),show pre.length+i - pre.length=i by omega,List.getElem?_append_left hi]
theorem q8Z{xs:Array Keyed}{pre mid post:List Keyed}(e:xs.toList=pre++mid++post){i j:Nat}(hi:i=pre.length)(hj:j=i+mid.length):(xs.extract i j).toList=mid:=by
 subst hi;subst hj;rw[q2e,e,List.append_assoc,List.drop_left,List.take_left]
theorem q6x{i sa na sb nb p1 p2:Nat}{pre la lb post:List Keyed}{Q:Bool->SortSt->Prop}(hc:Cmp prog w A s κ S r)(hk:kindOf st=κ)(hf:failedOf st=none)(e:(arrOf st).toList=pre++la++lb++post)(h1:(pendingOf st)[i]? = some (sa,na,p1))(h2:(pendingOf st)[i+1]? = some (sb,nb,p2))
  (esa:sa=pre.length) (ena:na=la.length) (esb:sb=sa+na) (enb:nb=lb.length) (ha:0<na) (hb:0<nb) (ra:q1s r la) (rb:q1s r lb) (hS:∀x∈la++lb,S x) (hne:∀x∈la,∀y∈lb,r x≠r y)
  (q:∀mid st',Mfin r la lb mid->kindOf st'=κ->failedOf st'=none->(arrOf st').toList=pre++mid++post->pendingOf st'=((pendingOf st).setIfInBounds i (sa,na+nb,p1)).eraseIdxIfInBounds (i+1)->Q true st'):wpS (model prog w) A E s (mergeAt' i) Q st:=by
 refine wpS_bind (m:=get) (wpS_get ?_)
 rw[h1,h2]
 dsimp -zeta only
 obtain⟨st1,e1⟩:∃st1,st1=setPending st (((pendingOf st).setIfInBounds i (sa,na+nb,p1)).eraseIdxIfInBounds (i+1)):=⟨_,rfl⟩
 refine wpS_bind (z4v ?_)
 show wpS (model prog w) A E s _ Q (setPending st (((pendingOf st).setIfInBounds i (sa,na+nb,p1)).eraseIdxIfInBounds (i+1)))
 rw[←e1]
 have hk1:kindOf st1=κ:=by rw[e1];exact hk
 have hf1:failedOf st1=none:=by rw[e1];exact hf
 have ha1:arrOf st1=arrOf st:=by rw[e1]
 have hp1:pendingOf st1=((pendingOf st).setIfInBounds i (sa,na+nb,p1)).eraseIdxIfInBounds (i+1):=by rw[e1]
 clear e1
 subst esa ena enb esb
 have eA:(arrOf st).toList=pre++la++(lb++post):=by rw[e];simp
 have eB:(arrOf st).toList=(pre++la)++lb++post:=e
 have getA:∀i,i<la.length->(arrOf st)[pre.length+i]? = la[i]?:=q8H eA
 have getB:∀i,i<lb.length->(arrOf st)[pre.length+la.length+i]? = lb[i]?:=λi hi=>by
  have:=q8H eB i hi
  rw[List.length_append]at this;exact this
 have hz:(arrOf st).size=pre.length+la.length+lb.length+post.length:=by rw[←Array.length_toList,e];simp;omega
 have y1:lb[0]? = some lb[0]:=List.getElem?_eq_getElem hb
 have y2:lb[0]∈lb:=List.getElem_mem hb
 generalize lb[0]=y at y1 y2
 have yle:∀z∈lb,r y<=r z:=λz hz=>by
  obtain⟨j,hj⟩:=List.mem_iff_getElem?.mp hz
  rcases Nat.eq_zero_or_pos j with rfl | w
  ·rw[y1]at hj;cases hj;exact Int.le_refl _
  ·exact Int.le_of_lt (q1Z rb y1 hj w)
 have m0:∀x,x∈la->S x:=λx hx=>hS x (List.mem_append_left _ hx)
 have m1:∀x,x∈lb->S x:=λx hx=>hS x (List.mem_append_right _ hx)
 refine wpS_bind (m:=elem' (arrOf st) (pre.length+la.length)) (q0t (by have:=getB 0 hb;rw[Nat.add_zero,y1]at this;exact this) ?_)
 refine wpS_bind (m:=q2u false y (arrOf st) pre.length la.length 0) (q3o hc hk1 (m1 y y2) (by omega) (λi x hi hx=>?_) (λi j x z hij hj hx hz=>?_) ha λk hk' hkt hkf=>?_)
 ·rw[getA i hi]at hx
  have:=List.mem_of_getElem? hx
  exact⟨m0 x this,hne x this y y2⟩
 ·rw[getA i (by omega)]at hx
  rw[getA j hj]at hz
  exact q1Z ra hx hz hij
 have kt:∀x∈la.take k,r x<r y:=λx hx=>by
  obtain⟨j,hj⟩:=List.mem_iff_getElem?.mp hx
  have hjk:j<k:=by
   have:=(List.getElem?_eq_some_iff.mp hj).1
   rw[List.length_take]at this;omega
  rw[List.getElem?_take_of_lt hjk]at hj
  exact hkt j x hjk (by rw[getA j (by omega)];exact hj)
 have kf:∀x∈la.drop k,r y<r x:=λx hx=>by
  obtain⟨j,hj⟩:=List.mem_iff_getElem?.mp hx
  have hjk:j<la.length - k:=by
   have:=(List.getElem?_eq_some_iff.mp hj).1
   rw[List.length_drop]at this;omega
  rw[List.getElem?_drop]at hj
  exact hkf (k+j) x (by omega) (by omega) (by rw[getA _ (by omega)];exact hj)
 clear hkt hkf
 dsimp -zeta only
 split
 ·rename_i hz0
  have hz0':la.length - k=0:=by simpa using hz0
  have:la.take k=la:=List.take_of_length_le (by omega)
  rw[this]at kt
  refine wpS_pure (q (la++lb) _ ⟨.refl _,List.pairwise_append.mpr ⟨ra,rb,λx hx z hz=>?_⟩⟩ hk1 hf1 (by rw[ha1,e];simp) hp1)
  have:=kt x hx;have:=yle z hz
  omega
 rename_i hz0
 have hz0':¬la.length - k=0:=by simpa using hz0
 have l1:la[la.length - 1]? = some la[la.length - 1]:=List.getElem?_eq_getElem (by omega)
 have l2:la[la.length - 1]∈la:=List.getElem_mem _
 have l3:la[la.length - 1]∈la.drop k:=List.mem_of_getElem? (i:=la.length - 1 - k) (by rw[List.getElem?_drop,show k+(la.length - 1 - k)=la.length - 1 by omega];exact l1)
 generalize la[la.length - 1]=x at l1 l2 l3
 have hyx:=kf x l3
 have xge:∀z∈la,r z<=r x:=λz hz=>by
  obtain⟨j,hj⟩:=List.mem_iff_getElem?.mp hz
  have:=(List.getElem?_eq_some_iff.mp hj).1
  rcases Nat.lt_or_ge j (la.length - 1)with w | w
  ·exact Int.le_of_lt (q1Z ra hj l1 w)
  ·rw[show j=la.length - 1 by omega,l1]at hj;cases hj;exact Int.le_refl _
 refine wpS_bind (m:=elem' (arrOf st) (pre.length+k+(la.length - k) - 1)) (q0t (by rw[show pre.length+k+(la.length - k) - 1=pre.length+(la.length - 1) by omega,getA _ (by omega)];exact l1) ?_)
 refine wpS_bind (m:=q2u true x (arrOf st) (pre.length+la.length) lb.length (lb.length - 1)) (q3o hc hk1 (m0 x l2) (by omega) (λi z hi hz=>?_) (λi j z z' hij hj hz hz'=>?_) (by omega) λk2 hk2 hkt hkf=>?_)
 ·rw[getB i hi]at hz
  have:=List.mem_of_getElem? hz
  exact⟨m1 z this,λee=>hne x l2 z this ee.symm⟩
 ·rw[getB i (by omega)]at hz
  rw[getB j hj]at hz'
  exact q1Z rb hz hz' hij
 have kt2:∀z∈lb.take k2,r z<r x:=λz hz=>by
  obtain⟨j,hj⟩:=List.mem_iff_getElem?.mp hz
  have hjk:j<k2:=by
   have:=(List.getElem?_eq_some_iff.mp hj).1
   rw[List.length_take]at this;omega
  rw[List.getElem?_take_of_lt hjk]at hj
  exact hkt j z hjk (by rw[getB j (by omega)];exact hj)
 have kf2:∀z∈lb.drop k2,r x<r z:=λz hz=>by
  obtain⟨j,hj⟩:=List.mem_iff_getElem?.mp hz
  have hjk:j<lb.length - k2:=by
   have:=(List.getElem?_eq_some_iff.mp hj).1
   rw[List.length_drop]at this;omega
  rw[List.getElem?_drop]at hj
  exact hkf (k2+j) z (by omega) (by omega) (by rw[getB _ (by omega)];exact hj)
 have hk3:0<k2:=by
  rcases Nat.eq_zero_or_pos k2 with rfl | w
  ·have:=kf2 y (by rw[List.drop_zero];exact y2)
   omega
  ·exact w
 clear hkt hkf
 dsimp -zeta only
 split
 ·rename_i hw
  have:k2=0:=by simpa using hw
  omega
 have tdA:la.take k++la.drop k=la:=List.take_append_drop ..
 have tdB:lb.take k2++lb.drop k2=lb:=List.take_append_drop ..
 have eM:(arrOf st).toList=(pre++la.take k)++(la.drop k++lb.take k2)++(lb.drop k2++post):=by
  rw[e]
  conv=>lhs;rw[←tdA,←tdB]
  simp only[List.append_assoc]
 have eX:(arrOf st).toList=(pre++la.take k)++la.drop k++(lb++post):=by
  rw[e]
  conv=>lhs;rw[←tdA]
  simp only[List.append_assoc]
 have eY:(arrOf st).toList=(pre++la)++lb.take k2++(lb.drop k2++post):=by
  rw[e]
  conv=>lhs;rw[←tdB]
  simp only[List.append_assoc]
 have ex:((arrOf st).extract (pre.length+k) (pre.length+la.length)).toList=la.drop k:=q8Z (pre:=pre++la.take k) (post:=lb++post) eX (by rw[List.length_append,List.length_take];omega) (by rw[List.length_drop];omega)
 have ey:((arrOf st).extract (pre.length+la.length) (pre.length+la.length+k2)).toList=lb.take k2:=q8Z (pre:=pre++la) (post:=lb.drop k2++post) eY (by rw[List.length_append]) (by rw[List.length_take];omega)
 have rA:=List.pairwise_append.mp (tdA.symm▸ra:q1s r (la.take k++la.drop k))
 have rB:=List.pairwise_append.mp (tdB.symm▸rb:q1s r (lb.take k2++lb.drop k2))
 extract_lets -merge -underBinder +onlyGivenNames xx yy jp
 have mok:MOk r S xx yy:=by
  refine⟨?_,?_,?_,?_,?_,?_,?_,?_,?_⟩
  ·show q1s r xx.toList;rw[ex];exact rA.2.1
  ·show q1s r yy.toList;rw[ey];exact rB.1
  ·intro z hz;rw[ex]at hz;exact m0 z (List.mem_of_mem_drop hz)
  ·intro z hz;rw[ey]at hz;exact m1 z (List.mem_of_mem_take hz)
  ·intro z hz z' hz';rw[ex]at hz;rw[ey]at hz';exact hne z (List.mem_of_mem_drop hz) z' (List.mem_of_mem_take hz')
  ·rw[←Array.length_toList,ex,List.length_drop];omega
  ·rw[←Array.length_toList,ey,List.length_take];omega
  ·intro z hz z' hz'
   rw[←Array.getElem?_toList,ey,List.getElem?_take_of_lt hk3,y1]at hz
   cases hz
   rw[ex]at hz'
   exact kf z' hz'
  ·intro z hz z' hz'
   rw[←Array.length_toList,←Array.getElem?_toList,ex,List.length_drop,List.getElem?_drop,show k+(la.length - k - 1)=la.length - 1 by omega,l1]at hz
   cases hz
   rw[ey]at hz'
   exact kt2 z' hz'
 have main:∀(o:Array Keyed) st',Mfin r xx.toList yy.toList o.toList->q2W st1 st'->wpS (model prog w) A E s (jp o) Q st':=by
  intro o st2 f hs
  rw[ex,ey]at f
  dsimp -zeta only[jp]
  refine wpS_bind (wpS_modify (wpS_bind (wpS_get ?_)))
  have hf2:failedOf st2=none:=by obtain⟨g,rfl⟩:=hs;exact hf1
  have ha2:arrOf st2=arrOf st:=by obtain⟨g,rfl⟩:=hs;exact ha1
  have hk2:kindOf st2=κ:=by obtain⟨g,rfl⟩:=hs;exact hk1
  have hp2:pendingOf st2=((pendingOf st).setIfInBounds i (pre.length,la.length+lb.length,p1)).eraseIdxIfInBounds (i+1):=by obtain⟨g,rfl⟩:=hs;exact hp1
  have ee:=z2k o.toList 0 (arrOf st2) (pre++la.take k) (la.drop k++lb.take k2) (lb.drop k2++post) (by rw[ha2];exact eM) f.pm.length_eq.symm (pre.length+k) (by rw[List.length_append,List.length_take];omega)
  show wpS (model prog w) A E s (pure (failedOf st2).isNone) Q _
  rw[hf2]
  refine wpS_pure (q (la.take k++o.toList++lb.drop k2) _ ⟨?_,?_⟩ hk2 hf2 ?_ hp2)
  ·have p:=(f.pm.append_left (la.take k)).append_right (lb.drop k2)
   have e3:la.take k++(la.drop k++lb.take k2)++lb.drop k2=la++lb:=by
    conv=>rhs;rw[←tdA,←tdB]
    simp only[List.append_assoc]
   rw[e3]at p;exact p
  ·refine List.pairwise_append.mpr ⟨List.pairwise_append.mpr ⟨rA.1,f.up,λz hz z' hz'=>?_⟩,rB.2.1,λz hz z' hz'=>?_⟩
   ·rcases List.mem_append.mp (f.pm.mem_iff.mp hz')with w | w
    ·exact rA.2.2 z hz z' w
    ·have:=kt z hz;have:=yle z' (List.mem_of_mem_take w);omega
   ·rcases List.mem_append.mp hz with w | w
    ·have:=xge z (List.mem_of_mem_take w);have:=kf2 z' hz';omega
    ·rcases List.mem_append.mp (f.pm.mem_iff.mp w)with w | w
     ·have:=xge z (List.mem_of_mem_drop w);have:=kf2 z' hz';omega
     ·exact rB.2.2 z w z' hz'
  ·refine Eq.trans ee ?_
   simp only[List.append_assoc]
 clear_value jp xx yy
 split
 ·exact wpS_bind (m:=q7M xx yy) (q6v hc hk1 mok main)
 ·exact wpS_bind (m:=q7p xx yy) (q6U hc hk1 mok main)
end
end L2
end
noncomputable section
namespace L2
open PySem PyProof.Rows
def rk(r:Keyed->Int)(xs:Array Keyed)(i:Nat):Int:=match xs[i]? with
 | some p=>r p
 | none=>0
theorem q3j{r:Keyed->Int}{xs ys:Array Keyed}{i j:Nat}(h:xs[i]? = ys[j]?):rk r xs i=rk r ys j:=by unfold rk;rw[h]
def UpR(r:Keyed->Int)(xs:Array Keyed)(lo hi:Nat):Prop:=∀i j,lo<=i->i<j->j<hi->rk r xs i<rk r xs j
def DnR(r:Keyed->Int)(xs:Array Keyed)(lo hi:Nat):Prop:=∀i j,lo<=i->i<j->j<hi->rk r xs j<rk r xs i
structure SB(κ:SortKind)(a0:List Keyed)(st:SortSt):Prop where
 pm:(arrOf st).toList.Perm a0
 kd:kindOf st=κ
 fl:failedOf st=none
structure A0(S:Keyed->Prop)(r:Keyed->Int)(a0:List Keyed):Prop where
 s:∀x∈a0,S x
 nd:(a0.map r).Nodup
section
variable {prog:Program} {w:World} {A:Around} {E:Value->Shared->Prop} {s:Shared} {κ:SortKind} {S:Keyed->Prop} {r:Keyed->Int} {st:SortSt} {a0:List Keyed}
theorem SB.size(h:SB κ a0 st):(arrOf st).size=a0.length:=by rw[←Array.length_toList];exact h.pm.length_eq
theorem SB.at(h:SB κ a0 st)(h0:A0 S r a0){i:Nat}(hi:i<a0.length):∃x,(arrOf st)[i]? = some x/\S x/\rk r (arrOf st) i=r x:=by
 obtain⟨x,e1,e2,e3⟩:=q1n (a:=arrOf st) (i:=i) (by rw[h.size];exact hi);exact⟨x,e1,h0.s x (h.pm.mem_iff.mp e3),by unfold rk;rw[e1]⟩
theorem SB.ne(h:SB κ a0 st)(h0:A0 S r a0){i j:Nat}(hi:i<a0.length)(hj:j<a0.length)(hne:i≠j):rk r (arrOf st) i≠rk r (arrOf st) j:=by
 obtain⟨x,x1,x2,x3⟩:=h.at h0 hi;obtain⟨y,y1,y2,y3⟩:=h.at h0 hj;rw[x3,y3];have nd:((arrOf st).toList.map r).Nodup:=(h.pm.map r).nodup_iff.mpr h0.nd;have g:∀{k z},(arrOf st)[k]? = some z->((arrOf st).toList.map r)[k]? = some (r z):=λ{k z} e=>by rw[List.getElem?_map,Array.getElem?_toList,e];rfl
 intro e;have gx:=g x1;have gy:=g y1;rw[←e]at gy;obtain⟨l1,m1⟩:=List.getElem?_eq_some_iff.mp gx;obtain⟨l2,m2⟩:=List.getElem?_eq_some_iff.mp gy;have q:=List.pairwise_iff_getElem.mp nd;rcases Nat.lt_or_ge i j with z | z
 ·exact q i j l1 l2 z (by rw[m1,m2])
 ·exact q j i l2 l1 (by omega) (by rw[m1,m2])
theorem SB.setA(h:SB κ a0 st){xs:Array Keyed}(hp:xs.Perm (arrOf st)):SB κ a0 (setArr st xs):=
 ⟨(Array.perm_iff_toList_perm.mp hp).trans h.pm,h.kd,h.fl⟩
theorem q3V{i j:Nat}{Q:Option Bool->SortSt->Prop}(hc:Cmp prog w A s κ S r)(hB:SB κ a0 st)(h0:A0 S r a0)(hi:i<a0.length)(hj:j<a0.length)(h:Q (some (decide (rk r (arrOf st) i<rk r (arrOf st) j))) st):wpS (model prog w) A E s (ltAt' i j) Q st:=by
 obtain⟨x,x1,x2,x3⟩:=hB.at h0 hi;obtain⟨y,y1,y2,y3⟩:=hB.at h0 hj;rw[x3,y3]at h;rw[ltAt'_eq];refine wpS_bind (wpS_get ?_);exact wpS_bind (m:=elem' (arrOf st) i) (q0t x1 (wpS_bind (m:=elem' (arrOf st) j) (q0t y1 (q5D hc hB.kd x2 y2 h))))
theorem UpR.more{xs:Array Keyed}{lo x:Nat}(h:UpR r xs lo (lo+x))(h1:1<=x)(hl:rk r xs (lo+x - 1)<rk r xs (lo+x)):UpR r xs lo (lo+(x+1)):=λi j hi hij hj=>by
 rcases Nat.lt_or_ge j (lo+x)with z | z
 ·exact h i j hi hij z
 ·have:j=lo+x:=by omega
  subst this;rcases Nat.lt_or_ge i (lo+x - 1)with z | z
  ·exact Int.lt_trans (h i (lo+x - 1) hi z (by omega)) hl
  ·have:i=lo+x - 1:=by omega
   subst this;exact hl
theorem DnR.more{xs:Array Keyed}{lo x:Nat}(h:DnR r xs lo (lo+x))(h1:1<=x)(hl:rk r xs (lo+x)<rk r xs (lo+x - 1)):DnR r xs lo (lo+(x+1)):=λi j hi hij hj=>by
 rcases Nat.lt_or_ge j (lo+x)with z | z
 ·exact h i j hi hij z
 ·have:j=lo+x:=by omega
  subst this;rcases Nat.lt_or_ge i (lo+x - 1)with z | z
  ·exact Int.lt_trans hl (h i (lo+x - 1) hi z (by omega))
  ·have:i=lo+x - 1:=by omega
   subst this;exact hl
theorem q6m{xs:Array Keyed}{i j:Nat}(hj:j<=xs.size)(k:Nat):rk r (mirror xs i j ((j - i)/2)) k=if i<=k/\k<j then rk r xs (i+j - 1 - k)else rk r xs k:=by
 have e:=getElem?_mirror_all (i:=i) hj k;split
 ·rename_i h;rw[if_pos h]at e;exact q3j e
 ·rename_i h;rw[if_neg h]at e;exact q3j e
theorem q7U{lo nrem:Nat}{Q:Option Nat->SortSt->Prop}(hc:Cmp prog w A s κ S r)(h0:A0 S r a0)(hB:SB κ a0 st)(h1:1<=nrem)(hn:lo+nrem<=a0.length)
  (h:∀m st',SB κ a0 st'->1<=m->m<=nrem->UpR r (arrOf st') lo (lo+m)->(∀k,k<lo->(arrOf st')[k]? = (arrOf st)[k]?)->pendingOf st'=pendingOf st->Q (some m) st'):wpS (model prog w) A E s (countRun' lo nrem) Q st:=by
 have asc:∀{a:Nat} {st1:SortSt} {Q1:Option (Option Nat)×Nat->SortSt->Prop} {f:Nat->Option (Option Nat)×Nat->StateT SortSt Sem (ForInStep (Option (Option Nat)×Nat))} {g:Nat->Option Bool->StateT SortSt Sem (ForInStep (Option (Option Nat)×Nat))} (hB1:SB κ a0 st1) (ha:1<=a) (han:a<=nrem) (u:UpR r (arrOf st1) lo (lo+a))
   (f1:∀i n,f i (none,n)=ltAt' (lo+n) (lo+n - 1) >>= g n) (f2:∀n,g n (some true)=pure (.done (none,n))) (f3:∀n,g n (some false)=pure (.yield (none,n+1)))
   (q:∀n,a<=n->n<=nrem->UpR r (arrOf st1) lo (lo+n)->(n=nrem\/rk r (arrOf st1) (lo+n)<rk r (arrOf st1) (lo+n - 1))->Q1 (none,n) st1),wpS (model prog w) A E s (forIn [a:nrem] ((none:Option (Option Nat)),a) f) Q1 st1:=by
  intro a st1 Q1 f g hB1 ha han u f1 f2 f3 q;refine wpS_forRange (I:=λ(x:Nat) (c:Option (Option Nat)×Nat) (st':SortSt)=>st'=st1/\c=(none,x)/\UpR r (arrOf st1) lo (lo+x)) ?step ?fin ⟨rfl,rfl,u⟩
  case fin=>
   rintro c st' ⟨rfl,rfl,u'⟩
   rw[show max a nrem=nrem by omega]at u' ⊢;exact q nrem han (Nat.le_refl _) u' (.inl rfl)
  case step=>
   rintro x c st' hax hxn ⟨rfl,rfl,u'⟩
   rw[f1];refine wpS_bind (q3V hc hB1 h0 (by omega) (by omega) ?_);by_cases z:rk r (arrOf st') (lo+x)<rk r (arrOf st') (lo+x - 1)
   ·rw[decide_eq_true z,f2];exact wpS_pure (q x hax (by omega) u' (.inr z))
   ·rw[decide_eq_false z,f3];refine wpS_pure ⟨rfl,rfl,u'.more (by omega) ?_⟩;have:=hB1.ne h0 (i:=lo+x) (j:=lo+x - 1) (by omega) (by omega) (by omega);omega
 rw[countRun'_eq];refine wpS_bind (asc (g:=λn o=>match o with | some smaller=>if smaller=true then pure (.done (none,n))else pure (.yield (none,n+1)) | none=>pure (.done (some none,n))) hB (Nat.le_refl 1) h1 (λi j _ _ _=>by omega) ?_ (λn=>rfl) (λn=>rfl) λn n1 n2 u hor=>?_)
 ·intro i n;refine congrArg (ltAt' (lo+n) (lo+n - 1) >>= ·) ?_
  funext o
  cases o<;>rfl
 dsimp only;by_cases hnn:n=nrem
 ·rw[if_pos (by simpa using hnn)];exact wpS_pure (h n st hB n1 n2 u (λ_ _=>rfl) rfl)
 rw[if_neg (by simpa using hnn)];have hlt:=hor.resolve_left hnn;by_cases hgt:n>1
 ·rw[if_pos hgt];refine wpS_bind (q3V hc hB h0 (by omega) (by omega) ?_);rw[decide_eq_true (u lo (lo+n - 1) (Nat.le_refl _) (by omega) (by omega))];exact wpS_pure (h n st hB n1 n2 u (λ_ _=>rfl) rfl)
 rw[if_neg hgt];have:n=1:=by omega
 subst this;refine wpS_bind (wpS_lift (wpAny_rule ⟨rfl,?_⟩));refine wpS_bind (wpS_mono (wpS_forRange (I:=λ(x:Nat) (c:Option (Option Nat)×Nat×Nat) (st':SortSt)=>st'=st/\c=(none,x,0)/\DnR r (arrOf st) lo (lo+x)) (Q:=λ(c:Option (Option Nat)×Nat×Nat) (st':SortSt)=>st'=st/\∃x,c=(none,x,0)/\2<=x/\x<=nrem/\DnR r (arrOf st) lo (lo+x)) ?dstep ?dfin ⟨rfl,rfl,?dini⟩) λc st' hd=>?dpost)
 case dini=>
  intro i j hi hij hj;have:i=lo:=by omega
  have:j=lo+1:=by omega
  subst_vars
  exact hlt
 case dfin=>
  rintro c st' ⟨rfl,rfl,d⟩
  rw[show max (1+1) nrem=nrem by omega]at d ⊢;exact⟨rfl,nrem,rfl,by omega,Nat.le_refl _,d⟩
 case dstep=>
  rintro x c st' hax hxn ⟨rfl,rfl,d⟩
  dsimp only;refine wpS_bind (q3V hc hB h0 (by omega) (by omega) ?_);by_cases z:rk r (arrOf st') (lo+x)<rk r (arrOf st') (lo+x - 1)
  ·rw[decide_eq_true z];dsimp only;rw[if_pos rfl,if_neg (by omega)];exact wpS_pure ⟨rfl,rfl,d.more (by omega) z⟩
  ·rw[decide_eq_false z];dsimp only;rw[if_neg (by simp)];refine wpS_bind (q3V hc hB h0 (by omega) (by omega) ?_);have hne:=hB.ne h0 (i:=lo+x) (j:=lo+x - 1) (by omega) (by omega) (by omega);rw[decide_eq_true (by omega)];exact wpS_pure ⟨rfl,x,rfl,hax,by omega,d⟩
 obtain⟨rfl,x,rfl,x1,x2,d⟩:=hd;dsimp only;rw[if_neg (by omega)];rw[reverseSlice'_eq];refine wpS_bind (wpS_modify ?_);have hsz:lo+x<=(arrOf st').size:=by rw[hB.size];omega
 have hB2:SB κ a0 (setArr st' (mirror (arrOf st') lo (lo+x) ((lo+x - lo)/2))):=hB.setA (mirror_perm _ _ _ _);refine wpS_bind (asc (g:=λn o=>match o with | some smaller=>if smaller=true then pure (.done (none,n))else pure (.yield (none,n+1)) | none=>pure (.done (some none,n))) hB2 (by omega) x2 (λi j hi hij hj=>?_) ?_ (λn=>rfl) (λn=>rfl) λn n1 n2 u hor=>?_)
 ·show rk r (mirror (arrOf st') lo (lo+x) ((lo+x - lo)/2)) i<rk r (mirror (arrOf st') lo (lo+x) ((lo+x - lo)/2)) j;rw[q6m hsz,q6m hsz,if_pos (by omega),if_pos (by omega)];exact d _ _ (by omega) (by omega) (by omega)
 ·intro i n;refine congrArg (ltAt' (lo+n) (lo+n - 1) >>= ·) ?_
  funext o
  cases o<;>rfl
 ·refine wpS_pure (h n _ hB2 (by omega) n2 u (λk hk=>?_) rfl);show(mirror (arrOf st') lo (lo+x) ((lo+x - lo)/2))[k]? = (arrOf st')[k]?;rw[getElem?_mirror_all (by omega),if_neg (by omega)]
theorem q5J{xs:Array Keyed}{src d:Nat}(hs:src<xs.size)(hd:d<=src)(k:Nat):rk r (bubble xs src d) k=if k=src - d then rk r xs src else if src - d<k/\k<=src then rk r xs (k - 1)else rk r xs k:=by
 have e:=getElem?_bubble hs d hd k;by_cases h1:k=src - d
 ·rw[if_pos h1]at e ⊢;exact q3j e
 ·rw[if_neg h1]at e ⊢;by_cases h2:src - d<k/\k<=src
  ·rw[if_pos h2]at e ⊢;exact q3j e
  ·rw[if_neg h2]at e ⊢;exact q3j e
theorem z1Q{lo n ok:Nat}{Q:Bool->SortSt->Prop}(hc:Cmp prog w A s κ S r)(h0:A0 S r a0)(hB:SB κ a0 st)(h1:1<=ok)(hok:ok<=n)(hn:lo+n<=a0.length)(hu:UpR r (arrOf st) lo (lo+ok))
  (h:∀st',SB κ a0 st'->UpR r (arrOf st') lo (lo+n)->(∀k,k<lo->(arrOf st')[k]? = (arrOf st)[k]?)->pendingOf st'=pendingOf st->Q true st'):wpS (model prog w) A E s (binarySort' lo n ok) Q st:=by
 rw[binarySort'_eq];refine wpS_bind (wpS_mono (wpS_forRange (I:=λ(k:Nat) (c:Option Bool×PUnit) (st':SortSt)=>c=(none,⟨⟩)/\SB κ a0 st'/\UpR r (arrOf st') lo (lo+k)/\(∀k,k<lo->(arrOf st')[k]? = (arrOf st)[k]?)/\pendingOf st'=pendingOf st)
  (Q:=λ(c:Option Bool×PUnit) (st':SortSt)=>c=(none,⟨⟩)/\SB κ a0 st'/\UpR r (arrOf st') lo (lo+n)/\(∀k,k<lo->(arrOf st')[k]? = (arrOf st)[k]?)/\pendingOf st'=pendingOf st) ?step ?fin ⟨rfl,hB,by rw[show max ok 1=ok by omega];exact hu,λ_ _=>rfl,rfl⟩) ?post)
 case post=>
  rintro c st' ⟨rfl,b1,b2,b3,b4⟩
  exact wpS_pure (h st' b1 b2 b3 b4)
 case fin=>
  rintro c st' ⟨rfl,b1,b2,b3,b4⟩
  rw[show max (max ok 1) n=n by omega]at b2;exact⟨rfl,b1,b2,b3,b4⟩
 case step=>
  rintro k c st' hak hkn ⟨rfl,hB',u,b3,b4⟩
  have hk:lo+k<a0.length:=by omega
  refine wpS_bind (wpS_mono (wpS_forRange (I:=λ(x:Nat) (c:Option Bool×Nat×Nat) (st'':SortSt)=>st''=st'/\c.1=none/\c.2.1<=c.2.2/\c.2.2<=k/\c.2.2 - c.2.1<=k - x /\
    (∀i,i<c.2.1->rk r (arrOf st') (lo+i)<rk r (arrOf st') (lo+k))/\(∀i,c.2.2<=i->i<k->rk r (arrOf st') (lo+k)<rk r (arrOf st') (lo+i)))
   (Q:=λ(c:Option Bool×Nat×Nat) (st'':SortSt)=>st''=st'/\c.1=none/\c.2.1<=k /\
    (∀i,i<c.2.1->rk r (arrOf st') (lo+i)<rk r (arrOf st') (lo+k))/\(∀i,c.2.1<=i->i<k->rk r (arrOf st') (lo+k)<rk r (arrOf st') (lo+i))) ?istep ?ifin ?iinit) ?ipost)
  case iinit=>exact⟨rfl,rfl,Nat.zero_le _,Nat.le_refl _,by show k - 0<=k - 0;omega,λi hi=>absurd hi (by show ¬i<0;omega),λi g1 g2=>absurd g1 (by show ¬k<=i;omega)⟩
  case ifin=>
   rintro⟨c0,l,rr⟩ st'' ⟨rfl,e,g1,g2,g3,g4,g5⟩
   dsimp only at e g1 g2 g3 g4 g5;have:l=rr:=by omega
   subst this;exact⟨rfl,e,g2,g4,g5⟩
  case istep=>
   rintro x ⟨c0,l,rr⟩ st'' _ hxk ⟨rfl,e,g1,g2,g3,g4,g5⟩
   dsimp only at e g1 g2 g3 g4 g5;subst e;dsimp only;by_cases hge:l ≥ rr
   ·rw[if_pos hge];have:l=rr:=by omega
    subst this;exact wpS_pure ⟨rfl,rfl,g2,g4,g5⟩
   ·rw[if_neg hge];refine wpS_bind (q3V hc hB' h0 hk (by omega) ?_);by_cases z:rk r (arrOf st'') (lo+k)<rk r (arrOf st'') (lo+(l+rr)/2)
    ·rw[decide_eq_true z];refine wpS_pure ⟨rfl,rfl,by show l<=(l+rr)/2;omega,by show(l+rr)/2<=k;omega,by show(l+rr)/2 - l<=k - (x+1);omega,g4,λi q1 q2=>?_⟩;have q1:(l+rr)/2<=i:=q1;rcases Nat.lt_or_ge ((l+rr)/2) i with v | v
     ·exact Int.lt_trans z (u _ _ (by omega) (by omega) (by omega))
     ·rw[show i=(l+rr)/2 by omega];exact z
    ·rw[decide_eq_false z];have hne:=hB'.ne h0 (i:=lo+k) (j:=lo+(l+rr)/2) (by omega) (by omega) (by omega);have z':rk r (arrOf st'') (lo+(l+rr)/2)<rk r (arrOf st'') (lo+k):=by omega
     refine wpS_pure ⟨rfl,rfl,by show(l+rr)/2+1<=rr;omega,g2,by show rr - ((l+rr)/2+1)<=k - (x+1);omega,λi q1=>?_,g5⟩;have q1:i<(l+rr)/2+1:=q1;rcases Nat.lt_or_ge i ((l+rr)/2)with v | v
     ·exact Int.lt_trans (u (lo+i) (lo+(l+rr)/2) (by omega) (by omega) (by omega)) z'
     ·rw[show i=(l+rr)/2 by omega];exact z'
  case ipost=>
   rintro⟨c0,l,rr⟩ st'' ⟨rfl,e,hlk,g4,g5⟩
   dsimp only at e hlk g4 g5;subst e;show wpS _ _ _ _ (do moveDown' (lo+k) (lo+l);pure (ForInStep.yield (none,PUnit.unit))) _ _;rw[moveDown'_eq];have hks:lo+k<(arrOf st'').size:=by rw[hB'.size];exact hk
   refine wpS_bind (wpS_modify (wpS_pure ⟨rfl,hB'.setA (bubble_perm _ _ _),?_,λj hj=>?_,b4⟩))
   ·intro i j hi hij hj;show rk r (bubble (arrOf st'') (lo+k) (lo+k - (lo+l))) i<rk r (bubble (arrOf st'') (lo+k) (lo+k - (lo+l))) j;have G4:∀i,lo<=i->i<lo+l->rk r (arrOf st'') i<rk r (arrOf st'') (lo+k):=λi q1 q2=>by
     have:=g4 (i - lo) (by omega);rw[show lo+(i - lo)=i by omega]at this;exact this
    have G5:∀i,lo+l<=i->i<lo+k->rk r (arrOf st'') (lo+k)<rk r (arrOf st'') i:=λi q1 q2=>by have:=g5 (i - lo) (by omega) (by omega);rw[show lo+(i - lo)=i by omega]at this;exact this
    rw[q5J hks (by omega),q5J hks (by omega),show lo+k - (lo+k - (lo+l))=lo+l by omega]
    repeat' split
    all_goals first
     | (exfalso;omega)
     | exact G4 _ (by omega) (by omega)
     | exact G5 _ (by omega) (by omega)
     | exact u _ _ (by omega) (by omega) (by omega)
   ·show(bubble (arrOf st'') (lo+k) (lo+k - (lo+l)))[j]? = (arrOf st)[j]?;rw[getElem?_bubble hks _ (by omega),if_neg (by omega),if_neg (by omega)];exact b3 j hj
end
end L2
end
noncomputable section
namespace L2
open PySem PyProof.Rows
def q1l(r:Keyed->Int):Nat->List (Nat×Nat×Nat)->List (List Keyed)->Prop
 | _,[],[]=>True
 | o,(s,n,_)::ps,l::rs=>s=o/\n=l.length/\0<n/\q1s r l/\q1l r (o+n) ps rs
 | _,_,_=>False
section
variable {r:Keyed->Int}
theorem q1l.split:∀{p1:List (Nat×Nat×Nat)} {o:Nat} {p2:List (Nat×Nat×Nat)} {rs:List (List Keyed)},q1l r o (p1++p2) rs->∃r1 r2,rs=r1++r2/\q1l r o p1 r1/\q1l r (o+r1.flatten.length) p2 r2
 | [],o,p2,rs,h=>⟨[],rs,rfl,trivial,h⟩
 | (s,n,w)::p1,o,p2,[],h=>h.elim
 | (s,n,w)::p1,o,p2,l::rs,h=>by obtain⟨e1,e2,e3,e4,h⟩:=h;obtain⟨r1,r2,rfl,t1,t2⟩:=q1l.split h;refine⟨l::r1,r2,rfl,⟨e1,e2,e3,e4,t1⟩,?_⟩;rw[List.flatten_cons,List.length_append,←e2,←Nat.add_assoc];exact t2
theorem q1l.join:∀{p1:List (Nat×Nat×Nat)} {o:Nat} {p2:List (Nat×Nat×Nat)} {r1 r2:List (List Keyed)},q1l r o p1 r1->q1l r (o+r1.flatten.length) p2 r2->q1l r o (p1++p2) (r1++r2)
 | [],o,p2,[],r2,_,h=>h
 | [],o,p2,_::_,r2,h,_=>h.elim
 | (s,n,w)::p1,o,p2,[],r2,h,_=>h.elim
 | (s,n,w)::p1,o,p2,l::r1,r2,h,h2=>by obtain⟨e1,e2,e3,e4,h⟩:=h;refine⟨e1,e2,e3,e4,q1l.join h ?_⟩;rw[List.flatten_cons,List.length_append,←e2,←Nat.add_assoc]at h2;exact h2
theorem q1l.same:∀{ps ps':List (Nat×Nat×Nat)} {o:Nat} {rs:List (List Keyed)},ps.map (λx=>(x.1,x.2.1))=ps'.map (λx=>(x.1,x.2.1))->q1l r o ps rs->q1l r o ps' rs
 | [],[],o,[],_,h=>h
 | [],[],o,_::_,_,h=>h.elim
 | [],_::_,_,_,e,_=>by simp at e
 | _::_,[],_,_,e,_=>by simp at e
 | _::_,_::_,_,[],_,h=>h.elim
 | (s,n,w)::ps,(s',n',w')::ps',o,l::rs,e,h=>by obtain⟨e1,e2,e3,e4,h⟩:=h;rw[List.map_cons,List.map_cons]at e;obtain⟨e5,e6⟩:=List.cons.inj e;cases e5;exact⟨e1,e2,e3,e4,q1l.same e6 h⟩
theorem z3n{α β:Type}{f:α->α}{g:α->β}(hf:∀x,g (f x)=g x)(l:List α)(i:Nat):(l.modify i f).map g=l.map g:=by
 apply List.ext_getElem?;intro j;rw[List.getElem?_map,List.getElem?_map,List.getElem?_modify];cases l[j]? with
 | none=>rfl
 | some x=>
  by_cases h:i=j
  ·simp[h,hf]
  ·simp[h]
theorem q1l.len:∀{ps:List (Nat×Nat×Nat)} {o:Nat} {rs:List (List Keyed)},q1l r o ps rs->ps.length=rs.length/\ps.length<=rs.flatten.length
 | [],_,[],_=>⟨rfl,Nat.le_refl _⟩
 | [],_,_::_,h=>h.elim
 | _::_,_,[],h=>h.elim
 | (s,n,w)::ps,o,l::rs,h=>by obtain⟨e1,e2,e3,e4,h⟩:=h;have:=h.len;rw[List.flatten_cons,List.length_append,List.length_cons,List.length_cons];omega
end
section
variable {prog:Program} {w:World} {A:Around} {E:Value->Shared->Prop} {s:Shared} {κ:SortKind} {S:Keyed->Prop} {r:Keyed->Int} {st:SortSt} {a0:List Keyed}
theorem q4F{i:Nat}{rs:List (List Keyed)}{tail:List Keyed}{Q:Bool->SortSt->Prop}(hc:Cmp prog w A s κ S r)(h0:A0 S r a0)(hB:SB κ a0 st)(T:q1l r 0 (pendingOf st).toList rs)(e:(arrOf st).toList=rs.flatten++tail)(hi:i+1<(pendingOf st).size)
  (q:∀st' rs',SB κ a0 st'->q1l r 0 (pendingOf st').toList rs'->(arrOf st').toList=rs'.flatten++tail->(pendingOf st').size+1=(pendingOf st).size->Q true st'):wpS (model prog w) A E s (mergeAt' i) Q st:=by
 obtain⟨p1,⟨sa,na,w1⟩,⟨sb,nb,w2⟩,p2,ep,el⟩:∃p1 x y p2,(pendingOf st).toList=p1++x::y::p2/\p1.length=i:=by
  refine⟨(pendingOf st).toList.take i,(pendingOf st)[i],(pendingOf st)[i+1],(pendingOf st).toList.drop (i+2),?_,by rw[List.length_take,Array.length_toList];omega⟩
  conv=>lhs;rw[←List.take_append_drop i (pendingOf st).toList]
  rw[List.drop_eq_getElem_cons (by rw[Array.length_toList];omega),List.drop_eq_getElem_cons (by rw[Array.length_toList];omega)]
  rfl
 have T':=T
 rw[ep]at T'
 obtain⟨r1,r2,rfl,t1,t2⟩:=T'.split
 obtain⟨la,lb,r3,rfl⟩:∃la lb r3,r2=la::lb::r3:=by
  cases r2 with
  | nil=>exact t2.elim
  | cons la r2=>cases r2 with
   | nil=>exact(t2.2.2.2.2).elim
   | cons lb r3=>exact⟨la,lb,r3,rfl⟩
 obtain⟨e1,e2,e3,ra,f1,f2,f3,rb,t3⟩:=t2
 rw[Nat.zero_add]at e1 f1 t3
 have ee:(arrOf st).toList=r1.flatten++la++lb++(r3.flatten++tail):=by rw[e];simp[List.append_assoc]
 have nd:((arrOf st).toList.map r).Nodup:=(hB.pm.map r).nodup_iff.mpr h0.nd
 have g1:(pendingOf st)[i]? = some (sa,na,w1):=by rw[←Array.getElem?_toList,ep,List.getElem?_append_right (by omega),el,Nat.sub_self];rfl
 have g2:(pendingOf st)[i+1]? = some (sb,nb,w2):=by rw[←Array.getElem?_toList,ep,List.getElem?_append_right (by omega),el,show i+1 - i=1 by omega];rfl
 refine q6x hc hB.kd hB.fl ee g1 g2 e1 e2 (by omega) f2 e3 f3 ra rb (λx hx=>h0.s x (hB.pm.mem_iff.mp ?_)) (λx hx y hy z=>?_) λmid st' f k1 k2 k3 k4=>?_
 ·rw[ee]
  rcases List.mem_append.mp hx with v | v
  ·exact List.mem_append_left _ (List.mem_append_left _ (List.mem_append_right _ v))
  ·exact List.mem_append_left _ (List.mem_append_right _ v)
 ·rw[ee,List.map_append,List.map_append,List.map_append]at nd
  have q1:=(List.nodup_append.mp (List.nodup_append.mp nd).1).2.2
  exact q1 (r x) (List.mem_append_right _ (List.mem_map_of_mem hx)) (r y) (List.mem_map_of_mem hy) z
 ·have ml:=f.pm.length_eq
  rw[List.length_append]at ml
  have kp:(pendingOf st').toList=p1++(sa,na+nb,w1)::p2:=by
   rw[k4,Array.toList_eraseIdxIfInBounds,Array.toList_setIfInBounds,ep]
   rw[List.set_append_right _ _ (by omega),el,Nat.sub_self,List.set_cons_zero,List.eraseIdx_append_of_length_le (by omega),el,show i+1 - i=1 by omega]
   rfl
  refine q st' (r1++mid::r3) ⟨?_,k1,k2⟩ ?_ ?_ ?_
  ·rw[k3]
   refine List.Perm.trans ?_ hB.pm
   rw[ee]
   have:=(f.pm.append_left r1.flatten).append_right (r3.flatten++tail)
   simp only[List.append_assoc]at this ⊢
   exact this
  ·rw[kp]
   refine t1.join ⟨by rw[Nat.zero_add];exact e1,by omega,by omega,f.up,?_⟩
   rw[Nat.zero_add,←Nat.add_assoc]
   exact t3
  ·rw[k3];simp[List.append_assoc]
  ·rw[←Array.length_toList,←Array.length_toList,kp,ep]
   simp
   omega
def Wait(κ:SortKind)(r:Keyed->Int)(a0:List Keyed)(lo:Nat)(st:SortSt):Prop:=SB κ a0 st/\∃rs rest,(arrOf st).toList=rs.flatten++rest/\rs.flatten.length=lo/\q1l r 0 (pendingOf st).toList rs
theorem q9R{lo n:Nat}{rs:List (List Keyed)}{rest:List Keyed}{xs ys:Array Keyed}(e:xs.toList=rs.flatten++rest)(hl:rs.flatten.length=lo)(hn:lo+n<=ys.size)(hz:lo<=xs.size)(hs:∀k,k<lo->ys[k]? = xs[k]?)(u:UpR r ys lo (lo+n)):∃run rest',ys.toList=rs.flatten++(run++rest')/\run.length=n/\q1s r run:=by
 refine⟨(ys.toList.drop lo).take n,(ys.toList.drop lo).drop n,?_,by rw[List.length_take,List.length_drop,Array.length_toList];omega,?_⟩
 ·rw[List.take_append_drop];have e1:rs.flatten=xs.toList.take lo:=by rw[e,←hl,List.take_left]
  have e2:xs.toList.take lo=ys.toList.take lo:=by
   apply List.ext_getElem?;intro k;rcases Nat.lt_or_ge k lo with v | v
   ·rw[List.getElem?_take_of_lt v,List.getElem?_take_of_lt v,Array.getElem?_toList,Array.getElem?_toList,hs k v]
   ·rw[List.getElem?_eq_none (by rw[List.length_take];omega),List.getElem?_eq_none (by rw[List.length_take];omega)]
  rw[e1,e2,List.take_append_drop]
 ·refine List.pairwise_iff_getElem.mpr λi j hi hj hij=>?_;have:=u (lo+i) (lo+j) (by omega) (by omega) (by rw[List.length_take]at hj;omega);rw[List.getElem_take,List.getElem_take,List.getElem_drop,List.getElem_drop];rw[List.length_take,List.length_drop,Array.length_toList]at hi hj;unfold rk at this;rw[Array.getElem?_eq_getElem (by omega),Array.getElem?_eq_getElem (by omega)]at this;exact this
theorem q6r{Q:Unit->SortSt->Prop}(hc:Cmp prog w A s κ S r)(h0:A0 S r a0)(hB:SB κ a0 st)(hp:pendingOf st = #[])(h:∀st',SB κ a0 st'->q1s r (arrOf st').toList->Q () st'):wpS (model prog w) A E s sortRuns' Q st:=by
 rw[sortRuns'_eq];refine wpS_bind (wpS_get ?_);rw[hB.size]
 extract_lets -merge -underBinder +onlyGivenNames size minrun lo
 have hsz:size=a0.length:=rfl
 clear_value size minrun
 refine wpS_bind (wpS_mono (wpS_forRange (a:=0) (b:=size) (I:=λ(i:Nat) (c:Option Unit×Nat) (st':SortSt)=>c.1=none/\Wait κ r a0 c.2 st'/\c.2<=size/\i<=c.2)
  (Q:=λ(c:Option Unit×Nat) (st':SortSt)=>c.1=none/\Wait κ r a0 size st') ?step ?fin ⟨rfl,⟨hB,[],(arrOf st).toList,rfl,rfl,by rw[hp];trivial⟩,Nat.zero_le _,Nat.le_refl _⟩) λc st1 h1=>?post)
 case fin=>
  rintro⟨c0,lo⟩ st' ⟨e,W,l1,l2⟩
  dsimp only at e W l1 l2;rw[show lo=size by omega]at W;exact⟨e,W⟩
 case post=>
  obtain⟨c0,lo⟩:=c;obtain⟨e,W⟩:=h1;dsimp only at e;subst e;dsimp only;obtain⟨hB1,rs,rest,ea,el,T⟩:=W;have er:rest=[]:=by have:=hB1.size;rw[←Array.length_toList,ea,List.length_append]at this;exact List.length_eq_zero_iff.mp (by omega)
  subst er;refine wpS_bind (wpS_mono (wpS_forRange (a:=0) (b:=size) (I:=λ(i:Nat) (c:Option Unit×Unit) (st':SortSt)=>c.1=none/\SB κ a0 st'/\∃rs,(arrOf st').toList=rs.flatten++[]/\q1l r 0 (pendingOf st').toList rs/\(pendingOf st').size+i<=size+1)
   (Q:=λ(c:Option Unit×Unit) (st':SortSt)=>c.1=none/\SB κ a0 st'/\∃rs,(arrOf st').toList=rs.flatten++[]/\q1l r 0 (pendingOf st').toList rs/\(pendingOf st').size<=1) ?mstep ?mfin ⟨rfl,hB1,rs,ea,T,by have:=T.len.2;rw[Array.length_toList]at this;omega⟩) λc st2 h2=>?mpost)
  case mfin=>
   rintro c st' ⟨e,b,rs,f1,f2,f3⟩
   exact⟨e,b,rs,f1,f2,by omega⟩
  case mpost=>
   obtain⟨c0,⟨⟩⟩:=c;obtain⟨e,b,rs,f1,f2,f3⟩:=h2;dsimp only at e;subst e;refine wpS_pure (h st2 b ?_);rw[f1,List.append_nil];have:=f2.len.1;rw[Array.length_toList]at this
   match rs,this,f2 with
   | [],_,_=>exact .nil
   | [l],_,f2=>
    rw[List.flatten_cons,List.flatten_nil,List.append_nil];revert f2;cases(pendingOf st2).toList with
    | nil=>exact λf2=>f2.elim
    | cons p ps=>exact λf2=>f2.2.2.2.1
   | _::_::_,t,_=>simp only[List.length_cons]at t;omega
  case mstep=>
   rintro i ⟨c0,⟨⟩⟩ st' _ hi ⟨e,b,rs,f1,f2,f3⟩
   dsimp only at e;subst e;refine wpS_bind (wpS_get ?_);split
   ·rename_i hz;exact wpS_pure ⟨rfl,b,rs,f1,f2,hz⟩
   rename_i hz;refine wpS_bind (q4F hc h0 b f2 f1 ?_ λst3 rs3 g1 g2 g3 g4=>wpS_pure ⟨rfl,g1,rs3,g3,g2,by omega⟩);split<;>split<;>omega
 rintro i ⟨c0,lo⟩ st1 _ hi ⟨e,W,l1,l2⟩
 dsimp only at e W l1 l2;subst e;refine q9e λQQ hQ=>?_
 extract_lets -merge -underBinder +onlyGivenNames lo'
 have hlo':lo'=lo:=rfl
 clear_value lo'
 subst hlo';split
 ·rename_i hz;rw[show lo'=size by omega]at W;exact wpS_pure (hQ _ _ ⟨rfl,W⟩)
 rename_i hz;obtain⟨hB1,rs,rest,ea,el,T⟩:=W;refine wpS_bind (q7U hc h0 hB1 (by omega) (by omega) λm st2 hB2 m1 m2 u hs hpd=>?_);dsimp -zeta only
 extract_lets -merge -underBinder +onlyGivenNames n jp
 have main:∀n st3,SB κ a0 st3->1<=n->lo'+n<=size->UpR r (arrOf st3) lo' (lo'+n)->(∀k,k<lo'->(arrOf st3)[k]? = (arrOf st1)[k]?)->pendingOf st3=pendingOf st1->wpS (model prog w) A E s (jp () n) QQ st3:=by
  intro n st3 hB3 n1 n2 u3 hs3 hp3;dsimp -zeta only[jp]
  clear_value jp
  refine wpS_bind (wpS_get ?_);obtain⟨run,rest',er,rl,ru⟩:=q9R ea el (by rw[hB3.size];omega) (by rw[hB1.size];omega) hs3 u3
  extract_lets -merge -underBinder +onlyGivenNames jp2
  have main2:∀st4 rs4,SB κ a0 st4->(arrOf st4).toList=rs4.flatten++(run++rest')->rs4.flatten.length=lo'->q1l r 0 (pendingOf st4).toList rs4->wpS (model prog w) A E s (jp2 ()) QQ st4:=by
   intro st4 rs4 hB4 e4 l4 T4;dsimp -zeta only[jp2];refine wpS_bind (wpS_modify ?_);refine wpS_pure (hQ _ _ ⟨rfl,⟨⟨hB4.pm,hB4.kd,hB4.fl⟩,rs4++[run],rest',?_,?_,?_⟩,n2,by show i+1<=lo'+n;omega⟩)
   ·refine Eq.trans e4 ?_;simp[List.append_assoc]
   ·rw[List.flatten_append,List.length_append,l4];simp[rl]
   ·show q1l r 0 ((pendingOf st4).push (lo',n,0)).toList _;rw[Array.toList_push];refine T4.join ⟨by rw[Nat.zero_add,l4],rl.symm,n1,ru,trivial⟩
  clear_value jp2
  split
  ·rename_i s1 n1 snd hback
   extract_lets -merge -underBinder +onlyGivenNames pw
   clear_value pw
   refine wpS_bind (wpS_mono (wpS_forRange (a:=0) (b:=size) (I:=λ(_:Nat) (c:Option Unit×Unit) (st':SortSt)=>c.1=none/\SB κ a0 st'/\∃rs,(arrOf st').toList=rs.flatten++(run++rest')/\q1l r 0 (pendingOf st').toList rs)
    (Q:=λ(c:Option Unit×Unit) (st':SortSt)=>c.1=none/\SB κ a0 st'/\∃rs,(arrOf st').toList=rs.flatten++(run++rest')/\q1l r 0 (pendingOf st').toList rs) ?pstep (λ_ _ z=>z) ⟨rfl,hB3,rs,er,by rw[hp3];exact T⟩) λc st4 h4=>?ppost)
   case pstep=>
    rintro j ⟨c0,⟨⟩⟩ st' _ hj ⟨e,b,rs,f1,f2⟩
    dsimp only at e;subst e;refine wpS_bind (wpS_get ?_);dsimp only;split
    ·rename_i older hol;split
     ·exact wpS_pure ⟨rfl,b,rs,f1,f2⟩
     ·have hgt:(pendingOf st').size>1:=by
       rcases Nat.lt_or_ge 1 (pendingOf st').size with v | v
       ·exact v
       ·rw[if_neg (by omega)]at hol;cases hol
      exact wpS_bind (q4F hc h0 b f2 f1 (by omega) λst3 rs3 g1 g2 g3 g4=>wpS_pure ⟨rfl,g1,rs3,g3,g2⟩)
    ·exact wpS_pure ⟨rfl,b,rs,f1,f2⟩
   obtain⟨c0,⟨⟩⟩:=c;obtain⟨e,b,rs4,f1,f2⟩:=h4;dsimp only at e;subst e;dsimp only;refine wpS_bind (wpS_modify ?_);refine main2 _ rs4 ⟨b.pm,b.kd,b.fl⟩ f1 ?_ ?_
   ·have e5:=b.size;have e6:=hB3.size;rw[←Array.length_toList,f1,List.length_append]at e5;rw[←Array.length_toList,er,List.length_append]at e6;omega
   ·refine f2.same ?_;show _=(((pendingOf st4).modify ((pendingOf st4).size - 1) λx=>match x with | (st,len,snd)=>(st,len,pw)).toList).map _;rw[Array.toList_modify,z3n]
    rintro⟨x1,x2,x3⟩
    rfl
  ·exact main2 _ rs hB3 er el (by rw[hp3];exact T)
 clear_value jp
 split
 ·rename_i hlt;refine wpS_bind (wpS_lift (wpAny_rule ⟨rfl,?_⟩))
  extract_lets -merge -underBinder +onlyGivenNames force
  have hfo:force=min (size - lo') minrun:=rfl;have hlt':m<minrun:=hlt
  clear_value force
  refine wpS_bind (z1Q hc h0 hB2 m1 (n:=force) (by show m<=force;omega) (by omega) u λst3 hB3 u3 hs3 hp3=>?_);exact main force st3 hB3 (by omega) (by omega) u3 (λk hk=>(hs3 k hk).trans (hs k hk)) (hp3.trans hpd)
 ·exact main m st2 hB2 m1 (by omega) u hs hpd
end
end L2
end
noncomputable section
namespace L2
open PySem PySem.Spec PyProof.Rows PySem.Calls
theorem q1y(p q:Int×Int):ltP p q=true↔p.1<q.1\/(p.1=q.1/\p.2<q.2):=by
 unfold ltP;rw[Bool.or_eq_true,decide_eq_true_iff,Bool.and_eq_true,beq_iff_eq,decide_eq_true_iff]
def rkM(M:Int)(p:Int×Int):Int:=p.1*(2*M)+p.2
theorem bnd2:∀ps:List (Int×Int),∃M:Int,0<M/\∀p∈ps,-M<p.2/\p.2<M
 | []=>⟨1,by decide,λ_ h=>nomatch h⟩
 | p::ps=>by
  obtain⟨M,h1,h2⟩:=bnd2 ps;refine⟨M+p.2.natAbs+1,by omega,λq hq=>?_⟩;rcases List.mem_cons.mp hq with rfl | hq
  ·omega
  ·have:=h2 q hq;omega
theorem q7j{M:Int}{p q:Int×Int}(hM:0<M)(hp : -M<p.2/\p.2<M)(hq : -M<q.2/\q.2<M):decide (rkM M p<rkM M q)=ltP p q:=by
 have key:∀a b:Int,a<b->a*(2*M)+2*M<=b*(2*M):=λa b h=>by have:=Int.mul_le_mul_of_nonneg_right (show a+1<=b by omega) (show 0<=2*M by omega);rw[Int.add_mul,Int.one_mul]at this;exact this
 unfold rkM;rcases Int.lt_trichotomy p.1 q.1 with h | h | h
 ·have:=key _ _ h;rw[decide_eq_true (by omega),(q1y p q).mpr (.inl h)]
 ·rw[h];by_cases h2:p.2<q.2
  ·rw[decide_eq_true (by omega),(q1y p q).mpr (.inr ⟨h,h2⟩)]
  ·rw[decide_eq_false (by omega)];cases e:ltP p q with
   | false=>rfl
   | true=>rcases(q1y p q).mp e with z | z<;>omega
 ·have:=key _ _ h;rw[decide_eq_false (by omega)];cases e:ltP p q with
  | false=>rfl
  | true=>rcases(q1y p q).mp e with z | z<;>omega
theorem PrAt.uniq{h:Heap}{v:Value}{p q:Int×Int}(a:PrAt h v p)(b:PrAt h v q):p=q:=by
 obtain⟨a1,o1,n1,t1,t1',rfl,e2,e3,e4⟩:=a;obtain⟨a2,o2,n2,t2,t2',f1,f2,f3,f4⟩:=b;cases f1;rw[e2]at f2;cases f2;rw[e4]at f4;simp at f4;exact Prod.ext f4.1.1.1 f4.1.2.1
open Classical in
noncomputable def prOf(h:Heap)(v:Value):Int×Int:=if e:∃p,PrAt h v p then e.choose else(0,0)
theorem q2t{h:Heap}{v:Value}{p:Int×Int}(a:PrAt h v p):prOf h v=p:=by
 have e:∃p,PrAt h v p:=⟨p,a⟩;unfold prOf;rw[dif_pos e];exact(e.choose_spec).uniq a
theorem q0Z.map{h:Heap}:∀{vs:List Value} {ps:List (Int×Int)},q0Z h vs ps->vs.map (prOf h)=ps
 | [],[],_=>rfl
 | _::_,_::_,x=>by rw[List.map_cons,q2t x.1,x.2.map]
 | [],_::_,x=>x.elim
 | _::_,[],x=>x.elim
theorem q0Z.all{h:Heap}:∀{vs:List Value} {ps:List (Int×Int)},q0Z h vs ps->∀v∈vs,∃p∈ps,PrAt h v p
 | [],[],_,v,hv=>nomatch hv
 | u::vs,p::ps,x,v,hv=>by
  rcases List.mem_cons.mp hv with rfl | hv
  ·exact⟨p,List.mem_cons_self ..,x.1⟩
  ·obtain⟨q,h1,h2⟩:=x.2.all v hv;exact⟨q,List.mem_cons_of_mem _ h1,h2⟩
 | [],_::_,x,_,_=>x.elim
 | _::_,[],x,_,_=>x.elim
theorem q0Z.of{h:Heap}:∀{vs:List Value},(∀v∈vs,∃p,PrAt h v p)->q0Z h vs (vs.map (prOf h))
 | [],_=>trivial
 | v::vs,x=>by obtain⟨p,e⟩:=x v (List.mem_cons_self ..);exact⟨by rw[q2t e];exact e,q0Z.of λu hu=>x u (List.mem_cons_of_mem _ hu)⟩
section
variable {prog:Program} {w:World} {A:Around} {E:Value->Shared->Prop} {s:Shared}
theorem q6D{a:Addr}{vs:List Value}{ps:List (Int×Int)}{n:Nat}{P:PySem.Fin->Shared->Prop}(ho:s.heap.get? a=some (seqObj "list" vs.toArray n))(hp:q0Z s.heap vs ps)(hnd:ps.Nodup)(hz:ps.length<=1000)
  (h:∀vs' ps',vs'.Perm vs->q0Z s.heap vs' ps'->ps'.Perm ps->ps'.Pairwise (λp q=>ltP p q=true)->P (.done (.ret .none)) {s with heap:=sortedHeap s.heap a vs vs'.toArray}):wpAny (model prog w) A (Builtin.«list.sort» ⟨[.ref a],[]⟩) P E s:=by
 have hl:=hp.len;rw[list_sort_plain];have ha:a<s.heap.objs.size:=Heap.lt_size ho;refine wpAny_bind (listItems_at ho rfl ?_);refine wpAny_bind (listUpdate_at ho rfl ?_ (by rw[List.size_toArray,sizeLine_eq];omega) (Nat.zero_le _));obtain⟨e1,ho1⟩:∃e1,(s.heap.update a (Obj.mapSeq λ_=>(#[]:Array Value))).get? a=some (seqObj "list" #[] e1):=⟨_,get?_update_seq ho λ_=>#[]⟩;refine wpAny_bind (seqEpoch_at ho1 rfl ?_);refine wpAny_bind (wpAny_newTuple ?_ (by show vs.length<=_;rw[sizeLine_eq];omega));refine wpAny_bind (wpAny_newList ?_ (Nat.zero_le _));refine wpAny_holding ?_;have ho6:(((s.heap.update a (Obj.mapSeq λ_=>(#[]:Array Value))).push (seqObj "tuple" vs.toArray 0)).push (seqObj "list" #[] 0)).get? a=some (seqObj "list" #[] e1):=(by rw[Heap.get?_push_ne _ _ _ (by rw[size_push',Heap.size_update];exact Nat.ne_of_lt (Nat.lt_succ_of_lt ha)),Heap.get?_push_ne _ _ _ (by rw[Heap.size_update];exact Nat.ne_of_lt ha)];exact ho1);show wpAny (model prog w) A _ P E {s with heap:=((s.heap.update a (Obj.mapSeq λ_=>(#[]:Array Value))).push (seqObj "tuple" vs.toArray 0)).push (seqObj "list" #[] 0)};dsimp only;have zp:(vs.toArray.zip vs.toArray).map (·.2)=vs.toArray:=by apply Array.ext (by simp);intro i h1 h2;simp
 by_cases h2:vs.toArray.size<2
 ·rw[if_pos h2,if_pos h2];rw[List.size_toArray]at h2;refine wpAny_bind (wpAny_pure ?_);rw[StateT.run_pure];refine wpAny_bind (wpAny_pure ?_);dsimp only;refine wpAny_bind (seqEpoch_at ho6 rfl ?_);have ez:(arrOf (SortSt.mk' general' (vs.toArray.zip vs.toArray) #[] 7 none)).map (·.2)=vs.toArray:=zp;rw[ez];refine wpAny_bind (listUpdate_at ho6 rfl ?_ (Nat.zero_le _) (by rw[List.size_toArray,sizeLine_eq];omega));simp only[bne_self_eq_false,Bool.false_eq_true,if_false];refine wpAny_pure (h vs ps (.refl _) hp (.refl _) ?_)
  match ps,hl with
  | [],_=>exact .nil
  | [_],_=>exact List.pairwise_singleton _ _
  | _::_::_,hl=>simp only[List.length_cons]at hl;omega
 ·rw[if_neg h2,if_neg h2];rw[List.size_toArray]at h2;have keep:∀b o,b≠a->s.heap.get? b=some o->(((s.heap.update a (Obj.mapSeq λ_=>(#[]:Array Value))).push (seqObj "tuple" vs.toArray 0)).push (seqObj "list" #[] 0)).get? b=some o:=λb o hb e=>by
   have hbl:=Heap.lt_size e;rw[Heap.get?_push_ne _ _ _ (by rw[size_push',Heap.size_update];exact Nat.ne_of_lt (Nat.lt_succ_of_lt hbl)),Heap.get?_push_ne _ _ _ (by rw[Heap.size_update];exact Nat.ne_of_lt hbl),Heap.get?_update_ne _ _ _ _ hb];exact e
  have hp':=hp.keepNe ho keep;obtain⟨fs,k1,k2,k3⟩:=hp'.tups;refine wpAny_bind (PySem.W.kat_kind (T:=.type "int") k1 (by omega) (λv hv=>?_) rfl ?_)
  ·obtain⟨i,t,rfl⟩:=k3 v hv;exact .now
  obtain⟨M,hM,hb⟩:=bnd2 ps;have al:=hp'.all;generalize hg:((s.heap.update a (Obj.mapSeq λ_=>(#[]:Array Value))).push (seqObj "tuple" vs.toArray 0)).push (seqObj "list" #[] 0)=g at *;have zm:∀x∈vs.zip vs,x.1=x.2/\x.1∈vs:=λx hx=>mem_zip_self hx
  have zf:(vs.zip vs).map (λx=>prOf g x.1)=ps:=by
   have:(vs.zip vs).map (λx=>prOf g x.1)=((vs.zip vs).map Prod.fst).map (prOf g):=by rw[List.map_map];rfl
   rw[this,List.map_fst_zip (Nat.le_refl _),hp'.map]
  have cmp:Cmp prog w A {s with heap:=g} (tuples' true) (λx=>∃p∈ps,PrAt g x.1 p) (λx=>rkM M (prOf g x.1)):=by
   rintro x y ⟨p,p1,p2⟩ ⟨q,q1,q2⟩ C hC
   have ee:decide (rkM M (prOf g x.1)<rkM M (prOf g y.1))=ltP p q:=(by rw[q2t p2,q2t q2];exact q7j hM (hb p p1) (hb q q1));have hC:C (decide (rkM M (prOf g x.1)<rkM M (prOf g y.1))) {s with heap:=g}:=hC;rw[ee]at hC;obtain⟨b1,o1,n1,t1,t1',f1,f2,f3,f4⟩:=p2;obtain⟨b2,o2,n2,t2,t2',g1,g2,g3,g4⟩:=q2;rw[f1,g1];exact q8n f2 f4 g2 g4 hC
  have a0:A0 (λx=>∃p∈ps,PrAt g x.1 p) (λx=>rkM M (prOf g x.1)) (vs.zip vs):=by
   refine⟨λx hx=>al _ (zm x hx).2,?_⟩;have:(vs.zip vs).map (λx=>rkM M (prOf g x.1))=ps.map (rkM M):=(by rw[←zf,List.map_map];rfl);rw[this];refine List.pairwise_map.mpr (List.Pairwise.imp_of_mem (λ{p q} hp hq hne e=>?_) hnd);have l1:=q7j hM (hb p hp) (hb q hq);have l2:=q7j hM (hb q hq) (hb p hp);rw[decide_eq_false (by omega)]at l1 l2;apply hne;have n1:¬(p.1<q.1\/(p.1=q.1/\p.2<q.2)):=λz=>by rw[(q1y p q).mpr z]at l1;cases l1
   have n2:¬(q.1<p.1\/(q.1=p.1/\q.2<p.2)):=λz=>by rw[(q1y q p).mpr z]at l2;cases l2
   have:p.1=q.1:=by omega
   exact Prod.ext this (by omega)
  refine wpAny_bind (wpAny_mono (q6r (st:=SortSt.mk' (tuples' true) (vs.toArray.zip vs.toArray) #[] 7 none) (Q:=λ_ st'=>∃vs' ps',vs'.Perm vs/\q0Z g vs' ps'/\ps'.Perm ps/\ps'.Pairwise (λp q=>ltP p q=true)/\(arrOf st').map (·.2)=vs'.toArray/\failedOf st'=none) cmp a0 ⟨by show((vs.toArray.zip vs.toArray).toList).Perm _;simp,rfl,rfl⟩ rfl λst' hB up=>?_) ?_ λ_ _ e=>e)
  ·have hm:∀x∈(arrOf st').toList,x.1=x.2/\x.1∈vs:=λx hx=>zm x (hB.pm.mem_iff.mp hx);have e2:(arrOf st').toList.map (·.2)=(arrOf st').toList.map (·.1):=List.map_congr_left λx hx=>(hm x hx).1.symm;have pv:((arrOf st').toList.map (·.1)).Perm vs:=by
    have:=hB.pm.map (·.1);rw[List.map_fst_zip (Nat.le_refl _)]at this;exact this
   refine⟨(arrOf st').toList.map (·.1),((arrOf st').toList.map (·.1)).map (prOf g),pv,q0Z.of λv hv=>?_,?_,?_,?_,hB.fl⟩
   ·obtain⟨p,_,q⟩:=al v (pv.mem_iff.mp hv);exact⟨p,q⟩
   ·have:=pv.map (prOf g);rw[hp'.map]at this;exact this
   ·rw[List.map_map];refine List.pairwise_map.mpr (List.Pairwise.imp_of_mem (λ{x y} hx hy hlt=>?_) up);obtain⟨p,p1,p2⟩:=al _ (hm x hx).2;obtain⟨q,q1,q2⟩:=al _ (hm y hy).2;show ltP (prOf g x.1) (prOf g y.1)=true;have hlt:rkM M (prOf g x.1)<rkM M (prOf g y.1):=hlt;rw[q2t p2,q2t q2]at hlt ⊢;rw[←q7j hM (hb p p1) (hb q q1)];exact decide_eq_true hlt
   ·rw[←e2];apply Array.ext';simp
  ·rintro⟨⟨⟩,st'⟩ s' ⟨rfl,vs',ps',q1,q2,q3,q4,q5,q6⟩
   dsimp only;refine wpAny_bind (seqEpoch_at ho6 rfl ?_);rw[q5];refine wpAny_bind (listUpdate_at ho6 rfl ?_ (Nat.zero_le _) (by rw[List.size_toArray,sizeLine_eq,q1.length_eq];omega));rw[q6];simp only[bne_self_eq_false,Bool.false_eq_true,if_false];have q2':q0Z s.heap vs' ps':=by
    have b:∀v∈vs',∃p,PrAt s.heap v p:=λv hv=>by obtain⟨p,_,e⟩:=hp.all v (q1.mem_iff.mp hv);exact⟨p,e⟩
    have c:=q0Z.of b;have:vs'.map (prOf s.heap)=ps':=by
     rw[←q2.map];refine List.map_congr_left λv hv=>?_
     have hv':=q1.mem_iff.mp hv;obtain⟨i,hi,e⟩:=List.mem_iff_getElem.mp hv';have x1:=hp.get (i:=i) (by omega);have x2:=hp'.get (i:=i) (by omega);rw[List.getD_eq_getElem?_getD,List.getElem?_eq_getElem hi]at x1 x2;rw[←e];rw[Option.getD_some]at x1 x2;rw[q2t x1,q2t x2]
    rw[this]at c;exact c
   rw[←hg];exact wpAny_pure (h vs' ps' q1 q2' q3 q4)
theorem z0J{d:Addr}{od:Obj}{es:Array DictEntry}{ep:Nat}(lo:(d==sysModules)=false)(hcl:od.cls=.type "dict")(hdd:od.data=.dict es ep):PySem.W.KdlSrc prog w "dict" d d es.size (λi v=>∃en,es[i]? = some en/\v=en.key) (λh=>h.get? d=some od) where
 type:=λ_ hm=>⟨od,hm,hcl⟩
 there:=λ_ hm=>⟨Heap.lt_size hm,Heap.lt_size hm⟩
 keep:=λ_ _ hm hk=>hk d (.inl rfl) od hm
 notList:=by decide
 notTuple:=by decide
 hint:=λ_ _ _ _ hm hq=>PySem.W.kdl_hint_dict ⟨od,hm,hcl⟩ hq
 iter:=λA s hh hm=>by
  have hlt:=Heap.lt_size hm;refine⟨_,λi h=>q8w h s.heap.objs.size d i es.size ep/\h.get? d=some od,λ_ _ hq=>q9P lo ⟨od,hm,hcl⟩ hm hdd hq,⟨λb hb=>?_,λi h h' st k=>⟨k _ (by simp) _ st.1,k _ (by simp) _ st.2⟩,λi s' Q E hi st q=>?_,λs' Q E st q=>?_,λi s' Q E st q=>wpAny_pyIter_keyiter ⟨_,st.1,rfl,rfl⟩ q⟩,⟨Heap.get?_push_size _ rfl,Heap.get?_push_of_some _ hm⟩⟩
  ·rw[List.mem_singleton.mp hb];simp
  ·refine q5U hh st.1 st.2 hdd (λen h' hen k1 k2=>q en.key h' s'.toks ⟨en,hen,rfl⟩ ⟨k1,k2 d od (Nat.ne_of_lt hlt) st.2⟩ λb o hb e=>k2 b o (λz=>hb (by rw[z];simp)) e) λh' hno _=>?_;rw[Array.getElem?_eq_getElem hi]at hno;cases hno
  ·refine q5U hh st.1 st.2 hdd (λen h' hen k1 k2=>?_) λh' _ k2=>q h' s'.toks λb o hb e=>k2 b o (λz=>hb (by rw[z];simp)) e;rw[Array.getElem?_eq_none (Nat.le_refl _)]at hen;cases hen
theorem q6d{d:Addr}{od:Obj}{es:Array DictEntry}{ep:Nat}{ps:List (Int×Int)}{Q:Value->Shared->Prop}(hh:A.handled=none)(lo:(d==sysModules)=false)(hd:s.heap.get? d=some od)(hcl:od.cls=.type "dict")(hdd:od.data=.dict es ep)(hp:q0Z s.heap (es.toList.map (·.key)) ps)(hnd:ps.Nodup)(hz:ps.length<=1000)
  (h:∀(h1 h':Heap) p e tk vs' ps',vs'.Perm (es.toList.map (·.key))->q0Z s.heap vs' ps'->ps'.Perm ps->ps'.Pairwise (λp q=>ltP p q=true)->(∀b o,s.heap.get? b=some o->h1.get? b=some o)->(∀b o,h1.get? b=some o->h'.get? b=some o)->h1.objs.size<=p->h'.get? p=some (seqObj "list" vs'.toArray e)->Q (.ref p) {s with heap:=h',toks:=tk}) :
  wpAny (model prog w) A (call (.builtin "sorted") [.ref d]) Q E s:=by
 have hl:=hp.len;rw[List.length_map,Array.length_toList]at hl;refine Calls.call_function_entry kind_sorted plain_sorted entry_sorted (args_sorted1 _) ?_
 unfold Builtin.«sorted»;refine wpAny_bind (m:=checkCount "sorted" 1 1 _) (wpAny_pure ?_);refine wpAny_bind (PySem.W.kdu_collect (A:=A.in1) (z0J lo hcl hdd) hh hd (by rw[sizeLine_eq];omega) λh1 tk acc hk hacc=>?_);have ea:acc.toList=es.toList.map (·.key):=by
  apply List.ext_getElem (by rw[List.length_map,Array.length_toList,Array.length_toList];exact hacc.1);intro i i1 i2;have i1':i<acc.size:=by rw[Array.length_toList]at i1;exact i1
  obtain⟨en,e1,e2⟩:=hacc.2 i acc[i] (Array.getElem?_eq_getElem i1');rw[List.getElem_map,Array.getElem_toList,Array.getElem_toList,e2];rw[Array.getElem?_eq_getElem (by have:=hacc.1;omega)]at e1;cases e1;rfl
 rw[ea];refine wpAny_bind (wpAny_newList ?_ (by rw[List.length_map,Array.length_toList,sizeLine_eq];omega));generalize hvs:es.toList.map (·.key)=vs at *;have hoL:(h1.push (seqObj "list" vs.toArray 0)).get? h1.objs.size=some (seqObj "list" vs.toArray 0):=Heap.get?_push_size _ rfl;have keep:∀b o,s.heap.get? b=some o->(h1.push (seqObj "list" vs.toArray 0)).get? b=some o:=λb o q=>Heap.get?_push_of_some _ (hk b o q)
 refine wpAny_bind (wpAny_holding (wpAny_call_entry slot_list_sort ⟨_,hoL,rfl⟩ entry_list_sort (q6D (s:={s with heap:=h1.push (seqObj "list" vs.toArray 0),toks:=tk}) hoL (hp.keep keep) hnd hz λvs' ps' q1 q2 q3 q4=>⟨_,rfl,?_⟩) (args_list_sort _)));refine wpAny_pure ⟨_,rfl,?_⟩;obtain⟨e,he⟩:=sortedHeap_at (out:=vs'.toArray) hoL;have q2':q0Z s.heap vs' ps':=by
  have b:∀v∈vs',∃p,PrAt s.heap v p:=λv hv=>by obtain⟨p,_,e⟩:=hp.all v (q1.mem_iff.mp hv);exact⟨p,e⟩
  have c:=q0Z.of b;have:=(c.keep keep).map;rw[←this,q2.map]at c;exact c
 refine h h1 _ _ e tk vs' ps' q1 q2' q3 q4 hk (λb o q=>?_) (Nat.le_refl _) he;have hlt:b<h1.objs.size:=Heap.lt_size q;rw[sortedHeap_old (Nat.ne_of_lt hlt) (by show b<(h1.push _).objs.size;rw[size_push'];exact Nat.lt_succ_of_lt hlt)];exact Heap.get?_push_of_some _ q
end
section
variable {X:Cx}
theorem PrsV.get:∀{K:PySem.W.Frag} {H:Hp} {vs:List V} {ps:List (Int×Int)},PrsV K H vs ps->vs.length=ps.length
 | _,_,[],[],_=>rfl
 | _,_,_::_,_::_,x=>by rw[List.length_cons,List.length_cons,x.2.get]
 | _,_,[],_::_,x=>x.elim
 | _,_,_::_,[],x=>x.elim
theorem q7N:∀xs:List (List Key×Addr×Value),Vals (xs.map λx=>V.ref x.2.1) (xs.map λx=>Value.ref x.2.1)
 | []=>.nil
 | _::xs=>.cons rfl (q7N xs)
theorem q6S(hc:X.calm=true):q1G X (.builtin "sorted") (λxs H Q=>∃(p:Addr) (kvs:List (List Key×V)) (ps:List (Int×Int)),xs=[.ref p]/\H p=some (.dT kvs)/\kvs.map (·.1)=ps.map (λp=>[.inl p.1,.inl p.2])/\ps.length<=1000 /\
  ∀q bs ps',H q=none->PrsV X.K H bs ps'->ps'.Perm ps->ps'.Pairwise (λp q=>ltP p q=true)->Q (.ref q) (upd H q (.lst bs))):=by
 intro pins s σ H xs us Q I r h;obtain⟨p,kvs,ps,rfl,hH,hk,hz,q⟩:=h;obtain⟨u,rfl,r1⟩:=q4O r;cases r1;obtain⟨zz,y,xs,rr,o,es,ep,h1,h2,h3,h4,h5⟩:=(show q1f X.prog X.w H s.heap p (.dT kvs)from I.hok p _ hH);have ek:es.toList.map (·.key)=xs.map λx=>Value.ref x.2.1:=by rw[h4,List.map_map];rfl
 have kx:xs.map (·.1)=ps.map (λp=>[.inl p.1,.inl p.2]):=by
  rw[←hk]
  clear hk h4 h5 ek hH hz q zz
  induction rr with
  | nil=>rfl
  | cons a _ ih=>rw[List.map_cons,List.map_cons,ih,a.1]
 have hnd:ps.Nodup:=(by rw[kx]at h5;exact(List.pairwise_map.mp h5).imp λ{a b} hab e=>hab (by rw[e]));have at':∀x∈xs,∃k:List Key,x.1=k/\H x.2.1=some (.tup (k.map kV)):=by
  clear hk h4 h5 ek hH hz q kx zz hnd
  induction rr with
  | nil=>exact λ_ h=>nomatch h
  | cons a _ ih=>
   intro x hx;rcases List.mem_cons.mp hx with rfl | hx
   ·exact⟨_,a.1.symm,a.2.1⟩
   ·exact ih x hx
 have prs:∀(xs:List (List Key×Addr×Value)) (ps:List (Int×Int)),xs.map (·.1)=ps.map (λp=>[.inl p.1,.inl p.2])->(∀x∈xs,∃k:List Key,x.1=k/\H x.2.1=some (.tup (k.map kV)))->PrsV X.K H (xs.map λx=>V.ref x.2.1) ps:=by
  intro xs
  induction xs with
  | nil=>
   intro ps e _;cases ps with
   | nil=>exact trivial
   | cons _ _=>cases e
  | cons x xs ih=>
   intro ps e ha;cases ps with
   | nil=>cases e
   | cons p ps=>
    rw[List.map_cons,List.map_cons]at e;obtain⟨e1,e2⟩:=List.cons.inj e;obtain⟨k,k1,k2⟩:=ha x (List.mem_cons_self ..);rw[←k1,e1]at k2;exact⟨⟨_,rfl,SqT.of k2⟩,ih ps e2 λy hy=>ha y (List.mem_cons_of_mem _ hy)⟩
 have pv:=prs xs ps kx at';have vals:Vals (xs.map λx=>V.ref x.2.1) (es.toList.map (·.key)):=(by rw[ek];exact q7N xs);have pa:=pv.at I vals;refine q6d (I.ok.hd hc) y h1 h2.1 h3 pa hnd hz λg1 g' p' e tk vs' ps' q1 q2 q3 q4 k1 k2 hp' he=>?_;have I1:Inv X pins σ H {s with heap:=g1,toks:=tk}:=I.kept k1;obtain⟨bs,b1,b2⟩:∃bs,Vals bs vs'/\PrsV X.K H bs ps':=by
  have mm:∀v∈vs',∃x∈xs,v=Value.ref x.2.1:=λv hv=>by have:=q1.mem_iff.mp hv;rw[ek]at this;obtain⟨x,hx,ex⟩:=List.mem_map.mp this;exact⟨x,hx,ex.symm⟩
  have kp:∀x∈xs,∃p:Int×Int,x.1=[.inl p.1,.inl p.2]:=λx hx=>by have:x.1∈xs.map (·.1):=List.mem_map_of_mem hx;rw[kx]at this;obtain⟨p,_,e⟩:=List.mem_map.mp this;exact⟨p,e.symm⟩
  clear q1 q3 q4 he
  induction vs' generalizing ps' with
  | nil=>
   cases ps' with
   | nil=>exact⟨[],.nil,trivial⟩
   | cons _ _=>exact q2.elim
  | cons v vs' ih=>
   cases ps' with
   | nil=>exact q2.elim
   | cons p1 ps'=>
    obtain⟨bs,b1,b2⟩:=ih ps' q2.2 λu hu=>mm u (List.mem_cons_of_mem _ hu)
    obtain⟨x,hx,rfl⟩:=mm v (List.mem_cons_self ..);obtain⟨k,e1,e2⟩:=at' x hx;obtain⟨p2,e3⟩:=kp x hx;rw[←e1,e3]at e2;have hp2:p1=p2:=by have u1:PrsV X.K H [V.ref x.2.1] [p2]:=⟨⟨_,rfl,SqT.of e2⟩,trivial⟩;have u2:=(u1.at I (.cons rfl .nil)).1;exact q2.1.uniq u2
    subst hp2;exact⟨.ref x.2.1::bs,.cons rfl b1,⟨_,rfl,SqT.of e2⟩,b2⟩
 have ok:q1f X.prog X.w (upd H p' (.lst bs)) g' p' (.lst bs):=⟨by rw[b2.get,q3.length_eq,sizeLine_eq];omega,vs',e,b1,he⟩;have I2:=I1.laid (t':=tk) k2 hp' ok;exact⟨.ref p',_,I2,rfl,q p' bs ps' (I1.hok.fresh hp') b2 q3 q4⟩
end
end L2
end
noncomputable section
namespace L2
open PySem PySem.Spec PyProof.Rows
def addP(L:List (Int×Int))(k:Int×Int):List (Int×Int):=if k∈L then L else L++[k]
theorem z4p(L:List (Int×Int))(k:Int×Int):putK (esK L) (kP k) (.bl true)=esK (addP L k):=by
 have e:((esK L).any λkv=>decide (kv.1=kP k))=decide (k∈L):=by
  unfold esK;rw[List.any_map];by_cases h:k∈L
  ·rw[decide_eq_true h,List.any_eq_true];exact⟨k,h,decide_eq_true rfl⟩
  ·rw[decide_eq_false h,List.any_eq_false];intro p hp z;exact h (by rw[←z1X (of_decide_eq_true z)];exact hp)
 unfold putK addP;rw[e];by_cases h:k∈L
 ·rw[decide_eq_true h,if_pos rfl,if_pos h];unfold esK;rw[List.map_map];apply List.map_congr_left;intro p _;show(if kP p=kP k then(kP p,V.bl true)else(kP p,V.bl true))=(kP p,V.bl true);split<;>rfl
 ·rw[decide_eq_false h,if_neg (by simp),if_neg h];unfold esK;rw[List.map_append];rfl
theorem z0k(L:List (Int×Int))(k:Int×Int):addK (kD k) (L.map kD)=(addP L k).map kD:=by
 have e:(kD k∈L.map kD)↔k∈L:=by
  rw[List.mem_map];constructor
  ·rintro⟨p,h1,h2⟩;rw[←z5J h2];exact h1
  ·intro h;exact⟨k,h,rfl⟩
 unfold addK addP;by_cases h:k∈L
 ·rw[if_pos (e.mpr h),if_pos h]
 ·rw[if_neg (λz=>h (e.mp z)),if_neg h,List.map_append];rfl
theorem q4d(p:Int×Int):∀l:List (Int×Int),(insP p l).Perm (p::l)
 | []=>.refl _
 | q::l=>by
  unfold insP;split
  ·exact .refl _
  ·exact((q4d p l).cons q).trans (.swap ..)
theorem q1X:∀l:List (Int×Int),(q3N l).Perm l
 | []=>.refl _
 | p::l=>(q4d p _).trans ((q1X l).cons p)
theorem q6b{p q r:Int×Int}(h:ltP p q=true)(h':ltP q r=true):ltP p r=true:=by
 rw[q1y]at *;omega
theorem q6i:∀{l:List (Int×Int)},q2U l=true->l.Pairwise λp q=>ltP p q=true
 | [],_=>.nil
 | [_],_=>List.pairwise_singleton _ _
 | p::q::r,h=>by
  have h':(ltP p q&&q2U (q::r))=true:=h;rw[Bool.and_eq_true]at h';have ih:=q6i h'.2;refine List.pairwise_cons.mpr ⟨λz hz=>?_,ih⟩;rcases List.mem_cons.mp hz with rfl | hz
  ·exact h'.1
  ·exact q6b h'.1 ((List.pairwise_cons.mp ih).1 z hz)
theorem q5L{l l':List (Int×Int)}(h:l.Perm l')(a:l.Pairwise λp q=>ltP p q=true)(b:l'.Pairwise λp q=>ltP p q=true):l=l':=
 List.Perm.eq_of_pairwise (λx y _ _ h1 h2=>by rw[q1y]at h1 h2;omega) a b h
theorem z0F:∀(L:List (Int×Int)),prK (L.map kD)=some L
 | []=>rfl
 | p::L=>by show(prK (L.map kD)).map ((p.1,p.2) :: ·)=_;rw[z0F L];rfl
theorem z0t{D:Dm}{O W:List Addr}{H0 H:Hp}(hd:Hid O W H0 H):∀{bs:List V} {ps:List (Int×Int)},PrsV D.K H bs ps->RepL D (L2.wo (O++W) H) (ps.map λp=>.tup [.int p.1,.int p.2]) bs
 | [],[],_=>q0s.mpr rfl
 | _::_,p::ps,x=>by
  obtain⟨⟨a,rfl,e⟩,y⟩:=x;refine q0e.mpr ⟨_,_,rfl,q0C.mpr ⟨a,_,rfl,?_,q0e.mpr ⟨_,_,rfl,q0R.mpr rfl,RepL.one (q0R.mpr rfl)⟩⟩,z0t hd y⟩;have hw:∀a∈O++W,∃o,H a=some o/\mutO o=true:=λa ha=>by
   rcases List.mem_append.mp ha with z | z
   ·obtain⟨o,q,m⟩:=hd.om a z;exact⟨o,hd.same _ _ q,m⟩
   ·obtain⟨o,q,m⟩:=hd.wl a z;exact⟨o,hd.same _ _ q,m⟩
  exact SqT.immut (O:=[]) hw e
 | [],_::_,x=>x.elim
 | _::_,[],x=>x.elim
section
variable {X:Cx} {E:St->XK} {δ:List Sv} {o:Out} {e ek ed ea:Expr} {es:List Expr} {x1:Nat} {pos pos' npos spos apos cpos tpos p:Pos} {ra rb rc:Option Re} {rs:Option Rs} {i:Nat} {x:Str} {re:Re}
theorem z2R(hN:X.N.Nodup)(hi:X.N[i]? = some x)(hx:Loc X.env.scope x)(hf:X.fn x=true\/X.env.scope.names.lookup x=some .local)(h:(if noOt i δ then some (Out.nx (δ.set i (.od (.tup [.dct [] [],.non]))))else none)=some o):PS X (.Assign [.Name x npos] (.Dict [] [] pos') pos) (dS X.D E δ o):=by
 split at h
 ·rename_i hno;cases h;refine(q7P hN hi hx z1f rfl hf).weak λDn σ H ⟨H0,O,W,R,fr,fo,sm,k⟩=>λp hp=>?_
  have R1:RSt X.D (upd H p (.dT [])) (σ.set i (some (.ref p))) (δ.set i (.od (esD []))) O (p::W):=(R.growD hp rfl).setOd (o0:=.dT []) (List.mem_cons_self ..) (.inr (.inr (.inr ⟨[],rfl,rfl⟩))) q0n hno;exact k _ _ _ R1 (λa ha=>by
   rcases List.mem_cons.mp ha with z | z
   ·rw[z];exact sm.free hp
   ·exact fr a z) (sm.trans (q0m hp))
 ·cases h
theorem z5j{ks:List DKey}{a:Addr}{ob:HO}(h:OdOk (.tup [.dct ks [],.non]) a ob):∃L,ks=L.map kD/\ob=.dT (esK L):=by
 rcases h with⟨L,q,_⟩ | ⟨L,q,_⟩ | ⟨_,_,_,_,_,_,q,_⟩ | ⟨L,q,q2⟩
 ·cases q
 ·injection q with q
  injection q with q1 q
  cases q
 ·injection q with q
  injection q with q1 q
  injection q with q2 q
  cases q
 ·exact⟨L,(DV.dct.inj (List.cons.inj (DV.tup.inj q)).1).1,q2⟩
theorem z2U(hu:X.A.units+1<cLine)(hv:PE X (.Name x npos) (tVar i))(he:∀q,ra=some q->PE X e (dE X.D E δ q))(hk:∀q,rs=some q->PA X es (dA X.D E δ q))(hc:q4D e=false)
  (h:(match δ[i]? with
   | some (.od (.tup [.dct ks [],.non]))=>Re.thnS δ ra λd _=>Rs.thnS δ rs λl=>(dptD i δ ks l d).map Out.nx
   | _=>none)=some o):PS X (.Assign [.Subscript (.Name x npos) (.Tuple es x1 tpos) spos] e pos) (dS X.D E δ o):=by
 split at h
 ·rename_i ks hi;have C:=λt t' (hA:PE X e t) (hB:PA X es t')=>z3l (pos:=pos) (pos':=spos) hu hv (q9y (pos:=tpos) (x1:=x1) hB) hA (q3n hc)
  cases hra:ra with
  | none=>rw[hra]at h;cases h
  | some q=>
   rw[hra]at h;have A:=he q hra;cases q with
   | ex c=>
    cases h;exact(C _ _ A q9a).weak λDn σ H ⟨H0,O,W,R,fr,fo,sm,k⟩=>⟨O,W,R,q5v (Q:=λ_ _=>False) R fr sm k⟩
   | ok d cl=>
    cases hrs:rs with
    | none=>rw[hrs]at h;cases h
    | some q2=>
     rw[hrs]at h;have B:=hk q2 hrs;cases q2 with
     | ex c=>
      cases h;refine(C _ _ A B).weak λDn σ H ⟨H0,O,W,R,fr,fo,sm,k⟩=>⟨O,W,R,λv H1 s1 g=>?_⟩
      obtain⟨⟨p,ob,e0,e1,e2,e3⟩,u⟩:=R.od i _ hi;exact⟨.ref p,e1,O,W,R.mono s1,q5v (Q:=λ_ _=>False) (R.mono s1) fr (sm.trans s1) k⟩
     | ok l=>
      have h':(dptD i δ ks l d).map Out.nx=some o:=h;obtain⟨δ',h1,h2⟩:=Option.map_eq_some_iff.mp h';cases h2;unfold dptD at h1;split at h1
      ·rename_i a ca b cb;split at h1
       ·rename_i hl;cases h1;refine(C _ _ A B).weak λDn σ H ⟨H0,O,W,R,fr,fo,sm,k⟩=>⟨O,W,R,λv H1 s1 g=>?_⟩
        obtain⟨⟨p,ob,e0,e1,e2,e3⟩,u⟩:=R.od i _ hi;obtain⟨L,ek1,eo⟩:=z5j e0;subst eo ek1;refine⟨.ref p,e1,O,W,R.mono s1,λvs2 H2 s2 g2=>?_⟩;have hv1:=g.bl (R.hid.mono s1);obtain⟨w1,w2,ew,g3,g4⟩:=g2.two;have hd2:=(R.mono s1).hid.mono s2;have hw1:=g3.int hd2;have hw2:=g4.int hd2;subst hv1 hw1 hw2 ew;refine⟨by show(2:Nat)<=sizeLine;decide,λq hq=>?_⟩;have s3:Same H2 (upd H2 q (.tup [.int a,.int b])):=q0m hq;have e3':=s3 _ _ (s2 _ _ (s1 _ _ e3));rw[List.length_map]at hl;refine⟨p,_,rfl,DPut.t (k:=kP (a,b)) e3' q0n (by unfold esK;rw[List.length_map];exact Nat.lt_of_lt_of_le hl (by decide)),?_⟩;rw[z4p];have pe:=z0k L (a,b);have ex:DKey.t [.inl a,.inl b]=kD (a,b):=rfl;rw[ex,pe]at k;exact k σ _ W ((((R.mono s1).mono s2).mono s3).writeOd hi e1 e2 e3' rfl (.inr (.inr (.inr ⟨_,rfl,rfl⟩)))) fr (q3t (((sm.trans s1).trans s2).trans s3) (fr p e2))
       ·cases h1
      ·cases h1
 ·cases h
theorem z2G(hc:X.calm=true)(hv:PE X (.Name x npos) (tVar i))(hg:Gl X "sorted")(hm:X.mg "sorted" = none)
  (h:(match δ[i]? with
   | some (.od (.tup [.dct ks [],.non]))=>srdD ks
   | _=>none)=some re):PE X (.Call (.Name "sorted" p) [.Name x npos] [] pos) (dE X.D E δ re):=by
 split at h
 ·rename_i ks hi;unfold srdD at h;split at h
  ·rename_i ps hps;split at h
   ·rename_i hr;cases h;refine(q5e (q6S hc) hg hm q5K (q0T hv q3z rfl) (by decide) (by decide) rfl rfl).weak λσ H Q ⟨O,W,R,p⟩=>?_
    obtain⟨⟨pp,ob,e0,e1,e2,e3⟩,u⟩:=R.od i _ hi;obtain⟨L,ek1,eo⟩:=z5j e0;subst eo ek1;rw[z0F]at hps;obtain rfl:=Option.some.inj hps;refine⟨.ref pp,e1,pp,esK L,L,rfl,e3,?_,hr.2,λq bs ps' hq b1 b2 b3=>?_⟩
    ·unfold esK;rw[List.map_map];rfl
    ·have:=q5L (b2.trans (q1X L).symm) b3 (q6i hr.1);subst this;exact p _ _ (q0m hq) (q1J R.hid hq (z0t R.hid b1))
   ·cases h
  ·cases h
 ·cases h
end
end L2
end
noncomputable section
namespace L2
open PySem PySem.Spec PyProof.Rows
section
variable {X:Cx} {CX:CXT} {k:Nat} {f:Addr} {fd:FuncData} {ps ks:List Str} {sp:Sp} {E:St->XK} {x:Str} {p pos:Pos} {e:Expr} {es:List Expr} {kws:List Keyword} {t tk:TA} {g:List Value->List Value->List Value} {gV:List V->List V->List V}
end
section
variable {X:Cx} {E:St->XK} {δ:List Sv} {re:Re} {rs:Option Rs}
end
section
variable {X:Cx} {E:St->XK} {δ:List Sv} {e:Expr} {es:List Expr} {pos p:Pos} {re:Re} {rs rs':Option Rs} {k:Nat} {fa:Addr} {fd:FuncData} {ps:List Str} {x:Str}
def q3D{α:Type}(m n:Nat)(us ws:List α):List α:=if us.length+m=n/\ws.length=m then us++ws else[]
theorem z0B{m n:Nat}{vs zs:List V}{us ws:List Value}(r:Vals vs us)(q:Vals zs ws):Vals (q3D m n vs zs) (q3D m n us ws):=by
 unfold q3D;rw[r.length,q.length];split
 ·exact r.append q
 ·exact .nil
end
end L2
end
noncomputable section
namespace L2
open PySem PySem.Spec PyProof.Rows
def z6d(K:PySem.W.Frag)(C:Addr):Prop:=∃B newId initId bmB,ExcBaseFacts B newId initId bmB/\PySem.W.excIn K C bmB newId=true
structure XOne(K:PySem.W.Frag)(mg:Str->Option Value)(G:Gs)(cl:List Str)(c:Str)(C:Addr):Prop where
 mc:mg c=some (.ref C)
 ck:ClsK K C
 rk:z6d K C
 own:∀t∈cl,∀Ct,mg t=some (.ref Ct)->PySem.W.kitOne K (.ref C) (.ref Ct)=some (q1H G c t)/\PySem.W.exmOne K (.ref C) (.ref Ct)=some (q1H G c t)
 blt:PySem.W.kitOne K (.ref C) (.type "ValueError")=some (q1H G c "ValueError")
structure XFacts(K:PySem.W.Frag)(mg:Str->Option Value)(G:Gs)(cl:List Str):Prop where
 one:∀c,(G.cls.lookup c).isSome=true->∃C,XOne K mg G cl c C
 all:∀t∈cl,∃Ct,mg t=some (.ref Ct)
section
variable {X:Cx} {E:St->XK} {δ:List Sv} {e:Expr} {pos p p':Pos} {re:Re} {ra:Option Re} {G:Gs} {cl:List Str} {t:Str} {o:Out}
end
end L2
end
noncomputable section
namespace L2
open PySem PySem.Spec PyProof.Rows
def spM(D:Dm)(C:Addr)(f:List DV->Option Ou):Sp:=λvs H Q E=>∃O p dx t k args ds o,vs=.ref p::args/\Hdn O H/\p∉O/\t.length<=sizeLine/\H p=some (rdO C dx t k)/\RepL D (L2.wo (O++[p]) H) ds args/\Rm.of (f (rdD C p dx t k::ds))=some o /\
 (match o with
  | .ok d s=>∀v H' k',s=rdD C p dx t k'->Same (L2.wo [p] H) H'->H' p=some (rdO C dx t k')->Rep D (L2.wo (O++[p]) H') d v->Q v H'
  | .ex c=>∀H' Cv,D.mg c=some Cv->Same (L2.wo [p] H) H'->E Cv none H')
def spI(C:Addr):Sp:=λvs H Q _=>∃p dx t,vs=[.ref p,.str t]/\H p=some (.ins C dx [])/\Q .non (upd H p (rdO C dx t 0))
theorem z5o{C p dx:Nat}{t:Str}{k:Int}{a:Addr}{o:HO}(h:OdOk (rdD C p dx t k) a o):a=p/\o=rdO C dx t k/\t.length<=sizeLine:=by
 rcases h with⟨L,e,_⟩ | ⟨L,e,_⟩ | ⟨C',dx',qa,qx,t',k',e,h1,h2,h3,h4⟩ | ⟨L,e,_⟩
 ·cases e
 ·cases e
 rotate_left
 ·cases e
 ·unfold rdD at e;injection e with e
  injection e with e1 e
  injection e with e2 e
  injection e with e3 e
  injection e with e4 e
  injection e with e5 e
  injection e1 with e1
  injection e4 with e4
  injection e5 with e5
  subst e4 e5;have c1:C=C':=by omega
  subst c1;rcases h1 with h1 | h1
  ·rw[h1]at e2;cases e2
  rcases h2 with h2 | h2
  ·rw[h2]at e3;cases e3
  rw[h1]at e2;rw[h2]at e3;injection e2 with e2
  injection e3 with e3
  have c2:p=a:=by omega
  have c3:dx=dx':=by omega
  subst c2 c3;exact⟨rfl,h4,h3⟩
theorem z7d{C p dx:Nat}{t:Str}{k:Int}(h:t.length<=sizeLine):OdOk (rdD C p dx t k) p (rdO C dx t k):=.inr (.inr (.inl ⟨C,dx,_,_,t,k,rfl,.inr rfl,.inr rfl,h,rfl⟩))
theorem z0Z{d:DV}{i:Int}(h:iI d=some i):d=.int i:=by
 unfold iI at h;split at h<;>cases h;rfl
theorem z7s{d:DV}{i:Str}(h:sS d=some i):d=.str i:=by
 unfold sS at h;split at h<;>cases h;rfl
theorem z6W{d:DV}{i:List DV}(h:tT d=some i):d=.tup i:=by
 unfold tT at h;split at h<;>cases h;rfl
theorem z6g{l:List DV}{a b c d e:DV}(h:rd5 l=some (a,b,c,d,e)):l=[a,b,c,d,e]:=by
 unfold rd5 at h;split at h<;>cases h;rfl
theorem z5S{s:DV}{q:Int×Int×Int×Str×Int}(h:rdK s=some q):s=.tup [.int q.1,.int q.2.1,.int q.2.2.1,.str q.2.2.2.1,.int q.2.2.2.2]:=by
 unfold rdK at h;obtain⟨l,h0,h⟩:=Option.bind_eq_some_iff.mp h;obtain⟨⟨a1,a2,a3,a4,a5⟩,h1,h⟩:=Option.bind_eq_some_iff.mp h;obtain⟨b1,g1,h⟩:=Option.bind_eq_some_iff.mp h;obtain⟨b2,g2,h⟩:=Option.bind_eq_some_iff.mp h;obtain⟨b3,g3,h⟩:=Option.bind_eq_some_iff.mp h;obtain⟨b4,g4,h⟩:=Option.bind_eq_some_iff.mp h;obtain⟨b5,g5,h⟩:=Option.bind_eq_some_iff.mp h;cases h;have g1:a1=_:=z0Z g1;have g2:a2=_:=z0Z g2;have g3:a3=_:=z0Z g3;have g4:a4=_:=z7s g4;have g5:a5=_:=z0Z g5;rw[z6W h0,z6g h1,g1,g2,g3,g4,g5]
theorem z0b{C p dx:Nat}{t:Str}{k:Int}{s:DV}(h:q4J (rdD C p dx t k) s=true):∃k',s=rdD C p dx t k':=by
 unfold q4J at h;have e:rdK (rdD C p dx t k)=some ((C:Int),(p:Int),(dx:Int),t,k):=rfl;rw[e]at h;dsimp only at h;split at h
 ·rename_i q hq;rw[z5S hq];simp only[Bool.and_eq_true,decide_eq_true_eq]at h;obtain⟨⟨⟨h1,h2⟩,h3⟩,h4⟩:=h;rw[←h1,←h2,←h3,←h4];exact⟨_,rfl⟩
 ·cases h
section
variable {X:Cx} {CX:CXT} {k:Nat} {f C:Addr} {fd:FuncData} {ps:List Str} {sp:Sp} {E:St->XK} {x m:Str} {np p pos apos:Pos} {e o:Expr} {es:List Expr} {ta:TE} {t:TA}
end
section
variable {X:Cx} {E:St->XK} {δ:List Sv} {k:Nat} {fa C:Addr} {fd:FuncData} {ps:List Str} {x n:Str} {np pos apos:Pos} {es:List Expr} {f:List DV->Option Ou} {i:Nat} {l:List (DV×Cl)} {o:Rm} {p dx:Nat} {t:Str} {k0:Int}
end
section
variable {X:Cx} {E:St->XK} {δ:List Sv} {C:Nat} {x:Str} {np pos apos:Pos} {i:Nat} {G:Gs}
end
end L2
end
noncomputable section
namespace L2
open PySem PySem.Spec PyProof.Rows
def KvIs(r:Option DV)(u:Option Value):Prop:=match r with
 | none=>u=none
 | some d=>∃z v,u=some z/\RelV v z/\∀D H,Rep D H d v
def q8x(K:PySem.W.Frag)(w:World)(mg:Str->Option Value)(x:Str)(kvs:List (Str×Option DV)):Prop:=
 ∃a es n,mg x=some (.ref a)/\K.lookup a=some ⟨.type "dict",none,.dict es n,#[]⟩/\PySem.W.KeysLit w.params es.toList/\(a==sysModules)=false/\∀k r,kvs.lookup k=some r->∃u,PySem.W.nsIn K a k=some u/\KvIs r u
def DK(K:PySem.W.Frag)(D:Dm)(G:Gs)(f:Nat)(fd:FuncData)(ps:List Str):Prop:=
 (∀ds,G.dfl.lookup f=some ds->∃us dvs,q1q K fd ps us/\Vals dvs us/\∀H,RepL D H ds dvs)/\∀n,G.kws.lookup f=some n->KBinds K fd ps n (q3D n.length ps.length) (q3D n.length ps.length)
def RdG(G:Gs)(F:Nat->List DV->Option Ou)(X:Cx):Prop:=∃C:Nat,G.rdc=(C:Int)/\Cls X.K C/\q1B X.K C "text" /\ q1B X.K C "place" /\
 (G.mtx=true->∀m n,rdN[m]? = some n->∃k fa fd ps,Room k X.A/\Meth X.K C n fa/\q1q X.K fd ps []/\FnOk X.prog X.w X.K X.mg X.base (CXx X.prog X.w X.base) k fa fd ps (spM X.D C (F m))) /\
 (G.mtx=false->∀t j o,Rm.of (F rdIx [.str t,.int j])=some o->∃k fi fdi psi fa fd ps f,Room (k+1) X.A/\X.mg "Reader" = some (.ref C)/\Mk X.K C fi/\q1q X.K fdi psi []/\FnOk X.prog X.w X.K X.mg X.base (CXx X.prog X.w X.base) k fi fdi psi (spI C)/\Meth X.K C "take_plan" fa/\q1q X.K fd ps []/\FnOk X.prog X.w X.K X.mg X.base (CXx X.prog X.w X.base) k fa fd ps (spM X.D C f) /\
  ∀a dx,Rm.of (f [rdD C a dx t j])=some (rmAt C a dx t o))
structure Good(sg:Sg)(G:Gs)(F:Nat->List DV->Option Ou)(X:Cx)(E:St->XK):Prop where
 N:X.N=sg.N
 nd:X.N.Nodup
 vis:∀x,visB sg x=true->Vis X.env.scope x
 glo:∀x,gloB sg x=true->Gl X x
 loc:∀x,locB sg x=true->Loc X.env.scope x/\(X.fn x=true\/X.env.scope.names.lookup x=some .local)
 lcl:∀x,sg.sc.lookup x=some .local->X.env.scope.names.lookup x=some .local
 cel:∀x,(sg.sc.lookup x=some .cell\/sg.sc.lookup x=some .free)->X.env.scope.names.lookup x=some .cell\/X.env.scope.names.lookup x=some .free
 calm:X.calm=true
 hu:X.A.units+64<cLine
 fns:∀f x,sg.fn[f]? = some x->∃k fa fd ps,Room k X.A/\X.mg x=some (.ref fa)/\PySem.W.keepIn X.K (.ref fa)=true/\q1q X.K fd ps []/\(∀ds o,F f ds=some o->ds.length=ps.length) /\
  FnOk X.prog X.w X.K X.mg X.base (CXx X.prog X.w X.base) k fa fd ps (spF X.D ps.length (F f))/\DK X.K X.D G f fd ps
 blt:∀x∈sg.bl,X.mg x=none
 pas:q3U (CXx X.prog X.w X.base) X E
 con:∀x d,G.con.lookup x=some d->∃u v,X.mg x=some u/\RelV v u/\∀H,Rep X.D H d v
 own:sg.lp=true->PassesOwn (model X.prog X.w) X.A X.env X.xe
 xf:XFacts X.K X.mg G sg.cl
 st:sg.top=true->X.stack=X.env::X.outer/\X.env.frame=some X.env.locals/\X.ex=[]/\q7x X E/\z1V X E
 dcs:∀x kvs,G.dcs.lookup x=some kvs->q8x X.K X.w X.mg x kvs
 hun:G.hun=true->∃k fa fd ps hf,Room k X.A/\X.mg q0U=some (.ref fa)/\PySem.W.keepIn X.K (.ref fa)=true/\q1q X.K fd ps []/\(∀d l,F q2O [d,.lst l]=(hf d l).map λr=>.v r.1 false)/\FnOk X.prog X.w X.K X.mg X.base (CXx X.prog X.w X.base) k fa fd ps (spH X.D hf)
 lms:G.fnl.isEmpty=false->(G.fnl=sg.fn/\G.bll=sg.bl/\G.cll=sg.cl)/\(∃k,Room k X.A/\z7Q X.prog X.w X.K X.mg X.base sg.fn sg.bl sg.cl k (F q5y))/\(sg.top=true->∃c P,X.env.code=.ref c/\(∀h:Heap,X.K.In h->PySem.W.CodeHd h c P)/\(P,X.env.qual ++ "<lambda>")∈q0I X.K)
 rd:0<=G.rdc->RdG G F X
theorem q1m:∀{l:List Str},q3w l=true->l.Nodup
 | [],_=>List.nodup_nil
 | x::r,h=>by unfold q3w at h;rw[Bool.and_eq_true]at h;refine List.nodup_cons.mpr ⟨λz=>?_,q1m h.2⟩;have:=h.1;rw[List.contains_iff_mem.mpr z]at this;cases this
section
variable {sg:Sg} {G:Gs} {F:Nat->List DV->Option Ou} {X:Cx} {E:St->XK} {tg:Tg} {sc:Scope} {N':List Str} {fr:List (Option Nat)}
theorem q1z(g:Good sg G F X E)(h:q2o sg N' fr sc tg=true):CompScope X.N N' sc X.env.scope fr/\(∀(j k i:Nat),fr[j]? = some (some i)->fr[k]? = some (some i)->j=k)/\∀i∈q2V tg,fr[i]? = some none:=by
 unfold q2o at h;simp only[Bool.and_eq_true,List.all_eq_true,beq_iff_eq]at h;obtain⟨⟨⟨⟨⟨⟨h0,h1⟩,h2⟩,h3⟩,h4⟩,h5⟩,h6⟩:=h;have h5':∀(j i:Nat),fr[j]? = some (some i)->∃x,N'[j]? = some x/\sg.N[i]? = some x/\(x,NameKind.free)∈sc.names:=λj i e=>by
  have hj:j<fr.length:=(List.getElem?_eq_some_iff.mp e).1;have hj':j<N'.length:=by rw[←h4];exact hj
  have hz:(some i,N'[j])∈fr.zip N':=(by refine List.mem_of_getElem? (i:=j) ?_;rw[List.getElem?_zip_eq_some];exact⟨e,List.getElem?_eq_getElem hj'⟩);have q:=h5 _ hz;simp only[Bool.and_eq_true,beq_iff_eq,List.contains_iff_mem]at q;exact⟨_,List.getElem?_eq_getElem hj',q.1,q.2⟩
 refine⟨⟨h1,q1m h2,q1m h3,h4,λj i e=>?_,λy hy hk=>?_⟩,λj k i e1 e2=>?_,h0⟩
 ·obtain⟨x,a,b,c⟩:=h5' j i e;exact⟨x,a,by rw[g.N];exact b,c⟩
 ·have q:=h6 y hy;rw[if_pos hk]at q;simp only[Bool.or_eq_true,beq_iff_eq]at q;exact g.cel _ q
 ·obtain⟨x,a,b,_⟩:=h5' j i e1;obtain⟨x',a',b',_⟩:=h5' k i e2;rw[b]at b';cases b';exact q5l (q1m h2) a a'
theorem q8D(g:Good sg G F X E)(h:q2o sg N' fr sc tg=true)(C:Addr)(cells:List (Str×Addr))(s₂:Shared)(H₂:Hp)(fp:List Addr)(x1:XK){E':St->XK}(hp:∀σ C o H,E' σ C o H->x1 C o H):Good ⟨N',sc.names,sg.fn,sg.bl,sg.cl,false,false⟩ G F (q0r X sc N' C cells s₂ H₂ fp x1) E':=by
 obtain⟨S,_,_⟩:=q1z g h;have look:∀x,(q0r X sc N' C cells s₂ H₂ fp x1).env.scope.names.lookup x=(sc.names.lookup x).map λk=>if(k==NameKind.free&&X.env.scope.kind == .function&&X.env.kindOf x==some .cell)=true then NameKind.cell else k:=λx=>q1I
 have one:∀x k,sc.names.lookup x=some k->k ≠ .free->(q0r X sc N' C cells s₂ H₂ fp x1).env.scope.names.lookup x=some k:=λx k e hk=>by rw[look,e,Option.map_some,if_neg];intro z;simp only[Bool.and_eq_true,beq_iff_eq]at z;exact hk z.1.1
 have two:∀x,sc.names.lookup x=some .free->(q0r X sc N' C cells s₂ H₂ fp x1).env.scope.names.lookup x=some .cell\/(q0r X sc N' C cells s₂ H₂ fp x1).env.scope.names.lookup x=some .free:=λx e=>by
  rw[look,e,Option.map_some];split
  ·exact .inl rfl
  ·exact .inr rfl
 refine⟨rfl,S.nd,λx hx=>?_,λx hx=>?_,λx hx=>?_,λx hx=>one x _ hx (by intro z;cases z),λx hx=>?_,g.calm,g.hu,g.fns,g.blt,?_,g.con,(λz=>nomatch z),g.xf,(λz=>nomatch z),g.dcs,g.hun,(λz=>⟨(g.lms z).1,(g.lms z).2.1,λw=>nomatch w⟩),g.rd⟩
 ·unfold visB at hx;simp only[Bool.or_eq_true,beq_iff_eq]at hx;rcases hx with(hx | hx) | hx
  ·exact .inl (one x _ hx (by intro z;cases z))
  ·exact .inr (.inl (one x _ hx (by intro z;cases z)))
  ·exact .inr (two x hx)
 ·unfold gloB at hx;rw[beq_iff_eq]at hx;exact one x _ hx (by intro z;cases z)
 ·unfold locB at hx;simp only[Bool.or_eq_true,beq_iff_eq]at hx;rcases hx with hx | hx
  ·exact⟨.inl (one x _ hx (by intro z;cases z)),.inr (one x _ hx (by intro z;cases z))⟩
  ·exact⟨.inr (one x _ hx (by intro z;cases z)),.inl (by show(sc.names.lookup x==some .cell)=true;rw[hx];rfl)⟩
 ·rcases hx with hx | hx
  ·exact .inl (one x _ hx (by intro z;cases z))
  ·exact two x hx
 ·intro pins σ H s e s' I z;obtain⟨ea,Cc,H',B,e1,e2,e3,e4,e5,e6,q⟩:=z;exact⟨pins,σ,H,s,I.comp0,ea,Cc,H',B,e1,e2,e3,e4,e5,e6,hp _ _ _ _ q⟩
theorem q1g(g:Good sg G F X E)(h:q2o sg N' fr sc tg=true)(C:Addr)(cells:List (Str×Addr))(s₂:Shared)(H₂:Hp)(fp:List Addr)(x1:XK):Good ⟨N',sc.names,sg.fn,sg.bl,sg.cl,false,false⟩ G F (q0r X sc N' C cells s₂ H₂ fp x1) E0s:=q8D g h C cells s₂ H₂ fp x1 λ_ _ _ _ z=>z.elim
theorem q2R(g:Good sg G F X E){i:Nat}{x:Str}(h:q2X sg i x=true):X.N[i]? = some x/\Vis X.env.scope x/\(x==("__debug__" : Str))=false/\(x==("__classdict__" : Str))=false:=by
 unfold q2X at h;simp only[Bool.and_eq_true,beq_iff_eq,bne_iff_ne,ne_eq]at h;obtain⟨⟨⟨h1,h2⟩,h3⟩,h4⟩:=h;exact⟨by rw[g.N];exact h1,g.vis x h2,beq_eq_false_iff_ne.mpr h3,beq_eq_false_iff_ne.mpr h4⟩
theorem q5z(g:Good sg G F X E){x:Str}{f:Expr}(h:bltB sg x f=true):(∃p,f=.Name x p)/\Gl X x/\X.mg x=none:=by
 unfold bltB at h;simp only[Bool.and_eq_true,beq_iff_eq,List.contains_iff_mem]at h;obtain⟨⟨h1,h2⟩,h3⟩:=h;exact⟨q0o h1,g.glo x h2,g.blt x h3⟩
theorem q5x(g:Good sg G F X E):∀(is:List Nat) (es:List Expr),es.length=is.length->((is.zip es).all λp=>match q0O p.2 with | some x=>sg.N[p.1]? == some x&&locB sg x | none=>false)=true ->
  PGs X es (q7R is)/\(assignEach es X.env).length=is.length/\(assignEach es X.env).findIdx? (·.1)=none
 | [],[],_,_=>⟨z2E,rfl,rfl⟩
 | [],_::_,h,_=>by cases h
 | _::_,[],h,_=>by cases h
 | i::is,e::es,hl,h=>by
  rw[List.zip_cons_cons,List.all_cons,Bool.and_eq_true]at h;obtain⟨h1,h2⟩:=h;obtain⟨A,B,C⟩:=q5x g is es (by simpa using hl) h2;split at h1
  ·rename_i x q;obtain⟨p,rfl⟩:=q0o q;simp only[Bool.and_eq_true,beq_iff_eq]at h1;have l:=g.loc x h1.2;refine⟨z1k (z0w g.nd (by rw[g.N];exact h1.1) l.1 l.2) A rfl,?_,?_⟩
   ·show(assignEach es X.env).length+1=is.length+1;rw[B]
   ·show((false,assign (.Name x p) X.env)::assignEach es X.env).findIdx? (·.1)=none;rw[List.findIdx?_cons,C];rfl
  ·cases h1
theorem q9F(g:Good sg G F X E){tgE:Expr}(h:tgOk sg tg tgE=true):PG X tgE (gT X.K tg):=by
 cases tg with
 | one i=>
  unfold tgOk at h;dsimp only at h;split at h
  ·rename_i x q;obtain⟨p,rfl⟩:=q0o q;simp only[Bool.and_eq_true,beq_iff_eq]at h;have l:=g.loc x h.2;exact z0w g.nd (by rw[g.N];exact h.1) l.1 l.2
  ·cases h
 | many is=>
  unfold tgOk at h;dsimp only at h;split at h
  ·rename_i es q;obtain⟨k,p,rfl⟩:=q2v q;rw[Bool.and_eq_true,Bool.and_eq_true,beq_iff_eq]at h;obtain⟨A,B,C⟩:=q5x g is es h.1.1 h.2;exact z5e g.calm A B C
  ·cases h
end
section
variable (G:Gs) (F:Nat->List DV->Option Ou)
def SE(m:ME):Prop:=∀{sg:Sg} {X:Cx} {E:St->XK} {e:Expr} {δ:List Sv} {r:Re},Good sg G F X E->corE sg false m e=true->evE G F m δ=some r->PE X e (dE X.D E δ r)
def ST(m:ME):Prop:=∀{sg:Sg} {X:Cx} {E:St->XK} {e:Expr} {δ:List Sv} {r:Rt},Good sg G F X E->corE sg false m e=true->tstD (evE G F m δ)=some r->PT X e (dT X.D E δ r)
def SI(m:ME):Prop:=∀{sg:Sg} {X:Cx} {E:St->XK} {e tg:Expr} {δ:List Sv} {r:Ri},Good sg G F X E->corE sg true m e=true->(isZp m=true->(q3i tg).isSome=true)->q0X (evE G F m δ)=some r->PI X tg e (dI X.D E δ r)
def SEs(ms:List ME):Prop:=∀{sg:Sg} {X:Cx} {E:St->XK} {es:List Expr} {δ:List Sv} {r:Rs},Good sg G F X E->q0Q sg ms es=true->evEs G F ms δ=some r->PA X es (dA X.D E δ r)
def SAnd(ms:List ME):Prop:=∀{sg:Sg} {X:Cx} {E:St->XK} {es:List Expr} {δ:List Sv} {pos:Pos},Good sg G F X E->q0Q sg ms es=true ->
 (∀r,q2D G F ms δ=some r->PE X (.BoolOp .And es pos) (dE X.D E δ r))/\(∀r,tstD (q2D G F ms δ)=some r->PW X (.BoolOp .And es pos) (dT X.D E δ r))
def SOr(ms:List ME):Prop:=∀{sg:Sg} {X:Cx} {E:St->XK} {es:List Expr} {δ:List Sv} {pos:Pos},Good sg G F X E->q0Q sg ms es=true ->
 (∀r,evOr G F ms δ=some r->PE X (.BoolOp .Or es pos) (dE X.D E δ r))/\(∀r,tstD (evOr G F ms δ)=some r->PW X (.BoolOp .Or es pos) (dT X.D E δ r))
def S1(m:ME):Prop:=SE G F m/\ST G F m/\SI G F m
end
section
variable {G:Gs} {F:Nat->List DV->Option Ou}
theorem S1.of{m:ME}(h:SE G F m)(hw:∀sg e,corE sg true m e=corE sg false m e)(ht:∀sg e env,corE sg false m e=true->∀whole,isTrue e env whole=(do let v ←whole;standAt e.pos;holding [v] (truthy v))):S1 G F m:=
 ⟨h,λ{sg X E e δ r} g hc q=>q9n (λz hz=>h g hc hz) (ht sg e X.env hc) q,λ{sg X E e tg δ r} g hc _ q=>q7S (λz hz=>h g (by rw[←hw];exact hc) hz) q⟩
theorem S1.of2{m:ME}(h:SE G F m)(ht:ST G F m)(hw:∀sg e,corE sg true m e=corE sg false m e):S1 G F m:=
 ⟨h,ht,λ{sg X E e tg δ r} g hc _ q=>q7S (λz hz=>h g (by rw[←hw];exact hc) hz) q⟩
end
end L2
end
noncomputable section
namespace L2
open PySem PySem.Spec PyProof.Rows
def z5E:Expr->Bool
 | .UnaryOp .Not _ _=>false | .BoolOp _ _ _=>false | .IfExp _ _ _ _=>false | .Compare _ _ _ _=>false
 | _=>true
theorem q0h{e:Expr}(h:z5E e=true)(env:Env):∀whole,isTrue e env whole=(do let v ←whole;standAt e.pos;holding [v] (truthy v)):=by
 cases e with
 | UnaryOp o a p=>cases o<;>first | (intro _;rfl) | cases h
 | BoolOp _ _ _=>cases h
 | IfExp _ _ _ _=>cases h
 | Compare _ _ _ _=>cases h
 | _=>intro _;rfl
section
variable {G:Gs} {F:Nat->List DV->Option Ou} {a b c:ME}
theorem z7O{i:Nat}:S1 G F (.var i):=by
 refine .of (λ{sg X E e δ r} g hc h=>?_) (λ_ _=>rfl) (λsg e env hc=>?_)
 ·unfold corE at hc;split at hc
  ·rename_i x q;obtain⟨p,rfl⟩:=q0o q;obtain⟨h1,h2,h3,h4⟩:=q2R g hc;exact z4t h1 h2 h3 h4 (by unfold evE at h;exact h)
  ·cases hc
 ·unfold corE at hc;split at hc
  ·rename_i x q;obtain⟨p,rfl⟩:=q0o q;exact q0h rfl env
  ·cases hc
theorem q5n{m:ME}{k:Const}{d:DV}(hm:∀sg w e,corE sg w m e=true->q2i e=some k)(he:∀δ,evE G F m δ=some (.ok d .strong))(hw:∀sg e,corE sg true m e=corE sg false m e)
  (hp:∀{X:Cx} {E:St->XK} {δ:List Sv} {j:Nat} {pos:Pos} sg e,corE sg false m e=true->PE X (.Constant k j pos) (dE X.D E δ (.ok d .strong))):S1 G F m:=by
 refine .of (λ{sg X E e δ r} g hc h=>?_) hw (λsg e env hc=>?_)
 ·obtain⟨j,p,rfl⟩:=q3v (hm sg false e hc);rw[he]at h;cases h;exact hp sg _ hc
 ·obtain⟨j,p,rfl⟩:=q3v (hm sg false e hc);exact q0h rfl env
theorem z6R{i:Int}:S1 G F (.int i):=q5n (λsg w e h=>by unfold corE at h;exact beq_iff_eq.mp h) (λδ=>by unfold evE;rfl) (λ_ _=>rfl) λ_ _ _=>z3f
theorem s_bl{i:Bool}:S1 G F (.bl i):=q5n (λsg w e h=>by unfold corE at h;exact beq_iff_eq.mp h) (λδ=>by unfold evE;rfl) (λ_ _=>rfl) λ_ _ _=>z5m
theorem z7D:S1 G F .non:=q5n (λsg w e h=>by unfold corE at h;exact beq_iff_eq.mp h) (λδ=>by unfold evE;rfl) (λ_ _=>rfl) λ_ _ _=>z4x
theorem z6V{i:Str}:S1 G F (.str i):=q5n (λsg w e h=>by unfold corE at h;rw[Bool.and_eq_true]at h;exact beq_iff_eq.mp h.1) (λδ=>by unfold evE;rfl) (λ_ _=>rfl) λ_ _ h=>by
 unfold corE at h;rw[Bool.and_eq_true,decide_eq_true_eq]at h;exact z3I (Nat.le_trans h.2 (by decide))
theorem z7U{x:Str}:S1 G F (.glb x):=by
 refine .of (λ{sg X E e δ r} g hc h=>?_) (λ_ _=>rfl) (λsg e env hc=>?_)
 ·unfold corE at hc;simp only[Bool.and_eq_true,beq_iff_eq,bne_iff_ne,ne_eq]at hc;obtain⟨p,rfl⟩:=q0o hc.1.1;unfold evE at h;obtain⟨d,h1,h2⟩:=Option.map_eq_some_iff.mp h;cases h2;obtain⟨u,v,m,rv,rp⟩:=g.con x d h1;exact(z3p (g.glo x hc.1.2) m rv (beq_eq_false_iff_ne.mpr hc.2)).weak λσ H Q ⟨O,W,R,p⟩=>p v H (Same.refl H) (rp _)
 ·unfold corE at hc;simp only[Bool.and_eq_true,beq_iff_eq]at hc;obtain⟨p,rfl⟩:=q0o hc.1.1;exact q0h rfl env
theorem z6T{op:Operator}(ha:S1 G F a)(hb:S1 G F b):S1 G F (.bin op a b):=by
 refine .of (λ{sg X E e δ r} g hc h=>?_) (λ_ _=>rfl) (λsg e env hc=>?_)
 ·unfold corE at hc;split at hc
  ·rename_i ea o eb q;obtain⟨p,rfl⟩:=q5d q;simp only[Bool.and_eq_true,beq_iff_eq]at hc;obtain⟨⟨h1,h2⟩,h3⟩:=hc;subst h1;unfold evE at h;exact z2B (λz hz=>ha.1 g h2 hz) (λz hz=>hb.1 g h3 hz) h
  ·cases hc
 ·unfold corE at hc;split at hc
  ·rename_i q;obtain⟨p,rfl⟩:=q5d q;exact q0h rfl env
  ·cases hc
theorem z7Y(ha:S1 G F a):S1 G F (.not a):=by
 refine .of2 (λ{sg X E e δ r} g hc h=>?_) (λ{sg X E e δ r} g hc h=>?_) (λ_ _=>rfl)
 ·unfold corE at hc;split at hc
  ·rename_i o ea q;obtain⟨p,rfl⟩:=q9h q;simp only[Bool.and_eq_true,beq_iff_eq]at hc;obtain⟨h1,h2⟩:=hc;subst h1;unfold evE at h;exact z2F (λz hz=>ha.1 g h2 hz) h
  ·cases hc
 ·unfold corE at hc;split at hc
  ·rename_i o ea q;obtain⟨p,rfl⟩:=q9h q;simp only[Bool.and_eq_true,beq_iff_eq]at hc;obtain⟨h1,h2⟩:=hc;subst h1;unfold evE at h;exact z1R (λz hz=>ha.2.1 g h2 hz) h
  ·cases hc
theorem z7g{op:CmpOp}(ha:S1 G F a)(hb:S1 G F b):S1 G F (.cmp op a b):=by
 refine .of2 (λ{sg X E e δ r} g hc h=>?_) (λ{sg X E e δ r} g hc h=>?_) (λ_ _=>rfl)
 ·unfold corE at hc;split at hc
  ·rename_i ea o eb q;obtain⟨p,rfl⟩:=q7r q;simp only[Bool.and_eq_true,beq_iff_eq,Bool.not_eq_true']at hc;obtain⟨⟨⟨h1,h2⟩,h3⟩,h4⟩:=hc;subst h1;unfold evE at h;exact z3c g.hu (λz hz=>ha.1 g h2 hz) (λz hz=>hb.1 g h3 hz) h4 h
  ·cases hc
 ·unfold corE at hc;split at hc
  ·rename_i ea o eb q;obtain⟨p,rfl⟩:=q7r q;simp only[Bool.and_eq_true,beq_iff_eq,Bool.not_eq_true']at hc;obtain⟨⟨⟨h1,h2⟩,h3⟩,h4⟩:=hc;subst h1;unfold evE at h;exact z1H g.hu (λz hz=>ha.1 g h2 hz) (λz hz=>hb.1 g h3 hz) h4 h
  ·cases hc
theorem s_ix(ha:S1 G F a)(hb:S1 G F b):S1 G F (.ix a b):=by
 refine .of (λ{sg X E e δ r} g hc h=>?_) (λ_ _=>rfl) (λsg e env hc=>?_)
 ·unfold corE at hc;split at hc
  ·rename_i ea eb q;obtain⟨p,rfl⟩:=q2y q;simp only[Bool.and_eq_true,Bool.not_eq_true']at hc;obtain⟨⟨h1,h2⟩,h3⟩:=hc;unfold evE at h;exact z5p (λz hz=>ha.1 g h1 hz) (λz hz=>hb.1 g h2 hz) h3 h
  ·cases hc
 ·unfold corE at hc;split at hc
  ·rename_i q;obtain⟨p,rfl⟩:=q2y q;exact q0h rfl env
  ·cases hc
theorem s_sl(ha:S1 G F a)(hb:S1 G F b)(hcc:S1 G F c):S1 G F (.sl a b c):=by
 refine .of (λ{sg X E e δ r} g hc h=>?_) (λ_ _=>rfl) (λsg e env hc=>?_)
 ·unfold corE at hc;split at hc
  ·rename_i ea es q;obtain⟨p,rfl⟩:=q2y q;split at hc
   ·rename_i q2;obtain⟨p2,rfl⟩:=q7V q2;simp only[Bool.and_eq_true]at hc;obtain⟨⟨h1,h2⟩,h3⟩:=hc;unfold evE at h;exact z5C (λz hz=>ha.1 g h1 hz) (λz hz=>hb.1 g h2 hz) (λz hz=>hcc.1 g h3 hz) h
   ·cases hc
  ·cases hc
 ·unfold corE at hc;split at hc
  ·rename_i q;obtain⟨p,rfl⟩:=q2y q;exact q0h rfl env
  ·cases hc
variable {ms:List ME}
theorem q4Y:∀{sg:Sg} {ms:List ME} {es:List Expr},q0Q sg ms es=true->es.any q0u=false
 | _,[],[],_=>rfl
 | _,[],_::_,h=>by unfold q0Q at h;cases h
 | _,_::_,[],h=>by unfold q0Q at h;cases h
 | sg,m::ms,e::es,h=>by unfold q0Q at h;simp only[Bool.and_eq_true,Bool.not_eq_true']at h;rw[List.any_cons,h.1.2,q4Y h.2];rfl
theorem z7r(ha:SEs G F ms):S1 G F (.lst ms):=by
 refine .of (λ{sg X E e δ r} g hc h=>?_) (λ_ _=>rfl) (λsg e env hc=>?_)
 ·unfold corE at hc;split at hc
  ·rename_i es q;obtain⟨p,rfl⟩:=q6n q;unfold evE at h;exact z3T (λz hz=>ha g hc hz) h
  ·cases hc
 ·unfold corE at hc;split at hc
  ·rename_i q;obtain⟨p,rfl⟩:=q6n q;exact q0h rfl env
  ·cases hc
theorem z7o(ha:SEs G F ms):S1 G F (.tup ms):=by
 refine .of (λ{sg X E e δ r} g hc h=>?_) (λ_ _=>rfl) (λsg e env hc=>?_)
 ·unfold corE at hc;split at hc
  ·rename_i es q;obtain⟨k,p,rfl⟩:=q2v q;unfold evE at h;exact z3V (λz hz=>ha g hc hz) h
  ·cases hc
 ·unfold corE at hc;split at hc
  ·rename_i q;obtain⟨k,p,rfl⟩:=q2v q;exact q0h rfl env
  ·cases hc
theorem q3L{n:Nat}(h:n<=mostLen):n<=sizeLine:=Nat.le_trans h (by decide)
def SJ(G:Gs)(F:Nat->List DV->Option Ou)(ms:List ME):Prop:=∀{sg:Sg} {X:Cx} {E:St->XK} {es:List Expr} {δ:List Sv} {l:List (DV×Cl)} {acc x:Str},Good sg G F X E->q0Q sg ms es=true->evEs G F ms δ=some (.ok l)->fstG acc l=some x->acc.length<=mostLen ->
 ∀(pins:List (Addr×Obj)) (s:Shared) (σ:St) (H:Hp) (Q:VK),Inv X pins σ H s->dE X.D E δ (.ok (.str x) .strong) σ H Q->wpAny (model X.prog X.w) X.A (joinParts acc (evalEach es X.env)) (EP X pins σ Q) X.xe s
theorem z6S:SJ G F []:=λ{sg X E es δ l acc x} g hc h hf hl pins s σ H Q I q=>by
 cases es with
 | cons _ _=>unfold q0Q at hc;cases hc
 | nil=>
  unfold evEs at h;cases h;cases hf;obtain⟨O,W,R,p⟩:=q;exact joinParts_nil ⟨.str acc,H,I.tok _,⟨_,rfl⟩,p _ H (Same.refl H) (q1e.mpr ⟨rfl,q3L hl⟩:Rep X.D (L2.wo (O++W) H) _ _)⟩ (q3L hl)
theorem z5Q(ha:S1 G F a)(hb:SJ G F ms):SJ G F (a::ms):=λ{sg X E es δ l acc x} g hc h hf hl pins s σ H Q I q=>by
 cases es with
 | nil=>unfold q0Q at hc;cases hc
 | cons e es=>
  unfold q0Q at hc;simp only[Bool.and_eq_true,Bool.not_eq_true']at hc;unfold evEs at h;cases hr:evE G F a δ with
  | none=>rw[hr]at h;cases h
  | some ra=>
   rw[hr]at h;have A:=ha.1 g hc.1.1 hr;cases ra with
   | ex c=>cases h
   | ok d c=>
    cases hs:evEs G F ms δ with
    | none=>rw[hs]at h;cases h
    | some rs=>
     rw[hs]at h;cases rs with
     | ex c=>cases h
     | ok l'=>
      cases h;unfold fstG at hf;split at hf
      ·rename_i e0;cases e0
      ·rename_i y c' r e0;cases e0;split at hf
       ·rename_i hy;obtain⟨O,W,R,p⟩:=q;refine joinParts_cons (thn (A pins s σ H (λv H'=>Same H H'/\Got X.D O W H H' (.str y) c v) I ⟨O,W,R,λv H' sm gt=>⟨sm,gt⟩⟩) λu s1 ⟨v,H1,I1,r1,sm,gt⟩=>?_);obtain⟨hx,hz⟩:=gt.str (R.hid.mono sm);subst hx;obtain⟨t,rfl⟩:=r1;have hlen:(acc++y).length<=mostLen:=by rw[strLen_append];exact hy
        exact⟨q3L hlen,hb g hc.2 hs hf hlen pins s1 σ H1 Q I1 ⟨O,W,R.mono sm,λv H' s2 g2=>p v H' (sm.trans s2) g2⟩⟩
       ·cases hf
      ·cases hf
theorem z5D{f:Nat}(ha:SEs G F ms):S1 G F (.call f ms):=by
 refine .of (λ{sg X E e δ r} g hc h=>?_) (λ_ _=>rfl) (λsg e env hc=>?_)
 ·unfold corE at hc;split at hc
  ·rename_i ef es pos q;have:=q0A q;subst this;rw[Bool.and_eq_true,Bool.and_eq_true]at hc;obtain⟨⟨h1,h2⟩,h3⟩:=hc;split at h1
   ·rename_i x qx;obtain⟨p,rfl⟩:=q0o qx;simp only[Bool.and_eq_true,beq_iff_eq,bne_iff_ne,ne_eq]at h1;obtain⟨k,fa,fd,ps,hr,hm,hk,hb,hl,fo,dk⟩:=g.fns f x h1.1.1;cases es with
    | nil=>cases h2
    | cons y ys=>
     have ns:=q4Y h3;rw[List.any_cons,Bool.or_eq_false_iff]at ns;unfold evE at h;exact z0O fo hl hr (g.glo x h1.1.2) hm hk hb g.pas (λz hz=>ha g h3 hz) (beq_eq_false_iff_ne.mpr h1.2) ns.1 ns.2 h
   ·cases h1
  ·cases hc
 ·unfold corE at hc;split at hc
  ·rename_i q;have:=q0A q;subst this;exact q0h rfl env
  ·cases hc
theorem s_bi{f:Bi}(ha:SEs G F ms):S1 G F (.bi f ms):=by
 refine .of (λ{sg X E e δ r} g hc h=>?_) (λ_ _=>rfl) (λsg e env hc=>?_)
 ·unfold corE at hc;split at hc
  ·rename_i ef es pos q;have:=q0A q;subst this;rw[Bool.and_eq_true,Bool.and_eq_true]at hc;obtain⟨⟨h1,h2⟩,h3⟩:=hc;obtain⟨⟨p,rfl⟩,hg,hm⟩:=q5z g h1;unfold evE at h;cases es with
   | nil=>cases h2
   | cons y ys=>
    have go:q0Q sg ms (y::ys)=true->(∀q,evEs G F ms δ=some q->PA X (y::ys) (dA X.D E δ q))/\q0u y=false/\ys.any q0u=false:=λz=>by have ns:=q4Y z;rw[List.any_cons,Bool.or_eq_false_iff]at ns;exact⟨λw hw=>ha g z hw,ns.1,ns.2⟩
    cases f with
    | len=>obtain⟨A,s1,s2⟩:=go h3;exact q7D z5d z4w hg hm boot_len (by decide) (by decide) A s1 s2 h
    | min=>obtain⟨A,s1,s2⟩:=go h3;exact q7D (z4Q g.calm (by have:=g.hu;omega)) z3G hg hm boot_min (by decide) (by decide) A s1 s2 h
    | sum=>obtain⟨A,s1,s2⟩:=go h3;exact q7D (z4L g.calm) z2L hg hm q8G (by decide) (by decide) A s1 s2 h
    | all=>obtain⟨A,s1,s2⟩:=go h3;exact q7D (z5n g.calm) z3Z hg hm q8S (by decide) (by decide) A s1 s2 h
    | list=>obtain⟨A,s1,s2⟩:=go h3;exact q9D z4e z1t hg hm boot_list (by decide) (by decide) A s1 s2 h
    | tuple=>obtain⟨A,s1,s2⟩:=go h3;exact q9D z1I z0g hg hm boot_tuple (by decide) (by decide) A s1 s2 h
  ·cases hc
 ·unfold corE at hc;split at hc
  ·rename_i q;have:=q0A q;subst this;exact q0h rfl env
  ·cases hc
theorem q9f{x:Str}(h:q2k.contains x=true):∃t,q4v x=some t:=by
 have key:∀x∈q2k,∃t,q4v x=some t:=by
  intro x hx;simp only[q2k,List.mem_cons,List.not_mem_nil,or_false]at hx;rcases hx with rfl | rfl | rfl | rfl | rfl | rfl
  ·exact⟨"int",by decide +kernel⟩
  ·exact⟨"bool",by decide +kernel⟩
  ·exact⟨"str",by decide +kernel⟩
  ·exact⟨"list",by decide +kernel⟩
  ·exact⟨"tuple",by decide +kernel⟩
  ·exact⟨"dict",by decide +kernel⟩
 exact key x (List.contains_iff_mem.mp h)
theorem q5q:∀x∈q2k,x ≠ "__name__" /\ (x==("__debug__" : Str))=false:=by
 intro x hx;simp only[q2k,List.mem_cons,List.not_mem_nil,or_false]at hx;rcases hx with rfl | rfl | rfl | rfl | rfl | rfl<;>exact⟨by decide +kernel,by decide +kernel⟩
def z8d:V->List V->Hp->VK->Prop:=λx xs H Q=>∃i,x=.int i/\xs=[]/\Q (.int (q3Y i)) H
theorem z3K(i:Int):((Builtin.Int.intBits i:Nat):Int)=q3Y i:=by
 unfold Builtin.Int.intBits q3Y;by_cases h:i=0
 ·subst h;rfl
 ·rw[if_neg (by simpa using h),if_neg h];push_cast;rfl
theorem z4s{X:Cx}:MtR X "int.bit_length" z8d:=by
 intro pins s σ H x xs v us Q I rx rv h;obtain⟨i,rfl,rfl,q⟩:=h;obtain⟨t,rfl⟩:=(show ∃t,v=Value.int i t from rx);cases rv;exact PyProof.Rows.call_int_bit_length ⟨.int (q3Y i),H,I.tok _,by rw[←z3K];exact⟨_,rfl⟩,q⟩
theorem z5U{m:Mt}{es:List ME}(ha:S1 G F a):S1 G F (.meth m a es):=by
 refine .of (λ{sg X E e δ r} g hc h=>?_) (λ_ _=>rfl) (λsg e env hc=>?_)
 ·unfold corE at hc;split at hc
  ·rename_i ef pos q;have:=q0A q;subst this;split at hc
   ·rename_i ea n apos q2;have:=q3k q2;subst this;simp only[Bool.and_eq_true,beq_iff_eq]at hc;obtain⟨⟨⟨⟨h1,h2⟩,h3⟩,h4⟩,h5⟩:=hc;subst h1;have hbs:attributeBase ea (z2e m) X.env (eval ea X.env)=eval ea X.env:=by
     rw[Bool.or_eq_true]at h3;rcases h3 with h3 | h3
     ·obtain⟨y,hy⟩:=Option.isSome_iff_exists.mp h3;obtain⟨np,rfl⟩:=q0o hy;rfl
     ·obtain⟨⟨a1,o1,b1⟩,hy⟩:=Option.isSome_iff_exists.mp h3;obtain⟨np,rfl⟩:=q5d hy;rfl
    unfold evE at h;cases m with
    | bitLength=>
     rw[if_pos rfl]at h;have P:=λt (hA:PE X ea t)=>z6n (apos:=apos) (cpos:=pos) PySem.F.plainAttrs_int PySem.F.slot_int_bit_length PySem.F.type_int_bit_length z4s hA hbs (by rw[beq_iff_eq];exact h4)
     cases hra:evE G F a δ with
     | none=>rw[hra]at h;cases h
     | some q=>
      rw[hra]at h;have A:=ha.1 g h2 hra;cases q with
      | ex c=>cases h;exact(P _ A).weak λσ H Q ⟨O,W,R,p⟩=>⟨O,W,R,p⟩
      | ok d dc=>
       have h':mtD .bitLength d=some r:=h;unfold mtD at h';split at h'
       ·rename_i i _;cases h';exact(P _ A).weak λσ H Q ⟨O,W,R,p⟩=>⟨O,W,R,λv H1 s1 g1=>by
         have hv:=g1.int (R.hid.mono s1);subst hv;exact⟨rfl,i,rfl,rfl,p _ H1 s1 q0G⟩⟩
       ·cases h'
    | index=>rw[if_neg (by decide)]at h;cases h
    | get=>rw[if_neg (by decide)]at h;cases h
   ·cases hc
  ·cases hc
 ·unfold corE at hc;split at hc
  ·rename_i q;have:=q0A q;subst this;exact q0h rfl env
  ·cases hc
theorem z6N:S1 G F .dc0:=by
 refine .of (λ{sg X E e δ r} g hc h=>?_) (λ_ _=>rfl) (λsg e env hc=>?_)
 ·unfold corE at hc;split at hc
  ·unfold evE at h;cases h;exact z3O
  ·cases hc
 ·unfold corE at hc;split at hc
  ·exact q0h rfl env
  ·cases hc
theorem z8c{i:Nat}:S1 G F (.srd i):=by
 refine .of (λ{sg X E e δ r} g hc h=>?_) (λ_ _=>rfl) (λsg e env hc=>?_)
 ·unfold corE at hc;split at hc
  ·rename_i ef eo pos q;have:=q0A q;subst this;rw[Bool.and_eq_true]at hc;obtain⟨h1,h2⟩:=hc;obtain⟨⟨p,rfl⟩,hg,hm⟩:=q5z g h1;split at h2
   ·rename_i x q3;obtain⟨np,rfl⟩:=q0o q3;obtain⟨s1,s2,s3,s4⟩:=q2R g h2;unfold evE at h;exact z2G g.calm (q2r s1 s2 s3 s4) hg hm h
   ·cases h2
  ·cases hc
 ·unfold corE at hc;split at hc
  ·rename_i q;have:=q0A q;subst this;exact q0h rfl env
  ·cases hc
theorem z7M{ts:List Str}(ha:S1 G F a):S1 G F (.isi a ts):=by
 refine .of (λ{sg X E e δ r} g hc h=>?_) (λ_ _=>rfl) (λsg e env hc=>?_)
 ·unfold corE at hc;split at hc
  ·rename_i ef ea et pos q;have:=q0A q;subst this;simp only[Bool.and_eq_true,Bool.not_eq_true']at hc;obtain⟨⟨⟨⟨h1,h2⟩,h3⟩,h4⟩,h5⟩:=hc;obtain⟨⟨p,rfl⟩,hg,hm⟩:=q5z g h1;split at h5
   ·rename_i t;simp only[Bool.and_eq_true,beq_iff_eq,List.contains_iff_mem]at h5;obtain⟨⟨⟨k1,k2⟩,k3⟩,k4⟩:=h5;obtain⟨p',rfl⟩:=q0o k1;obtain⟨T,hT⟩:=q9f (List.contains_iff_mem.mpr k4);obtain⟨n1,n2⟩:=q5q t k4;unfold evE at h;exact z2O hT hg hm (g.glo t k2) (g.blt t k3) n1 n2 (λz hz=>ha.1 g h2 hz) h3 h
   ·cases h5
  ·cases hc
 ·unfold corE at hc;split at hc
  ·rename_i q;have:=q0A q;subst this;exact q0h rfl env
  ·cases hc
theorem q2a:∀{ms:List ME} {δ:List Sv} {l:List (DV×Cl)},evEs G F ms δ=some (.ok l)->l.length=ms.length
 | [],_,_,h=>by unfold evEs at h;cases h;rfl
 | m::ms,δ,l,h=>by
  unfold evEs at h;split at h
  ·cases h
  ·cases h
  ·split at h
   ·cases h
   ·cases h
   ·rename_i l' q;cases h;rw[List.length_cons,List.length_cons,q2a q]
theorem q3y:∀{sg:Sg} {ms:List ME} {es:List Expr},q0Q sg ms es=true->ms.length=es.length
 | _,[],[],_=>rfl
 | _,[],_::_,h=>by unfold q0Q at h;cases h
 | _,_::_,[],h=>by unfold q0Q at h;cases h
 | sg,m::ms,e::es,h=>by unfold q0Q at h;simp only[Bool.and_eq_true]at h;rw[List.length_cons,List.length_cons,q3y h.2]
theorem z7N(ha:SEs G F ms):S1 G F (.rng ms):=by
 refine⟨λ{sg X E e δ r} g hc h=>?_,λ{sg X E e δ r} g hc h=>?_,λ{sg X E e tg δ r} g hc _ h=>?_⟩
 ·unfold corE at hc;rw[Bool.false_and]at hc;cases hc
 ·unfold corE at hc;rw[Bool.false_and]at hc;cases hc
 ·unfold corE at hc;rw[Bool.true_and]at hc;split at hc
  ·rename_i ef es pos q;have:=q0A q;subst this;rw[Bool.and_eq_true,decide_eq_true_eq]at hc;obtain⟨hc,hle⟩:=hc;rw[Bool.and_eq_true]at hc;obtain⟨⟨p,rfl⟩,hg,hm⟩:=q5z g hc.1;have l1:=q3y hc.2;have ns:=q4Y hc.2;unfold evE at h;cases es with
   | nil=>
    exfalso;cases ms with
    | nil=>unfold evEs at h;cases h
    | cons _ _=>cases l1
   | cons y ys=>
    rw[List.any_cons,Bool.or_eq_false_iff]at ns;cases ys with
    | nil=>exact q8l hg hm (λz hz=>ha g hc.2 hz) ns.1 h λl hl=>by rw[q2a hl,l1];rfl
    | cons z zs=>
     cases zs with
     | nil=>
      have ns2:=ns.2;rw[List.any_cons,Bool.or_eq_false_iff]at ns2;exact q8B hg hm (λz hz=>ha g hc.2 hz) ns.1 ns2.1 h λl hl=>by rw[q2a hl,l1];rfl
     | cons u us=>
      cases us with
      | nil=>
       have ns2:=ns.2;rw[List.any_cons,Bool.or_eq_false_iff]at ns2;have ns3:=ns2.2;rw[List.any_cons,Bool.or_eq_false_iff]at ns3;exact q8v hg hm (λz hz=>ha g hc.2 hz) ns.1 ns2.1 ns3.1 h λl hl=>by rw[q2a hl,l1];rfl
      | cons _ _=>simp at hle
  ·cases hc
theorem s_zp(ha:S1 G F a)(hb:S1 G F b):S1 G F (.zp a b):=by
 refine⟨λ{sg X E e δ r} g hc h=>?_,λ{sg X E e δ r} g hc h=>?_,λ{sg X E e tg δ r} g hc ht h=>?_⟩
 ·unfold corE at hc;rw[Bool.false_and]at hc;cases hc
 ·unfold corE at hc;rw[Bool.false_and]at hc;cases hc
 ·unfold corE at hc;rw[Bool.true_and]at hc;split at hc
  ·rename_i ef ea eb pos q;have:=q0A q;subst this;simp only[Bool.and_eq_true,Bool.not_eq_true']at hc;obtain⟨⟨⟨⟨h1,h2⟩,h3⟩,h4⟩,h5⟩:=hc;obtain⟨⟨p,rfl⟩,hg,hm⟩:=q5z g h1;have t:=ht rfl;cases q2:q3i tg with
   | none=>rw[q2]at t;cases t
   | some elts=>
    obtain⟨k,tp,rfl⟩:=q2v q2;unfold evE at h;exact z2S hg hm h4 h5 (λz hz=>ha.1 g h2 hz) (λz hz=>hb.1 g h3 hz) h
  ·cases hc
theorem z4q{sg:Sg}{X:Cx}{E:St->XK}{e:Expr}{δ:List Sv}{r:Re}{tg:Tg}{fr:List (Option Nat)}{cp:CParts}{tn:List Str}(ha:S1 G F a)(hb:S1 G F b)(g:Good sg G F X E)(hemp:cp.ifs=[])
  (h2:corE sg true b cp.it=true) (hz:isZp b=true->(q3i cp.tg).isSome=true) (h4:q2o sg (q1p sg tn fr) fr cp.sc tg=true) (h5:tgOk ⟨q1p sg tn fr,cp.sc.names,sg.fn,sg.bl,sg.cl,false,false⟩ tg cp.tg=true) (h6:corE ⟨q1p sg tn fr,cp.sc.names,sg.fn,sg.bl,sg.cl,false,false⟩ false a cp.elt=true)
  (h:evE G F (.comp a tg b fr) δ=some r):q1j X E δ cp.tg cp.it cp.ifs cp.elt cp.sc (q1p sg tn fr) fr tg r:=by
 obtain⟨S,nd,sl⟩:=q1z g h4;rw[hemp];unfold evE at h;exact q4s S g.calm nd sl (λz hz'=>hb.2.2 g h2 hz hz') (λC cells s₂ H₂ fp x1=>q9F (q1g g h4 C cells s₂ H₂ fp x1) h5) (λδ' r' hr C cells s₂ H₂ fp x1=>ha.1 (q1g g h4 C cells s₂ H₂ fp x1) h6 hr) h
theorem z1n{sg:Sg}{X:Cx}{E:St->XK}{e cd:Expr}{δ:List Sv}{r:Re}{tg:Tg}{fr:List (Option Nat)}{cp:CParts}{tn:List Str}(ha:S1 G F a)(hb:S1 G F b)(hcc:S1 G F c)(g:Good sg G F X E)(hemp:cp.ifs=[cd])
  (h2:corE sg true b cp.it=true) (hz:isZp b=true->(q3i cp.tg).isSome=true) (h4:q2o sg (q1p sg tn fr) fr cp.sc tg=true) (h5:tgOk ⟨q1p sg tn fr,cp.sc.names,sg.fn,sg.bl,sg.cl,false,false⟩ tg cp.tg=true) (h6:corE ⟨q1p sg tn fr,cp.sc.names,sg.fn,sg.bl,sg.cl,false,false⟩ false a cp.elt=true)
  (h7:corE ⟨q1p sg tn fr,cp.sc.names,sg.fn,sg.bl,sg.cl,false,false⟩ false c cd=true) (h:evE G F (.compi a tg b c fr) δ=some r):q1j X E δ cp.tg cp.it cp.ifs cp.elt cp.sc (q1p sg tn fr) fr tg r:=by
 obtain⟨S,nd,sl⟩:=q1z g h4;rw[hemp];unfold evE at h;exact q4l S g.calm nd sl (λz hz'=>hb.2.2 g h2 hz hz') (λC cells s₂ H₂ fp x1=>q9F (q1g g h4 C cells s₂ H₂ fp x1) h5) (λδ' r' hr C cells s₂ H₂ fp x1=>ha.1 (q1g g h4 C cells s₂ H₂ fp x1) h6 hr)
  (λδ' r' hr C cells s₂ H₂ fp x1=>hcc.2.1 (q1g g h4 C cells s₂ H₂ fp x1) h7 hr) h
def q3S(G:Gs)(F:Nat->List DV->Option Ou)(m:ME):Prop:=∀{sg:Sg} {X:Cx} {E:St->XK} {e:Expr} {δ:List Sv} {r:Re},Good sg G F X E->corE sg false m e=true->evE G F m δ=some r ->
 ∃(cp:CParts) (N':List Str) (fr:List (Option Nat)) (tg:Tg) (p:Pos),e=.ListComp cp.elt [⟨cp.tg,cp.it,cp.ifs,0⟩] cp.sc p/\CompScope X.N N' cp.sc X.env.scope fr/\q1j X E δ cp.tg cp.it cp.ifs cp.elt cp.sc N' fr tg r /\
  (∀C cells s₂ H₂ fp x1,PG (q0r X cp.sc N' C cells s₂ H₂ fp x1) cp.tg (gT X.K tg))/\q3B cp.it=false
theorem q3S.s1{m:ME}(h:q3S G F m)(hw:∀sg e,corE sg true m e=corE sg false m e)(hl:∀sg e,corE sg false m e=true->(q4K e).isSome=true):S1 G F m:=by
 refine .of (λ{sg X E e δ r} g hc q=>?_) hw (λsg e env hc=>?_)
 ·obtain⟨cp,N',fr,tg,p,rfl,S,P,hG,hs⟩:=h g hc q;exact P.pe S g.calm hG hs
 ·have:=hl sg e hc;cases z:q4K e with
  | none=>rw[z]at this;cases this
  | some cp=>obtain⟨p,rfl⟩:=q4c z;exact q0h rfl env
theorem z2u{tg:Tg}{fr:List (Option Nat)}(ha:S1 G F a)(hb:S1 G F b):q3S G F (.comp a tg b fr):=by
 intro sg X E e δ r g hc h;unfold corE at hc;split at hc
 ·rename_i cp q;obtain⟨p,rfl⟩:=q4c q;simp only[Bool.and_eq_true,Bool.not_eq_true',Bool.or_eq_true]at hc;obtain⟨⟨⟨h1,h2,h3⟩,h4⟩,h5⟩:=hc;split at h5
  ·rename_i tn qt;simp only[Bool.and_eq_true]at h5;refine⟨cp,_,fr,tg,p,rfl,(q1z g h5.1.1).1,z4q (e:=.ListComp cp.elt [⟨cp.tg,cp.it,cp.ifs,0⟩] cp.sc p) ha hb g (List.isEmpty_iff.mp h1) h2 (λz=>?_) h5.1.1 h5.1.2 h5.2 h,λC cells s₂ H₂ fp x1=>q9F (q1g g h5.1.1 C cells s₂ H₂ fp x1) h5.1.2,h4⟩;rcases h3 with w | w
   ·rw[z]at w;cases w
   ·exact w
  ·cases h5
 ·cases hc
theorem z0n{tg:Tg}{fr:List (Option Nat)}(ha:S1 G F a)(hb:S1 G F b)(hcc:S1 G F c):q3S G F (.compi a tg b c fr):=by
 intro sg X E e δ r g hc h;unfold corE at hc;split at hc
 ·rename_i cp q;obtain⟨p,rfl⟩:=q4c q;simp only[Bool.and_eq_true,Bool.not_eq_true',Bool.or_eq_true]at hc;obtain⟨⟨⟨h2,h3⟩,h4⟩,h5⟩:=hc;split at h5
  ·rename_i tn ec qt qi;simp only[Bool.and_eq_true]at h5;refine⟨cp,_,fr,tg,p,rfl,(q1z g h5.1.1.1).1,z1n (e:=.ListComp cp.elt [⟨cp.tg,cp.it,cp.ifs,0⟩] cp.sc p) ha hb hcc g qi h2 (λz=>?_) h5.1.1.1 h5.1.1.2 h5.1.2 h5.2 h,λC cells s₂ H₂ fp x1=>q9F (q1g g h5.1.1.1 C cells s₂ H₂ fp x1) h5.1.1.2,h4⟩;rcases h3 with w | w
   ·rw[z]at w;cases w
   ·exact w
  ·cases h5
 ·cases hc
theorem z6c{tg:Tg}{fr:List (Option Nat)}(ha:S1 G F a)(hb:S1 G F b):S1 G F (.comp a tg b fr):=q3S.s1 (λ{sg X E e δ r}=>z2u ha hb) (λ_ _=>rfl) λsg e hc=>by
 unfold corE at hc;split at hc
 ·rename_i q;rw[q];rfl
 ·cases hc
theorem z3B{tg:Tg}{fr:List (Option Nat)}(ha:S1 G F a)(hb:S1 G F b)(hcc:S1 G F c):S1 G F (.compi a tg b c fr):=q3S.s1 (λ{sg X E e δ r}=>z0n ha hb hcc) (λ_ _=>rfl) λsg e hc=>by
 unfold corE at hc;split at hc
 ·rename_i q;rw[q];rfl
 ·cases hc
theorem z7t:SEs G F []:=λ{sg X E es δ r} g hc h=>by
 cases es with
 | nil=>unfold evEs at h;cases h;exact z1K
 | cons _ _=>unfold q0Q at hc;cases hc
theorem z4N(ha:S1 G F a)(hb:SEs G F ms):SEs G F (a::ms):=λ{sg X E es δ r} g hc h=>by
 cases es with
 | nil=>unfold q0Q at hc;cases hc
 | cons e es=>
  unfold q0Q at hc;simp only[Bool.and_eq_true,Bool.not_eq_true']at hc;unfold evEs at h;exact q9j hc.1.2 (λz hz=>ha.1 g hc.1.1 hz) (λz hz=>hb g hc.2 hz) h
theorem z4o:SAnd G F []:=λ{sg X E es δ pos} g hc=>⟨λr h=>(by unfold q2D at h;cases h),λr h=>(by unfold q2D at h;cases h)⟩
theorem z5l:SOr G F []:=λ{sg X E es δ pos} g hc=>⟨λr h=>(by unfold evOr at h;cases h),λr h=>(by unfold evOr at h;cases h)⟩
theorem z1w(ha:S1 G F a)(hb:SAnd G F ms):SAnd G F (a::ms):=λ{sg X E es δ pos} g hc=>by
 cases es with
 | nil=>unfold q0Q at hc;cases hc
 | cons e es=>
  unfold q0Q at hc;simp only[Bool.and_eq_true,Bool.not_eq_true']at hc;cases ms with
  | nil=>
   cases es with
   | nil=>
    refine⟨λr h=>?_,λr h=>?_⟩
    ·unfold q2D at h;exact z2g (ha.1 g hc.1.1 h)
    ·unfold q2D at h;exact z3o (ha.2.1 g hc.1.1 h)
   | cons _ _=>have:=hc.2;unfold q0Q at this;cases this
  | cons m ms=>
   cases es with
   | nil=>have:=hc.2;unfold q0Q at this;cases this
   | cons e' es=>
    have B:=@hb sg X E (e'::es) δ pos g hc.2;refine⟨λr h=>?_,λr h=>?_⟩
    ·unfold q2D at h;exact z4a (λz hz=>ha.1 g hc.1.1 hz) (λz hz=>B.1 z hz) h
    ·unfold q2D at h;exact z1a (λz hz=>ha.2.1 g hc.1.1 hz) (λz hz=>B.2 z hz) h
theorem z3x(ha:S1 G F a)(hb:SOr G F ms):SOr G F (a::ms):=λ{sg X E es δ pos} g hc=>by
 cases es with
 | nil=>unfold q0Q at hc;cases hc
 | cons e es=>
  unfold q0Q at hc;simp only[Bool.and_eq_true,Bool.not_eq_true']at hc;cases ms with
  | nil=>
   cases es with
   | nil=>
    refine⟨λr h=>?_,λr h=>?_⟩
    ·unfold evOr at h;exact z2g (ha.1 g hc.1.1 h)
    ·unfold evOr at h;exact z5u (ha.2.1 g hc.1.1 h)
   | cons _ _=>have:=hc.2;unfold q0Q at this;cases this
  | cons m ms=>
   cases es with
   | nil=>have:=hc.2;unfold q0Q at this;cases this
   | cons e' es=>
    have B:=@hb sg X E (e'::es) δ pos g hc.2;refine⟨λr h=>?_,λr h=>?_⟩
    ·unfold evOr at h;exact z6e (λz hz=>ha.1 g hc.1.1 hz) (λz hz=>B.1 z hz) h
    ·unfold evOr at h;exact z3m (λz hz=>ha.2.1 g hc.1.1 hz) (λz hz=>B.2 z hz) h
theorem z7P(ha:SAnd G F ms):S1 G F (.and ms):=by
 refine .of2 (λ{sg X E e δ r} g hc h=>?_) (λ{sg X E e δ r} g hc h=>?_) (λ_ _=>rfl)
 ·unfold corE at hc;split at hc
  ·rename_i o es q;obtain⟨p,rfl⟩:=q3f q;simp only[Bool.and_eq_true,beq_iff_eq]at hc;obtain⟨h1,h2⟩:=hc;subst h1;unfold evE at h;exact(ha g h2).1 r h
  ·cases hc
 ·unfold corE at hc;split at hc
  ·rename_i o es q;obtain⟨p,rfl⟩:=q3f q;simp only[Bool.and_eq_true,beq_iff_eq]at hc;obtain⟨h1,h2⟩:=hc;subst h1;unfold evE at h;exact((ha g h2).2 r h).pt
  ·cases hc
theorem s_or(ha:SOr G F ms):S1 G F (.or ms):=by
 refine .of2 (λ{sg X E e δ r} g hc h=>?_) (λ{sg X E e δ r} g hc h=>?_) (λ_ _=>rfl)
 ·unfold corE at hc;split at hc
  ·rename_i o es q;obtain⟨p,rfl⟩:=q3f q;simp only[Bool.and_eq_true,beq_iff_eq]at hc;obtain⟨h1,h2⟩:=hc;subst h1;unfold evE at h;exact(ha g h2).1 r h
  ·cases hc
 ·unfold corE at hc;split at hc
  ·rename_i o es q;obtain⟨p,rfl⟩:=q3f q;simp only[Bool.and_eq_true,beq_iff_eq]at hc;obtain⟨h1,h2⟩:=hc;subst h1;unfold evE at h;exact((ha g h2).2 r h).pt
  ·cases hc
end
section
variable {G:Gs} {F:Nat->List DV->Option Ou}
mutual
theorem snd:∀m:ME,S1 G F m
 | .var _=>z7O
 | .int _=>z6R
 | .bl _=>s_bl
 | .str _=>z6V
 | .non=>z7D
 | .glb _=>z7U
 | .bin _ a b=>z6T (snd a) (snd b)
 | .not a=>z7Y (snd a)
 | .cmp _ a b=>z7g (snd a) (snd b)
 | .and es=>z7P (z2r es)
 | .or es=>s_or (z5g es)
 | .lst es=>z7r (sndL es)
 | .tup es=>z7o (sndL es)
 | .dc0=>z6N
 | .ix a b=>s_ix (snd a) (snd b)
 | .sl a b c=>s_sl (snd a) (snd b) (snd c)
 | .call _ es=>z5D (sndL es)
 | .bi _ es=>s_bi (sndL es)
 | .isi a _=>z7M (snd a)
 | .meth _ a _=>z5U (snd a)
 | .comp a _ b _=>z6c (snd a) (snd b)
 | .compi a _ b c _=>z3B (snd a) (snd b) (snd c)
 | .rng es=>z7N (sndL es)
 | .zp a b=>s_zp (snd a) (snd b)
 | .srd _=>z8c
theorem sndL:∀ms:List ME,SEs G F ms
 | []=>z7t
 | a::ms=>z4N (snd a) (sndL ms)
theorem sndJ:∀ms:List ME,SJ G F ms
 | []=>z6S
 | a::ms=>z5Q (snd a) (sndJ ms)
theorem z2r:∀ms:List ME,SAnd G F ms
 | []=>z4o
 | a::ms=>z1w (snd a) (z2r ms)
theorem z5g:∀ms:List ME,SOr G F ms
 | []=>z5l
 | a::ms=>z3x (snd a) (z5g ms)
end
end
end L2
end
noncomputable section
namespace L2
open PySem PySem.Spec PyProof.Rows
section
variable (G:Gs) (F:Nat->List DV->Option Ou) (fu:Nat)
def SS(m:MS):Prop:=∀{sg:Sg} {X:Cx} {E:St->XK} {st:Stmt} {δ:List Sv} {o:Out},Good sg G F X E->corS sg m st=true->evS G F fu m δ=some o->PS X st (dS X.D E δ o)
def SSs(ms:List MS):Prop:=∀{sg:Sg} {X:Cx} {E:St->XK} {sts:List Stmt} {δ:List Sv} {o:Out},Good sg G F X E->q2T sg ms sts=true->evSs G F fu ms δ=some o->PSs X sts (dS X.D E δ o)
end
section
variable {G:Gs} {F:Nat->List DV->Option Ou} {fu:Nat} {e k:ME} {i:Nat}
theorem z6q{e:ME}(h:q9s e=true):q3S G F e:=by
 cases e with
 | comp a _ b _=>exact z2u (snd a) (snd b)
 | compi a _ b c _=>exact z0n (snd a) (snd b) (snd c)
 | _=>cases h
theorem z8f{own:Bool}:SS G F fu (.set i own e):=by
 intro sg X E st δ o g hc h;unfold corS at hc;split at hc
 ·rename_i t v pos;split at hc
  ·rename_i x pt;simp only[Bool.and_eq_true,beq_iff_eq,Bool.or_eq_true,Bool.not_eq_true']at hc;obtain⟨⟨⟨h1,h2⟩,h3⟩,h4⟩:=hc;have l:=g.loc x h2;have hN:X.N[i]? = some x:=by rw[g.N];exact h1
   unfold evS at h;cases hv:q4D v with
   | false=>exact q9r g.nd hN l.1 l.2 (λz hz=>(snd e).1 g h3 hz) (q3n hv) h
   | true=>
    rcases h4 with h4 | h5
    ·rw[hv]at h4;cases h4
    ·cases hr:evE G F e δ with
     | none=>rw[hr]at h;cases h
     | some r=>
      obtain⟨cp,N',fr,tg,p,rfl,S,P,hG,hs⟩:=z6q h5 g h3 hr;cases hb:(X.env.blockKind == .function&&X.env.kindOf x==some .local&&pt.line==(Expr.ListComp cp.elt [⟨cp.tg,cp.it,cp.ifs,0⟩] cp.sc p).pos.line && !(cp.sc.names.any λ(n,k)=>n==x&&(k == .local||k == .cell)))with
      | false=>
       have hsw:swapsWith (.ListComp cp.elt [⟨cp.tg,cp.it,cp.ifs,0⟩] cp.sc p) (some (.Name x pt)) pos.line X.env=pure false:=(by show(pure (X.env.blockKind == .function&&X.env.kindOf x==some .local&&pt.line==(Expr.ListComp cp.elt [⟨cp.tg,cp.it,cp.ifs,0⟩] cp.sc p).pos.line && !(cp.sc.names.any λ(n,k)=>n==x&&(k == .local||k == .cell))):Sem Bool)=pure false;rw[hb]);exact q9r g.nd hN l.1 l.2 (λz hz=>(snd e).1 g h3 hz) hsw h
      | true=>
       have hsw:swapsWith (.ListComp cp.elt [⟨cp.tg,cp.it,cp.ifs,0⟩] cp.sc p) (some (.Name x pt)) pos.line X.env=pure true:=(by show(pure (X.env.blockKind == .function&&X.env.kindOf x==some .local&&pt.line==(Expr.ListComp cp.elt [⟨cp.tg,cp.it,cp.ifs,0⟩] cp.sc p).pos.line && !(cp.sc.names.any λ(n,k)=>n==x&&(k == .local||k == .cell))):Sem Bool)=pure true;rw[hb]);rw[hr]at h;have h4:X.env.kindOf x=some .local:=by simp only[Bool.and_eq_true,beq_iff_eq]at hb;exact hb.1.1.2
       exact q6F S g.calm g.nd hN h4 P hG hs hsw h
  ·cases hc
 ·cases hc
theorem z8h:SS G F fu (.app i e):=by
 intro sg X E st δ o g hc h;unfold corS at hc;split at hc
 ·rename_i v pos;split at hc
  ·rename_i ef ea cpos q;have:=q0A q;subst this;split at hc
   ·rename_i ob n apos q2;have:=q3k q2;subst this;simp only[Bool.and_eq_true,Bool.not_eq_true']at hc;obtain⟨⟨⟨⟨h1,h2⟩,h3⟩,h4⟩,h5⟩:=hc;split at h2
    ·rename_i x q3;obtain⟨np,rfl⟩:=q0o q3;obtain⟨s1,s2,s3,s4⟩:=q2R g h2;have hn:n = "append":=beq_iff_eq.mp h1;subst hn;unfold evS at h;exact q8g (q2r s1 s2 s3 s4) (λz hz=>(snd e).1 g h3 hz) h4 h5 h
    ·cases h2
   ·cases hc
  ·cases hc
 ·cases hc
theorem RSt.turn{D:Dm}{H H':Hp}{σ:St}{δ:List Sv}{O W:List Addr}{p:Addr}{ds ds':List DV}{xs':List V}(R:RSt D H σ δ O W)(hi:δ[i]? = some (.own (.lst ds)))(hp:σ[i]? = some (some (.ref p)))(hw:p∈W)(s:Same (L2.wo [p] H) H')(h':H' p=some (.lst xs'))(r:RepL D (L2.wo (O++W) H') ds' xs'):RSt D H' σ (δ.set i (.own (.lst ds'))) O W:=by
 obtain⟨a,xs,ds0,e0,e1,e2,e3,e4⟩:=R.own i _ hi;cases hp.symm.trans e1;have hsm:Same H (upd H' p (.lst xs)):=λb o e=>by
  by_cases hb:b=p
  ·subst hb;rw[q0n];rw[e3]at e;exact e
  ·rw[q0f hb];exact s b o (by rw[q0g (by simpa using hb)];exact e)
 have R1:=R.mono hsm;have R2:=R1.write (xs':=xs') (ds':=ds') hi hp (r.mono λb o e=>by
  obtain⟨hb,e⟩:=q0v e;rw[q0g hb,q0f λz=>hb (by rw[z];exact List.mem_append_right _ hw)];exact e)
 rw[show upd (upd H' p (.lst xs)) p (.lst xs')=H' by
  funext b
  by_cases hb:b=p
  ·subst hb;rw[q0n];exact h'.symm
  ·rw[q0f hb,q0f hb]]at R2
 exact R2
theorem q7c{sg:Sg}{X:Cx}{E:St->XK}{δ:List Sv}{v:Expr}{ea:Expr}{d:DV}{ds:List DV}{c:Cl}(g:Good sg G F X E)(hh:G.hun=true)(hv:hunB sg i v=some ea)(hi:δ[i]? = some (.own (.lst ds)))(he:PE X ea (dE X.D E δ (.ok d c)))(hs:stro d c=true){r:DV×List DV}{k:Nat}{fa:Addr}{fd:FuncData}{ps:List Str}{hf:DV->List DV->Option (DV×List DV)}(hr:Room k X.A)(hm:X.mg q0U=some (.ref fa))(hk:PySem.W.keepIn X.K (.ref fa)=true)(hb:q1q X.K fd ps [])
  (fo:FnOk X.prog X.w X.K X.mg X.base (CXx X.prog X.w X.base) k fa fd ps (spH X.D hf)) (hd:hf d ds=some r) :
  PE X v (λσ H Q=>∃O W p,RSt X.D H σ δ O W/\σ[i]? = some (some (.ref p))/\p∈W/\∀v' H' xs',Same (L2.wo [p] H) H'->H' p=some (.lst xs')->Rep X.D (L2.wo (O++W) H') r.1 v'->RepL X.D (L2.wo (O++W) H') r.2 xs'->Q v' H'):=by
 unfold hunB at hv;split at hv
 ·rename_i ef ea' eo cpos q1;split at hv
  ·rename_i f x q2 q3;split at hv
   ·rename_i hcnd;cases hv;simp only[Bool.and_eq_true,Bool.not_eq_true',beq_iff_eq]at hcnd;obtain⟨⟨⟨h1,h2⟩,h3⟩,h4⟩:=hcnd;have:=q0A q1;subst this;obtain⟨p1,rfl⟩:=q0o q2;obtain⟨p2,rfl⟩:=q0o q3;subst h1;obtain⟨s1,s2,s3,s4⟩:=q2R g h3;refine(q7z (p:=p1) (pos:=cpos) fo hr (g.glo _ h2) hm hk hb .nil g.pas (q0T he (q0T (q2r s1 s2 s3 s4) q3z (q0i rfl)) (q0i h4)) (by decide) (q0i h4) (by rw[q0i rfl];rfl)).weak λσ H Q ⟨O,W,p,R,e1,e2,k⟩=>?_
    refine⟨O,W,R,λv H1 sm1 gt=>⟨.ref p,e1,?_⟩⟩;obtain⟨p',xs,ds0,z0,z1,z2,z3,z4⟩:=(R.mono sm1).own i _ hi;cases z0;cases e1.symm.trans z1;have hd1:=R.hid.mono sm1;have hpO:p∉O:=R.hid.dj p e2;have up:Same (L2.wo (O++W) H1) (L2.wo ((O++W.filter (· ≠ p))++[p]) H1):=q0D λb hb=>by
     simp only[List.mem_append,List.mem_filter,List.mem_singleton,decide_eq_true_eq,ne_eq]at hb ⊢;rcases hb with(hb | hb) | hb
     ·exact .inl hb
     ·exact .inr hb.1
     ·rw[hb];exact .inr e2
    have dn:∀H2,Same (L2.wo ((O++W.filter (· ≠ p))++[p]) H2) (L2.wo (O++W) H2):=λH2=>q0D λb hb=>by
     simp only[List.mem_append,List.mem_filter,List.mem_singleton,decide_eq_true_eq,ne_eq]at hb ⊢;rcases hb with hb | hb
     ·exact .inl (.inl hb)
     ·by_cases z:b=p
      ·exact .inr z
      ·exact .inl (.inr ⟨hb,z⟩)
    show spH X.D hf [v,.ref p] H1 Q (E σ);refine⟨O++W.filter (· ≠ p),p,v,d,ds,xs,r,rfl,λa ha=>?_,?_,z3,(gt.stro hd1 hs).mono up,z4.mono up,hd,λv' H' xs' q1 q2 q3 q4=>k v' H' xs' ?_ q2 (q3.mono (dn H')) (q4.mono (dn H'))⟩
    ·refine hd1.hdA a ?_;simp only[List.mem_append,List.mem_filter]at ha ⊢;rcases ha with ha | ha
     ·exact .inl ha
     ·exact .inr ha.1
    ·intro z;rcases List.mem_append.mp z with z | z
     ·exact hpO z
     ·have:=(List.mem_filter.mp z).2;simp at this
    ·exact λb o e=>q1 b o (sm1.wo b o e)
   ·cases hv
  ·cases hv
 ·cases hv
theorem z1o{H:Hp}{p:Addr}{a b:HO}:upd (upd H p a) p b=upd H p b:=by
 funext c
 by_cases z:c=p
 ·subst z;rw[q0n,q0n]
 ·rw[q0f z,q0f z,q0f z]
theorem z7I:SS G F fu (.ses i):=by
 intro sg X E st δ o g hc h;unfold corS at hc;split at hc
 ·rename_i t v pos;split at hc
  ·rename_i x q;obtain⟨np,rfl⟩:=q0o q;split at hc
   ·rw[Bool.and_eq_true,beq_iff_eq]at hc;obtain⟨l1,l2⟩:=g.loc x hc.2;unfold evS at h;exact z2R g.nd (by rw[g.N];exact hc.1) l1 l2 h
   ·cases hc
  ·cases hc
 ·cases hc
theorem z6Q{ks:List ME}:SS G F fu (.dpt i ks e):=by
 intro sg X E st δ o g hc h;unfold corS at hc;split at hc
 ·rename_i t v pos;split at hc
  ·rename_i ob ek q;obtain⟨sp,rfl⟩:=q2y q;simp only[Bool.and_eq_true,Bool.not_eq_true']at hc;obtain⟨⟨⟨h1,h2⟩,h4⟩,h5⟩:=hc;split at h1
   ·rename_i x q3;obtain⟨np,rfl⟩:=q0o q3;obtain⟨s1,s2,s3,s4⟩:=q2R g h1;split at h2
    ·rename_i es q4;obtain⟨tk,tp,rfl⟩:=q2v q4;unfold evS at h;exact z2U (Nat.lt_of_le_of_lt (by omega) g.hu) (q2r s1 s2 s3 s4) (λz hz=>(snd e).1 g h4 hz) (λz hz=>sndL ks g h2 hz) h5 h
    ·cases h2
   ·cases h1
  ·cases hc
 ·cases hc
theorem z4V:SS G F fu (.seti i k e):=by
 intro sg X E st δ o g hc h;unfold corS at hc;split at hc
 ·rename_i t v pos;split at hc
  ·rename_i ob ek q;obtain⟨sp,rfl⟩:=q2y q;simp only[Bool.and_eq_true,Bool.not_eq_true']at hc;obtain⟨⟨⟨h2,h3⟩,h4⟩,h5⟩:=hc;split at h2
   ·rename_i x q3;obtain⟨np,rfl⟩:=q0o q3;obtain⟨s1,s2,s3,s4⟩:=q2R g h2;unfold evS at h;exact q9v (q2r s1 s2 s3 s4) (λz hz=>(snd e).1 g h5 hz) (λz hz=>(snd k).1 g h3 hz) h4 h
   ·cases h2
  ·cases hc
 ·cases hc
theorem z7a:SS G F fu (.ret e):=by
 intro sg X E st δ o g hc h;unfold corS at hc;split at hc
 ·unfold evS at h;exact z2J (λz hz=>(snd e).1 g hc hz) h
 ·cases hc
theorem z7x:SS G F fu (.frz i):=by
 intro sg X E st δ o g hc h;unfold corS at hc;cases hc
variable {a b body:List MS} {c:ME} {tg:Tg}
theorem z7v(ha:SSs G F fu a)(hb:SSs G F fu b):SS G F fu (.iff c a b):=by
 intro sg X E st δ o g hc h;unfold corS at hc;split at hc
 ·simp only[Bool.and_eq_true]at hc;unfold evS at h;exact z4C (λz hz=>(snd c).2.1 g hc.1.1 hz) (λz hz=>ha g hc.1.2 hz) (λz hz=>hb g hc.2 hz) h
 ·cases hc
theorem t_fo(hb:SSs G F fu body):SS G F fu (.fo tg e body):=by
 intro sg X E st δ o g hc h;unfold corS at hc;split at hc
 ·simp only[Bool.and_eq_true,Bool.not_eq_true',Bool.or_eq_true]at hc;obtain⟨⟨⟨⟨h0,h1⟩,h2,h3⟩,h4⟩,h5⟩:=hc;unfold evS at h;exact z2H (g.own h0) g.calm (λz hz=>(snd e).2.2 g h2 (λw=>by
   rcases h3 with q | q
   ·rw[w]at q;cases q
   ·exact q) hz) (q9F g h1) (λδ' o' ho=>hb g h5 ho) h4 h
 ·cases hc
theorem z4K:SSs G F fu []:=by
 intro sg X E sts δ o g hc h;cases sts with
 | nil=>unfold evSs at h;cases h;exact z3N
 | cons a b=>unfold q2T at hc;cases hc
theorem z5f{ms:List MS}(hb:SSs G F fu ms):SSs G F fu (.frz i::ms):=by
 intro sg X E sts δ o g hc h;have hc':q2T sg ms sts=true:=by unfold q2T at hc;exact hc
 unfold evSs at h;have key:evS G F fu (.frz i) δ=(match δ[i]? with | some (.own d)=>some (.nx (δ.set i (.val d))) | _=>some (.nx δ)):=by unfold evS;rfl
 rw[key]at h;cases q:δ[i]? with
 | none=>rw[q]at h;exact hb g hc' h
 | some sv=>
  rw[q]at h;cases sv with
  | own d=>exact q8e q (hb g hc' h)
  | no=>exact hb g hc' h
  | val d=>exact hb g hc' h
  | ot d=>exact hb g hc' h
  | o2 d=>exact hb g hc' h
  | od d=>exact hb g hc' h
theorem q2s{m:MS}{ms:List MS}(ha:SS G F fu m)(hb:SSs G F fu ms)(hm:∀i,m ≠ .frz i):SSs G F fu (m::ms):=by
 intro sg X E sts δ o g hc h;cases sts with
 | nil=>
  exfalso;cases m<;>first | exact hm _ rfl | (unfold q2T at hc;cases hc)
 | cons st sts=>
  have hc':corS sg m st=true/\q2T sg ms sts=true:=(by cases m<;>first | exact absurd rfl (hm _) | (unfold q2T at hc;rw[Bool.and_eq_true]at hc;exact hc));unfold evSs at h;split at h
  ·rename_i δ' q;exact z1F (ha g hc'.1 q) (hb g hc'.2 h)
  ·rename_i hne;have A:=ha g hc'.1 h;cases o with
   | nx δ'=>exact absurd h (hne δ')
   | rt d fr=>exact z5w A
   | rtt d=>exact z4j A
   | rtm d s=>exact z3P A
   | ex c δ'=>exact z6l A
end
section
variable {G:Gs} {F:Nat->List DV->Option Ou} {fu:Nat}
mutual
theorem sndS:∀m:MS,SS G F fu m
 | .set _ _ _=>z8f
 | .app _ _=>z8h
 | .seti _ _ _=>z4V
 | .ret _=>z7a
 | .iff _ a b=>z7v (q3e a) (q3e b)
 | .fo _ _ body=>t_fo (q3e body)
 | .ses _=>z7I
 | .dpt _ _ _=>z6Q
 | .frz _=>z7x
theorem q3e:∀ms:List MS,SSs G F fu ms
 | []=>z4K
 | .frz _::ms=>z5f (q3e ms)
 | .set i o e::ms=>q2s (sndS (.set i o e)) (q3e ms) (by intro i z;cases z)
 | .app i o::ms=>q2s (sndS (.app i o)) (q3e ms) (by intro i z;cases z)
 | .seti i k o::ms=>q2s (sndS (.seti i k o)) (q3e ms) (by intro i z;cases z)
 | .ret e::ms=>q2s (sndS (.ret e)) (q3e ms) (by intro i z;cases z)
 | .iff c a b::ms=>q2s (sndS (.iff c a b)) (q3e ms) (by intro i z;cases z)
 | .fo t i b::ms=>q2s (sndS (.fo t i b)) (q3e ms) (by intro i z;cases z)
 | .ses i::ms=>q2s (sndS (.ses i)) (q3e ms) (by intro i z;cases z)
 | .dpt i k e::ms=>q2s (sndS (.dpt i k e)) (q3e ms) (by intro i z;cases z)
end
end
end L2
end
noncomputable section
namespace L2
open PySem PySem.Spec PyProof.Rows
structure FunD(K:PySem.W.Frag)(x qual:Str)(st:Stmt)(f:Addr)(fd:FuncData):Prop where
 ex:∃(oc:Value) (od:Option Addr) (dV kV doc pm:Value) (an:Option Addr) (cdv ct:Value) (osl:Array (Option Value)),
  fd=PySem.W.fnOf x qual (q0H st) (q0q st) (q0b st) dV kV doc pm an cdv ct/\K.lookup f=some ⟨oc,od,.func fd,osl⟩/\PySem.W.codeIn K cdv qual=true
theorem FunD.okX{P:Program}{w:World}{K:PySem.W.Frag}{mg:Str->Option Value}{base:Heap}{x qual:Str}{st:Stmt}{f:Addr}{fd:FuncData}{N ps:List Str}{k:Nat}{sp:Sp}(F:FunD K x qual st f fd)(S:FnScope N ps (q0b st))(len:∀vs H Q E,sp vs H Q E->vs.length=ps.length)
  (hbody:∀(cdv:Value),fd.code=cdv->∀(A:Around) (outer:List Env) (s:Shared) (H:Hp) (vs:List V) (Q:VK) (E:XK),Room k (A.deeper (envOfC qual (q0b st) s.heap.objs.size f cdv))->sp vs H Q E ->
   ∃t,PSs (cxD P w K mg base N qual (q0b st) f cdv A outer s H E) (q0q st) t/\t {nx:=λ_ H'=>Q .non H',rt:=Q} (start N vs) H):FnOk P w K mg base (CXx P w base) (k+1) f fd ps sp:=by
 obtain⟨oc,od,dV,kV,doc,pm,an,cdv,ct,osl,rfl,lk,hcd⟩:=F.ex;exact z7m lk hcd S len λA outer s H vs Q E hr hsp=>hbody cdv rfl A outer s H vs Q E hr hsp
def popB(sg:Sg)(v:Expr):Bool:=match q2f v with
 | some (ef,[ea],[],pos)=>(match q4C ef with
  | some (o,n,apos)=>n == "pop" && (match q0O o with | some x=>q2X sg 1 x | none=>false)&&corE sg false (.int 0) ea && !q0u ea&&apos.endLine==pos.line
  | none=>false)
 | _=>false
def hunC(sg:Sg)(m:ME)(v:Expr):Bool:=match hunB sg 1 v with | some ea=>corE sg false m ea | none=>false
def hm0:ME:=.cmp .Eq (.ix (.var 0) (.int 0)) (.str "end")
def hm1:ME:=.cmp .Eq (.var 1) (.lst [])
def z1M:Stmt->Option (Expr×List Stmt) | .If c b [] _=>some (c,b) | _=>none
def q9q:Stmt->Option Expr | .Return (some e) _=>some e | _=>none
def z1i:Stmt->Option (Expr×Expr) | .Assign [t] e _=>some (t,e) | _=>none
theorem q6X{s:Stmt}{c:Expr}{b:List Stmt}(h:z1M s=some (c,b)):∃q,s=.If c b [] q:=by
 unfold z1M at h;split at h<;>cases h;exact⟨_,rfl⟩
theorem q5f{s:Stmt}{c:Expr}(h:q9q s=some c):∃q,s=.Return (some c) q:=by
 unfold q9q at h;split at h<;>cases h;exact⟨_,rfl⟩
theorem q7O{s:Stmt}{t e:Expr}(h:z1i s=some (t,e)):∃q,s=.Assign [t] e q:=by
 unfold z1i at h;split at h<;>cases h;exact⟨_,rfl⟩
def lst1{α}:List α->Option α | [a]=>some a | _=>none
def lst2{α}:List α->Option (α×α) | [a,b]=>some (a,b) | _=>none
def lst3{α}:List α->Option (α×α×α) | [a,b,c]=>some (a,b,c) | _=>none
theorem z3J{α}{l:List α}{a:α}(h:lst1 l=some a):l=[a]:=by
 unfold lst1 at h;split at h<;>cases h;rfl
theorem q9Y{α}{l:List α}{a:α×α}(h:lst2 l=some a):l=[a.1,a.2]:=by
 unfold lst2 at h;split at h<;>cases h;rfl
theorem z3z{α}{l:List α}{a:α×α×α}(h:lst3 l=some a):l=[a.1,a.2.1,a.2.2]:=by
 unfold lst3 at h;split at h<;>cases h;rfl
def hunP(b:List Stmt):Option (Expr×Expr×Expr×Expr×Str×Expr×Expr):=(lst3 b).bind λs=>(z1M s.1).bind λi=>(lst2 i.2).bind λt=>(z1M t.1).bind λj=>(lst1 j.2).bind λr=>(q9q r).bind λe1=>(q9q t.2).bind λe2=>(z1i s.2.1).bind λa=>(q0O a.1).bind λx=>(q9q s.2.2).bind λe4=>some (i.1,j.1,e1,e2,x,a.2,e4)
theorem z4h{b:List Stmt}{c c2 e1 e2 e3 e4:Expr}{x:Str}(h:hunP b=some (c,c2,e1,e2,x,e3,e4)):∃q1 q2 q3 q4 q5 q6 q7,b=[.If c [.If c2 [.Return (some e1) q1] [] q2,.Return (some e2) q3] [] q4,.Assign [.Name x q5] e3 q6,.Return (some e4) q7]:=by
 unfold hunP at h;obtain⟨s,h1,h⟩:=Option.bind_eq_some_iff.mp h;obtain⟨i,h2,h⟩:=Option.bind_eq_some_iff.mp h;obtain⟨t,h3,h⟩:=Option.bind_eq_some_iff.mp h;obtain⟨j,h4,h⟩:=Option.bind_eq_some_iff.mp h;obtain⟨r,h5,h⟩:=Option.bind_eq_some_iff.mp h;obtain⟨e1',h6,h⟩:=Option.bind_eq_some_iff.mp h;obtain⟨e2',h7,h⟩:=Option.bind_eq_some_iff.mp h;obtain⟨a,h8,h⟩:=Option.bind_eq_some_iff.mp h;obtain⟨x',h9,h⟩:=Option.bind_eq_some_iff.mp h;obtain⟨e4',h0,h⟩:=Option.bind_eq_some_iff.mp h;cases h;obtain⟨q4,h2⟩:=q6X h2;obtain⟨q2,h4⟩:=q6X h4;obtain⟨q1,h6⟩:=q5f h6;obtain⟨q3,h7⟩:=q5f h7;obtain⟨q6,h8⟩:=q7O h8;obtain⟨q5,h9⟩:=q0o h9;obtain⟨q7,h0⟩:=q5f h0;refine⟨q1,q2,q3,q4,q5,q6,q7,?_⟩;rw[z3z h1,h2,q9Y h3,h4,z3J h5,h6,h7,h8,h9,h0]
def corH(sg:Sg)(b:List Stmt):Bool:=match hunP b with
 | some (c,c2,e1,e2,x,e3,e4)=>
  corE sg false hm0 c&&corE sg false hm1 c2&&corE sg false (.var 0) e1&&popB sg e2&&sg.N[2]? == some x&&locB sg x && !q4D e3&&hunC sg (.ix (.var 0) (.int 3)) e3 &&
  (match q3i e4 with
   | some [a,b,c,d,e]=>corE sg false (.str "ask") a&&corE sg false (.ix (.var 0) (.int 1)) b&&corE sg false (.ix (.var 0) (.int 2)) c&&corE sg false (.var 2) d&&hunC sg (.ix (.var 0) (.int 4)) e && !q0u a && !q0u b && !q0u c && !q0u d && !q0u e
   | _=>false)
 | none=>false
def hG:Gs:={con:=[],cls:=[],hun:=true}
structure HStands(K:PySem.W.Frag)(mg:Str->Option Value)(fa:Addr)(fd:FuncData)(ps:List Str):Prop where
 mg:mg q0U=some (.ref fa)
 kp:PySem.W.keepIn K (.ref fa)=true
 bi:q1q K fd ps []
 np:ps.length=2
 ex:∃qual st N,FunD K q0U qual st fa fd/\FnScope N ps (q0b st)/\N.length=3/\corH ⟨N,(q0b st).names,[],[],[],true,true⟩ (q0q st)=true
theorem q9G{k:Nat}{d:DV}{l:List DV}:q6q k q2O [d,.lst l]=(q2P k d l).map λr=>.v r.1 false:=by
 show(if q2O=q2O then _ else none)=_;exact if_pos rfl
def hδ(d:DV)(ds:List DV)(x:Sv):List Sv:=[.val d,.own (.lst ds),x]
theorem z4k{D:Dm}{H:Hp}{O:List Addr}{p:Addr}{v:V}{d:DV}{ds:List DV}{xs:List V}(ho:Hdn O H)(hp:p∉O)(hx:H p=some (.lst xs))(r:Rep D (L2.wo (O++[p]) H) d v)(rs:RepL D (L2.wo (O++[p]) H) ds xs):RSt D H [some v,some (.ref p),none] (hδ d ds .no) O [p]:=by
 have two:∀(i:Nat) d',(hδ d ds .no)[i]? = some (.own d')->i=1/\d'=.lst ds:=λi d' h=>by
  match i with
  | 0=>cases h
  | 1=>cases h;exact⟨rfl,rfl⟩
  | 2=>cases h
  | n+3=>cases h
 refine⟨λi d' h=>?_,λi d' h=>?_,λi j a d1 d2 h1 h2 _ _=>(two i d1 h1).1.trans (two j d2 h2).1.symm,RSt.noot λi d' h=>?_,λi d' h=>?_,(λi d' h=>by
  exfalso
  match i with
  | 0=>cases h
  | 1=>cases h
  | 2=>cases h
  | n+3=>cases h),rfl,⟨λa ha=>?_,Same.refl _,λa ha=>?_,λa ha=>?_,ho⟩⟩
 ·match i with
  | 0=>cases h;exact⟨v,rfl,r⟩
  | 1=>cases h
  | 2=>cases h
  | n+3=>cases h
 ·obtain⟨rfl,rfl⟩:=two i d' h;exact⟨p,xs,ds,rfl,rfl,List.mem_singleton.mpr rfl,hx,rs⟩
 ·exfalso
  match i with
  | 0=>cases h
  | 1=>cases h
  | 2=>cases h
  | n+3=>cases h
 ·exfalso
  match i with
  | 0=>cases h
  | 1=>cases h
  | 2=>cases h
  | n+3=>cases h
 ·rcases List.mem_append.mp ha with z | z
  ·exact ho.ne a z
  ·rw[List.mem_singleton.mp z,hx];intro z;cases z
 ·rw[List.mem_singleton.mp ha];exact⟨_,hx,rfl⟩
 ·rw[List.mem_singleton.mp ha];exact hp
theorem z1v{O:List Addr}{p:Addr}{H H':Hp}(s:Same (L2.wo [p] H) H'):Same (L2.wo (O++[p]) H) (L2.wo (O++[p]) H'):=λb o e=>by
 obtain⟨hb,e⟩:=q0v e;rw[q0g hb];exact s b o (by rw[q0g λz=>hb (List.mem_append_right _ z)];exact e)
theorem q3Q{p:Addr}{H H' H2:Hp}(s:Same (L2.wo [p] H) H')(s2:Same (L2.wo [p] H') H2):Same (L2.wo [p] H) H2:=λb o e=>by
 have hb:=(q0v e).1;exact s2 b o (by rw[q0g hb];exact s b o e)
section
variable {F:Nat->List DV->Option Ou} {d:DV} {ds:List DV} {x:Sv} {s:Str}
theorem h_c0{r:List DV}(hp:s.cps.all (· < 0x110000)=true)(hx:ixD (.tup (.str s::r)) (.int 0)=some (.str s)):tstD (evE hG F hm0 (hδ (.tup (.str s::r)) ds x))=some (.ok (decide (s = "end"))):=by
 have e2:evE hG F hm0 (hδ (.tup (.str s::r)) ds x)=some (.ok (.bl (decide (s = "end"))) .strong):=q1K (q1U (q0a rfl) q0k hx) z5F (by
  show(if(DV.plain 60 (.str s)&&DV.plain 60 (.str "end"))=true then some (deq (.str s) (.str "end"))else none)=_;rw[if_pos (by
   rw[Bool.and_eq_true];exact⟨by unfold DV.plain;exact hp,by decide +kernel⟩)]
  rfl)
 rw[e2];rfl
theorem h_c1(hp:DV.plains 59 ds=true):tstD (evE hG F hm1 (hδ d ds x))=some (.ok ds.isEmpty):=by
 have e2:evE hG F hm1 (hδ d ds x)=some (.ok (.bl ds.isEmpty) .strong):=q1K (x:=.lst ds) (y:=.lst []) (z0G rfl) (cy:=.fresh) rfl (by
  show(if(DV.plain 60 (.lst ds)&&DV.plain 60 (.lst []))=true then some (deq (.lst ds) (.lst []))else none)=_;rw[if_pos (by
   rw[Bool.and_eq_true];exact⟨by unfold DV.plain;exact hp,by decide +kernel⟩)]
  cases ds<;>rfl)
 rw[e2];rfl
end
section
variable {P:Program} {w:World} {K:PySem.W.Frag} {mg:Str->Option Value} {base:Heap} {fa:Addr} {fd:FuncData} {ps:List Str}
theorem z6B{sg:Sg}{X:Cx}{E:St->XK}{F:Nat->List DV->Option Ou}{δ:List Sv}{v:Expr}(g:Good sg hG F X E)(hv:popB sg v=true) :
  PE X v (λσ H Q=>∃O W p xs y,RSt X.D H σ δ O W/\σ[1]? = some (some (.ref p))/\H p=some (.lst (y::xs))/\∀H1,Same H H1->Q y (upd H1 p (.lst xs))):=by
 unfold popB at hv;split at hv
 ·rename_i ef ea cpos q;have:=q0A q;subst this;split at hv
  ·rename_i ob n apos q2;have:=q3k q2;subst this;simp only[Bool.and_eq_true,Bool.not_eq_true']at hv;obtain⟨⟨⟨⟨h1,h2⟩,h3⟩,h4⟩,h5⟩:=hv;split at h2
   ·rename_i x q3;obtain⟨np,rfl⟩:=q0o q3;obtain⟨s1,s2,s3,s4⟩:=q2R g h2;have hn:n = "pop":=beq_iff_eq.mp h1;subst hn;have A:PE X ea (dE X.D E δ (.ok (.int 0) .strong)):=(snd (.int 0)).1 g h3 rfl;refine(z4B PySem.F.plainAttrs_list PySem.F.slot_list_pop PySem.F.type_list_pop z0K (q2r s1 s2 s3 s4) (q0T A q3z (q0i h4)) rfl (by rw[q0i h4];rfl) h5 (q0i h4) rfl).weak λσ H Q ⟨O,W,p,xs,y,R,e1,e2,k⟩=>?_
    refine⟨.ref p,e1,.inl ⟨rfl,y::xs,SqL.of e2⟩,O,W,R,λv H1 sm1 gt=>?_⟩;have hv:v=.int 0:=gt.int (R.hid.mono sm1);subst hv;exact⟨p,y::xs,0,0,y,rfl,rfl,sm1 _ _ e2,by decide,by decide,by unfold seqIndex?;simp,rfl,k H1 sm1⟩
   ·cases h2
  ·cases hv
 ·cases hv
def z4n(f:DV->List DV->Option (DV×List DV))(d:DV)(l:List DV):Option (DV×List DV):=match d with
  | .tup [.str s,x]=>if decide (s = "end")&&d.plain 60&&DV.plains 59 l then(match l with
   | []=>some (d,[])
   | y::l'=>some (y,l'))else none
  | .tup [.str s,a,b,c,e]=>if decide (s ≠ "end")&&(s.cps.all (· < 0x110000))then(match f c l with
   | none=>none
   | some (n,l1)=>match f e l1 with
    | none=>none
    | some (y,l2)=>some (.tup [.str "ask",a,b,n,y],l2))else none
  | _=>none
theorem q8y{k:Nat}{d:DV}{l:List DV}:q2P (k+1) d l=z4n (q2P k) d l:=by
 unfold z4n;rfl
theorem z3F{sg:Sg}{X:Cx}{E:St->XK}{k:Nat}{b:List Stmt}{O:List Addr}{p:Addr}{v:V}{d:DV}{ds:List DV}{xs:List V}{r:DV×List DV}{H:Hp}{Dn:Ends}(g:Good sg hG (q6q k) X E)(hc:corH sg b=true)(hr:Room k X.A)(hm:X.mg q0U=some (.ref fa))(hk:PySem.W.keepIn X.K (.ref fa)=true)(hb:q1q X.K fd ps [])
  (fo:FnOk X.prog X.w X.K X.mg X.base (CXx X.prog X.w X.base) k fa fd ps (spH X.D (q2P k))) (hp:p∉O) (hx:H p=some (.lst xs)) (R:RSt X.D H [some v,some (.ref p),none] (hδ d ds .no) O [p]) (hd:q2P (k+1) d ds=some r)
  (kk:∀v' H' xs',Same (L2.wo [p] H) H'->H' p=some (.lst xs')->Rep X.D (L2.wo (O++[p]) H') r.1 v'->RepL X.D (L2.wo (O++[p]) H') r.2 xs'->Dn.rt v' H'):∃t,PSs X b t/\t Dn [some v,some (.ref p),none] H:=by
 have up:∀{H1},Same H H1->Same (L2.wo [p] H) H1:=λs=>q0Y.trans s;unfold corH at hc;split at hc
 ·rename_i c c2 e1 e2 x e3 e4 hb0;obtain⟨q1,q2,q3,q4,q5,q6,q7,rfl⟩:=z4h hb0;simp only[Bool.and_eq_true,Bool.not_eq_true',beq_iff_eq]at hc;obtain⟨⟨⟨⟨⟨⟨⟨⟨c1,c2'⟩,c3⟩,c4⟩,c5⟩,c6⟩,c7⟩,c8⟩,c9⟩:=hc;rw[q8y]at hd;unfold z4n at hd;split at hd
  ·-- an end
   rename_i s y;split at hd
   ·rename_i hcnd;simp only[Bool.and_eq_true,decide_eq_true_eq]at hcnd;obtain⟨⟨hs,hpl⟩,hpd⟩:=hcnd;have hsp:s.cps.all (· < 0x110000)=true:=by rw[hs];decide +kernel
    have t0:=h_c0 (F:=q6q k) (r:=[y]) (ds:=ds) (x:=.no) hsp rfl;rw[decide_eq_true hs]at t0;have C0:=(snd hm0).2.1 g c1 t0;have C1:=(snd hm1).2.1 g c2' (h_c1 (F:=q6q k) (d:=.tup [.str s,y]) (x:=.no) hpd);cases ds with
    | nil=>
     cases hd;have A1:=(snd (.var 0)).1 (r:=.ok (.tup [.str s,y]) .strong) (δ:=hδ (.tup [.str s,y]) [] .no) g c3 rfl;refine⟨_,q0E (q5S C0 (q0E (q5S C1 (q0E (q4B A1) q2L) q0w) q0w) q0w) q0w,?_⟩;refine⟨O,[p],R,λH1 s1=>iteT ⟨O,[p],R.mono s1,λH2 s2=>iteT ⟨O,[p],(R.mono s1).mono s2,λv1 H3 s3 gt=>?_⟩⟩⟩;have sm:=(s1.trans s2).trans s3;obtain⟨a,xs',ds',z0,z1,z2,z3,z4⟩:=(R.mono sm).own 1 _ rfl;cases z0;cases z1;exact kk v1 H3 xs' (up sm) z3 gt z4
    | cons y1 l'=>
     cases hd;have PP:=z6B (δ:=hδ (.tup [.str s,y]) (y1::l') .no) g c4;refine⟨_,q0E (q5S C0 (q0E (q5S C1 q0w q2L) (q0E (q4B PP) q2L)) q0w) q0w,?_⟩;refine⟨O,[p],R,λH1 s1=>iteT ⟨O,[p],R.mono s1,λH2 s2=>iteF ?_⟩⟩;have sm:=s1.trans s2;obtain⟨a,xs',ds',z0,z1,z2,z3,z4⟩:=(R.mono sm).own 1 _ rfl;cases z0;cases z1;obtain⟨x1,xr,w0,w1,w2⟩:=q0e.mp z4;subst w0;refine⟨O,[p],p,xr,x1,R.mono sm,rfl,z3,λH3 s3=>?_⟩;have hid:Same (L2.wo (O++[p]) H2) (L2.wo (O++[p]) (upd H3 p (.lst xr))):=λb o e=>by obtain⟨hb,e⟩:=q0v e;rw[q0g hb,q0f λz=>hb (by rw[z];exact List.mem_append_right _ (List.mem_singleton.mpr rfl))];exact s3 b o e
     refine kk x1 _ xr (λb o e=>?_) q0n (w1.mono hid) (w2.mono hid);obtain⟨hb,e⟩:=q0v e;rw[q0f λz=>hb (List.mem_singleton.mpr z)];exact s3 b o (sm b o e)
   ·cases hd
  ·-- an ask
   rename_i s a1 a2 a3 a4;split at hd
   ·rename_i hcnd;simp only[Bool.and_eq_true,decide_eq_true_eq]at hcnd;obtain⟨hs,hsp⟩:=hcnd;split at hd
    ·cases hd
    ·rename_i n l1 hd1;split at hd
     ·cases hd
     ·rename_i y l2 hd2;cases hd;have t0:=h_c0 (F:=q6q k) (r:=[a1,a2,a3,a4]) (ds:=ds) (x:=.no) hsp rfl;rw[decide_eq_false hs]at t0;have C0:=(snd hm0).2.1 g c1 t0;unfold hunC at c8;split at c8
      ·rename_i ea1 hq1;have A3:=(snd (.ix (.var 0) (.int 3))).1 (r:=.ok a3 .strong) (δ:=hδ (.tup [.str s,a1,a2,a3,a4]) ds .no) g c8 (q1U (q0a rfl) q0k rfl);have P1:=q7c g rfl hq1 rfl A3 rfl hr hm hk hb fo hd1;split at c9
       ·rename_i b1 b2 b3 b4 b5 qt;simp only[Bool.and_eq_true,Bool.not_eq_true']at c9;obtain⟨⟨⟨⟨⟨⟨⟨⟨⟨f1,f2⟩,f3⟩,f4⟩,f5⟩,g1⟩,g2⟩,g3⟩,g4⟩,g5⟩:=c9;obtain⟨kt,pt,rfl⟩:=q2v qt;unfold hunC at f5;split at f5
        ·rename_i ea2 hq2
         let δ2:=hδ (.tup [.str s,a1,a2,a3,a4]) l1 (.val n)
         have B1:=(snd (.str "ask")).1 (r:=.ok (.str "ask") .strong) (δ:=δ2) g f1 rfl;have B2:=(snd (.ix (.var 0) (.int 1))).1 (r:=.ok a1 .strong) (δ:=δ2) g f2 (q1U (q0a rfl) q0k rfl);have B3:=(snd (.ix (.var 0) (.int 2))).1 (r:=.ok a2 .strong) (δ:=δ2) g f3 (q1U (q0a rfl) q0k rfl);have B4:=(snd (.var 2)).1 (r:=.ok n .strong) (δ:=δ2) g f4 (q0a rfl);have A4:=(snd (.ix (.var 0) (.int 4))).1 (r:=.ok a4 .strong) (δ:=δ2) g f5 (q1U (q0a rfl) q0k rfl);have P2:=q7c (δ:=δ2) g rfl hq2 rfl A4 rfl hr hm hk hb fo hd2;have hloc:=g.loc x c6;refine⟨_,q0E (q5S C0 q0w q2L) (q0E (q7P g.nd (by rw[g.N];exact c5) hloc.1 P1 (q3n c7) hloc.2) (q0E (q4B (q9y (q0T B1 (q0T B2 (q0T B3 (q0T B4 (q0T P2 q3z (q0i g5)) (q0i g4)) (q0i g3)) (q0i g2)) (q0i g1)))) q2L)),?_⟩;refine⟨O,[p],R,λH1 s1=>iteF ?_⟩;refine⟨O,[p],p,R.mono s1,rfl,List.mem_singleton.mpr rfl,λv1 H2 xs1 w1 w2 w3 w4=>?_⟩;have R2:RSt X.D H2 [some v,some (.ref p),some v1] δ2 O [p]:=((R.mono s1).turn (i:=1) rfl rfl (List.mem_singleton.mpr rfl) w1 w2 w4).setVal w3 2;refine⟨O,[p],R2,λu1 H3 s3 gt1=>⟨O,[p],R2.mono s3,λu2 H4 s4 gt2=>⟨O,[p],(R2.mono s3).mono s4,λu3 H5 s5 gt3=>⟨O,[p],((R2.mono s3).mono s4).mono s5,λu4 H6 s6 gt4=>⟨O,[p],p,(((R2.mono s3).mono s4).mono s5).mono s6,rfl,List.mem_singleton.mpr rfl,λu5 H7 xs2 y1 y2 y3 y4=>⟨show 5<=sizeLine by decide,λq hq=>?_⟩⟩⟩⟩⟩⟩;have h76:Same (L2.wo (O++[p]) H6) (L2.wo (O++[p]) H7):=z1v y1;have hqp:q≠p:=λz=>by rw[z,y2]at hq;cases hq
         have hqO:q∉O++[p]:=λz=>by
          rcases List.mem_append.mp z with z | z
          ·have hne:=(((((R2.mono s3).mono s4).mono s5).mono s6).hid.ot q (List.mem_append_left _ z));cases hH:H6 q with
           | none=>exact hne hH
           | some o=>
            have:=y1 q o (by rw[q0g (by rw[List.mem_singleton];exact hqp)];exact hH);rw[hq]at this;cases this
          ·exact hqp (List.mem_singleton.mp z)
         have hup:Same (L2.wo (O++[p]) H7) (L2.wo (O++[p]) (upd H7 q (.tup [u1,u2,u3,u4,u5]))):=(q0m hq).wo;refine kk (.ref q) _ xs2 ?_ (by rw[q0f (Ne.symm hqp)];exact y2) (q0C.mpr ⟨q,_,rfl,SqT.of (by rw[q0g hqO];exact q0n),?_⟩) (y4.mono hup)
         ·refine Same.trans (q3Q (q3Q (up s1) w1) ?_) (q0m hq);exact q3Q (q0Y.trans (((s3.trans s4).trans s5).trans s6)) y1
         ·have m1:Rep X.D (L2.wo (O++[p]) H3) (.str "ask") u1:=gt1;have m2:Rep X.D (L2.wo (O++[p]) H4) a1 u2:=gt2;have m3:Rep X.D (L2.wo (O++[p]) H5) a2 u3:=gt3;have m4:Rep X.D (L2.wo (O++[p]) H6) n u4:=gt4;have n1:=Rep.mono hup (Rep.mono h76 (Rep.mono s6.wo (Rep.mono s5.wo (Rep.mono s4.wo m1))));have n2:=Rep.mono hup (Rep.mono h76 (Rep.mono s6.wo (Rep.mono s5.wo m2)));have n3:=Rep.mono hup (Rep.mono h76 (Rep.mono s6.wo m3));have n4:=Rep.mono hup (Rep.mono h76 m4);exact q0e.mpr ⟨_,_,rfl,n1,q0e.mpr ⟨_,_,rfl,n2,q0e.mpr ⟨_,_,rfl,n3,q0e.mpr ⟨_,_,rfl,n4,RepL.one (Rep.mono hup y3)⟩⟩⟩⟩
        ·cases f5
       ·cases c9
      ·cases c8
   ·cases hd
  ·cases hd
 ·cases hc
theorem q9p{qual:Str}{st:Stmt}{N:List Str}{k:Nat}(S:HStands K mg fa fd ps)(FS:FnScope N ps (q0b st))(hN3:N.length=3)(hc:corH ⟨N,(q0b st).names,[],[],[],true,true⟩ (q0q st)=true)
  (ih:FnOk P w K mg base (CXx P w base) k fa fd ps (spH ⟨K,mg⟩ (q2P k))) (cdv:Value) (A:Around) (outer:List Env) (s:Shared) (H:Hp) (vs:List V) (Q:VK) (E:XK) (hr:Room k (A.deeper (envOfC qual (q0b st) s.heap.objs.size fa cdv))) (h:spH ⟨K,mg⟩ (q2P (k+1)) vs H Q E) :
  ∃t,PSs (cxD P w K mg base N qual (q0b st) fa cdv A outer s H E) (q0q st) t/\t {nx:=λ_ H'=>Q .non H',rt:=Q} (start N vs) H:=by
 obtain⟨O,p,v,d,ds,xs,r,rfl,ho,hp,hx,r1,r2,hd,kk⟩:=h;have R:=z4k ho hp hx r1 r2;have hst:start N [v,.ref p]=[some v,some (.ref p),none]:=by unfold start;rw[hN3];rfl
 rw[hst];have g:Good ⟨N,(q0b st).names,[],[],[],true,true⟩ hG (q6q k) (cxD P w K mg base N qual (q0b st) fa cdv A outer s H E) (λ_=>E):=by
  refine⟨rfl,FS.nd,λy hy=>?_,λy hy=>?_,λy hy=>⟨?_,.inl rfl⟩,λy hy=>hy,λy hy=>hy,rfl,hr.units,λf y hy=>(by cases hy),(λx hx=>by cases hx),q3s.s,(λx d h=>by cases h),λ_=>PassesOwn.leaving,⟨(λc h=>by cases h),(λt h=>by cases h)⟩,λ_=>⟨rfl,rfl,rfl,q3p,q4R⟩,(λx d h=>by cases h),λ_=>⟨k,fa,fd,ps,q2P k,hr,S.mg,S.kp,S.bi,λd l=>q9G,ih⟩,(λz=>by cases z),λz=>absurd z (by decide)⟩
  ·unfold visB at hy;simp only[Bool.or_eq_true,beq_iff_eq]at hy;rcases hy with(hy | hy) | hy
   ·exact .inl hy
   ·exact .inr (.inl hy)
   ·exact .inr (.inr hy)
  ·unfold gloB at hy;rw[beq_iff_eq]at hy;exact hy
  ·unfold locB at hy;simp only[Bool.or_eq_true,beq_iff_eq]at hy;exact hy
 exact z3F g hc hr S.mg S.kp S.bi ih hp hx R hd kk
theorem z2z(S:HStands K mg fa fd ps):∀k,FnOk P w K mg base (CXx P w base) k fa fd ps (spH ⟨K,mg⟩ (q2P k))
 | 0=>by
  refine⟨λvs H Q E h=>?_,λA outer s H args us vs Q E hr he hb hv h=>?_⟩
  ·obtain⟨_,_,_,_,_,_,_,_,_,_,_,_,_,q,_⟩:=h;cases q
  ·obtain⟨_,_,_,_,_,_,_,_,_,_,_,_,_,q,_⟩:=h;cases q
 | k+1=>by obtain⟨qual,st,N,F,FS,hn,hc⟩:=S.ex;refine F.okX FS (λvs H Q E h=>?_) (λcdv _ A outer s H vs Q E hr h=>q9p S FS hn hc (z2z S k) cdv A outer s H vs Q E hr h);obtain⟨_,_,_,_,_,_,_,e,_⟩:=h;rw[e,S.np];rfl
end
end L2
end
noncomputable section
namespace L2
open PySem PySem.Spec PyProof.Rows
theorem RSt.startM{D:Dm}{H:Hp}{N:List Str}{ds:List DV}{vs:List V}{O:List Addr}{C p dx:Nat}{t:Str}{k:Int}{n:Nat}(hn:n=N.length)(ho:Hdn O H)(hp:p∉O)(hl:t.length<=sizeLine)(hH:H p=some (rdO C dx t k))(r:RepL D (L2.wo (O++[p]) H) ds vs):RSt D H (L2.start N (.ref p::vs)) (L2.startM n (rdD C p dx t k) ds) O [p]:=by
 subst hn;have one:∀(i:Nat) (s:Sv),(L2.startM N.length (rdD C p dx t k) ds)[i]? = some s->(i=0/\s=.od (rdD C p dx t k))\/(∃j d,i=j+1/\ds[j]? = some d/\s=.val d)\/s=.no:=λi s h=>by
  cases i with
  | zero=>cases h;exact .inl ⟨rfl,rfl⟩
  | succ j=>
   have h:(ds.map Sv.val++List.replicate (N.length - (ds.length+1)) Sv.no)[j]? = some s:=h;by_cases hj:j<(ds.map Sv.val).length
   ·rw[List.getElem?_append_left hj,List.getElem?_map]at h;cases q:ds[j]? with
    | none=>rw[q]at h;cases h
    | some d=>rw[q]at h;cases h;exact .inr (.inl ⟨j,d,rfl,q,rfl⟩)
   ·rw[List.getElem?_append_right (by omega),List.getElem?_replicate]at h;split at h
    ·cases h;exact .inr (.inr rfl)
    ·cases h
 refine⟨λi d h=>?_,λi d h=>?_,λi j a d d' h=>?_,RSt.noot λi d h=>?_,λi d h=>?_,λi d h=>?_,?_,⟨λa ha=>?_,Same.refl _,λa ha=>?_,λa ha=>?_,ho⟩⟩
 ·rcases one i _ h with⟨_,z⟩ | ⟨j,d',rfl,q,z⟩ | z
  ·cases z
  ·cases z;obtain⟨v,e1,e2⟩:=r.get q;refine⟨v,?_,e2⟩;unfold L2.start;rw[List.getElem?_append_left (by rw[List.length_map,List.length_cons];exact Nat.succ_lt_succ (List.getElem?_eq_some_iff.mp e1).1),List.getElem?_map];show((vs[j]?).map some)=_;rw[e1];rfl
  ·cases z
 ·rcases one i _ h with⟨_,z⟩ | ⟨_,_,_,_,z⟩ | z<;>cases z
 ·rcases one i _ h with⟨_,z⟩ | ⟨_,_,_,_,z⟩ | z<;>cases z
 ·rcases one i _ h with⟨_,z⟩ | ⟨_,_,_,_,z⟩ | z<;>cases z
 ·rcases one i _ h with⟨_,z⟩ | ⟨_,_,_,_,z⟩ | z<;>cases z
 ·rcases one i _ h with⟨rfl,z⟩ | ⟨_,_,_,_,z⟩ | z
  ·cases z;refine⟨⟨p,_,z7d hl,rfl,List.mem_singleton.mpr rfl,hH⟩,λj d' q=>?_⟩;rcases one j _ q with⟨z,_⟩ | ⟨_,_,_,_,z⟩ | z
   ·exact z
   ·cases z
   ·cases z
  ·cases z
  ·cases z
 ·unfold L2.start L2.startM;rw[List.length_append,List.length_map,List.length_replicate,List.length_cons,List.length_cons,List.length_append,List.length_map,List.length_replicate,r.length];omega
 ·rcases List.mem_append.mp ha with z | z
  ·exact ho.ne a z
  ·rw[List.mem_singleton.mp z,hH];intro z;cases z
 ·rw[List.mem_singleton.mp ha];exact⟨_,hH,rfl⟩
 ·rw[List.mem_singleton.mp ha];exact hp
structure MStands(K:PySem.W.Frag)(bl cl:List Str)(C:Addr)(d:FD)(x:Str)(fa:Addr)(fd:FuncData)(ps:List Str):Prop where
 me:Meth K C x fa
 bi:q1q K fd ps []
 np:d.np=ps.length
 ex:∃qual st N,FunD K x qual st fa fd/\FnScope N ps (q0b st)/\d.n=N.length/\q2T ⟨N,(q0b st).names,[],bl,cl,true,true⟩ d.body (q0q st)=true
section
variable {P:Program} {w:World} {K:PySem.W.Frag} {mg:Str->Option Value} {base:Heap} {G:Gs} {T:List FD} {fu:Nat} {bl cl:List Str} {C:Nat}
theorem q6Z(hC:G.rdc=C)(hmt:G.mtx=true)(hcl:Cls K C)(n1:q1B K C "text")(n2:q1B K C "place")(hs:∀(m:Nat) x,rdN[m]? = some x->∃d fa fd ps,T[m]? = some d/\MStands K bl cl C d x fa fd ps)(hbl:∀x∈bl,mg x=none)(hxf:XFacts K mg G cl)
  (hcon:∀x d,G.con.lookup x=some d->∃u v,mg x=some u/\RelV v u/\∀H,Rep ⟨K,mg⟩ H d v) (hdc:G.dcs=[]) (hh:G.hun=false) (hlm:G.fnl=[]) :
  ∀(k m:Nat) d x fa fd ps,T[m]? = some d->rdN[m]? = some x->MStands K bl cl C d x fa fd ps->FnOk P w K mg base (CXx P w base) k fa fd ps (spM ⟨K,mg⟩ C (runM G T fu k m))
 | 0,m,d,x,fa,fd,ps,h1,h2,S=>by
  refine⟨λvs H Q E h=>?_,λA outer s H args us vs Q E hr he hb hv h=>?_⟩
  ·obtain⟨_,_,_,_,_,_,_,_,_,_,_,_,_,_,q,_⟩:=h;cases q
  ·obtain⟨_,_,_,_,_,_,_,_,_,_,_,_,_,_,q,_⟩:=h;cases q
 | k+1,m,d,x,fa,fd,ps,h1,h2,S=>by
  have ih:=q6Z hC hmt hcl n1 n2 hs hbl hxf hcon hdc hh hlm k;obtain⟨qual,st,N,Fd,FS,hn,hc⟩:=S.ex;refine Fd.okX FS (λvs H Q E h=>?_) (λcdv hcd A outer s H vs Q E hr h=>?_)
  ·obtain⟨O,p,dx,t,k0,args,ds,o,rfl,_,_,_,_,e2,e3,_⟩:=h;rw[q9H h1]at e3;split at e3
   ·rename_i z;rw[List.length_cons,e2.length,←S.np,←z,List.length_cons]
   ·cases e3
  ·obtain⟨O,p,dx,t,k0,args,ds,o,rfl,ho,hp,hl,hH,e2,e3,e4⟩:=h;rw[q9H h1]at e3;split at e3
   ·rename_i hlen;have g:Good ⟨N,(q0b st).names,[],bl,cl,true,true⟩ G (runM G T fu k) (cxD P w K mg base N qual (q0b st) fa cdv A outer s H E) (λ_=>E):=by
     refine⟨rfl,FS.nd,λy hy=>?_,λy hy=>?_,λy hy=>⟨?_,.inl rfl⟩,λy hy=>hy,λy hy=>hy,rfl,hr.units,λf y hy=>(by cases hy),hbl,q3s.s,hcon,λ_=>PassesOwn.leaving,hxf,λ_=>⟨rfl,rfl,rfl,q3p,q4R⟩,(λx kvs q=>by rw[hdc]at q;cases q),(λz=>by rw[hh]at z;cases z),(λz=>by rw[hlm]at z;cases z),λ_=>⟨C,hC,hcl,n1,n2,λ_ m2 n hn2=>?_,λz=>by rw[hmt]at z;cases z⟩⟩
     ·unfold visB at hy;simp only[Bool.or_eq_true,beq_iff_eq]at hy;rcases hy with(hy | hy) | hy
      ·exact .inl hy
      ·exact .inr (.inl hy)
      ·exact .inr (.inr hy)
     ·unfold gloB at hy;rw[beq_iff_eq]at hy;exact hy
     ·unfold locB at hy;simp only[Bool.or_eq_true,beq_iff_eq]at hy;exact hy
     ·obtain⟨d',fa',fd',ps',q1,S'⟩:=hs m2 n hn2;exact⟨k,fa',fd',ps',hr,S'.me,S'.bi,ih m2 d' n fa' fd' ps' q1 hn2 S'⟩
    cases ho':evSs G (runM G T fu k) fu d.body (startM d.n (rdD C p dx t k0) ds)with
    | none=>rw[ho']at e3;cases e3
    | some oo=>
     rw[ho']at e3;refine⟨_,q3e d.body g hc ho',L2.wo [p] H,O,[p],RSt.startM hn ho hp hl hH e2,(λa ha=>z4i ha),(λa ha=>?_),q0Y,?_⟩
     ·rw[q0g (by rw[List.mem_singleton];intro z;exact hp (by rw[←z];exact ha))];exact ho.ne a ha
     ·cases oo with
      | nx δ=>
       cases δ with
       | nil=>cases e3
       | cons s0 δ=>
        cases s0 with
        | od s1=>
         have e3':Rm.of (if q4J (rdD C p dx t k0) s1 then some (Ou.v (.tup [.non,s1]) false)else none)=some o:=e3;split at e3'
         ·rename_i hsm;cases e3';obtain⟨k',rfl⟩:=z0b hsm;intro σ' H' W R fr sm;obtain⟨⟨a,ob,f0,f1,f2,f3⟩,u⟩:=R.od 0 _ rfl;obtain⟨z1,z2,z3⟩:=z5o f0;subst z1 z2;exact e4 .non H' k' rfl sm f3 (show Rep ⟨K,mg⟩ _ .non .non by unfold Rep;rfl)
         ·cases e3'
        | _=>cases e3
      | rt d fr=>cases e3
      | rtt d=>cases e3
      | rtm d s1=>
       have e3':Rm.of (if q4J (rdD C p dx t k0) s1 then some (Ou.v (.tup [d,s1]) false)else none)=some o:=e3;split at e3'
       ·rename_i hsm;cases e3';obtain⟨k',rfl⟩:=z0b hsm;intro v H' a ob sm f0 f3 rp;obtain⟨z1,z2,z3⟩:=z5o f0;subst z1 z2;exact e4 v H' k' rfl sm f3 rp
       ·cases e3'
      | ex c δ=>
       cases e3;exact λσ' H' W Cv hm R fr sm=>e4 H' Cv hm sm
   ·cases e3
end
def fldS(sg:Sg)(f:Str)(s:Stmt)(q:Expr->Bool):Bool:=match z1i s with
 | some (t,v)=>(match q4C t with
  | some (o,n,_)=>n==f&&(match q0O o with | some a=>q2X sg 0 a | none=>false)&&q v
  | none=>false)
 | none=>false
theorem q9t{sg:Sg}{f:Str}{s:Stmt}{q:Expr->Bool}(h:fldS sg f s q=true):∃a p1 p2 p3 v,s=.Assign [.Attribute (.Name a p1) f p2] v p3/\q2X sg 0 a=true/\q v=true:=by
 unfold fldS at h;split at h
 ·rename_i t v h1;split at h
  ·rename_i o n p2 h2;simp only[Bool.and_eq_true,beq_iff_eq]at h;obtain⟨⟨g1,g2⟩,g3⟩:=h;split at g2
   ·rename_i a h3;obtain⟨p1,rfl⟩:=q0o h3;obtain⟨p3,rfl⟩:=q7O h1;rw[q3k h2,g1];exact⟨_,_,_,_,_,rfl,g2,g3⟩
   ·cases g2
  ·cases h
 ·cases h
def corI(sg:Sg)(b:List Stmt):Bool:=match lst2 b with
 | some (s1,s2)=>fldS sg "text" s1 (λv=>match q0O v with | some x=>q2X sg 1 x | none=>false)&&fldS sg "place" s2 (λv=>q2i v==some (.int 0))
 | none=>false
structure IStands(K:PySem.W.Frag)(C:Addr)(fa:Addr)(fd:FuncData)(ps:List Str):Prop where
 mk':Mk K C fa
 bi:q1q K fd ps []
 ps2:ps.length=2
 ex:∃qual st N,FunD K "__init__" qual st fa fd/\FnScope N ps (q0b st)/\N.length=2/\corI ⟨N,(q0b st).names,[],[],[],true,true⟩ (q0q st)=true
section
variable {P:Program} {w:World} {K:PySem.W.Frag} {mg:Str->Option Value} {base:Heap} {C:Nat}
theorem z3r{k:Nat}{fa:Addr}{fd:FuncData}{ps:List Str}(S:IStands K C fa fd ps)(hcl:Cls K C)(n1:q1B K C "text")(n2:q1B K C "place"):FnOk P w K mg base (CXx P w base) (k+1) fa fd ps (spI C):=by
 obtain⟨qual,st,N,Fd,FS,hn,hc⟩:=S.ex;refine Fd.okX FS (λvs H Q E h=>?_) (λcdv hcd A outer s H vs Q E hr h=>?_)
 ·obtain⟨p,dx,t,rfl,_⟩:=h;rw[S.ps2];rfl
 ·obtain⟨p,dx,t,rfl,hH,q⟩:=h;have hst:start N [.ref p,.str t]=[some (.ref p),some (.str t)]:=by unfold start;rw[hn];rfl
  rw[hst];have slot:∀{i:Nat} {x:Str},q2X ⟨N,(q0b st).names,[],[],[],true,true⟩ i x=true->N[i]? = some x/\Vis (q0b st) x/\(x==("__debug__" : Str))=false/\(x==("__classdict__" : Str))=false:=λ{i x} h=>by
   unfold q2X visB at h;simp only[Bool.and_eq_true,Bool.or_eq_true,beq_iff_eq,bne_iff_ne,ne_eq]at h;obtain⟨⟨⟨h1,h2⟩,h3⟩,h4⟩:=h;refine⟨h1,?_,beq_eq_false_iff_ne.mpr h3,beq_eq_false_iff_ne.mpr h4⟩;rcases h2 with(hy | hy) | hy
   ·exact .inl hy
   ·exact .inr (.inl hy)
   ·exact .inr (.inr hy)
  unfold corI at hc;split at hc
  ·rename_i s1 s2 hb;have hb:=q9Y hb;rw[Bool.and_eq_true]at hc;obtain⟨a,p1,p2,p4,vx,rfl,c1,c3⟩:=q9t hc.1;obtain⟨a',p5,p6,p7,v,rfl,c2,c6⟩:=q9t hc.2;split at c3
   rotate_left
   ·cases c3
   rename_i x hx;obtain⟨p3,rfl⟩:=q0o hx;rw[beq_iff_eq]at c6;obtain⟨kc,pc,rfl⟩:=q3v c6;obtain⟨a1,a2,a3,a4⟩:=slot c1;obtain⟨b1,b2,b3,b4⟩:=slot c2;obtain⟨x1,x2,x3,x4⟩:=slot c3;rw[hb]
   let X:=cxD P w K mg base N qual (q0b st) fa cdv A outer s H E
   have V0:PE X (.Name a p1) (tVar 0):=q2r a1 a2 a3 a4;have V0':PE X (.Name a' p5) (tVar 0):=q2r b1 b2 b3 b4;have V1:PE X (.Name x p3) (tVar 1):=q2r x1 x2 x3 x4;have VC:PE X (.Constant (.int 0) kc pc) (tC (.int 0)):=z2s;refine⟨_,q0E (z2c V0 V1 rfl) (q0E (z2c V0' VC rfl) q2L),?_⟩;refine⟨.str t,rfl,.ref p,rfl,p,C,dx,[],rfl,hH,hcl,n1,by decide,?_⟩;refine⟨.ref p,rfl,p,C,dx,[("text",.str t)],rfl,q0n,hcl,n2,(show 1<1000 by decide),?_⟩;rw[z1o];exact q
  ·cases hc
def RdH(P:Program)(w:World)(K:PySem.W.Frag)(mg:Str->Option Value)(base:Heap)(G:Gs):Prop:=∃C:Nat,G.rdc=(C:Int)/\G.mtx=false/\Cls K C/\q1B K C "text" /\ q1B K C "place" /\
 ∀k t j o,Rm.of (G.prs (k+1) [.str t,.int j])=some o->∃fi fdi psi fa fd ps f,mg "Reader" = some (.ref C)/\Mk K C fi/\q1q K fdi psi []/\FnOk P w K mg base (CXx P w base) k fi fdi psi (spI C)/\Meth K C "take_plan" fa/\q1q K fd ps []/\FnOk P w K mg base (CXx P w base) k fa fd ps (spM ⟨K,mg⟩ C f)/\∀a dx,Rm.of (f [rdD C a dx t j])=some (rmAt C a dx t o)
theorem z4R{G:Gs}{T:List FD}{fu k:Nat}{X:Cx}(h:RdH X.prog X.w X.K X.mg X.base G)(hT:T.length<=q2O)(hr:Room k X.A):RdG G (run G T fu k) X:=by
 obtain⟨C,h1,h2,h3,h4,h5,h6⟩:=h;refine⟨C,h1,h3,h4,h5,(λz=>by rw[h2]at z;cases z),λ_ t j o ho=>?_⟩;cases k with
 | zero=>cases ho
 | succ k=>
  have e:run G T fu (k+1) rdIx [.str t,.int j]=G.prs (k+1) [.str t,.int j]:=(by show(match T[rdIx]? with | none=>if rdIx=q5y then lamR (evE G (run G T fu k)) [.str t,.int j]else xR G (k+1) rdIx [.str t,.int j] | some fd=>if[DV.str t,.int j].length=fd.np then Ou.of (evSs G (run G T fu k) fu fd.body (q0J fd.n [.str t,.int j]))else none)=_;rw[List.getElem?_eq_none (Nat.le_trans hT (by decide))];rfl);rw[e]at ho;obtain⟨fi,fdi,psi,fa,fd,ps,f,w2,w3,w4,w5,w6,w7,w8,w9⟩:=h6 k t j o ho;exact⟨k,fi,fdi,psi,fa,fd,ps,f,hr,w2,w3,w4,w5,w6,w7,w8,w9⟩
theorem z8i{G G2:Gs}{T2:List FD}{fu:Nat}{bl cl:List Str}{fi:Addr}{fdi:FuncData}{psi:List Str}(hC:G.rdc=C)(hC2:G2.rdc=C)(hm:G.mtx=false)(hm2:G2.mtx=true)(hcl:Cls K C)(n1:q1B K C "text")(n2:q1B K C "place")(hmg:mg "Reader" = some (.ref C))(I:IStands K C fi fdi psi)
  (hs:∀(m:Nat) x,rdN[m]? = some x->∃d fa fd ps,T2[m]? = some d/\MStands K bl cl C d x fa fd ps) (hbl:∀x∈bl,mg x=none) (hxf:XFacts K mg G2 cl)
  (hcon:∀x d,G2.con.lookup x=some d->∃u v,mg x=some u/\RelV v u/\∀H,Rep ⟨K,mg⟩ H d v) (hdc:G2.dcs=[]) (hh:G2.hun=false) (hlm:G2.fnl=[])
  (hp:∀k t j o,Rm.of (G.prs (k+1) [.str t,.int j])=some o->∀a dx,Rm.of (runM G2 T2 fu k 4 [rdD C a dx t j])=some (rmAt C a dx t o)):RdH P w K mg base G:=by
 refine⟨C,hC,hm,hcl,n1,n2,λk t j o ho=>?_⟩;have h4:=hp k t j o ho;obtain⟨d,fa,fd,ps,q1,S⟩:=hs 4 "take_plan" rfl;cases k with
 | zero=>cases h4 0 0
 | succ k=>exact⟨fi,fdi,psi,fa,fd,ps,_,hmg,I.mk',I.bi,z3r I hcl n1 n2,S.me,S.bi,q6Z hC2 hm2 hcl n1 n2 hs hbl hxf hcon hdc hh hlm (k+1) 4 d "take_plan" fa fd ps q1 rfl S,h4⟩
theorem XFacts.of_cls{G G':Gs}{cl:List Str}(h:G'.cls=G.cls)(f:XFacts K mg G cl):XFacts K mg G' cl:=by
 have e:∀c t,q1H G' c t=q1H G c t:=λc t=>by unfold q1H;rw[h]
 refine⟨λc hc=>?_,f.all⟩;rw[h]at hc;obtain⟨C,o⟩:=f.one c hc;exact⟨C,o.mc,o.ck,o.rk,λt ht Ct m=>by rw[e];exact o.own t ht Ct m,by rw[e];exact o.blt⟩
end
end L2
end
noncomputable section
namespace L2
open PySem PySem.Spec PyProof.Rows
theorem RSt.start{D:Dm}{H:Hp}{N:List Str}{ds:List DV}{vs:List V}{O:List Addr}{n:Nat}(hn:n=N.length)(r:RepL D (L2.wo O H) ds vs)(ho:Hdn O H):RSt D H (L2.start N vs) (q0J n ds) O []:=by
 subst hn;have ino:∀(i:Nat) ds',(q0J N.length ds)[i]? ≠ some (.own ds'):=λi ds' h=>by
  unfold q0J at h;by_cases hi:i<(ds.map Sv.val).length
  ·rw[List.getElem?_append_left hi,List.getElem?_map]at h;cases q:ds[i]? with
   | none=>rw[q]at h;cases h
   | some d=>rw[q]at h;cases h
  ·rw[List.getElem?_append_right (by omega),List.getElem?_replicate]at h;split at h<;>cases h
 have iot:∀(i:Nat) ds',(q0J N.length ds)[i]? ≠ some (.ot ds'):=λi ds' h=>by
  unfold q0J at h;by_cases hi:i<(ds.map Sv.val).length
  ·rw[List.getElem?_append_left hi,List.getElem?_map]at h;cases q:ds[i]? with
   | none=>rw[q]at h;cases h
   | some d=>rw[q]at h;cases h
  ·rw[List.getElem?_append_right (by omega),List.getElem?_replicate]at h;split at h<;>cases h
 have io2:∀(i:Nat) ds',(q0J N.length ds)[i]? ≠ some (.o2 ds'):=λi ds' h=>by
  unfold q0J at h;by_cases hi:i<(ds.map Sv.val).length
  ·rw[List.getElem?_append_left hi,List.getElem?_map]at h;cases q:ds[i]? with
   | none=>rw[q]at h;cases h
   | some d=>rw[q]at h;cases h
  ·rw[List.getElem?_append_right (by omega),List.getElem?_replicate]at h;split at h<;>cases h
 have iod:∀(i:Nat) ds',(q0J N.length ds)[i]? ≠ some (.od ds'):=λi ds' h=>by
  unfold q0J at h;by_cases hi:i<(ds.map Sv.val).length
  ·rw[List.getElem?_append_left hi,List.getElem?_map]at h;cases q:ds[i]? with
   | none=>rw[q]at h;cases h
   | some d=>rw[q]at h;cases h
  ·rw[List.getElem?_append_right (by omega),List.getElem?_replicate]at h;split at h<;>cases h
 refine⟨λi d h=>?_,λi ds' h=>absurd h (ino i ds'),λi j a d1 d2 h=>absurd h (ino i d1),RSt.noot iot,λi d h=>absurd h (io2 i d),λi d h=>absurd h (iod i d),?_,⟨λa ha=>ho.ne a (by simpa using ha),Same.refl _,λa ha=>(nomatch ha),λa ha=>(nomatch ha),ho⟩⟩
 ·unfold q0J at h;by_cases hi:i<(ds.map Sv.val).length
  ·rw[List.getElem?_append_left hi,List.getElem?_map]at h;cases q:ds[i]? with
   | none=>rw[q]at h;cases h
   | some d'=>
    rw[q]at h;cases h;obtain⟨v,e1,e2⟩:=r.get q;refine⟨v,?_,by rw[List.append_nil];exact e2⟩;unfold L2.start;rw[List.getElem?_append_left (by rw[List.length_map];exact(List.getElem?_eq_some_iff.mp e1).1),List.getElem?_map,e1];rfl
  ·rw[List.getElem?_append_right (by omega),List.getElem?_replicate]at h;split at h<;>cases h
 ·unfold L2.start q0J;rw[List.length_append,List.length_append,List.length_map,List.length_map,List.length_replicate,List.length_replicate,r.length]
def DfOk(G:Gs)(T:List FD):Prop:=(∀f ds,G.dfl.lookup f=some ds->∃d,T[f]? = some d/\d.dfl=ds/\ds≠[])/\∀f n,G.kws.lookup f=some n->∃d,T[f]? = some d/\d.kn=some n
structure Stands(K:PySem.W.Frag)(mg:Str->Option Value)(fn bl cl:List Str)(d:FD)(x:Str)(fa:Addr)(fd:FuncData)(ps:List Str):Prop where
 dk:(d.dfl≠[]->∃us dvs,q1q K fd ps us/\Vals dvs us/\∀H,RepL ⟨K,mg⟩ H d.dfl dvs)/\∀n,d.kn=some n->KBinds K fd ps n (q3D n.length ps.length) (q3D n.length ps.length)
 mg:mg x=some (.ref fa)
 kp:PySem.W.keepIn K (.ref fa)=true
 bi:q1q K fd ps []
 np:d.np=ps.length
 ex:∃qual st N,FunD K x qual st fa fd/\FnScope N ps (q0b st)/\d.n=N.length/\q2T ⟨N,(q0b st).names,fn,bl,cl,true,true⟩ d.body (q0q st)=true
section
variable {P:Program} {w:World} {K:PySem.W.Frag} {mg:Str->Option Value} {base:Heap} {G:Gs} {T:List FD} {fu:Nat} {fn bl cl:List Str}
theorem q7a(hT:T.length=fn.length)(hs:∀(i:Nat) d x,T[i]? = some d->fn[i]? = some x->∃fa fd ps,Stands K mg fn bl cl d x fa fd ps)(hbl:∀x∈bl,mg x=none)(hxf:XFacts K mg G cl)
  (hcon:∀x d,G.con.lookup x=some d->∃u v,mg x=some u/\RelV v u/\∀H,Rep ⟨K,mg⟩ H d v) (hdc:∀x kvs,G.dcs.lookup x=some kvs->q8x K w mg x kvs) (hdf:DfOk G T) (hrd:0<=G.rdc->T.length<=q2O/\RdH P w K mg base G) (hh:G.hun=true->T.length<=q2O/\∃fa fd ps,mg q0U=some (.ref fa)/\PySem.W.keepIn K (.ref fa)=true/\q1q K fd ps []/\∀k,FnOk P w K mg base (CXx P w base) k fa fd ps (spH ⟨K,mg⟩ (q2P k)))
  (hlm:G.fnl.isEmpty=true) :
  ∀k,(∀(i:Nat) d x fa fd ps,T[i]? = some d->fn[i]? = some x->Stands K mg fn bl cl d x fa fd ps->FnOk P w K mg base (CXx P w base) k fa fd ps (spF ⟨K,mg⟩ ps.length (run G T fu k i)))
 | 0=>by
  intro i d x fa fd ps h1 h2 S;refine⟨λvs H Q E h=>?_,λA outer s H args us vs Q E hr he hb hv h=>?_⟩
  ·obtain⟨_,_,_,_,_,_,q,_⟩:=h;cases q
  ·obtain⟨_,_,_,_,_,_,q,_⟩:=h;cases q
 | k+1=>by
  have ih:=q7a hT hs hbl hxf hcon hdc hdf hrd hh hlm k;intro i d x fa fd ps h1 h2 S;obtain⟨qual,st,N,F,FS,hn,hc⟩:=S.ex;refine F.okX FS (λvs H Q E h=>?_) (λcdv hcd A outer s H vs Q E hr h=>?_)
  ·obtain⟨O,ds,o,_,e1,e2,_⟩:=h;rw[e2.length,e1]
  ·obtain⟨O,ds,o,ho,e1,e2,e3,e4⟩:=h;have e3':(match T[i]? with | none=>if i=q5y then lamR (evE G (run G T fu k)) ds else xR G (k+1) i ds | some fd=>if ds.length=fd.np then Ou.of (evSs G (run G T fu k) fu fd.body (q0J fd.n ds))else none)=some o:=e3;rw[h1]at e3';have e3'':(if ds.length=d.np then Ou.of (evSs G (run G T fu k) fu d.body (q0J d.n ds))else none)=some o:=e3';rw[if_pos (e1.trans S.np.symm)]at e3'';have g:Good ⟨N,(q0b st).names,fn,bl,cl,true,true⟩ G (run G T fu k) (cxD P w K mg base N qual (q0b st) fa cdv A outer s H E) (λ_=>E):=by
    refine⟨rfl,FS.nd,λy hy=>?_,λy hy=>?_,λy hy=>⟨?_,.inl rfl⟩,λy hy=>hy,λy hy=>hy,rfl,hr.units,λf y hy=>?_,hbl,q3s.s,hcon,λ_=>PassesOwn.leaving,hxf,λ_=>⟨rfl,rfl,rfl,q3p,q4R⟩,hdc,λz=>by
     obtain⟨hl,fa',fd',ps',s1,s2,s3,s4⟩:=hh z;refine⟨k,fa',fd',ps',q2P k,hr,s1,s2,s3,λd l=>?_,s4 k⟩;cases k with
     | zero=>rfl
     | succ k=>
      show(match T[q2O]? with | none=>if q2O=q5y then lamR (evE G (run G T fu k)) [d,.lst l]else xR G (k+1) q2O [d,.lst l] | some fd=>if[d,.lst l].length=fd.np then Ou.of (evSs G (run G T fu k) fu fd.body (q0J fd.n [d,.lst l]))else none)=_;rw[List.getElem?_eq_none hl];show(if q2O=q5y then lamR (evE G (run G T fu k)) [d,.lst l]else xR G (k+1) q2O [d,.lst l])=_;rw[if_neg (by decide)];exact q9G,(λz=>by rw[hlm]at z;cases z),λz=>z4R (hrd z).2 (hrd z).1 hr⟩
    ·unfold visB at hy;simp only[Bool.or_eq_true,beq_iff_eq]at hy;rcases hy with(hy | hy) | hy
     ·exact .inl hy
     ·exact .inr (.inl hy)
     ·exact .inr (.inr hy)
    ·unfold gloB at hy;rw[beq_iff_eq]at hy;exact hy
    ·unfold locB at hy;simp only[Bool.or_eq_true,beq_iff_eq]at hy;exact hy
    ·have hf:f<T.length:=by rw[hT];exact(List.getElem?_eq_some_iff.mp hy).1
     obtain⟨d',hd'⟩:∃d',T[f]? = some d':=⟨_,List.getElem?_eq_getElem hf⟩;obtain⟨fa',fd',ps',S'⟩:=hs f d' y hd' hy;refine⟨k,fa',fd',ps',hr,S'.mg,S'.kp,S'.bi,λds o q=>?_,ih f d' y fa' fd' ps' hd' hy S',?_,?_⟩
     rotate_left
     ·intro ds q;obtain⟨d2,q1,q2,q3⟩:=hdf.1 f ds q;rw[hd']at q1;cases q1;have:=S'.dk.1 (by rw[q2];exact q3);rw[q2]at this;exact this
     ·intro n q;obtain⟨d2,q1,q2⟩:=hdf.2 f n q;rw[hd']at q1;cases q1;exact S'.dk.2 n q2
     cases k with
     | zero=>cases q
     | succ k=>
      have q':(match T[f]? with | none=>if f=q5y then lamR (evE G (run G T fu k)) ds else xR G (k+1) f ds | some fd=>if ds.length=fd.np then Ou.of (evSs G (run G T fu k) fu fd.body (q0J fd.n ds))else none)=some o:=q;rw[hd']at q';have q'':(if ds.length=d'.np then Ou.of (evSs G (run G T fu k) fu d'.body (q0J d'.n ds))else none)=some o:=q';split at q''
      ·rename_i z;rw[z,S'.np]
      ·cases q''
   cases ho':evSs G (run G T fu k) fu d.body (q0J d.n ds)with
   | none=>rw[ho']at e3'';cases e3''
   | some oo=>
    rw[ho']at e3'';refine⟨_,q3e d.body g hc ho',H,O,[],RSt.start hn e2 ho,(λa ha=>(nomatch ha)),ho.ne,Same.refl H,?_⟩;cases oo with
    | nx δ=>cases e3'';exact λσ' H' W R fr sm=>e4 .non H' sm (show Rep ⟨K,mg⟩ (L2.wo O H') .non .non by unfold Rep;rfl)
    | rt d fr=>cases e3'';exact λv H' sm gt=>e4 v H' sm gt
    | rtt d=>cases e3'';exact λv H' sm gt=>e4 v H' sm gt
    | rtm d s=>cases e3''
    | ex c δ=>cases e3'';exact λσ' H' W C hm R fr sm=>e4 H' C hm sm
end
end L2
end
noncomputable section
namespace L2
open PySem PySem.Spec PyProof.Rows
def okD(fn bl cl:List Str)(d:FD)(N ps:List Str)(st:Stmt):Bool:=
 (q0b st).kind == .function && !(q0b st).isCoroutine && !(q0b st).isGenerator&&q3w N&&(N.take ps.length==ps) &&
 ps.all (λx=>(q0b st).names.lookup x==some .local||(q0b st).names.lookup x==some .cell)&&(q0b st).names.all (λy=>!(y.2 == .free)) &&
 d.n==N.length&&d.np==ps.length&&q2T ⟨N,(q0b st).names,fn,bl,cl,true,true⟩ d.body (q0q st)
section
variable {P:Program} {w:World} {K:PySem.W.Frag} {mg:Str->Option Value} {base h:Heap} {G:Gs} {T:List FD} {fu:Nat} {fn bl cl:List Str}
theorem q8d{d:FD}{x:Str}{N ps:List Str}{st:Stmt}{f:Addr}{oc:Value}{od an:Option Addr}{osl:Array (Option Value)}{dV kV doc pm cdv ct:Value}(X:K.In h)(Ns:h.Ns mainGlobals mg)(ok:okD fn bl cl d N ps st=true)
  (a:PySem.W.nsIn K mainGlobals x=some (some (.ref f))) (l:K.lookup f=some ⟨oc,od,.func (PySem.W.fnOf x x (q0H st) (q0q st) (q0b st) dV kV doc pm an cdv ct),osl⟩)
  (c:PySem.W.codeIn K cdv x=true) (k:PySem.W.keepIn K (.ref f)=true)
  (hb:q1q K (PySem.W.fnOf x x (q0H st) (q0q st) (q0b st) dV kV doc pm an cdv ct) ps [])
  (dk:(d.dfl≠[]->∃us dvs,q1q K (PySem.W.fnOf x x (q0H st) (q0q st) (q0b st) dV kV doc pm an cdv ct) ps us/\Vals dvs us/\∀H,RepL ⟨K,mg⟩ H d.dfl dvs)/\∀n,d.kn=some n->KBinds K (PySem.W.fnOf x x (q0H st) (q0q st) (q0b st) dV kV doc pm an cdv ct) ps n (q3D n.length ps.length) (q3D n.length ps.length)) :
  Stands K mg fn bl cl d x f (PySem.W.fnOf x x (q0H st) (q0q st) (q0b st) dV kV doc pm an cdv ct) ps:=by
 unfold okD at ok;simp only[Bool.and_eq_true,beq_iff_eq,Bool.not_eq_true',List.all_eq_true,Bool.or_eq_true,beq_eq_false_iff_ne]at ok;obtain⟨⟨⟨⟨⟨⟨⟨⟨⟨h1,h2⟩,h3⟩,h4⟩,h5⟩,h6⟩,h7⟩,h8⟩,h9⟩,h10⟩:=ok;exact⟨dk,PySem.W.mg_of X Ns a,k,hb,h9,x,st,N,⟨oc,od,dV,kV,doc,pm,an,cdv,ct,osl,rfl,l,c⟩,⟨h1,h2,h3,q1m h4,h5,h6,h7⟩,h8,h10⟩
theorem q0z{d:FD}{x:Str}{N ps:List Str}{st:Stmt}{f:Addr}{oc:Value}{od an:Option Addr}{osl:Array (Option Value)}{kV doc pm cdv ct:Value}(X:K.In h)(Ns:h.Ns mainGlobals mg)(ok:okD fn bl cl d N ps st=true)
  (a:PySem.W.nsIn K mainGlobals x=some (some (.ref f))) (l:K.lookup f=some ⟨oc,od,.func (PySem.W.fnOf x x (q0H st) (q0q st) (q0b st) .none kV doc pm an cdv ct),osl⟩)
  (c:PySem.W.codeIn K cdv x=true) (k:PySem.W.keepIn K (.ref f)=true)
  (hb:∀(kV doc pm:Value) (an:Option Addr) (cdv ct:Value) (us:List Value),us.length=ps.length->bindArgs (PySem.W.fnOf x x (q0H st) (q0q st) (q0b st) .none kV doc pm an cdv ct) ⟨us,[]⟩=pure (ps.zip us)) (e1:d.dfl=[]:=by rfl) (e2:d.kn=none:=by rfl) :
  Stands K mg fn bl cl d x f (PySem.W.fnOf x x (q0H st) (q0q st) (q0b st) .none kV doc pm an cdv ct) ps:=
 q8d X Ns ok a l c k (.all (hb kV doc pm an cdv ct)) ⟨λz=>absurd e1 z,λn z=>by rw[e2]at z;cases z⟩
theorem z5T{fd:FuncData}{ps ns:List Str}(h:∀(s:Shared) (us ws:List Value),K.In s.heap->us.length+ns.length=ps.length->ws.length=ns.length->BindsTo s fd ⟨us,ns.zip ws⟩ (ps.zip (us++ws)))(hp:ps≠[]):KBinds K fd ps ns (q3D ns.length ps.length) (q3D ns.length ps.length):=by
 refine⟨λs us ws hK hl=>?_,λr q=>z0B r q⟩;unfold q3D at hl ⊢;split at hl
 ·rename_i c;rw[if_pos c];exact h s us ws hK c.1 c.2
 ·exact absurd (List.length_eq_zero_iff.mp hl.symm) hp
theorem z3R{G:Gs}{T:List FD}(e1:G.dfl=[]:=by rfl)(e2:G.kws=[]:=by rfl):DfOk G T:=⟨λf ds q=>(by rw[e1]at q;cases q),λf n q=>(by rw[e2]at q;cases q)⟩
theorem z0R{G:Gs}{p:Prop}(e:G.hun=false:=by rfl):G.hun=true->p:=λz=>by rw[e]at z;cases z
def okH(N ps:List Str)(st:Stmt):Bool:=
 (q0b st).kind == .function && !(q0b st).isCoroutine && !(q0b st).isGenerator&&q3w N&&(N.take ps.length==ps) &&
 ps.all (λx=>(q0b st).names.lookup x==some .local||(q0b st).names.lookup x==some .cell)&&(q0b st).names.all (λy=>!(y.2 == .free)) &&
 N.length==3&&ps.length==2&&corH ⟨N,(q0b st).names,[],[],[],true,true⟩ (q0q st)
theorem z4z{N ps:List Str}{st:Stmt}{f:Addr}{oc:Value}{od an:Option Addr}{osl:Array (Option Value)}{kV doc pm cdv ct:Value}(X:K.In h)(Ns:h.Ns mainGlobals mg)(ok:okH N ps st=true)
  (a:PySem.W.nsIn K mainGlobals q0U=some (some (.ref f))) (l:K.lookup f=some ⟨oc,od,.func (PySem.W.fnOf q0U q0U (q0H st) (q0q st) (q0b st) .none kV doc pm an cdv ct),osl⟩)
  (c:PySem.W.codeIn K cdv q0U=true) (k:PySem.W.keepIn K (.ref f)=true)
  (hb:∀(kV doc pm:Value) (an:Option Addr) (cdv ct:Value) (us:List Value),us.length=ps.length->bindArgs (PySem.W.fnOf q0U q0U (q0H st) (q0q st) (q0b st) .none kV doc pm an cdv ct) ⟨us,[]⟩=pure (ps.zip us)) :
  HStands K mg f (PySem.W.fnOf q0U q0U (q0H st) (q0q st) (q0b st) .none kV doc pm an cdv ct) ps:=by
 unfold okH at ok;simp only[Bool.and_eq_true,beq_iff_eq,Bool.not_eq_true',List.all_eq_true,Bool.or_eq_true,beq_eq_false_iff_ne]at ok;obtain⟨⟨⟨⟨⟨⟨⟨⟨⟨h1,h2⟩,h3⟩,h4⟩,h5⟩,h6⟩,h7⟩,h8⟩,h9⟩,h10⟩:=ok;exact⟨PySem.W.mg_of X Ns a,k,.all (hb kV doc pm an cdv ct),h9,q0U,st,N,⟨oc,od,.none,kV,doc,pm,an,cdv,ct,osl,rfl,l,c⟩,⟨h1,h2,h3,q1m h4,h5,h6,h7⟩,h8,h10⟩
def okI(N ps:List Str)(st:Stmt):Bool:=
 (q0b st).kind == .function && !(q0b st).isCoroutine && !(q0b st).isGenerator&&q3w N&&(N.take ps.length==ps) &&
 ps.all (λx=>(q0b st).names.lookup x==some .local||(q0b st).names.lookup x==some .cell)&&(q0b st).names.all (λy=>!(y.2 == .free)) &&
 N.length==2&&ps.length==2&&corI ⟨N,(q0b st).names,[],[],[],true,true⟩ (q0q st)
theorem z4A{C:Nat}{d:FD}{x q:Str}{N ps:List Str}{st:Stmt}{f:Addr}{oc:Value}{od an:Option Addr}{osl:Array (Option Value)}{kV doc pm cdv ct:Value}(ok:okD [] bl cl d N ps st=true)
  (a:PySem.W.findIn K (.ref C) x=some (some (.ref f))) (i:PySem.W.isFn K (.ref f)=true) (k:PySem.W.keepIn K (.ref f)=true) (l:K.lookup f=some ⟨oc,od,.func (PySem.W.fnOf x q (q0H st) (q0q st) (q0b st) .none kV doc pm an cdv ct),osl⟩) (c:PySem.W.codeIn K cdv q=true)
  (hb:∀(kV doc pm:Value) (an:Option Addr) (cdv ct:Value) (us:List Value),us.length=ps.length->bindArgs (PySem.W.fnOf x q (q0H st) (q0q st) (q0b st) .none kV doc pm an cdv ct) ⟨us,[]⟩=pure (ps.zip us)) :
  MStands K bl cl C d x f (PySem.W.fnOf x q (q0H st) (q0q st) (q0b st) .none kV doc pm an cdv ct) ps:=by
 unfold okD at ok;simp only[Bool.and_eq_true,beq_iff_eq,Bool.not_eq_true',List.all_eq_true,Bool.or_eq_true,beq_eq_false_iff_ne]at ok;obtain⟨⟨⟨⟨⟨⟨⟨⟨⟨h1,h2⟩,h3⟩,h4⟩,h5⟩,h6⟩,h7⟩,h8⟩,h9⟩,h10⟩:=ok;exact⟨⟨a,i,k⟩,.all (hb kV doc pm an cdv ct),h9,q,st,N,⟨oc,od,.none,kV,doc,pm,an,cdv,ct,osl,rfl,l,c⟩,⟨h1,h2,h3,q1m h4,h5,h6,h7⟩,h8,h10⟩
theorem z4y{C:Nat}{q:Str}{N ps:List Str}{st:Stmt}{f:Addr}{oc:Value}{od an:Option Addr}{osl:Array (Option Value)}{kV doc pm cdv ct:Value}(ok:okI N ps st=true)(m:Mk K C f)
  (l:K.lookup f=some ⟨oc,od,.func (PySem.W.fnOf "__init__" q (q0H st) (q0q st) (q0b st) .none kV doc pm an cdv ct),osl⟩) (c:PySem.W.codeIn K cdv q=true)
  (hb:∀(kV doc pm:Value) (an:Option Addr) (cdv ct:Value) (us:List Value),us.length=ps.length->bindArgs (PySem.W.fnOf "__init__" q (q0H st) (q0q st) (q0b st) .none kV doc pm an cdv ct) ⟨us,[]⟩=pure (ps.zip us)) :
  IStands K C f (PySem.W.fnOf "__init__" q (q0H st) (q0q st) (q0b st) .none kV doc pm an cdv ct) ps:=by
 unfold okI at ok;simp only[Bool.and_eq_true,beq_iff_eq,Bool.not_eq_true',List.all_eq_true,Bool.or_eq_true,beq_eq_false_iff_ne]at ok;obtain⟨⟨⟨⟨⟨⟨⟨⟨⟨h1,h2⟩,h3⟩,h4⟩,h5⟩,h6⟩,h7⟩,h8⟩,h9⟩,h10⟩:=ok;exact⟨m,.all (hb kV doc pm an cdv ct),h9,q,st,N,⟨oc,od,.none,kV,doc,pm,an,cdv,ct,osl,rfl,l,c⟩,⟨h1,h2,h3,q1m h4,h5,h6,h7⟩,h8,h10⟩
def HM(K:PySem.W.Frag)(bl cl:List Str)(C:Nat)(T:List FD)(fs:List Str):Prop:=∀(i:Nat) x,fs[i]? = some x->∃d fa fd ps,T[i]? = some d/\MStands K bl cl C d x fa fd ps
theorem z8j{C:Nat}:HM K bl cl C [] []:=λi x h=>by cases h
theorem z6L{C:Nat}{d:FD}{x:Str}{fs:List Str}{fa:Addr}{fd:FuncData}{ps:List Str}(h:MStands K bl cl C d x fa fd ps)(t:HM K bl cl C T fs):HM K bl cl C (d::T) (x::fs):=λi x' h1=>by
 cases i with
 | zero=>cases h1;exact⟨_,_,_,_,rfl,h⟩
 | succ i=>exact t i x' h1
theorem z3w{G:Gs}{p:Prop}(e:G.rdc = -1:=by rfl):0<=G.rdc->p:=λz=>by rw[e]at z;exact absurd z (by decide)
def HS(K:PySem.W.Frag)(mg:Str->Option Value)(fn bl cl:List Str)(T:List FD)(fs:List Str):Prop:=∀(i:Nat) d x,T[i]? = some d->fs[i]? = some x->∃fa fd ps,Stands K mg fn bl cl d x fa fd ps
theorem z5Y{fs:List Str}:HS K mg fn bl cl [] fs:=λi d x h=>by cases h
theorem q1a{d:FD}{x:Str}{fs:List Str}{fa:Addr}{fd:FuncData}{ps:List Str}(h:Stands K mg fn bl cl d x fa fd ps)(t:HS K mg fn bl cl T fs):HS K mg fn bl cl (d::T) (x::fs):=λi d' x' h1 h2=>by
 cases i with
 | zero=>cases h1;cases h2;exact⟨_,_,_,h⟩
 | succ i=>exact t i d' x' h1 h2
theorem z6y{H:Hp}:L2.wo [] H=H:=by
 funext b
 unfold L2.wo;simp
def HC(K:PySem.W.Frag)(mg:Str->Option Value)(c:List (Str×DV)):Prop:=∀x d,c.lookup x=some d->∃u v,mg x=some u/\RelV v u/\∀H,Rep ⟨K,mg⟩ H d v
theorem z3q:HC K mg []:=λx d h=>by cases h
theorem z6F{c:List (Str×DV)}{y:Str}{d:DV}(h:∃u v,mg y=some u/\RelV v u/\∀H,Rep ⟨K,mg⟩ H d v)(t:HC K mg c):HC K mg ((y,d)::c):=λx d' q=>by
 rw[List.lookup_cons]at q;split at q
 ·rename_i e;cases q;rw[eq_of_beq e];exact h
 ·exact t x d' q
def OneL(K:PySem.W.Frag)(mg:Str->Option Value)(G:Gs)(cl:List Str)(l:List (Str×List Str)):Prop:=∀c,(l.lookup c).isSome=true->∃C,XOne K mg G cl c C
theorem z3D{cl:List Str}:OneL K mg G cl []:=λc h=>by cases h
theorem z6H{cl:List Str}{c:Str}{b:List Str}{l:List (Str×List Str)}(h:∃C,XOne K mg G cl c C)(t:OneL K mg G cl l):OneL K mg G cl ((c,b)::l):=λc' q=>by
 rw[List.lookup_cons]at q;split at q
 ·rename_i e;rw[eq_of_beq e];exact h
 ·exact t c' q
def AllL(mg:Str->Option Value)(l:List Str):Prop:=∀t∈l,∃Ct,mg t=some (.ref Ct)
theorem z2W:AllL mg []:=λt h=>by cases h
theorem all_cons{t:Str}{l:List Str}(h:∃Ct,mg t=some (.ref Ct))(r:AllL mg l):AllL mg (t::l):=λt' q=>by
 rcases List.mem_cons.mp q with e | e
 ·rw[e];exact h
 ·exact r t' e
def OwnL(K:PySem.W.Frag)(mg:Str->Option Value)(G:Gs)(c:Str)(C:Addr)(l:List Str):Prop:=∀t∈l,∀Ct,mg t=some (.ref Ct)->PySem.W.kitOne K (.ref C) (.ref Ct)=some (q1H G c t)/\PySem.W.exmOne K (.ref C) (.ref Ct)=some (q1H G c t)
theorem z6U{c:Str}{C:Addr}:OwnL K mg G c C []:=λt h=>by cases h
theorem z6I{c t:Str}{C Ct:Addr}{l:List Str}(m:mg t=some (.ref Ct))(h:PySem.W.kitOne K (.ref C) (.ref Ct)=some (q1H G c t)/\PySem.W.exmOne K (.ref C) (.ref Ct)=some (q1H G c t))(r:OwnL K mg G c C l):OwnL K mg G c C (t::l):=λt' q Ct' m'=>by
 rcases List.mem_cons.mp q with e | e
 ·subst e;cases m.symm.trans m';exact h
 ·exact r t' e Ct' m'
def spS(K:PySem.W.Frag):Sp:=λvs H Q _=>∃(a:Addr) (ns:List Int),vs=[.ref a]/\ns.length<=63/\SqS K H a (ns.map V.int)/\∀H',Q (.bl true) H'
def DCL(K:PySem.W.Frag)(w:World)(mg:Str->Option Value)(l:List (Str×List (Str×Option DV))):Prop:=∀x kvs,l.lookup x=some kvs->q8x K w mg x kvs
theorem z3v{w:World}:DCL K w mg []:=λx kvs h=>by cases h
theorem z6J{w:World}{y:Str}{kv:List (Str×Option DV)}{l:List (Str×List (Str×Option DV))}(h:q8x K w mg y kv)(t:DCL K w mg l):DCL K w mg ((y,kv)::l):=λx kvs q=>by
 rw[List.lookup_cons]at q;split at q
 ·rename_i e;cases q;rw[beq_iff_eq.mp e];exact h
 ·exact t x kvs q
def KVL(K:PySem.W.Frag)(a:Addr)(l:List (Str×Option DV)):Prop:=∀k r,l.lookup k=some r->∃u,PySem.W.nsIn K a k=some u/\KvIs r u
theorem z7y{a:Addr}:KVL K a []:=λk v h=>by cases h
theorem q6C{a:Addr}{k:Str}{r:Option DV}{u:Option Value}{l:List (Str×Option DV)}(h2:PySem.W.nsIn K a k=some u)(h1:KvIs r u)(t:KVL K a l):KVL K a ((k,r)::l):=λk' v' q=>by
 rw[List.lookup_cons]at q;split at q
 ·rename_i e;cases q;rw[beq_iff_eq.mp e];exact⟨_,h2,h1⟩
 ·exact t k' v' q
theorem z6G{a:Addr}{k v:Str}{t:Tok}{l:List (Str×Option DV)}(h1:v.length<=sizeLine)(h2:PySem.W.nsIn K a k=some (some (.str v t)))(r:KVL K a l):KVL K a ((k,some (.str v))::l):=
 q6C h2 ⟨_,.str v,rfl,⟨t,rfl⟩,λD H=>q1e.mpr ⟨rfl,h1⟩⟩ r
theorem z6P{a:Addr}{k:Str}{v:Int}{t:Tok}{l:List (Str×Option DV)}(h2:PySem.W.nsIn K a k=some (some (.int v t)))(r:KVL K a l):KVL K a ((k,some (.int v))::l):=
 q6C h2 ⟨_,.int v,rfl,⟨t,rfl⟩,λD H=>q0R.mpr rfl⟩ r
theorem z8l{a:Addr}{k:Str}{l:List (Str×Option DV)}(h2:PySem.W.nsIn K a k=some none)(r:KVL K a l):KVL K a ((k,none)::l):=q6C h2 rfl r
theorem z0Y{k i:Nat}{d:FD}{x p:Str}{fa:Addr}{fd:FuncData}(hT:T.length=fn.length)(hs:HS K mg fn bl cl T fn)(hbl:∀x∈bl,mg x=none)(hxf:XFacts K mg G cl)
  (hcon:∀x d,G.con.lookup x=some d->∃u v,mg x=some u/\RelV v u/\∀H,Rep ⟨K,mg⟩ H d v) (hdc:∀x kvs,G.dcs.lookup x=some kvs->q8x K w mg x kvs) (hdf:DfOk G T) (hrd:0<=G.rdc->T.length<=q2O/\RdH P w K mg base G) (hh:G.hun=true->T.length<=q2O/\∃fa fd ps,mg q0U=some (.ref fa)/\PySem.W.keepIn K (.ref fa)=true/\q1q K fd ps []/\∀k,FnOk P w K mg base (CXx P w base) k fa fd ps (spH ⟨K,mg⟩ (q2P k))) (h1:T[i]? = some d) (h2:fn[i]? = some x) (S:Stands K mg fn bl cl d x fa fd [p])
  (hlm:G.fnl.isEmpty=true)
  (law:∀ns:List Int,ns.length<=63->run G T fu k i [.scr ns]=some (.v (.bl true) false)):FnOk P w K mg base CX0 k fa fd [p] (spS K):=by
 have R:=(q7a (P:=P) (w:=w) (base:=base) (fu:=fu) hT hs hbl hxf hcon hdc hdf hrd hh hlm k) i d x fa fd [p] h1 h2 S;refine⟨λvs H Q E h=>?_,λA outer s H args us vs Q E hr he hb hv h=>?_⟩
 ·obtain⟨a,ns,rfl,_⟩:=h;rfl
 ·obtain⟨a,ns,rfl,hl,hS,hq⟩:=h;refine codeAny_mono (R.run A outer s H args us [.ref a] Q E0 hr he hb hv ⟨[],[.scr ns],_,(λa ha=>(nomatch ha)),rfl,?_,law ns hl,λv H' _ g=>?_⟩) λr s' q=>?_
  ·refine RepL.one (q1T.mpr ⟨a,rfl,?_⟩);rw[z6y];exact hS
  ·have g':Rep ⟨K,mg⟩ (L2.wo [] H') (.bl true) v:=g;rw[q3X]at g';subst g';exact hq H'
  ·cases r with
   | error e=>
    obtain⟨_,_,_,_,_,_,_,_,_,_,z⟩:=(q:CXx P w base outer H s E0 e s');exact z.elim
   | ok fl=>cases fl<;>first | exact False.elim q | exact q
end
theorem walkE{l:PySem.W.OpenLaw}{q:Program}{loose:List Str}{XP:(Str->Option Value)->Heap->Prop}{YP:World->Heap->Prop}{d:DefRec}{K:Params->PySem.W.Frag}{k:Nat}{p:Str}(hn:l.most=some 63)(hdf:d.params.defaults=[])(hr:Room k callerA)
  (hY:∀(w:World) (h:Heap),YP w h->(K w.params).In h) (htb:∀(w:World) (h:Heap),YP w h->(∀p∈q0I (K w.params),(K w.params).lookup p.1=none/\h.get? p.1=some {cls:=.none,data:=.fields #[]} /\ isCodeTable h p.1)/\((q0I (K w.params)).map (·.1)).Nodup)
  (F:∀(w:World) (mg:Str->Option Value) (fa:Addr) (h:Heap),(K w.params).In h->h.Ns mainGlobals mg->mg d.name=some (.ref fa) ->
   ∃fd:FuncData,(∀(s:Shared) (u:Value),BindsTo s fd ⟨[u],[]⟩ [(p,u)])/\∀base:Heap,(K w.params).In base->base.Ns mainGlobals mg->FnOk l.prog w (K w.params) mg base CX0 k fa fd [p] (spS (K w.params))) :
  PySem.W.WalkO q loose XP YP l.row.toRowW d [] (λf vs=>PySem.call f vs):=
 L2.walk_of (n:=63) (k:=k) (x:=p) (CX:=λ_=>CX0) (sp:=λw=>spS (K w.params)) hn (by decide) hdf hr hY htb F (λ_ _ a ns hl hO hS=>⟨a,ns,rfl,hl,SqS.of hO hS,λ_=>rfl⟩) λ_ _ _ _ _ z=>z
end L2
end
noncomputable section
namespace L2
open PySem PySem.Spec PyProof.Rows
def z4M(K:PySem.W.Frag)(o:Obj)(c:Addr):Option Addr:=match o.cls,o.data with
 | .type "code",.fields vs=>(match(vs[11]?:Option Value),(vs[18]?:Option Value),(vs[7]?:Option Value),(vs[9]?:Option Value),(vs[10]?:Option Value)with
  | some (.ref P),some (.str _ _),some (.int _ _),some (.bool _),some (.int _ _)=>if(c==P)=false/\(K.lookup P).isNone=true then some P else none
  | _,_,_,_,_=>none)
 | _,_=>none
def z6X(K:PySem.W.Frag):Bool:=K.all λp=>match p.2.data with
 | .func fd=>(match fd.code with
  | .ref c=>(match K.lookup c with | some o=>(z4M K o c).isSome | none=>true)
  | _=>true)
 | _=>true
theorem q4f{vs:Array Value}{i:Nat}{v:Value}(h:vs[i]? = some v):vs.getD i .none=v:=by
 rw[Array.getD_eq_getD_getElem?,h];rfl
theorem z8k{K:PySem.W.Frag}{x qual:Str}{st:Stmt}{fa:Addr}{fd:FuncData}(hf:z6X K=true)(F:FunD K x qual st fa fd):∃c P,fd.code=.ref c/\(∀h:Heap,K.In h->PySem.W.CodeHd h c P)/\(P,(qual ++ ".<locals>.") ++ "<lambda>")∈q0I K:=by
 obtain⟨oc,od,dV,kV,doc,pm,an,cdv,ct,osl,e,lk,hc⟩:=F.ex;have hfd:fd.code=cdv:=by rw[e]
 have q:=List.all_eq_true.mp hf _ (q2n lk);dsimp only at q;unfold PySem.W.codeIn at hc;split at hc
 ·rename_i c;rw[hfd]at q;dsimp only at q;split at hc
  ·rename_i cls dct vs sl ho;rw[ho]at q;dsimp only at q;obtain⟨P,hP⟩:=Option.isSome_iff_exists.mp q;unfold z4M at hP;split at hP
   ·rename_i vs' h1 h2;have h2':vs=vs':=by
     have:Data.fields vs=Data.fields vs':=h2;injection this
    subst h2';split at hP
    ·rename_i P' file tf fl tfl b tx ttx k1 k2 k3 k4 k5;split at hP
     ·rename_i cond;cases hP;split at hc
      ·rename_i a n t r hv;have hn:n=qual:=beq_iff_eq.mp hc;subst hn;have k6:vs[1]? = some (.str n t):=by rw[←Array.getElem?_toList,hv];rfl
       refine⟨c,P,hfd,λh X=>⟨_,vs,file,tf,fl,tfl,b,tx,ttx,X _ _ ho,h1,rfl,k1,q4f k1,q4f k2,q4f k3,q4f k4,q4f k5,λz=>?_⟩,?_⟩
       ·rw[z]at cond;have:=cond.1;simp at this
       ·unfold q0I;refine List.mem_filterMap.mpr ⟨_,q2n ho,?_⟩;have h1':cls=Value.type "code":=h1;subst h1';simp only[k1,k6,cond.2,if_true]
      ·cases hc
     ·cases hP
    ·cases hP
   ·cases hP
  ·cases hc
 ·cases hc
theorem z5t{K:PySem.W.Frag}{p:Addr×Str}(h:p∈q0I K):∃(c:Addr) (oc:Obj) (vs:Array Value),(c,oc)∈K/\oc.cls=.type "code" /\ oc.data=.fields vs/\vs[11]? = some (.ref p.1)/\K.lookup p.1=none:=by
 unfold q0I at h;obtain⟨⟨c,oc⟩,hm,e⟩:=List.mem_filterMap.mp h;dsimp only at e;split at e
 ·rename_i vs h1 h2;split at e
  ·rename_i P q t k1 k2;split at e
   ·rename_i z;cases e;exact⟨c,oc,vs,hm,h1,h2,k1,Option.isNone_iff_eq_none.mp z⟩
   ·cases e
  ·cases e
 ·cases e
theorem z1D{K:PySem.W.Frag}(nd:(K.map (·.1)).Nodup){c:Addr}{o:Obj}(h:(c,o)∈K):K.lookup c=some o:=by
 induction K with
 | nil=>cases h
 | cons y l ih=>
  rw[List.map_cons]at nd;have nd':=List.nodup_cons.mp nd;obtain⟨a,b⟩:=y;rw[List.lookup_cons];rcases List.mem_cons.mp h with z | z
  ·cases z;rw[beq_self_eq_true]
  ·have:c≠a:=λe=>nd'.1 (by rw[←e];exact List.mem_map.mpr ⟨_,z,rfl⟩);rw[beq_eq_false_iff_ne.mpr this];exact ih nd'.2 z
theorem htb_of{K T:PySem.W.Frag}{h:Heap}(hk:K.In h)(ht:T.In h)(nd:(K.map (·.1)).Nodup)(hT:(q0I K).map (λp=>T.lookup p.1)=(q0I K).map λ_=>some {cls:=.none,data:=.fields #[]}) :
  ∀p∈q0I K,K.lookup p.1=none/\h.get? p.1=some {cls:=.none,data:=.fields #[]} /\ isCodeTable h p.1:=λp hp=>by
 obtain⟨c,oc,vs,hm,h1,h2,h3,h4⟩:=z5t hp;exact⟨h4,ht _ _ (List.map_inj_left.mp hT p hp),c,oc,vs,hk _ _ (z1D nd hm),h1,h2,h3⟩
theorem in_app{K T:PySem.W.Frag}{h:Heap}(X:PySem.W.Frag.In (T++K) h)(hd:(K.map (·.1)).all (λa=>(T.lookup a).isNone)=true):K.In h/\T.In h:=by
 have app:∀(T K:PySem.W.Frag) a,(T++K).lookup a=(T.lookup a).or (K.lookup a):=λT K a=>by
  induction T with
  | nil=>simp
  | cons y l ih=>
   obtain⟨b,v⟩:=y;rw[List.cons_append,List.lookup_cons,List.lookup_cons];cases hb:a==b with
   | true=>rfl
   | false=>
    exact ih
 refine⟨λa o e=>X a o ?_,λa o e=>X a o ?_⟩
 ·rw[app,Option.isNone_iff_eq_none.mp (List.all_eq_true.mp hd a (List.mem_map.mpr ⟨_,q2n e,rfl⟩)),e];rfl
 ·rw[app,e];rfl
end L2
end
noncomputable section
namespace k32
open PySem L2
def q1w:FD:={n:=1,np:=1,dfl:=[],body:=[.ret (.compi (.var 0) (.one 0) (.rng [.meth .bitLength (.var 0) []]) (.bin .BitAnd (.bin .RShift (.var 1) (.var 0)) (.int 1)) [none,some 0])]}
def q3J:FD:={n:=5,np:=2,dfl:=[],body:=[.set 2 true (.lst []),.fo (.one 3) (.rng [.int 1,.bin .LShift (.int 1) (.bi .len [.var 0])]) [.set 4 false (.call 2 [.var 0,.var 3,.var 1]),.iff (.and [.cmp .NotEq (.var 4) (.int 0),.cmp .Eq (.call 3 [.var 0,.var 4,.var 1]) (.var 3)]) [.app 2 (.tup [.var 3,.var 4])] []],.ret (.var 2)]}
def q1i:FD:={n:=4,np:=3,dfl:=[],body:=[.set 3 false (.call 0 [.var 1]),.ret (.bi .sum [.compi (.bin .LShift (.int 1) (.var 0)) (.one 0) (.rng [.bi .len [.ix (.var 0) (.int 0)]]) (.bi .all [.comp (.cmp .Eq (.ix (.ix (.var 1) (.var 0)) (.var 2)) (.var 3)) (.one 0) (.var 1) [none,some 2,some 0,some 3]]) [none,some 3,some 0,some 2]])]}
def q1Y:FD:={n:=4,np:=3,dfl:=[],body:=[.set 3 false (.call 0 [.var 1]),.ret (.bi .sum [.compi (.bin .LShift (.int 1) (.var 0)) (.one 0) (.rng [.bi .len [.var 0]]) (.bi .all [.comp (.cmp .Eq (.ix (.ix (.var 1) (.var 2)) (.var 0)) (.var 3)) (.one 0) (.var 1) [none,some 2,some 0,some 3]]) [none,some 3,some 0,some 2]])]}
def q4L:FD:={n:=1,np:=1,dfl:=[],body:=[.ret (.and [.isi (.var 0) ["int"],.not (.isi (.var 0) ["bool"])])]}
def q1h:FD:={n:=2,np:=2,dfl:=[],body:=[.iff (.cmp .Lt (.var 1) (.bi .len [.var 0])) [.ret (.ix (.var 0) (.var 1))] [],.ret (.int 0)]}
def q1u:FD:={n:=5,np:=2,dfl:=[],body:=[.set 2 true (.lst []),.set 3 false (.bin .Add (.bin .Mod (.var 0) (.int 2147483647)) (.int 48271)),.fo (.one 4) (.rng [.var 1]) [.set 3 false (.bin .Mod (.bin .Add (.bin .Add (.bin .Mult (.var 3) (.int 48271)) (.bin .Mult (.var 4) (.var 4))) (.int 11)) (.int 2147483647)),.app 2 (.bin .FloorDiv (.var 3) (.int 7))],.ret (.var 2)]}
def q0W:FD:={n:=8,np:=2,dfl:=[],body:=[.set 2 false (.call 6 [.call 5 [.var 0,.int 0],.int 8]),.set 3 false (.bin .Add (.int 1) (.bin .Mod (.ix (.var 2) (.int 0)) (.int 8))),.set 4 false (.bin .Add (.int 1) (.bin .Mod (.ix (.var 2) (.int 1)) (.int 8))),.iff (.cmp .Gt (.bin .Mod (.ix (.var 2) (.int 2)) (.int 4)) (.int 0)) [.set 3 false (.bin .Add (.int 1) (.bin .Mod (.ix (.var 2) (.int 0)) (.int 5)))] [],.set 5 false (.ix (.lst [.int 2,.int 3,.int 10,.int 2]) (.bin .Mod (.ix (.var 2) (.int 3)) (.int 4))),.set 6 true (.comp (.bin .Mod (.var 0) (.var 1)) (.one 0) (.call 6 [.call 5 [.var 0,.int 1],.bin .Mult (.var 3) (.var 4)]) [none,some 5]),.fo (.one 7) (.rng [.bi .min [.bin .Mult (.var 3) (.var 4),.bin .Sub (.bi .len [.var 0]) (.var 1)]]) [.seti 6 (.var 7) (.bin .Mod (.ix (.var 0) (.bin .Add (.var 1) (.var 7))) (.var 5))],.ret (.bi .tuple [.comp (.bi .tuple [.sl (.var 1) (.bin .Mult (.var 0) (.var 2)) (.bin .Add (.bin .Mult (.var 0) (.var 2)) (.var 2))]) (.one 0) (.rng [.var 3]) [none,some 6,some 4]])]}
def q1E:FD:={n:=3,np:=1,dfl:=[],body:=[.set 1 false (.int 1),.fo (.one 2) (.rng [.var 0]) [.set 1 false (.bin .Mult (.var 1) (.int 2))],.ret (.var 1)]}
def q1C:FD:={n:=1,np:=1,dfl:=[],body:=[.ret (.compi (.var 0) (.one 0) (.rng [.int 8]) (.cmp .Eq (.bin .BitAnd (.bin .RShift (.var 1) (.var 0)) (.int 1)) (.int 1)) [none,some 0])]}
def q2w:FD:={n:=3,np:=1,dfl:=[],body:=[.set 1 false (.int 0),.fo (.one 2) (.var 0) [.set 1 false (.bin .Add (.var 1) (.call 8 [.var 2]))],.ret (.var 1)]}
def q0V:FD:={n:=7,np:=2,dfl:=[],body:=[.ses 2,.fo (.one 3) (.rng [.int 1,.call 8 [.bi .len [.var 0]]]) [.set 4 false (.comp (.ix (.var 1) (.var 0)) (.one 0) (.call 9 [.var 3]) [none,some 0]),.set 5 false (.compi (.var 0) (.one 0) (.rng [.bi .len [.ix (.var 0) (.int 0)]]) (.cmp .Eq (.bi .len [.compi (.var 0) (.one 0) (.var 1) (.cmp .NotEq (.ix (.var 0) (.var 1)) (.var 2)) [none,some 0,some 2]]) (.int 0)) [none,some 4,some 1]),.iff (.cmp .NotEq (.var 5) (.lst [])) [.set 6 false (.compi (.var 0) (.one 0) (.rng [.bi .len [.var 0]]) (.cmp .Eq (.bi .len [.compi (.var 0) (.one 0) (.var 1) (.cmp .NotEq (.ix (.ix (.var 1) (.var 2)) (.var 0)) (.var 3)) [none,some 2,some 0,some 3]]) (.int 0)) [none,some 5,some 0,some 1]),.dpt 2 [.call 10 [.var 6],.call 10 [.var 5]] (.bl true)] []],.ret (.srd 2)]}
def q1D:FD:={n:=4,np:=2,dfl:=[],body:=[.iff (.or [.not (.isi (.var 0) ["list"]),.cmp .NotEq (.bi .len [.var 0]) (.bi .len [.var 1])]) [.ret (.bl false)] [],.fo (.many [2,3]) (.zp (.var 0) (.var 1)) [.iff (.or [.not (.isi (.var 2) ["tuple"]),.cmp .NotEq (.bi .len [.var 2]) (.int 2),.not (.call 4 [.ix (.var 2) (.int 0)]),.not (.call 4 [.ix (.var 2) (.int 1)])]) [.ret (.bl false)] [],.iff (.cmp .NotEq (.var 2) (.var 3)) [.ret (.bl false)] []],.ret (.bl true)]}
def z1A:FD:={n:=8,np:=1,dfl:=[],body:=[.set 1 false (.call 7 [.var 0,.int 2]),.set 2 false (.ix (.var 1) (.bin .Mod (.bin .FloorDiv (.call 5 [.var 0,.int 0]) (.int 7)) (.bi .len [.var 1]))),.set 3 false (.ix (.var 2) (.bin .Mod (.bin .FloorDiv (.call 5 [.var 0,.int 1]) (.int 7)) (.bi .len [.var 2]))),.set 4 false (.call 11 [.var 1,.var 3]),.set 5 true (.call 1 [.var 1,.var 3]),.iff (.or [.cmp .Eq (.var 4) (.lst []),.not (.call 13 [.var 5,.var 4])]) [.ret (.bl false)] [],.app 5 (.int 0),.fo (.one 6) (.rng [.int 10]) [.iff (.and [.cmp .Eq (.bi .len [.compi (.var 0) (.one 0) (.var 1) (.cmp .In (.var 1) (.var 0)) [none,some 6]]) (.int 0),.cmp .NotEq (.call 1 [.var 1,.var 6]) (.lst [])]) [.ret (.bl false)] []],.set 7 false (.bin .Mod (.bin .Add (.var 3) (.int 1)) (.int 10)),.iff (.not (.call 13 [.call 1 [.var 1,.var 7],.call 11 [.var 1,.var 7]])) [.ret (.bl false)] [],.ret (.call 13 [.call 1 [.var 1,.var 3],.var 4])]}
def T:List FD:=[q1w,q3J,q1i,q1Y,q4L,q1h,q1u,q0W,q1E,q1C,q2w,q0V,q1w,q1D,z1A]
def G:Gs:={con:=[],cls:=[]}
end k32
namespace k32
open PySem L2
variable {fu k:Nat} {F:Nat->List DV->Option Ou} {δ:List Sv} {ds:List DV} {cl:Cl}
theorem q7y(ns:List Int)(j:Nat):∃v:Int,run G T fu (k+1) 5 [.scr ns,.int j]=some (.v (.int v) false):=by
 rw[q1N (fd:=q1h) rfl rfl];unfold q1h;by_cases h:j<ns.length
 ·refine⟨ns[j],q2Y (z5N (q0S (cl:=.strong) ?_) (q2Q ?_))⟩
  ·simp[evE,evEs,q1P,q4j,q0J,biOk,biD,lenD,cmpD,h]
  ·simp[evS,evE,q1P,q0J,ixD,q2m,h,Re.thnS,frD,retD,Cl.item]
 ·refine⟨0,q2Y (q2h (q0S (cl:=.strong) ?_) (q2Q rfl))⟩;simp[evE,evEs,q1P,q4j,q0J,biOk,biD,lenD,cmpD];omega
theorem z1C(xs:List Int)(v:Int):xs.map DV.int++[.int v]=(xs++[v]).map DV.int:=by rw[List.map_append];rfl
theorem q8r{F:Nat->List DV->Option Ou}{δ:List Sv}{e:ME}{n:Nat}{cl:Cl}(h:evE G F e δ=some (.ok (.int n) cl))(hn:n<=1000):q0X (evE G F (.rng [e]) δ)=some (.ok (upTo 0 n) .fresh):=by
 show q0X (Rs.thn (evEs G F [e] δ) (λl=>(rngD l).map λds=>.ok (.lst ds) .fresh))=_;rw[q0d h q0l,q4j];have hs:(q0N (n:Int)&&decide ((n:Int)<=(mostLen:Int)))=true:=by rw[Bool.and_eq_true,decide_eq_true_iff];refine⟨?_,Int.le_trans (show(n:Int)<=1000 by omega) (by decide)⟩;unfold q0N;rw[Bool.and_eq_true,decide_eq_true_iff,decide_eq_true_iff];exact⟨Int.le_trans (by decide) (Int.natCast_nonneg n),Int.lt_of_le_of_lt (show(n:Int)<=1000 by omega) (by decide)⟩
 show q0X ((if q0N (n:Int)&&decide ((n:Int)<=(mostLen:Int))then some (upTo 0 (n:Int).toNat)else none).map λds=>.ok (.lst ds) .fresh)=_;rw[if_pos hs,Int.toNat_natCast];rfl
theorem z7k{j:Nat}(hj:j<1000):q3C (j:Int) (j:Int)=true:=by unfold q3C;simp;omega
theorem m48(x:Int):q3C x 48271=true:=by unfold q3C;simp
theorem q7e(c:Int)(n:Nat)(hn:n<=1000):∃xs:List Int,xs.length=n/\run G T fu (k+1) 6 [.int c,.int n]=some (.v (.lst (xs.map DV.int)) true):=by
 rw[q1N (fd:=q1u) rfl rfl];obtain⟨δ1,h1,xs,num,z,hl,rfl⟩:=q1x (i:=4) (I:=λj δ=>∃(xs:List Int) (num:Int) (z:Sv),xs.length=j/\δ=[.val (.int c),.val (.int n),.own (.lst (xs.map DV.int)),.val (.int num),z])
  (body:=λδ'=>evSs G (run G T fu k) fu [.set 3 false (.bin .Mod (.bin .Add (.bin .Add (.bin .Mult (.var 3) (.int 48271)) (.bin .Mult (.var 4) (.var 4))) (.int 11)) (.int 2147483647)),.app 2 (.bin .FloorDiv (.var 3) (.int 7))] δ') n 0 (δ:=[.val (.int c),.val (.int n),.own (.lst []),.val (.int (c%2147483647+48271)),.no])
  (λj hj δ I=>by
   obtain⟨xs,num,z,hl,rfl⟩:=I;rw[show(0:Int)+(j:Int)=j by omega];obtain⟨N,hN⟩:∃N:Int,(num*48271+(j:Int)*j+11)%2147483647=N:=⟨_,rfl⟩;obtain⟨D,hD⟩:∃D:Int,N/7=D:=⟨_,rfl⟩;refine⟨_,q0M (q0P (d:=.int N) (cl:=.strong) ?_ rfl) (q0M (z0m (d:=.int D) (cl:=.strong) rfl ?_ rfl (by rw[List.length_map,hl];exact Nat.lt_of_lt_of_le (Nat.lt_of_lt_of_le hj hn) (by decide))) rfl),xs++[D],N,.val (.int j),by rw[List.length_append,hl];rfl,?_⟩
   ·rw[←hN];exact q3E (q4u (q4u (q6O (q0a rfl) q0k (m48 _)) (q6O (q0a rfl) (q0a rfl) (z7k (by omega)))) q0k) q0k (by decide)
   ·rw[←hD];exact z3S (q0a rfl) q0k (by decide)
   ·rw[←z1C];rfl) ⟨[],_,.no,rfl,rfl⟩
 refine⟨xs,hl,?_⟩;unfold q1u;exact q2Y (q0M (q7q rfl) (q0M (q0P (d:=.int (c%2147483647+48271)) (cl:=.strong) (q4u (q3E (q0a rfl) q0k (by decide)) q0k) rfl) (q5T (q8r (n:=n) (q0a rfl) hn) (.inr rfl) h1 (q2Q rfl))))
theorem z0v(n:Nat)(hn:n<=1000):run G T fu (k+1) 8 [.int n]=some (.v (.int ((2^n:Nat):Int)) false):=by
 rw[q1N (fd:=q1E) rfl rfl];obtain⟨δ1,h1,z,rfl⟩:=q1x (i:=2) (I:=λj δ=>∃z:Sv,δ=[.val (.int n),.val (.int ((2^j:Nat):Int)),z])
  (body:=λδ'=>evSs G (run G T fu k) fu [.set 1 false (.bin .Mult (.var 1) (.int 2))] δ') n 0 (δ:=[.val (.int n),.val (.int 1),.no])
  (λj hj δ I=>by
   obtain⟨z,rfl⟩:=I;refine⟨_,q0M (q0P (d:=.int ((2^(j+1):Nat):Int)) (cl:=.strong) ?_ rfl) rfl,_,rfl⟩;rw[show((2^(j+1):Nat):Int)=((2^j:Nat):Int)*2 by rw[Nat.pow_succ];push_cast;rfl];exact q6O (q0a rfl) q0k (by unfold q3C;simp)) ⟨.no,rfl⟩
 unfold q1E;exact q2Y (q0M (q0P (d:=.int 1) (cl:=.strong) rfl rfl) (q5T (q8r (n:=n) (q0a rfl) hn) (.inr rfl) h1 (q2Q (q2H (q0a rfl)))))
theorem q7s{e:ME}{ds:List DV}{c:Cl}(h:evE G F e δ=some (.ok (.lst ds) c)):evE G F (.bi .tuple [e]) δ=some (.ok (.tup ds) c.item):=by
 show Rs.thn (evEs G F [e] δ) (λl=>q4A l)=_;rw[q0d h q0l];rfl
theorem q4q{e:ME}{ds:List DV}{c:Cl}(h:evE G F e δ=some (.ok (.lst ds) c)):evE G F (.bi .len [e]) δ=some (.ok (.int ds.length) .strong):=by
 show Rs.thn (evEs G F [e] δ) (λl=>lenD l)=_;rw[q0d h q0l];rfl
theorem q6u{e:ME}{ds:List DV}{c:Cl}(h:evE G F e δ=some (.ok (.tup ds) c)):evE G F (.bi .len [e]) δ=some (.ok (.int ds.length) .strong):=by
 show Rs.thn (evEs G F [e] δ) (λl=>lenD l)=_;rw[q0d h q0l];rfl
def iD(r:List Int):List DV:=r.map DV.int
def tT(rows:List (List Int)):DV:=.tup (rows.map λr=>.tup (iD r))
def Rect(n m:Nat)(rows:List (List Int)):Prop:=rows.length=n/\∀r∈rows,r.length=m
theorem q6p{r:List Int}{j:Nat}(h:j<r.length):ixD (.tup (iD r)) (.int j)=some (.int (r.getD j 0)):=by
 have hh:(j:Int)<((r.map DV.int).length:Int):=by rw[List.length_map];exact_mod_cast h
 unfold iD;simp only[ixD,atD,q2m,if_pos (Int.natCast_nonneg j),if_pos hh,Option.bind_some,Int.toNat_natCast,List.getElem?_map,List.getElem?_eq_getElem h,Option.map_some,List.getD_eq_getElem?_getD,Option.getD_some]
theorem q7T{rows:List (List Int)}{i:Nat}(h:i<rows.length):ixD (tT rows) (.int i)=some (.tup (iD (rows.getD i []))):=by
 have hh:(i:Int)<((rows.map λr=>DV.tup (iD r)).length:Int):=by rw[List.length_map];exact_mod_cast h
 simp only[tT,ixD,atD,q2m,if_pos (Int.natCast_nonneg i),if_pos hh,Option.bind_some,Int.toNat_natCast,List.getElem?_map,List.getElem?_eq_getElem h,Option.map_some,List.getD_eq_getElem?_getD,Option.getD_some]
theorem q3l{rows:List (List Int)}{i:Nat}(h:i<rows.length):rows.getD i []∈rows:=by
 rw[List.getD_eq_getElem?_getD,List.getElem?_eq_getElem h];exact List.getElem_mem h
theorem q2M(n:Nat):∀r:List Int,DV.plains n (iD r)=true
 | []=>by unfold iD;simp[DV.plains]
 | a::r=>by have q:=q2M n r;unfold iD at q ⊢;rw[List.map_cons];unfold DV.plains;rw[q];cases n<;>rfl
theorem z6M{e:ME}{i:Int}{cl:Cl}(h:evE G F e δ=some (.ok (.int i) cl))(h1:i<=1000)(h2 : -1000<=i):q0X (evE G F (.rng [e]) δ)=some (.ok (upTo 0 i.toNat) .fresh):=by
 show q0X (Rs.thn (evEs G F [e] δ) (λl=>(rngD l).map λds=>.ok (.lst ds) .fresh))=_;rw[q0d h q0l,q4j];have hs:(q0N i&&decide (i<=(mostLen:Int)))=true:=by rw[Bool.and_eq_true,decide_eq_true_iff];refine⟨?_,Int.le_trans h1 (by decide)⟩;unfold q0N;rw[Bool.and_eq_true,decide_eq_true_iff,decide_eq_true_iff];exact⟨Int.le_trans (by decide) h2,Int.lt_of_le_of_lt h1 (by decide)⟩
 show q0X ((if q0N i&&decide (i<=(mostLen:Int))then some (upTo 0 i.toNat)else none).map λds=>.ok (.lst ds) .fresh)=_;rw[if_pos hs];rfl
def q4I(n m:Nat)(ws:List Int):List (List Int):=(List.range n).map λj=>(ws.drop (j*m)).take m
theorem z0r{n m:Nat}{ws:List Int}(h:ws.length=n*m):Rect n m (q4I n m ws):=by
 unfold q4I;refine⟨by rw[List.length_map,List.length_range],λr hr=>?_⟩;obtain⟨j,hj,rfl⟩:=List.mem_map.mp hr;have hj':=List.mem_range.mp hj;rw[List.length_take,List.length_drop,h];have:(j+1)*m<=n*m:=Nat.mul_le_mul_right m hj';rw[Nat.add_mul,Nat.one_mul]at this;omega
theorem z7A{a lo hi:ME}{ds:List DV}{c c1 c2:Cl}{l h:Int}(ha:evE G F a δ=some (.ok (.lst ds) c))(hl:evE G F lo δ=some (.ok (.int l) c1))(hh:evE G F hi δ=some (.ok (.int h) c2)):evE G F (.sl a lo hi) δ=some (.ok (.lst (cutD ds (some l) (some h))) (Cl.anew c c)):=by
 unfold evE;rw[ha,q1P,hl,q1P];show Re.thn (evE G F hi δ) _=_;rw[hh];rfl
theorem z3a{ws:List Int}{n m j:Nat}(h:ws.length=n*m)(hj:j<n):cutD (iD ws) (some ((j:Int)*m)) (some ((j:Int)*m+m))=iD ((ws.drop (j*m)).take m):=by
 have e1:((j:Int)*m)=((j*m:Nat):Int):=by push_cast;rfl
 have e2:((j:Int)*m+m)=((j*m+m:Nat):Int):=by push_cast;rfl
 have le:j*m+m<=n*m:=(by have:(j+1)*m<=n*m:=Nat.mul_le_mul_right m hj;rw[Nat.add_mul,Nat.one_mul]at this;exact this);have len:(iD ws).length=n*m:=by unfold iD;rw[List.length_map,h]
 unfold cutD slIx;rw[e2,e1];simp only[len];rw[if_neg (by omega),if_neg (by omega),Int.toNat_natCast,Int.toNat_natCast,Nat.min_eq_left le,Nat.min_eq_left (show j*m<=n*m by omega),show j*m+m - j*m=m by omega];unfold iD;rw[←List.map_drop,←List.map_take]
theorem z4H{n j:Nat}(h:j<n):q2m n (j:Int)=some j:=by
 unfold q2m;rw[if_pos (Int.natCast_nonneg j),if_pos (by omega),Int.toNat_natCast]
theorem z5B{F:Nat->List DV->Option Ou}{δ:List Sv}{es:List ME}{l:List (DV×Cl)}(h:evEs G F es δ=some (.ok l)):evE G F (.bi .min es) δ=minD l:=by
 have e:evE G F (.bi .min es) δ=Rs.thn (evEs G F es δ) (λl=>minD l):=rfl;rw[e,h];rfl
def nD(l:List Nat):List DV:=l.map λ(j:Nat)=>DV.int (j:Int)
theorem q9J:∀a b:List Int,deqs (iD a) (iD b)=(a==b)
 | [],[]=>rfl
 | [],_::_=>rfl
 | _::_,[]=>rfl
 | x::a,y::b=>by have ih:=q9J a b;unfold iD at ih ⊢;rw[List.map_cons,List.map_cons];unfold deqs;rw[ih];unfold deq;rfl
theorem z8e(a b:List Int):deq (.tup (iD a)) (.tup (iD b))=(a==b):=q9J a b
theorem q4r{n:Nat}:∀{l:List DV},(∀d∈l,d.plain n=true)->DV.plains n l=true
 | [],_=>by unfold DV.plains;rfl
 | d::r,h=>by unfold DV.plains;rw[h d (List.mem_cons_self ..),q4r λx hx=>h x (List.mem_cons_of_mem _ hx)];rfl
theorem q8L(n:Nat)(a:List Int):DV.plain (n+1) (.tup (iD a))=true:=q2M n a
theorem z3y(n:Nat)(a:Int):DV.plain n (.int a)=true:=by cases n<;>(unfold DV.plain;rfl)
theorem q3Z{α:Type}{g:DV->Option Rc}{h f:α->DV}:∀{l:List α},(∀a∈l,g (h a)=some (.item (f a)))->q0B g (l.map h)=some (l.map f)
 | [],_=>rfl
 | a::r,q=>by rw[List.map_cons,List.map_cons];unfold q0B;rw[q a (List.mem_cons_self ..)];show(match q0B g (r.map h)with | none=>none | some xs=>some (f a::xs))=_;rw[q3Z λx hx=>q x (List.mem_cons_of_mem _ hx)]
theorem q5g{α:Type}{l:List α}{h f:α->DV}{elt it:ME}{tg:Tg}{fr:List (Option Nat)}(hw:q0X (evE G F it δ)=some (.ok (l.map h) cl))(hc:cl ≠ .weak)(hl:l.length<=mostLen)
  (q:∀a∈l,∃δ' c,tg.bind (h a) (q0K fr δ)=some δ'/\evE G F elt δ'=some (.ok (f a) c)/\stro (f a) c=true):evE G F (.comp elt tg it fr) δ=some (.ok (.lst (l.map f)) .fresh):=by
 show Ri.thn (q0X (evE G F it δ)) (λds c=>if c=.weak\/mostLen<ds.length then none else q1o (q0B (λd=>(tg.bind d (q0K fr δ)).bind λδ'=>Rc.of (evE G F elt δ')) ds))=_;rw[hw,q5i,if_neg (by rintro(z | z);exact hc z;rw[List.length_map]at z;omega),q3Z (f:=f) (λa ha=>?_)]
 ·rfl
 ·obtain⟨δ',c,e1,e2,e3⟩:=q a ha;rw[e1,Option.bind_some,e2];show(if stro (f a) c then some (Rc.item (f a))else none)=_;rw[if_pos e3]
theorem z0s{e:ME}{c:Cl}{n:Nat}(h:evE G F e δ=some (.ok (.int (n:Int)) c))(hn:n<=1000):q0X (evE G F (.rng [e]) δ)=some (.ok ((List.range n).map λ(j:Nat)=>DV.int (j:Int)) .fresh):=by
 rw[q8r h hn];unfold L2.upTo
 congr 2
 apply List.map_congr_left;intro j _
 congr 1
 omega
theorem z1r(a b:Int):cmpD .NotEq (.int a) (.int b)=some (!(a==b)):=rfl
section
variable {G:Gs} {F:Nat->List DV->Option Ou} {δ:List Sv} {a b:ME} {r:List ME} {cx:Cl} {o:Option Re}
theorem z2V(ha:evE G F a δ=some (.ok (.bl true) cx))(hb:evE G F (.and (b::r)) δ=o):evE G F (.and (a::b::r)) δ=o:=by
 have e:evE G F (.and (a::b::r)) δ=Re.thn (evE G F a δ) (λx c=>andD x c (q2D G F (b::r) δ)):=(by rw[evE,q2D];rfl);have e2:evE G F (.and (b::r)) δ=q2D G F (b::r) δ:=by rw[evE]
 rw[e,ha,q1P,←e2,hb];rfl
theorem z5X(ha:evE G F a δ=some (.ok (.bl false) cx)):evE G F (.and (a::b::r)) δ=some (.ok (.bl false) cx):=by
 have e:evE G F (.and (a::b::r)) δ=Re.thn (evE G F a δ) (λx c=>andD x c (q2D G F (b::r) δ)):=(by rw[evE,q2D];rfl);rw[e,ha,q1P];rfl
theorem z4b(ha:evE G F a δ=o):evE G F (.and [a]) δ=o:=by
 have e:evE G F (.and [a]) δ=evE G F a δ:=by rw[evE,q2D];rfl
 rw[e,ha]
theorem z1N{tg:Tg}{body:List Sv->Option Out}{d:DV}{r:List DV}{δ1 δ2:List Sv}(h1:tg.bind d δ=some δ1)(h2:body δ1=some (.nx δ2)):q1L tg body (d::r) δ=q1L tg body r δ2:=by
 show(match tg.bind d δ with | none=>none | some δ1=>match body δ1 with | some (.nx δ2)=>q1L tg body r δ2 | o=>o)=_;rw[h1];show(match body δ1 with | some (.nx δ2)=>q1L tg body r δ2 | o=>o)=_;rw[h2]
theorem or_f(ha:evE G F a δ=some (.ok (.bl false) cx))(hb:evE G F (.or (b::r)) δ=o):evE G F (.or (a::b::r)) δ=o:=by
 unfold evE at hb ⊢;unfold evOr;rw[ha];exact hb
theorem or_1(ha:evE G F a δ=o):evE G F (.or [a]) δ=o:=by
 unfold evE evOr;exact ha
end
theorem q5P{α:Type}{g:DV->Option Rc}{h f:α->DV}{p:α->Bool}:∀{l:List α},(∀a∈l,g (h a)=some (if p a then .item (f a)else .skip))->q0B g (l.map h)=some ((l.filter p).map f)
 | [],_=>rfl
 | a::l,q=>by
  have h0:=q a (List.mem_cons_self ..);have ih:=q5P (g:=g) (h:=h) (f:=f) (p:=p) (l:=l) λb hb=>q b (List.mem_cons_of_mem _ hb);cases e:p a with
  | true=>
   rw[e]at h0;show(match g (h a)with | none=>none | some .skip=>q0B g (l.map h) | some (.item x)=>match q0B g (l.map h)with | none=>none | some xs=>some (x::xs))=_;rw[h0,List.filter_cons_of_pos e,List.map_cons];show(match q0B g (l.map h)with | none=>none | some xs=>some (f a::xs))=_;rw[ih]
  | false=>
   rw[e]at h0;show(match g (h a)with | none=>none | some .skip=>q0B g (l.map h) | some (.item x)=>match q0B g (l.map h)with | none=>none | some xs=>some (x::xs))=_;rw[h0,List.filter_cons_of_neg (by rw[e];simp)];exact ih
theorem q1k{α:Type}{l:List α}{h f:α->DV}{p:α->Bool}{elt it cd:ME}{tg:Tg}{fr:List (Option Nat)}(hw:q0X (evE G F it δ)=some (.ok (l.map h) cl))(hc:cl ≠ .weak)(hl:l.length<=mostLen)
  (q:∀a∈l,∃δ',tg.bind (h a) (q0K fr δ)=some δ'/\tstD (evE G F cd δ')=some (.ok (p a))/\∃c,evE G F elt δ'=some (.ok (f a) c)/\stro (f a) c=true):evE G F (.compi elt tg it cd fr) δ=some (.ok (.lst ((l.filter p).map f)) .fresh):=by
 show Ri.thn (q0X (evE G F it δ)) (λds c=>if c=.weak\/mostLen<ds.length then none else q1o (q0B (λd=>(tg.bind d (q0K fr δ)).bind λδ'=>Rc.test (tstD (evE G F cd δ')) (Rc.of (evE G F elt δ'))) ds))=_;rw[hw,q5i,if_neg (by rintro(z | z);exact hc z;rw[List.length_map]at z;omega),q5P (f:=f) (p:=p) (λa ha=>?_)]
 ·rfl
 ·obtain⟨δ',e1,e2,c,e3,e4⟩:=q a ha;rw[e1,Option.bind_some,e2,e3];cases p a with
  | false=>rfl
  | true=>
   show(if stro (f a) c then some (Rc.item (f a))else none)=_;rw[if_pos e4];rfl
theorem z1q(r o:Nat):Builtin.bitAnd r o=((r &&& o:Nat):Int):=by
 unfold Builtin.bitAnd;rw[decide_eq_true (Int.natCast_nonneg r),decide_eq_true (Int.natCast_nonneg o)];rfl
theorem z1W(o i:Nat):Builtin.bitAnd ((o:Int)/2^((i:Int).toNat)) 1=if o.testBit i then 1 else 0:=by
 have e:(o:Int)/2^((i:Int).toNat)=((o/2^i:Nat):Int):=(by rw[Int.toNat_natCast];push_cast;rfl);rw[e,show(1:Int)=((1:Nat):Int)from rfl,z1q,Nat.and_one_is_mod,Nat.testBit_eq_decide_div_mod_eq];have:o/2^i%2=0\/o/2^i%2=1:=by omega
 rcases this with h | h<;>rw[h]<;>rfl
def cs(c:Nat):List Nat:=(List.range (c.log2+1)).filter c.testBit
theorem q4M(c:Nat)(h0:0<c)(h:c<2^64):run G T fu (k+1) 0 [.int c]=some (.v (.lst (nD (cs c))) true):=by
 rw[q1N (fd:=q1w) rfl rfl];have hb:q3Y (c:Int)=((c.log2+1:Nat):Int):=by unfold q3Y;rw[if_neg (by omega),Int.natAbs_natCast];push_cast;rfl
 have hl:c.log2<64:=(Nat.log2_lt (by omega)).mpr h;have hm:evE G (run G T fu k) (.meth .bitLength (.var 0) []) (q0J 1 [.int c])=some (.ok (.int ((c.log2+1:Nat):Int)) .strong):=(by rw[←hb];rfl);have cm:=z1G (G:=G) (F:=run G T fu k) (δ:=q0J 1 [.int c]) (elt:=.var 0) (tg:=.one 0) (it:=.rng [.meth .bitLength (.var 0) []]) (cd:=.bin .BitAnd (.bin .RShift (.var 1) (.var 0)) (.int 1)) (fr:=[none,some 0]) (p:=λd=>match d with | .int i=>c.testBit i.toNat | _=>false) (cl:=.fresh) (ds:=upTo 0 (c.log2+1))
  (q8r hm (by omega)) (by decide) (by unfold L2.upTo;rw[List.length_map,List.length_range];exact Nat.le_trans (show c.log2+1<=64 by omega) (by decide)) (λd hd=>by
   obtain⟨j,hj,rfl⟩:=q7b hd;rw[show(0:Int)+(j:Int)=j by omega];refine⟨[.val (.int j),.val (.int c)],rfl,?_,rfl⟩;have e1:evE G (run G T fu k) (.bin .RShift (.var 1) (.var 0)) [.val (.int j),.val (.int c)]=some (.ok (.int ((c:Int)/2^((j:Int).toNat))) .strong):=q2E (q0a rfl) (q0a rfl) (show(if 0<=(j:Int)then some (Re.ok (.int ((c:Int)/2^((j:Int).toNat))) Cl.strong)else none)=_ from if_pos (Int.natCast_nonneg j));have e2:evE G (run G T fu k) (.bin .BitAnd (.bin .RShift (.var 1) (.var 0)) (.int 1)) [.val (.int j),.val (.int c)]=some (.ok (.int (if c.testBit j then 1 else 0)) .strong):=q2E e1 q0k (by rw[←z1W];rfl);have tt:∀t:Bool,tstD (some (Re.ok (DV.int (if t=true then 1 else 0)) Cl.strong))=some (Rt.ok t):=λt=>by cases t<;>rfl
   rw[e2];refine(tt _).trans ?_;show _=some (Rt.ok (c.testBit (j:Int).toNat));rw[Int.toNat_natCast])
 have hf:(upTo 0 (c.log2+1)).filter (λd=>match d with | .int i=>c.testBit i.toNat | _=>false)=nD (cs c):=by
  unfold L2.upTo nD cs;rw[List.filter_map];have:((λd=>match d with | DV.int i=>c.testBit i.toNat | _=>false) ∘ λ(i:Nat)=>DV.int (0+(i:Int)))=c.testBit:=by
   funext j
   show c.testBit ((0:Int)+(j:Int)).toNat=_;rw[show((0:Int)+(j:Int)).toNat=j by omega]
  rw[this];apply List.map_congr_left;intro j _;show DV.int _=DV.int _
  congr 1
  omega
 rw[hf]at cm;unfold q1w;exact q2Y (q2Q (q2H cm))
theorem q8f{c n j:Nat}(h:c<2^n)(hj:j∈cs c):j<n:=by
 unfold cs at hj;rw[List.mem_filter]at hj;by_cases q:j<n
 ·exact q
 ·have z:=Nat.testBit_lt_two_pow (Nat.lt_of_lt_of_le h (Nat.pow_le_pow_right (by decide) (show n<=j by omega)));rw[z]at hj;cases hj.2
theorem z0y{c:Nat}(h0:0<c)(h:c<2^64):(cs c).length<=1000:=by
 have hl:c.log2<64:=(Nat.log2_lt (by omega)).mpr h;unfold cs;exact Nat.le_trans (List.length_filter_le _ _) (by rw[List.length_range];omega)
theorem z4l{a n:Nat}(a0:0<a)(h:a<2^n):cs a=(List.range n).filter a.testBit:=by
 unfold cs
 have hl:a.log2+1<=n:=(Nat.log2_lt (by omega)).mpr h
 obtain⟨d,rfl⟩:∃d,n=a.log2+1+d:=⟨n - (a.log2+1),by omega⟩
 conv=>rhs;rw[List.range_add,List.filter_append]
 have:((List.range d).map (λx=>a.log2+1+x)).filter a.testBit=[]:=by
  rw[List.filter_eq_nil_iff]
  intro j hj
  obtain⟨x,_,rfl⟩:=List.mem_map.mp hj
  rw[Nat.testBit_lt_two_pow (Nat.lt_of_lt_of_le Nat.lt_log2_self (Nat.pow_le_pow_right (by decide) (Nat.le_add_right _ _)))]
  exact Bool.false_ne_true
 rw[this,List.append_nil]
def Bnd(ws:List Int):Prop:=∀w∈ws,0<=w/\w<10
def BndT(rows:List (List Int)):Prop:=∀r∈rows,Bnd r
theorem z1S{n m:Nat}{ws:List Int}(h:Bnd ws):BndT (q4I n m ws):=by
 intro r hr w hw;obtain⟨j,_,rfl⟩:=List.mem_map.mp hr;exact h w (List.mem_of_mem_drop (List.mem_of_mem_take hw))
theorem z4u{ws:List Int}(h:Bnd ws){v:Int}(hv:0<=v/\v<10)(j:Nat):Bnd (ws.set j v):=by
 intro w hw;rcases List.mem_or_eq_of_mem_set hw with q | q
 ·exact h w q
 ·rw[q];exact hv
theorem z6D(x:Int):∃t:Int,ixD (.lst [.int 2,.int 3,.int 10,.int 2]) (.int (x%4))=some (.int t)/\0<t/\t<=10:=by
 have h:x%4=0\/x%4=1\/x%4=2\/x%4=3:=by omega
 rcases h with h | h | h | h<;>rw[h]
 ·exact⟨2,rfl,by decide,by decide⟩
 ·exact⟨3,rfl,by decide,by decide⟩
 ·exact⟨10,rfl,by decide,by decide⟩
 ·exact⟨2,rfl,by decide,by decide⟩
theorem z0c{x t:Int}(h0:0<t)(h1:t<=10):0<=x%t/\x%t<10:=⟨Int.emod_nonneg x (by omega),Int.lt_of_lt_of_le (Int.emod_lt_of_pos x h0) h1⟩
theorem z5V(ns:List Int)(hns:ns.length<=63):∃(n m:Nat) (rows:List (List Int)),0<n/\n<=8/\0<m/\m<=8/\Rect n m rows/\BndT rows/\run G T fu (k+2) 7 [.scr ns,.int 2]=some (.v (tT rows) false):=by
 obtain⟨v0,c0⟩:=q7y (fu:=fu) (k:=k) ns 0;obtain⟨v1,c1⟩:=q7y (fu:=fu) (k:=k) ns 1;obtain⟨xs,hx,st0⟩:=q7e (fu:=fu) (k:=k) v0 8 (by decide);obtain⟨a0,h0⟩:=q7k (l:=xs) (i:=0) (by omega) (by rw[hx];omega);obtain⟨a1,h1⟩:=q7k (l:=xs) (i:=1) (by omega) (by rw[hx];omega);obtain⟨a2,h2⟩:=q7k (l:=xs) (i:=2) (by omega) (by rw[hx];omega);obtain⟨a3,h3⟩:=q7k (l:=xs) (i:=3) (by omega) (by rw[hx];omega);obtain⟨N0,hN0⟩:∃N:Int,1+a0%8=N:=⟨_,rfl⟩;obtain⟨m,hm⟩:∃m:Nat,1+a1%8=(m:Int):=⟨(1+a1%8).toNat,by omega⟩;obtain⟨t,ht,t0,t10⟩:=z6D a3;have m8:m<=8:=by omega
 obtain⟨n,n0,n8,sif⟩:∃n:Nat,0<n/\n<=8/\evS G (run G T fu (k+1)) fu (.iff (.cmp .Gt (.bin .Mod (.ix (.var 2) (.int 2)) (.int 4)) (.int 0)) [.set 3 false (.bin .Add (.int 1) (.bin .Mod (.ix (.var 2) (.int 0)) (.int 5)))] []) [.val (.scr ns),.val (.int 2),.val (.lst (xs.map DV.int)),.val (.int N0),.val (.int m),.no,.no,.no]=some (.nx [.val (.scr ns),.val (.int 2),.val (.lst (xs.map DV.int)),.val (.int n),.val (.int m),.no,.no,.no]):=by
  have tst:=q0S (b_gt (q3E (q1U (q0a (G:=G) (F:=run G T fu (k+1)) (δ:=[.val (.scr ns),.val (.int 2),.val (.lst (xs.map DV.int)),.val (.int N0),.val (.int m),.no,.no,.no]) (n:=2) (d:=.lst (xs.map DV.int)) rfl) (q0k (i:=2)) h2) (q0k (i:=4)) (by decide)) (q0k (i:=0)));by_cases q:0<a2%4
  ·obtain⟨n,hn⟩:∃n:Nat,1+a0%5=(n:Int):=⟨(1+a0%5).toNat,by omega⟩;refine⟨n,by omega,by omega,?_⟩;rw[decide_eq_true q]at tst;rw[q9W tst,if_pos rfl];exact q0M (q0P (d:=.int n) (cl:=.strong) (by rw[←hn];exact q4u q0k (q3E (q1U (q0a rfl) q0k h0) q0k (by decide))) rfl) rfl
  ·obtain⟨n,hn⟩:∃n:Nat,N0=(n:Int):=⟨N0.toNat,by omega⟩;refine⟨n,by omega,by omega,?_⟩;rw[decide_eq_false q]at tst;rw[q9W tst,if_neg Bool.false_ne_true,hn];rfl
 have nm:n*m<=64:=Nat.le_trans (Nat.mul_le_mul n8 m8) (by decide);obtain⟨ws0,hw0,st1⟩:=q7e (fu:=fu) (k:=k) v1 (n*m) (by omega);have mk1:q3C (n:Int) (m:Int)=true:=by unfold q3C;simp;omega
 have cm:=q9T (G:=G) (F:=run G T fu (k+1)) (δ:=[.val (.scr ns),.val (.int 2),.val (.lst (xs.map DV.int)),.val (.int n),.val (.int m),.val (.int t),.no,.no]) (elt:=.bin .Mod (.var 0) (.var 1)) (tg:=.one 0) (it:=.call 6 [.call 5 [.var 0,.int 1],.bin .Mult (.var 3) (.var 4)]) (fr:=[none,some 5]) (f:=λd=>match d with | .int x=>.int (x%t) | d=>d) (ds:=ws0.map DV.int) (cl:=.fresh)
  (by
   have q:=q0x (G:=G) (F:=run G T fu (k+1)) (δ:=[.val (.scr ns),.val (.int 2),.val (.lst (xs.map DV.int)),.val (.int n),.val (.int m),.val (.int t),.no,.no]) (f:=6) (q0d (q0x (f:=5) (q0d (q0a (n:=0) (d:=.scr ns) rfl) (q0d (q0k (i:=1)) q0l)) rfl c1) (q0d (q6O (q0a (n:=3) (d:=.int n) rfl) (q0a (n:=4) (d:=.int m) rfl) mk1) q0l)) rfl (by rw[show((n:Int)*(m:Int))=((n*m:Nat):Int) by push_cast;rfl];exact st1);rw[q];rfl) (by decide) (by rw[List.length_map,hw0];exact Nat.le_trans nm (by decide)) (λd hd=>by
   obtain⟨x,hx,rfl⟩:=List.mem_map.mp hd;exact⟨[.val (.int x),.val (.int t)],rfl,q3E (q0a rfl) (q0a rfl) t0⟩)
 rw[List.map_map,show((λd=>match d with | DV.int x=>DV.int (x%t) | d=>d) ∘ DV.int)=DV.int ∘ (λx:Int=>x%t)from rfl,←List.map_map]at cm;obtain⟨b,hb,hb1,hb2⟩:∃b:Int,(if(ns.length:Int) - 2<(n:Int)*m then(ns.length:Int) - 2 else(n:Int)*m)=b/\b<=((n*m:Nat):Int)/\b<=(ns.length:Int) - 2:=by refine⟨_,rfl,?_,?_⟩<;>split<;>push_cast<;>omega
 have hb3 : -1000<=b:=(by rw[←hb];have:(0:Int)<=(n:Int)*m:=Int.mul_nonneg (Int.natCast_nonneg n) (Int.natCast_nonneg m);split<;>omega);obtain⟨δ1,l1,ws,z,hw,wb,rfl⟩:=q1x (i:=7) (I:=λ_ δ=>∃(ws:List Int) (z:Sv),ws.length=n*m/\Bnd ws/\δ=[.val (.scr ns),.val (.int 2),.val (.lst (xs.map DV.int)),.val (.int n),.val (.int m),.val (.int t),.own (.lst (ws.map DV.int)),z])
  (body:=λδ'=>evSs G (run G T fu (k+1)) fu [.seti 6 (.var 7) (.bin .Mod (.ix (.var 0) (.bin .Add (.var 1) (.var 7))) (.var 5))] δ') b.toNat 0 (δ:=[.val (.scr ns),.val (.int 2),.val (.lst (xs.map DV.int)),.val (.int n),.val (.int m),.val (.int t),.own (.lst ((ws0.map λx=>x%t).map DV.int)),.no])
  (λj hj δ I=>by
   obtain⟨ws,z,hw,wb,rfl⟩:=I;rw[show(0:Int)+(j:Int)=j by omega];have h3:2+j<ns.length:=by omega
   have hv:ixD (.scr ns) (.int (2+(j:Int)))=some (.int ns[2+j]):=(by rw[show(2:Int)+(j:Int)=((2+j:Nat):Int) by push_cast;rfl];show((q2m ns.length ((2+j:Nat):Int)).bind λj=>ns[j]?).map DV.int=_;rw[z4H h3,Option.bind_some,List.getElem?_eq_getElem h3];rfl);refine⟨_,q0M (z3L (d:=.int (ns[2+j]%t)) (cl:=.strong) (n:=j) (cx:=.strong) (j:=j) rfl (q3E (q1U (q0a rfl) (q4u (q0a rfl) (q0a rfl)) hv) (q0a rfl) t0) (q0a rfl) rfl (z4H (by rw[List.length_map,hw];omega))) rfl,ws.set j (ns[2+j]%t),.val (.int j),by rw[List.length_set];exact hw,z4u wb (z0c t0 t10) j,?_⟩;rw[List.map_set];rfl) ⟨ws0.map λx=>x%t,.no,by rw[List.length_map];exact hw0,λw hw=>by obtain⟨y,_,rfl⟩:=List.mem_map.mp hw;exact z0c t0 t10,rfl⟩
 have em:evE G (run G T fu (k+1)) (.bi .min [.bin .Mult (.var 3) (.var 4),.bin .Sub (.bi .len [.var 0]) (.var 1)]) [.val (.scr ns),.val (.int 2),.val (.lst (xs.map DV.int)),.val (.int n),.val (.int m),.val (.int t),.own (.lst ((ws0.map λx=>x%t).map DV.int)),.no]=some (.ok (.int b) .strong):=(by have e1:evE G (run G T fu (k+1)) (.bi .len [.var 0]) [.val (.scr ns),.val (.int 2),.val (.lst (xs.map DV.int)),.val (.int n),.val (.int m),.val (.int t),.own (.lst ((ws0.map λx=>x%t).map DV.int)),.no]=some (.ok (.int ns.length) .strong):=rfl;rw[z5B (q0d (q6O (q0a (n:=3) (d:=.int n) rfl) (q0a (n:=4) (d:=.int m) rfl) mk1) (q0d (z7B e1 (q0a (n:=1) (d:=.int 2) rfl)) q0l)),←hb];rfl);have rt:=q9T (G:=G) (F:=run G T fu (k+1)) (δ:=[.val (.scr ns),.val (.int 2),.val (.lst (xs.map DV.int)),.val (.int n),.val (.int m),.val (.int t),.own (.lst (ws.map DV.int)),z]) (elt:=.bi .tuple [.sl (.var 1) (.bin .Mult (.var 0) (.var 2)) (.bin .Add (.bin .Mult (.var 0) (.var 2)) (.var 2))]) (tg:=.one 0) (it:=.rng [.var 3]) (fr:=[none,some 6,some 4]) (f:=λd=>match d with | .int j=>.tup (iD ((ws.drop (j.toNat*m)).take m)) | d=>d) (ds:=upTo 0 n) (cl:=.fresh)
  (q8r (q0a rfl) (by omega)) (by decide) (by unfold L2.upTo;rw[List.length_map,List.length_range];exact Nat.le_trans n8 (by decide)) (λd hd=>by
   obtain⟨j,hj,rfl⟩:=q7b hd;rw[show(0:Int)+(j:Int)=j by omega];have mk2:q3C (j:Int) (m:Int)=true:=by unfold q3C;simp;omega
   refine⟨[.val (.int j),.own (.lst (iD ws)),.val (.int m)],rfl,?_⟩;show _=some (Re.ok (.tup (iD ((ws.drop ((j:Int).toNat*m)).take m))) .strong);rw[Int.toNat_natCast,←z3a hw hj];exact q7s (z7A (z0G rfl) (q6O (q0a rfl) (q0a rfl) mk2) (q4u (q6O (q0a rfl) (q0a rfl) mk2) (q0a rfl))))
 have hf:(upTo 0 n).map (λd=>match d with | .int j=>DV.tup (iD ((ws.drop (j.toNat*m)).take m)) | d=>d)=(q4I n m ws).map λr=>.tup (iD r):=by unfold L2.upTo q4I;rw[List.map_map,List.map_map];apply List.map_congr_left;intro j _;show DV.tup (iD ((ws.drop (((0:Int)+(j:Int)).toNat*m)).take m))=_;rw[show((0:Int)+(j:Int)).toNat=j by omega];rfl
 rw[hf]at rt;refine⟨n,m,q4I n m ws,n0,n8,by omega,m8,z0r hw,z1S wb,?_⟩;rw[q1N (fd:=q0W) rfl rfl];unfold q0W;exact q2Y (q0M (q0P (q0x (q0d (q0x (q0d (q0a rfl) (q0d q0k q0l)) rfl c0) (q0d q0k q0l)) rfl st0) rfl) (q0M (q0P (d:=.int N0) (cl:=.strong) (by rw[←hN0];exact q4u q0k (q3E (q1U (q0a rfl) q0k h0) q0k (by decide))) rfl) (q0M (q0P (d:=.int m) (cl:=.strong) (by rw[←hm];exact q4u q0k (q3E (q1U (q0a rfl) q0k h1) q0k (by decide))) rfl)
  (q0M sif (q0M (q0P (d:=.int t) (cl:=.strong) (q1U (d:=.int t) (x:=.lst [.int 2,.int 3,.int 10,.int 2]) (cx:=.fresh) rfl (q3E (q1U (q0a rfl) q0k h3) q0k (by decide)) ht) rfl) (q0M (q7q cm) (q5T (z6M em (by omega) hb3) (.inr rfl) l1 (q2Q (q2H (q7s rt))))))))))
theorem z2v(r:List Int):(iD r).length=r.length:=by unfold iD;rw[List.length_map]
theorem q7Q{rows:List (List Int)}{n m:Nat}(R:Rect n m rows)(hn:0<n){x:ME}{c:Cl}(h:evE G F x δ=some (.ok (tT rows) c)):evE G F (.bi .len [.ix x (.int 0)]) δ=some (.ok (.int (m:Nat)) .strong):=by
 have hr:0<rows.length:=by rw[R.1];exact hn
 have e:=q1U (y:=.int 0) h q0k (q7T (rows:=rows) (i:=0) hr);have q:=q6u e;rw[z2v,R.2 _ (q3l hr)]at q;exact q
theorem q4p{rows:List (List Int)}{n m:Nat}(R:Rect n m rows){x:ME}{c:Cl}(h:evE G F x δ=some (.ok (tT rows) c)):evE G F (.bi .len [x]) δ=some (.ok (.int (n:Nat)) .strong):=by
 have q:=q6u h;rw[List.length_map,R.1]at q;exact q
end k32
end
noncomputable section
namespace k32
open PySem L2
def bs(l:List Nat):Nat:=(l.map λc=>2^c).sum
theorem z5x(a b:List Nat):bs (a++b)=bs a+bs b:=by unfold bs;rw[List.map_append,List.sum_append]
theorem bs_f(p:Nat->Bool):∀n,bs ((List.range n).filter p)<2^n/\∀j,(bs ((List.range n).filter p)).testBit j=(decide (j<n)&&p j)
 | 0=>⟨by simp[bs],λj=>by simp[bs]⟩
 | n+1=>by
  obtain⟨h1,h2⟩:=bs_f p n;rw[List.range_succ,List.filter_append,z5x];by_cases hp:p n=true
  ·have e:bs ([n].filter p)=2^n:=by simp[bs,hp]
   rw[e];refine⟨by rw[Nat.pow_succ];omega,λj=>?_⟩;rw[Nat.add_comm];rcases Nat.lt_trichotomy j n with h | h | h
   ·rw[Nat.testBit_two_pow_add_gt h,h2 j];simp[show j<n by omega,show j<n+1 by omega]
   ·subst h;rw[Nat.testBit_two_pow_add_eq,h2 j];simp[hp]
   ·have:2^n+bs ((List.range n).filter p)<2^j:=by
     refine Nat.lt_of_lt_of_le (m:=2^(n+1)) (by rw[Nat.pow_succ];omega) (Nat.pow_le_pow_right (by decide) h)
    rw[Nat.testBit_lt_two_pow this];simp[show ¬j<n+1 by omega]
  ·have e:bs ([n].filter p)=0:=by simp[bs,hp]
   rw[e];refine⟨by rw[Nat.pow_succ];omega,λj=>?_⟩;rw[Nat.add_zero,h2 j];rcases Nat.lt_trichotomy j n with h | h | h
   ·simp[show j<n by omega,show j<n+1 by omega]
   ·subst h;simp[hp]
   ·simp[show ¬j<n by omega,show ¬j<n+1 by omega]
theorem q5k{l:List Nat}:bs l=0↔l=[]:=by
 cases l with
 | nil=>simp[bs]
 | cons a l=>
  have:0<2^a:=Nat.pow_pos (by decide);simp only[bs,List.map_cons,List.sum_cons];constructor
  ·intro h;omega
  ·intro h;cases h
theorem z6r{p:Nat->Bool}{n:Nat}(h:(List.range n).filter p≠[]):cs (bs ((List.range n).filter p))=(List.range n).filter p:=by
 have h0:0<bs ((List.range n).filter p):=Nat.pos_of_ne_zero λz=>h (q5k.mp z);rw[z4l h0 (bs_f p n).1];apply List.filter_congr;intro j hj;rw[(bs_f p n).2 j,decide_eq_true (List.mem_range.mp hj),Bool.true_and]
theorem z7W{S n:Nat}(h0:0<S)(h:S<2^n):bs (cs S)=S:=by
 rw[z4l h0 h];apply Nat.eq_of_testBit_eq;intro j;rw[(bs_f _ n).2 j];by_cases hj:j<n
 ·rw[decide_eq_true hj,Bool.true_and]
 ·rw[decide_eq_false hj,Bool.false_and,Nat.testBit_lt_two_pow (Nat.lt_of_lt_of_le h (Nat.pow_le_pow_right (by decide) (by omega)))]
theorem z2y{S n:Nat}(h0:0<S)(h:S<2^n):cs S≠[]:=λz=>by
 have:=z7W h0 h;rw[z]at this;simp[bs]at this;omega
def ax(rows:List (List Int))(r c:Nat):Int:=(rows.getD r []).getD c 0
section
variable (rows:List (List Int)) (w:Int) (n m:Nat)
def jp(I:List Nat)(c:Nat):Bool:=I.all λr=>ax rows r c==w
def rp(J:List Nat)(r:Nat):Bool:=J.all λc=>ax rows r c==w
def JL(S:Nat):List Nat:=(List.range m).filter (jp rows w (cs S))
def RL(J:List Nat):List Nat:=(List.range n).filter (rp rows w J)
def good(S:Nat):Bool:=!(JL rows w m S).isEmpty&&bs (RL rows w n (JL rows w m S))==S
def pr(S:Nat):Int×Int:=((S:Int),((bs (JL rows w m S):Nat):Int))
def al:List Nat:=(List.range (2^n - 1)).map (· + 1)
def wl:List (Int×Int):=((al n).filter (good rows w n m)).map (pr rows w m)
def mp(S:Nat):Int×Int:=(((bs (RL rows w n (JL rows w m S)):Nat):Int),((bs (JL rows w m S):Nat):Int))
def ml(l:List Nat):List (Int×Int):=(l.filter λS=>!(JL rows w m S).isEmpty).foldl (λa S=>addP a (mp rows w n m S)) []
end
section
variable {rows:List (List Int)} {w:Int} {n m:Nat}
theorem q7m{S:Nat}:S∈al n↔0<S/\S<2^n:=by
 unfold al;rw[List.mem_map];constructor
 ·rintro⟨j,h,rfl⟩;rw[List.mem_range]at h;omega
 ·intro h;exact⟨S - 1,List.mem_range.mpr (by omega),by omega⟩
theorem z5s{S:Nat}(h0:0<S)(h:S<2^n)(hJ:JL rows w m S≠[]):∃S',0<S'/\S'<2^n/\bs (RL rows w n (JL rows w m S))=S'/\JL rows w m S'=JL rows w m S:=by
 have sub:∀r∈cs S,r∈RL rows w n (JL rows w m S):=λr hr=>by refine List.mem_filter.mpr ⟨List.mem_range.mpr (q8f h hr),List.all_eq_true.mpr λc hc=>?_⟩;exact List.all_eq_true.mp (List.mem_filter.mp hc).2 r hr
 have ne:RL rows w n (JL rows w m S)≠[]:=λz=>by obtain⟨r,hr⟩:=List.exists_mem_of_ne_nil _ (z2y h0 h);have:=sub r hr;rw[z]at this;cases this
 refine⟨_,Nat.pos_of_ne_zero λz=>ne (q5k.mp z),(bs_f _ n).1,rfl,?_⟩;have e:cs (bs (RL rows w n (JL rows w m S)))=RL rows w n (JL rows w m S):=z6r ne;unfold JL at e ⊢;rw[e];apply List.filter_congr;intro c hc;rw[Bool.eq_iff_iff];constructor
 ·intro z;refine List.all_eq_true.mpr λr hr=>List.all_eq_true.mp z r (sub r hr)
 ·intro z;refine List.all_eq_true.mpr λr hr=>?_
  exact List.all_eq_true.mp (List.mem_filter.mp hr).2 c (List.mem_filter.mpr ⟨hc,z⟩)
theorem q7J{S:Nat}:good rows w n m S=true↔JL rows w m S≠[]/\bs (RL rows w n (JL rows w m S))=S:=by
 unfold good;rw[Bool.and_eq_true,beq_iff_eq,Bool.not_eq_true',List.isEmpty_eq_false_iff]
theorem q8Y{x:Int×Int}:x∈wl rows w n m↔∃S,(0<S/\S<2^n)/\JL rows w m S≠[]/\x=mp rows w n m S:=by
 unfold wl;rw[List.mem_map];constructor
 ·rintro⟨S,h,rfl⟩
  obtain⟨h1,h2⟩:=List.mem_filter.mp h;obtain⟨h3,h4⟩:=q7J.mp h2;exact⟨S,q7m.mp h1,h3,by unfold pr mp;rw[h4]⟩
 ·rintro⟨S,h1,h2,rfl⟩
  obtain⟨S',g1,g2,g3,g4⟩:=z5s h1.1 h1.2 h2;refine⟨S',List.mem_filter.mpr ⟨q7m.mpr ⟨g1,g2⟩,q7J.mpr ⟨by rw[g4];exact h2,by rw[g4];exact g3⟩⟩,?_⟩;unfold pr mp;rw[g4,g3]
theorem z1j{x k:Int×Int}{L:List (Int×Int)}:x∈addP L k↔x∈L\/x=k:=by
 unfold addP;split
 ·rename_i h;constructor
  ·exact .inl
  ·rintro(z | rfl)
   ·exact z
   ·exact h
 ·rw[List.mem_append,List.mem_singleton]
theorem z4d{k:Int×Int}{L:List (Int×Int)}(h:L.Nodup):(addP L k).Nodup:=by
 unfold addP;split
 ·exact h
 ·rename_i q;exact List.nodup_append.mpr ⟨h,List.pairwise_singleton _ _,λa ha b hb=>by rw[List.mem_singleton.mp hb];rintro rfl;exact q ha⟩
theorem q6h{f:Nat->Int×Int}:∀(l:List Nat) (L:List (Int×Int)),L.Nodup->(l.foldl (λa S=>addP a (f S)) L).Nodup/\∀x,x∈l.foldl (λa S=>addP a (f S)) L↔x∈L\/∃S∈l,x=f S
 | [],L,h=>⟨h,λx=>by simp⟩
 | S::l,L,h=>by
  obtain⟨h1,h2⟩:=q6h l (addP L (f S)) (z4d h);refine⟨h1,λx=>?_⟩;rw[List.foldl_cons,h2 x,z1j];constructor
  ·rintro((z | z) | ⟨T,q1,q2⟩)
   ·exact .inl z
   ·exact .inr ⟨S,List.mem_cons_self ..,z⟩
   ·exact .inr ⟨T,List.mem_cons_of_mem _ q1,q2⟩
  ·rintro(z | ⟨T,q1,q2⟩)
   ·exact .inl (.inl z)
   ·rcases List.mem_cons.mp q1 with rfl | q1
    ·exact .inl (.inr q2)
    ·exact .inr ⟨T,q1,q2⟩
theorem q6s:(wl rows w n m).Pairwise λp q=>ltP p q=true:=by
 unfold wl;refine List.pairwise_map.mpr (List.Pairwise.filter _ ?_);unfold al;refine List.pairwise_map.mpr (List.pairwise_lt_range.imp λ{a b} h=>?_);rw[q1y];left;show((a+1:Nat):Int)<((b+1:Nat):Int);omega
theorem z2Q(p:Int×Int):ltP p p=false:=by
 cases h:ltP p p with
 | false=>rfl
 | true=>rw[q1y]at h;omega
theorem z8g:(wl rows w n m).Nodup:=q6s.imp λ{a b} h e=>by rw[e,z2Q]at h;cases h
theorem z2t{p:Int×Int}:∀{l:List (Int×Int)},l.Pairwise (λp q=>ltP p q=true)->p∉l->(insP p l).Pairwise λp q=>ltP p q=true
 | [],_,_=>List.pairwise_singleton _ _
 | q::l,h,hn=>by
  unfold insP;obtain⟨h1,h2⟩:=List.pairwise_cons.mp h;split
  ·rename_i z;refine List.pairwise_cons.mpr ⟨λx hx=>?_,h⟩;rcases List.mem_cons.mp hx with rfl | hx
   ·exact z
   ·exact q6b z (h1 x hx)
  ·rename_i z;refine List.pairwise_cons.mpr ⟨λx hx=>?_,z2t h2 λy=>hn (List.mem_cons_of_mem _ y)⟩;rcases List.mem_cons.mp ((q4d p l).mem_iff.mp hx)with rfl | hx
   ·have ne:x≠q:=λe=>hn (by rw[e];exact List.mem_cons_self ..);rw[q1y]at z ⊢;by_cases e1:q.1=x.1
    ·by_cases e2:q.2=x.2
     ·exact absurd (Prod.ext e1 e2).symm ne
     ·omega
    ·omega
   ·exact h1 x hx
theorem q7g:∀{l:List (Int×Int)},l.Nodup->(q3N l).Pairwise λp q=>ltP p q=true
 | [],_=>.nil
 | p::l,h=>by
  obtain⟨h1,h2⟩:=List.nodup_cons.mp h;exact z2t (q7g h2) λz=>h1 ((q1X l).mem_iff.mp z)
theorem q5C:∀{l:List (Int×Int)},l.Pairwise (λp q=>ltP p q=true)->q2U l=true
 | [],_=>rfl
 | [_],_=>rfl
 | p::q::l,h=>by obtain⟨h1,h2⟩:=List.pairwise_cons.mp h;show(ltP p q&&q2U (q::l))=true;rw[h1 q (List.mem_cons_self ..),q5C h2];rfl
theorem z2h:q3N (ml rows w n m (al n))=wl rows w n m:=by
 obtain⟨h1,h2⟩:=q6h (f:=mp rows w n m) ((al n).filter λS=>!(JL rows w m S).isEmpty) [] .nil;refine q5L ?_ (q7g h1) q6s;refine(q1X _).trans ((List.perm_ext_iff_of_nodup h1 z8g).mpr λx=>?_);rw[q8Y,h2 x];constructor
 ·rintro(z | ⟨S,q1,q2⟩)
  ·cases z
  ·obtain⟨q3,q4⟩:=List.mem_filter.mp q1;exact⟨S,q7m.mp q3,by rw[Bool.not_eq_true',List.isEmpty_eq_false_iff]at q4;exact q4,q2⟩
 ·rintro⟨S,q1,q2,q3⟩
  exact .inr ⟨S,List.mem_filter.mpr ⟨q7m.mpr q1,by rw[Bool.not_eq_true',List.isEmpty_eq_false_iff];exact q2⟩,q3⟩
theorem z5P(hn:n<=8):(wl rows w n m).length<=255:=by
 unfold wl al;rw[List.length_map];refine Nat.le_trans (List.length_filter_le ..) ?_;rw[List.length_map,List.length_range];have:2^n<=2^8:=Nat.pow_le_pow_right (by decide) hn;omega
end
end k32
end
noncomputable section
namespace k32
open PySem L2
variable {fu k:Nat} {F:Nat->List DV->Option Ou} {δ:List Sv} {ds:List DV} {cl:Cl}
theorem z2l{b:ME}{n:Nat}{cx:Cl}(hb:evE G F b δ=some (.ok (.int n) cx))(hn:n<=1000):q0X (evE G F (.rng [.int 1,b]) δ)=some (.ok (upTo 1 (n - 1)) .fresh):=by
 show q0X (Rs.thn (evEs G F [.int 1,b] δ) (λl=>(rngD l).map λds=>.ok (.lst ds) .fresh))=_;rw[q0d q0k (q0d hb q0l),q4j];have hs:(q0N 1&&q0N (n:Int)&&decide ((n:Int) - 1<=(mostLen:Int)))=true:=by rw[Bool.and_eq_true,Bool.and_eq_true,decide_eq_true_iff];refine⟨⟨by decide,?_⟩,Int.le_trans (show(n:Int) - 1<=1000 by omega) (by decide)⟩;unfold q0N;rw[Bool.and_eq_true,decide_eq_true_iff,decide_eq_true_iff];exact⟨Int.le_trans (by decide) (Int.natCast_nonneg n),Int.lt_of_le_of_lt (show(n:Int)<=1000 by omega) (by decide)⟩
 show q0X ((if q0N 1&&q0N (n:Int)&&decide ((n:Int) - 1<=(mostLen:Int))then some (upTo 1 ((n:Int) - 1).toNat)else none).map λds=>.ok (.lst ds) .fresh)=_;rw[if_pos hs,show((n:Int) - 1).toNat=n - 1 by omega];rfl
theorem q5A{α:Type}{p:α->Bool}:∀l:List α,bools? (l.map λw=>DV.bl (p w))=some (l.map p)
 | []=>rfl
 | a::r=>by have q:=q5A (p:=p) r;show bools? (DV.bl (p a)::r.map λw=>DV.bl (p w))=_;unfold bools?;rw[q];rfl
theorem z2a{α:Type}{p:α->Bool}{l:List α}{e:ME}(h:evE G F e δ=some (.ok (.lst (l.map λw=>DV.bl (p w))) cl)):evE G F (.bi .all [e]) δ=some (.ok (.bl (l.all p)) .strong):=by
 show Rs.thn (evEs G F [e] δ) (λl=>allD l)=_;rw[q0d h q0l];show(bools? (l.map λw=>DV.bl (p w))).map (λbs=>Re.ok (.bl (bs.all id)) .strong)=_;rw[q5A];show some (Re.ok (.bl ((l.map p).all id)) .strong)=_;rw[List.all_map];rfl
theorem q7d:∀l:List Nat,ints? (l.map λ(x:Nat)=>DV.int (x:Int))=some (l.map λ(x:Nat)=>(x:Int))
 | []=>rfl
 | a::l=>by have q:=q7d l;show(ints? (l.map λ(x:Nat)=>DV.int (x:Int))).map ((a:Int) :: ·)=_;rw[q];rfl
theorem q8M:∀l:List Nat,(l.map λ(x:Nat)=>(x:Int)).sum=((l.sum:Nat):Int)
 | []=>rfl
 | a::l=>by rw[List.map_cons,List.sum_cons,List.sum_cons,q8M l];push_cast;rfl
theorem q9k{e:ME}{l:List Nat}{c:Cl}(h:evE G F e δ=some (.ok (.lst (l.map λ(x:Nat)=>DV.int (x:Int))) c)):evE G F (.bi .sum [e]) δ=some (.ok (.int ((l.sum:Nat):Int)) .strong):=by
 show Rs.thn (evEs G F [e] δ) (λl=>sumD l)=_;rw[q0d h q0l];show(ints? (l.map λ(x:Nat)=>DV.int (x:Int))).map (λns=>Re.ok (.int ns.sum) .strong)=_;rw[q7d,Option.map_some,q8M]
end k32
end
noncomputable section
namespace k32
open PySem L2
variable {fu k:Nat} {F:Nat->List DV->Option Ou} {δ:List Sv} {ds:List DV} {cl:Cl}
section
variable {rows:List (List Int)} {w:Int} {n m:Nat}
theorem z2C(R:Rect n m rows){r c:Nat}(hr:r<n)(hc:c<m){a b x:ME}{c1 c2 c3:Cl}(ha:evE G F a δ=some (.ok (tT rows) c1))(hb:evE G F b δ=some (.ok (.int (r:Int)) c2))(hx:evE G F x δ=some (.ok (.int (c:Int)) c3)):∃c4,evE G F (.ix (.ix a b) x) δ=some (.ok (.int (ax rows r c)) c4):=
 ⟨_,q1U (q1U ha hb (q7T (by rw[R.1];exact hr))) hx (q6p (by rw[R.2 _ (q3l (by rw[R.1];exact hr))];exact hc))⟩
theorem q6E{e:ME}{j:Nat}{c:Cl}(hj:j<=1000)(h:evE G F e δ=some (.ok (.int (j:Int)) c)):evE G F (.bin .LShift (.int 1) e) δ=some (.ok (.int ((2^j:Nat):Int)) .strong):=by
 refine q2E q0k h ?_;show(if 0<=(j:Int)/\(j:Int)<=1000000/\(1:Int).natAbs<2^64 then some (Re.ok (.int (1*2^(j:Int).toNat)) Cl.strong)else none)=_;rw[if_pos ⟨Int.natCast_nonneg j,by omega,by decide⟩,Int.toNat_natCast,Int.one_mul]
 push_cast
 rfl
theorem two8{S n:Nat}(hn:n<=8)(h:S<2^n):S<2^64:=Nat.lt_of_lt_of_le h (Nat.pow_le_pow_right (by decide) (by omega))
theorem z0H(R:Rect n m rows)(hn0:0<n)(hn:n<=8)(hm:m<=8){S:Nat}(s0:0<S)(s1:S<2^n):run G T fu (k+2) 2 [tT rows,.int S,.int w]=some (.v (.int ((bs (JL rows w m S):Nat):Int)) false):=by
 rw[q1N (fd:=q1i) rfl rfl];have st:=q4M (fu:=fu) (k:=k) S s0 (two8 hn s1);unfold q1i;refine q2Y (q0M (q0P (d:=.lst (nD (cs S))) (cl:=.fresh) (q0x (q0d (q0a (n:=1) (d:=.int S) rfl) q0l) rfl st) rfl) (q2Q (q2H (cl:=.strong) ?_)));have cm:=q1k (F:=run G T fu (k+1)) (δ:=[.val (tT rows),.val (.int S),.val (.int w),.val (.lst (nD (cs S)))]) (l:=List.range m) (h:=λ(j:Nat)=>DV.int (j:Int)) (f:=λ(j:Nat)=>DV.int ((2^j:Nat):Int)) (p:=jp rows w (cs S)) (elt:=.bin .LShift (.int 1) (.var 0)) (tg:=.one 0) (it:=.rng [.bi .len [.ix (.var 0) (.int 0)]])
  (cd:=.bi .all [.comp (.cmp .Eq (.ix (.ix (.var 1) (.var 0)) (.var 2)) (.var 3)) (.one 0) (.var 1) [none,some 2,some 0,some 3]]) (fr:=[none,some 3,some 0,some 2]) (cl:=.fresh)
  (z0s (q7Q R hn0 (q0a rfl)) (by omega)) (by decide) (by rw[List.length_range];exact Nat.le_trans hm (by decide)) (λc hc=>by
   have hc':=List.mem_range.mp hc;refine⟨[.val (.int c),.val (.lst (nD (cs S))),.val (tT rows),.val (.int w)],rfl,?_,.strong,q6E (by omega) (q0a rfl),rfl⟩;refine q0S (z2a (cl:=.fresh) (p:=λr=>ax rows r c==w) (l:=cs S) ?_);refine q5g (l:=cs S) (h:=λ(j:Nat)=>DV.int (j:Int)) (f:=λr=>.bl (ax rows r c==w)) (cl:=.strong) rfl (by decide) (Nat.le_trans (z0y s0 (two8 hn s1)) (by decide)) (λr hr=>?_);obtain⟨c4,e⟩:=z2C (F:=run G T fu (k+1)) (δ:=[.val (.int r),.val (tT rows),.val (.int c),.val (.int w)]) R (q8f s1 hr) hc' (a:=.var 1) (b:=.var 0) (x:=.var 2) (q0a rfl) (q0a rfl) (q0a rfl);exact⟨_,.strong,rfl,b_eq e (q0a rfl),rfl⟩)
 have:=q9k (l:=(JL rows w m S).map λc=>2^c) (c:=.fresh) (e:=.compi (.bin .LShift (.int 1) (.var 0)) (.one 0) (.rng [.bi .len [.ix (.var 0) (.int 0)]]) (.bi .all [.comp (.cmp .Eq (.ix (.ix (.var 1) (.var 0)) (.var 2)) (.var 3)) (.one 0) (.var 1) [none,some 2,some 0,some 3]]) [none,some 3,some 0,some 2]) (by rw[List.map_map];exact cm);exact this
theorem q6z(R:Rect n m rows)(hn0:0<n)(hn:n<=8)(hm:m<=8){C:Nat}(s0:0<C)(s1:C<2^m):run G T fu (k+2) 3 [tT rows,.int C,.int w]=some (.v (.int ((bs (RL rows w n (cs C)):Nat):Int)) false):=by
 rw[q1N (fd:=q1Y) rfl rfl];have st:=q4M (fu:=fu) (k:=k) C s0 (two8 hm s1);unfold q1Y;refine q2Y (q0M (q0P (d:=.lst (nD (cs C))) (cl:=.fresh) (q0x (q0d (q0a (n:=1) (d:=.int C) rfl) q0l) rfl st) rfl) (q2Q (q2H (cl:=.strong) ?_)));have cm:=q1k (F:=run G T fu (k+1)) (δ:=[.val (tT rows),.val (.int C),.val (.int w),.val (.lst (nD (cs C)))]) (l:=List.range n) (h:=λ(j:Nat)=>DV.int (j:Int)) (f:=λ(j:Nat)=>DV.int ((2^j:Nat):Int)) (p:=rp rows w (cs C)) (elt:=.bin .LShift (.int 1) (.var 0)) (tg:=.one 0) (it:=.rng [.bi .len [.var 0]])
  (cd:=.bi .all [.comp (.cmp .Eq (.ix (.ix (.var 1) (.var 2)) (.var 0)) (.var 3)) (.one 0) (.var 1) [none,some 2,some 0,some 3]]) (fr:=[none,some 3,some 0,some 2]) (cl:=.fresh)
  (z0s (q4p R (q0a rfl)) (by omega)) (by decide) (by rw[List.length_range];exact Nat.le_trans hn (by decide)) (λr hr=>by
   have hr':=List.mem_range.mp hr;refine⟨[.val (.int r),.val (.lst (nD (cs C))),.val (tT rows),.val (.int w)],rfl,?_,.strong,q6E (by omega) (q0a rfl),rfl⟩;refine q0S (z2a (cl:=.fresh) (p:=λc=>ax rows r c==w) (l:=cs C) ?_);refine q5g (l:=cs C) (h:=λ(j:Nat)=>DV.int (j:Int)) (f:=λc=>.bl (ax rows r c==w)) (cl:=.strong) rfl (by decide) (Nat.le_trans (z0y s0 (two8 hm s1)) (by decide)) (λc hc=>?_);obtain⟨c4,e⟩:=z2C (F:=run G T fu (k+1)) (δ:=[.val (.int c),.val (tT rows),.val (.int r),.val (.int w)]) R hr' (q8f s1 hc) (a:=.var 1) (b:=.var 2) (x:=.var 0) (q0a rfl) (q0a rfl) (q0a rfl);exact⟨_,.strong,rfl,b_eq e (q0a rfl),rfl⟩)
 have:=q9k (l:=(RL rows w n (cs C)).map λc=>2^c) (c:=.fresh) (e:=.compi (.bin .LShift (.int 1) (.var 0)) (.one 0) (.rng [.bi .len [.var 0]]) (.bi .all [.comp (.cmp .Eq (.ix (.ix (.var 1) (.var 2)) (.var 0)) (.var 3)) (.one 0) (.var 1) [none,some 2,some 0,some 3]]) [none,some 3,some 0,some 2]) (by rw[List.map_map];exact cm);exact this
def pD(l:List (Int×Int)):List DV:=l.map λp=>.tup [.int p.1,.int p.2]
def wB:List MS:=[.set 4 false (.call 2 [.var 0,.var 3,.var 1]),.iff (.and [.cmp .NotEq (.var 4) (.int 0),.cmp .Eq (.call 3 [.var 0,.var 4,.var 1]) (.var 3)]) [.app 2 (.tup [.var 3,.var 4])] []]
theorem z0x(j:Nat):(List.range (j+1)).map (· + 1)=(List.range j).map (· + 1)++[j+1]:=by rw[List.range_succ,List.map_append];rfl
theorem z1O(R:Rect n m rows)(hn0:0<n)(hn:n<=8)(hm:m<=8):run G T fu (k+3) 1 [tT rows,.int w]=some (.v (.lst (pD (wl rows w n m))) true):=by
 rw[q1N (fd:=q3J) rfl rfl];have h8:2^n<=2^8:=Nat.pow_le_pow_right (by decide) hn;obtain⟨δ1,h1,z3,z4,rfl⟩:=q1x (i:=3) (I:=λj δ=>∃z3 z4:Sv,δ=[.val (tT rows),.val (.int w),.own (.lst (pD ((((List.range j).map (· + 1)).filter (good rows w n m)).map (pr rows w m)))),z3,z4])
  (body:=λδ'=>evSs G (run G T fu (k+2)) fu wB δ') (2^n - 1) 1 (δ:=[.val (tT rows),.val (.int w),.own (.lst []),.no,.no])
  (λj hj δ I=>by
   obtain⟨z3,z4,rfl⟩:=I;rw[show(1:Int)+(j:Int)=((j+1:Nat):Int) by omega];have s1:j+1<2^n:=by omega
   have c1:=z0H (fu:=fu) (k:=k) (w:=w) R hn0 hn hm (S:=j+1) (by omega) s1;obtain⟨L,hL⟩:∃L,(((List.range j).map (· + 1)).filter (good rows w n m)).map (pr rows w m)=L:=⟨_,rfl⟩;have hLl:L.length<=255:=(by rw[←hL,List.length_map];refine Nat.le_trans (List.length_filter_le ..) ?_;rw[List.length_map,List.length_range];omega);rw[hL,z0x,List.filter_append,List.map_append,hL];have ecol:∀z:Sv,evE G (run G T fu (k+2)) (.cmp .NotEq (.var 4) (.int 0)) [.val (tT rows),.val (.int w),.own (.lst (pD L)),.val (.int ((j+1:Nat):Int)),.val (.int ((bs (JL rows w m (j+1)):Nat):Int))]=some (.ok (.bl (!(JL rows w m (j+1)).isEmpty)) .strong):=λz=>by have e3:(((bs (JL rows w m (j+1)):Nat):Int)==0)=(JL rows w m (j+1)).isEmpty:=(by rw[Bool.eq_iff_iff,beq_iff_eq,List.isEmpty_iff];rw[show(((bs (JL rows w m (j+1)):Nat):Int)=0↔bs (JL rows w m (j+1))=0) by omega];exact q5k);refine q1K (q0a rfl) q0k ?_;rw[z1r,e3]
   have main:∃δ2,evSs G (run G T fu (k+2)) fu [.iff (.and [.cmp .NotEq (.var 4) (.int 0),.cmp .Eq (.call 3 [.var 0,.var 4,.var 1]) (.var 3)]) [.app 2 (.tup [.var 3,.var 4])] []] [.val (tT rows),.val (.int w),.own (.lst (pD L)),.val (.int ((j+1:Nat):Int)),.val (.int ((bs (JL rows w m (j+1)):Nat):Int))]=some (.nx δ2)/\∃z3 z4:Sv,δ2=[.val (tT rows),.val (.int w),.own (.lst (pD (L++([j+1].filter (good rows w n m)).map (pr rows w m)))),z3,z4]:=by
    have ec:=ecol .no;by_cases hJ:JL rows w m (j+1)=[]
    ·have hg:good rows w n m (j+1)=false:=by unfold good;rw[hJ];rfl
     have hE:(JL rows w m (j+1)).isEmpty=true:=by rw[hJ];rfl
     rw[hE]at ec;refine⟨_,q2h (q0S (z5X ec)) rfl,.val (.int ((j+1:Nat):Int)),.val (.int ((bs (JL rows w m (j+1)):Nat):Int)),?_⟩;rw[List.filter_cons_of_neg (by rw[hg];decide),List.filter_nil,List.map_nil,List.append_nil]
    ·have hne:(JL rows w m (j+1)).isEmpty=false:=List.isEmpty_eq_false_iff.mpr hJ;rw[hne]at ec;have c0:0<bs (JL rows w m (j+1)):=Nat.pos_of_ne_zero λz=>hJ (q5k.mp z);have cl2:bs (JL rows w m (j+1))<2^m:=(bs_f _ m).1;have r1:=q6z (fu:=fu) (k:=k) (w:=w) R hn0 hn hm c0 cl2;have ecs:cs (bs (JL rows w m (j+1)))=JL rows w m (j+1):=z6r hJ;rw[ecs]at r1;have e2:evE G (run G T fu (k+2)) (.cmp .Eq (.call 3 [.var 0,.var 4,.var 1]) (.var 3)) [.val (tT rows),.val (.int w),.own (.lst (pD L)),.val (.int ((j+1:Nat):Int)),.val (.int ((bs (JL rows w m (j+1)):Nat):Int))]=some (.ok (.bl (good rows w n m (j+1))) .strong):=by
      have q:=b_eq (q0x (G:=G) (F:=run G T fu (k+2)) (δ:=[.val (tT rows),.val (.int w),.own (.lst (pD L)),.val (.int ((j+1:Nat):Int)),.val (.int ((bs (JL rows w m (j+1)):Nat):Int))]) (f:=3) (q0d (q0a (n:=0) (d:=tT rows) rfl) (q0d (q0a (n:=4) (d:=.int ((bs (JL rows w m (j+1)):Nat):Int)) rfl) (q0d (q0a (n:=1) (d:=.int w) rfl) q0l))) rfl r1) (q0a (n:=3) (d:=.int ((j+1:Nat):Int)) rfl);have e3:(((bs (RL rows w n (JL rows w m (j+1))):Nat):Int)==((j+1:Nat):Int))=good rows w n m (j+1):=(by unfold good;rw[hne,Bool.not_false,Bool.true_and,Bool.eq_iff_iff,beq_iff_eq,beq_iff_eq];omega);rw[q,e3]
     cases hg:good rows w n m (j+1)with
     | false=>
      rw[hg]at e2;refine⟨_,q2h (q0S (z2V ec (z4b e2))) rfl,.val (.int ((j+1:Nat):Int)),.val (.int ((bs (JL rows w m (j+1)):Nat):Int)),?_⟩;rw[List.filter_cons_of_neg (by rw[hg];decide),List.filter_nil,List.map_nil,List.append_nil]
     | true=>
      rw[hg]at e2;refine⟨_,z2o (q0S (z2V ec (z4b e2))) (q0M (z0m (d:=.tup [.int ((j+1:Nat):Int),.int ((bs (JL rows w m (j+1)):Nat):Int)]) (cl:=.strong) (ds:=pD L) rfl rfl rfl (by unfold pD;rw[List.length_map];exact Nat.lt_of_le_of_lt hLl (by decide))) rfl) rfl,.val (.int ((j+1:Nat):Int)),.val (.int ((bs (JL rows w m (j+1)):Nat):Int)),?_⟩;rw[List.filter_cons_of_pos hg,List.filter_nil];unfold pD;rw[List.map_append];rfl
   obtain⟨δ2,g1,g2⟩:=main;exact⟨δ2,q0M (q0P (d:=.int ((bs (JL rows w m (j+1)):Nat):Int)) (cl:=.strong) (q0x (q0d (q0a (n:=0) (d:=tT rows) rfl) (q0d (q0a (n:=3) (d:=.int ((j+1:Nat):Int)) rfl) (q0d (q0a (n:=1) (d:=.int w) rfl) q0l))) rfl c1) rfl) g1,g2⟩) ⟨.no,.no,rfl⟩
 unfold q3J;exact q2Y (q0M (q7q (d:=.lst []) rfl) (q5T (z2l (n:=2^n) (q6E (j:=n) (by omega) (q4p R (q0a rfl))) (by omega)) (.inr rfl) h1 (q2Q rfl)))
end
end k32
end
noncomputable section
namespace k32
open PySem L2
variable {fu k:Nat} {F:Nat->List DV->Option Ou} {δ:List Sv} {ds:List DV} {cl:Cl}
theorem z3t{S:Nat}(s0:0<S)(s1:S<2^8):run G T fu (k+1) 9 [.int S]=some (.v (.lst (nD (cs S))) true):=by
 rw[q1N (fd:=q1C) rfl rfl];have cm:=q1k (F:=run G T fu k) (δ:=[.val (.int S)]) (l:=List.range 8) (h:=λ(j:Nat)=>DV.int (j:Int)) (f:=λ(j:Nat)=>DV.int (j:Int)) (p:=S.testBit) (elt:=.var 0) (tg:=.one 0) (it:=.rng [.int 8])
  (cd:=.cmp .Eq (.bin .BitAnd (.bin .RShift (.var 1) (.var 0)) (.int 1)) (.int 1)) (fr:=[none,some 0]) (cl:=.fresh)
  (z0s (n:=8) (c:=.strong) rfl (by decide)) (by decide) (by decide) (λj hj=>by
   refine⟨[.val (.int j),.val (.int S)],rfl,?_,.strong,rfl,rfl⟩;have e1:evE G (run G T fu k) (.bin .RShift (.var 1) (.var 0)) [.val (.int j),.val (.int S)]=some (.ok (.int ((S:Int)/2^((j:Int).toNat))) .strong):=q2E (q0a rfl) (q0a rfl) (show(if 0<=(j:Int)then some (Re.ok (.int ((S:Int)/2^((j:Int).toNat))) Cl.strong)else none)=_ from if_pos (Int.natCast_nonneg j));have e2:evE G (run G T fu k) (.bin .BitAnd (.bin .RShift (.var 1) (.var 0)) (.int 1)) [.val (.int j),.val (.int S)]=some (.ok (.int (if S.testBit j then 1 else 0)) .strong):=q2E e1 q0k (by rw[←z1W];rfl);have e3:=b_eq e2 (q0k (i:=1));rw[q0S e3];cases S.testBit j<;>rfl)
 rw[←z4l s0 s1]at cm;unfold q1C;exact q2Y (q2Q (q2H cm))
theorem q6Y:∀(l:List Nat) (a:Nat) (z:Sv) (t:Sv),(∀j∈l,j<=1000)->∃z':Sv,q1L (.one 2) (λδ'=>evSs G (run G T fu (k+1)) fu [.set 1 false (.bin .Add (.var 1) (.call 8 [.var 2]))] δ') (nD l) [t,.val (.int (a:Int)),z]=some (.nx [t,.val (.int ((a+bs l:Nat):Int)),z'])
 | [],a,z,t,_=>⟨z,rfl⟩
 | j::l,a,z,t,h=>by
  have hj:=h j (List.mem_cons_self ..);obtain⟨z',e⟩:=q6Y l (a+2^j) (.val (.int j)) t (λi hi=>h i (List.mem_cons_of_mem _ hi));refine⟨z',?_⟩;have e1:a+bs (j::l)=a+2^j+bs l:=by simp only[bs,List.map_cons,List.sum_cons];omega
  rw[e1,←e];refine z1N (δ1:=[t,.val (.int (a:Int)),.val (.int j)]) rfl (q0M (q0P (d:=.int ((a+2^j:Nat):Int)) (cl:=.strong) ?_ rfl) rfl);have:=q4u (q0a (G:=G) (F:=run G T fu (k+1)) (δ:=[t,.val (.int (a:Int)),.val (.int j)]) (n:=1) (d:=.int (a:Int)) rfl) (q0x (f:=8) (q0d (q0a (n:=2) (d:=.int j) rfl) q0l) rfl (z0v (fu:=fu) (k:=k) j hj));rw[this]
  push_cast
  rfl
theorem z4G(l:List Nat)(h:∀j∈l,j<=1000):run G T fu (k+2) 10 [.lst (nD l)]=some (.v (.int ((bs l:Nat):Int)) false):=by
 rw[q1N (fd:=q2w) rfl rfl];obtain⟨z',e⟩:=q6Y (fu:=fu) (k:=k) l 0 .no (.val (.lst (nD l))) h;rw[Nat.zero_add]at e;unfold q2w;exact q2Y (q0M (q0P (d:=.int 0) (cl:=.strong) rfl rfl) (q5T (cl:=.strong) rfl (.inl rfl) e (q2Q (q2H (q0a rfl)))))
section
variable {rows:List (List Int)} {w:Int} {n m:Nat}
def mB:List MS:=[.set 4 false (.comp (.ix (.var 1) (.var 0)) (.one 0) (.call 9 [.var 3]) [none,some 0]),.set 5 false (.compi (.var 0) (.one 0) (.rng [.bi .len [.ix (.var 0) (.int 0)]]) (.cmp .Eq (.bi .len [.compi (.var 0) (.one 0) (.var 1) (.cmp .NotEq (.ix (.var 0) (.var 1)) (.var 2)) [none,some 0,some 2]]) (.int 0)) [none,some 4,some 1]),.iff (.cmp .NotEq (.var 5) (.lst [])) [.set 6 false (.compi (.var 0) (.one 0) (.rng [.bi .len [.var 0]]) (.cmp .Eq (.bi .len [.compi (.var 0) (.one 0) (.var 1) (.cmp .NotEq (.ix (.ix (.var 1) (.var 2)) (.var 0)) (.var 3)) [none,some 2,some 0,some 3]]) (.int 0)) [none,some 5,some 0,some 1]),.dpt 2 [.call 10 [.var 6],.call 10 [.var 5]] (.bl true)] []]
def es(L:List (Int×Int)):Sv:=.od (.tup [.dct (L.map kD) [],.non])
theorem z5c{i:Nat}{ks:List ME}{e:ME}{L:List (Int×Int)}{p:Int×Int}{c c1 c2:Cl}(h0:δ[i]? = some (es L))(hL:L.length<=1000)(he:evE G F e δ=some (.ok (.bl true) c))(hk:evEs G F ks δ=some (.ok [(.int p.1,c1),(.int p.2,c2)])):evS G F fu (.dpt i ks e) δ=some (.nx (δ.set i (es (addP L p)))):=by
 unfold evS;rw[h0];show Re.thnS δ (evE G F e δ) (λd _=>Rs.thnS δ (evEs G F ks δ) λl=>(dptD i δ (L.map kD) l d).map Out.nx)=_;rw[he];show Rs.thnS δ (evEs G F ks δ) (λl=>(dptD i δ (L.map kD) l (.bl true)).map Out.nx)=_;rw[hk];show(if(L.map kD).length<mostLen then some (δ.set i (.od (.tup [.dct (addK (kD p) (L.map kD)) [],.non])))else none).map Out.nx=_;rw[if_pos (by rw[List.length_map];exact Nat.lt_of_le_of_lt hL (by decide)),z0k];rfl
theorem z2b{ds:List DV}(h:DV.plains 59 ds=true):cmpD .Eq (.lst ds) (.lst [])=some ds.isEmpty/\cmpD .NotEq (.lst ds) (.lst [])=some (!ds.isEmpty):=by
 have p:DV.plain 60 (.lst ds)=true:=h;have d:deq (.lst ds) (.lst [])=ds.isEmpty:=by cases ds<;>rfl
 refine⟨?_,?_⟩
 ·show(if(DV.plain 60 (.lst ds)&&DV.plain 60 (.lst []))=true then some (deq (.lst ds) (.lst []))else none)=_;rw[p,d];rfl
 ·show(if(DV.plain 60 (.lst ds)&&DV.plain 60 (.lst []))=true then some (!deq (.lst ds) (.lst []))else none)=_;rw[p,d];rfl
theorem z7l(l:List Nat):DV.plains 59 (nD l)=true:=q4r λd hd=>by
 obtain⟨j,_,rfl⟩:=List.mem_map.mp hd;exact z3y _ _
theorem z8a(l:List (Int×Int)):DV.plains 59 (pD l)=true:=q4r λd hd=>by
 obtain⟨p,_,rfl⟩:=List.mem_map.mp hd;exact q8L 58 [p.1,p.2]
theorem len0{α:Type}(l:List α)(p:α->Bool):(((l.filter λa=>!p a).length:Int)==0)=l.all p:=by
 rw[Bool.eq_iff_iff,beq_iff_eq,List.all_eq_true];rw[show(((l.filter λa=>!p a).length:Int)=0↔(l.filter λa=>!p a).length=0) by omega,List.length_eq_zero_iff,List.filter_eq_nil_iff];constructor
 ·intro h a ha;have:=h a ha;cases q:p a with
  | true=>rfl
  | false=>rw[q]at this;exact absurd rfl this
 ·intro h a ha;rw[h a ha];decide
theorem z3U(l:List Nat)(S:Nat):ml rows w n m (l++[S])=if JL rows w m S=[]then ml rows w n m l else addP (ml rows w n m l) (mp rows w n m S):=by
 unfold ml;rw[List.filter_append,List.foldl_append];by_cases h:JL rows w m S=[]
 ·rw[if_pos h,List.filter_cons_of_neg (by rw[h];decide)];rfl
 ·rw[if_neg h,List.filter_cons_of_pos (by rw[Bool.not_eq_true',List.isEmpty_eq_false_iff];exact h)];rfl
theorem z2q(l:List Nat):(ml rows w n m l).length<=l.length:=by
 have add:∀(L:List (Int×Int)) k,(addP L k).length<=L.length+1:=λL k=>by
  unfold addP;split
  ·omega
  ·rw[List.length_append];exact Nat.le_refl _
 have:∀(l:List Nat) (L:List (Int×Int)),(l.foldl (λa S=>addP a (mp rows w n m S)) L).length<=L.length+l.length:=by
  intro l
  induction l with
  | nil=>exact λL=>Nat.le_refl _
  | cons S l ih=>
   intro L;have h1:=ih (addP L (mp rows w n m S));have h2:=add L (mp rows w n m S);rw[List.foldl_cons,List.length_cons];omega
 refine Nat.le_trans (this _ _) ?_;rw[List.length_nil,Nat.zero_add];exact List.length_filter_le ..
theorem turn(R:Rect n m rows)(hn0:0<n)(hn:n<=8)(hm:m<=8){S:Nat}(s0:0<S)(s1:S<2^n)(L:List (Int×Int))(hL:L.length<=1000)(z4 z5 z6:Sv):∃y4 y5 y6:Sv,evSs G (run G T fu (k+2)) fu mB [.val (tT rows),.val (.int w),es L,.val (.int (S:Int)),z4,z5,z6]=some (.nx [.val (tT rows),.val (.int w),es (if JL rows w m S=[]then L else addP L (mp rows w n m S)),.val (.int (S:Int)),y4,y5,y6]):=by
 have h8:S<2^8:=Nat.lt_of_lt_of_le s1 (Nat.pow_le_pow_right (by decide) hn);have c9:=z3t (fu:=fu) (k:=k+1) s0 h8;have cl8:(cs S).length<=1000:=z0y s0 (two8 hn s1);have e1:=q5g (F:=run G T fu (k+2)) (δ:=[.val (tT rows),.val (.int w),es L,.val (.int (S:Int)),z4,z5,z6]) (l:=cs S) (h:=λ(j:Nat)=>DV.int (j:Int)) (f:=λj=>.tup (iD (rows.getD j []))) (elt:=.ix (.var 1) (.var 0)) (tg:=.one 0) (it:=.call 9 [.var 3]) (fr:=[none,some 0]) (cl:=.fresh)
  (by rw[q0x (G:=G) (f:=9) (q0d (q0a (n:=3) (d:=.int (S:Int)) rfl) q0l) rfl c9];rfl) (by decide) (Nat.le_trans cl8 (by decide)) (λj hj=>⟨[.val (.int j),.val (tT rows)],_,rfl,q1U (q0a rfl) (q0a rfl) (q7T (by rw[R.1];exact q8f s1 hj)),rfl⟩)
 have e2:=q1k (F:=run G T fu (k+2)) (δ:=[.val (tT rows),.val (.int w),es L,.val (.int (S:Int)),.val (.lst ((cs S).map λj=>.tup (iD (rows.getD j [])))),z5,z6]) (l:=List.range m) (h:=λ(j:Nat)=>DV.int (j:Int)) (f:=λ(j:Nat)=>DV.int (j:Int)) (p:=jp rows w (cs S)) (elt:=.var 0) (tg:=.one 0) (it:=.rng [.bi .len [.ix (.var 0) (.int 0)]])
  (cd:=.cmp .Eq (.bi .len [.compi (.var 0) (.one 0) (.var 1) (.cmp .NotEq (.ix (.var 0) (.var 1)) (.var 2)) [none,some 0,some 2]]) (.int 0)) (fr:=[none,some 4,some 1]) (cl:=.fresh)
  (z0s (q7Q R hn0 (q0a rfl)) (by omega)) (by decide) (by rw[List.length_range];exact Nat.le_trans hm (by decide)) (λc hc=>by
   have hc':=List.mem_range.mp hc;refine⟨[.val (.int c),.val (.lst ((cs S).map λj=>.tup (iD (rows.getD j [])))),.val (.int w)],rfl,?_,.strong,rfl,rfl⟩;have q:=q1k (F:=run G T fu (k+2)) (δ:=[.val (.int c),.val (.lst ((cs S).map λj=>.tup (iD (rows.getD j [])))),.val (.int w)]) (l:=cs S) (h:=λj=>DV.tup (iD (rows.getD j []))) (f:=λj=>DV.tup (iD (rows.getD j []))) (p:=λr=>!(ax rows r c==w)) (elt:=.var 0) (tg:=.one 0) (it:=.var 1) (cd:=.cmp .NotEq (.ix (.var 0) (.var 1)) (.var 2)) (fr:=[none,some 0,some 2]) (cl:=.strong)
    rfl (by decide) (Nat.le_trans cl8 (by decide)) (λr hr=>⟨[.val (.tup (iD (rows.getD r []))),.val (.int c),.val (.int w)],rfl,q0S (q1K (q1U (q0a rfl) (q0a rfl) (q6p (by rw[R.2 _ (q3l (by rw[R.1];exact q8f s1 hr))];exact hc'))) (q0a rfl) (z1r _ _)),.strong,rfl,rfl⟩)
   have q2:=b_eq (q4q q) (q0k (i:=0));rw[List.length_map,len0 (cs S) λr=>ax rows r c==w]at q2;exact q0S q2)
 have e2':evE G (run G T fu (k+2)) (.compi (.var 0) (.one 0) (.rng [.bi .len [.ix (.var 0) (.int 0)]]) (.cmp .Eq (.bi .len [.compi (.var 0) (.one 0) (.var 1) (.cmp .NotEq (.ix (.var 0) (.var 1)) (.var 2)) [none,some 0,some 2]]) (.int 0)) [none,some 4,some 1]) [.val (tT rows),.val (.int w),es L,.val (.int (S:Int)),.val (.lst ((cs S).map λj=>.tup (iD (rows.getD j [])))),z5,z6]=some (.ok (.lst (nD (JL rows w m S))) .fresh):=e2;have jl:(JL rows w m S).length<=8:=(by unfold JL;refine Nat.le_trans (List.length_filter_le ..) ?_;rw[List.length_range];exact hm);have jm:∀j∈JL rows w m S,j<m:=λj hj=>List.mem_range.mp (List.mem_filter.mp hj).1;unfold mB;by_cases hJ:JL rows w m S=[]
 ·refine⟨.val (.lst ((cs S).map λj=>.tup (iD (rows.getD j [])))),.val (.lst (nD [])),z6,?_⟩;rw[if_pos hJ];rw[hJ]at e2';refine q0M (q0P (d:=.lst ((cs S).map λj=>.tup (iD (rows.getD j [])))) (cl:=.fresh) e1 rfl) (q0M (q0P (d:=.lst (nD [])) (cl:=.fresh) e2' rfl) (q2h (q0S (x:=false) (cl:=.strong) rfl) rfl))
 ·rw[if_neg hJ];obtain⟨j0,js,ej⟩:∃j0 js,JL rows w m S=j0::js:=List.exists_cons_of_ne_nil hJ;have e3:=q1k (F:=run G T fu (k+2)) (δ:=[.val (tT rows),.val (.int w),es L,.val (.int (S:Int)),.val (.lst ((cs S).map λj=>.tup (iD (rows.getD j [])))),.val (.lst (nD (JL rows w m S))),z6]) (l:=List.range n) (h:=λ(j:Nat)=>DV.int (j:Int)) (f:=λ(j:Nat)=>DV.int (j:Int)) (p:=rp rows w (JL rows w m S)) (elt:=.var 0) (tg:=.one 0) (it:=.rng [.bi .len [.var 0]])
   (cd:=.cmp .Eq (.bi .len [.compi (.var 0) (.one 0) (.var 1) (.cmp .NotEq (.ix (.ix (.var 1) (.var 2)) (.var 0)) (.var 3)) [none,some 2,some 0,some 3]]) (.int 0)) (fr:=[none,some 5,some 0,some 1]) (cl:=.fresh)
   (z0s (q4p R (q0a rfl)) (by omega)) (by decide) (by rw[List.length_range];exact Nat.le_trans hn (by decide)) (λr hr=>by
    have hr':=List.mem_range.mp hr;refine⟨[.val (.int r),.val (.lst (nD (JL rows w m S))),.val (tT rows),.val (.int w)],rfl,?_,.strong,rfl,rfl⟩;have q:=q1k (F:=run G T fu (k+2)) (δ:=[.val (.int r),.val (.lst (nD (JL rows w m S))),.val (tT rows),.val (.int w)]) (l:=JL rows w m S) (h:=λ(j:Nat)=>DV.int (j:Int)) (f:=λ(j:Nat)=>DV.int (j:Int)) (p:=λc=>!(ax rows r c==w)) (elt:=.var 0) (tg:=.one 0) (it:=.var 1) (cd:=.cmp .NotEq (.ix (.ix (.var 1) (.var 2)) (.var 0)) (.var 3)) (fr:=[none,some 2,some 0,some 3]) (cl:=.strong)
     rfl (by decide) (Nat.le_trans jl (by decide)) (λc hc=>by
      obtain⟨c4,e⟩:=z2C (F:=run G T fu (k+2)) (δ:=[.val (.int c),.val (tT rows),.val (.int r),.val (.int w)]) R hr' (jm c hc) (a:=.var 1) (b:=.var 2) (x:=.var 0) (q0a rfl) (q0a rfl) (q0a rfl);exact⟨_,rfl,q0S (q1K e (q0a rfl) (z1r _ _)),.strong,rfl,rfl⟩)
    have q2:=b_eq (q4q q) (q0k (i:=0));rw[List.length_map,len0 (JL rows w m S) λc=>ax rows r c==w]at q2;exact q0S q2)
  have e3':evE G (run G T fu (k+2)) (.compi (.var 0) (.one 0) (.rng [.bi .len [.var 0]]) (.cmp .Eq (.bi .len [.compi (.var 0) (.one 0) (.var 1) (.cmp .NotEq (.ix (.ix (.var 1) (.var 2)) (.var 0)) (.var 3)) [none,some 2,some 0,some 3]]) (.int 0)) [none,some 5,some 0,some 1]) [.val (tT rows),.val (.int w),es L,.val (.int (S:Int)),.val (.lst ((cs S).map λj=>.tup (iD (rows.getD j [])))),.val (.lst (nD (JL rows w m S))),z6]=some (.ok (.lst (nD (RL rows w n (JL rows w m S)))) .fresh):=e3;have a1:=z4G (fu:=fu) (k:=k) (RL rows w n (JL rows w m S)) (λj hj=>by have:=List.mem_range.mp (List.mem_filter.mp hj).1;omega);have a2:=z4G (fu:=fu) (k:=k) (JL rows w m S) (λj hj=>by have:=jm j hj;omega);refine⟨.val (.lst ((cs S).map λj=>.tup (iD (rows.getD j [])))),.val (.lst (nD (JL rows w m S))),.val (.lst (nD (RL rows w n (JL rows w m S)))),q0M (q0P (d:=.lst ((cs S).map λj=>.tup (iD (rows.getD j [])))) (cl:=.fresh) e1 rfl) (q0M (q0P (d:=.lst (nD (JL rows w m S))) (cl:=.fresh) e2' rfl) (z2o (q0S (x:=true) (cl:=.strong) ?_) (q0M (q0P (d:=.lst (nD (RL rows w n (JL rows w m S)))) (cl:=.fresh) e3' rfl) (q0M (z5c (L:=L) (p:=mp rows w n m S) rfl hL rfl (q0d (q0x (f:=10) (q0d (q0a (n:=6) (d:=.lst (nD (RL rows w n (JL rows w m S)))) rfl) q0l) rfl a1) (q0d (q0x (f:=10) (q0d (q0a (n:=5) (d:=.lst (nD (JL rows w m S))) rfl) q0l) rfl a2) q0l))) rfl)) rfl))⟩;refine q1K (q0a (d:=.lst (nD (JL rows w m S))) rfl) (y:=.lst []) (cy:=.fresh) rfl ?_;rw[(z2b (z7l _)).2,ej];rfl
theorem z7f(R:Rect n m rows)(hn0:0<n)(hn:n<=8)(hm:m<=8):run G T fu (k+3) 11 [tT rows,.int w]=some (.v (.lst (pD (wl rows w n m))) true):=by
 rw[q1N (fd:=q0V) rfl rfl];have h8:2^n<=2^8:=Nat.pow_le_pow_right (by decide) hn;obtain⟨δ1,h1,z3,z4,z5,z6,rfl⟩:=q1x (i:=3) (I:=λj δ=>∃z3 z4 z5 z6:Sv,δ=[.val (tT rows),.val (.int w),es (ml rows w n m ((List.range j).map (· + 1))),z3,z4,z5,z6])
  (body:=λδ'=>evSs G (run G T fu (k+2)) fu mB δ') (2^n - 1) 1 (δ:=[.val (tT rows),.val (.int w),es [],.no,.no,.no,.no])
  (λj hj δ I=>by
   obtain⟨z3,z4,z5,z6,rfl⟩:=I;rw[show(1:Int)+(j:Int)=((j+1:Nat):Int) by omega];have hl:=z2q (rows:=rows) (w:=w) (n:=n) (m:=m) ((List.range j).map (· + 1));rw[List.length_map,List.length_range]at hl;obtain⟨y4,y5,y6,e⟩:=turn (fu:=fu) (k:=k) (w:=w) R hn0 hn hm (S:=j+1) (by omega) (by omega) (ml rows w n m ((List.range j).map (· + 1))) (by omega) z4 z5 z6;refine⟨_,e,.val (.int ((j+1:Nat):Int)),y4,y5,y6,?_⟩;rw[z0x,z3U]) ⟨.no,.no,.no,.no,rfl⟩
 unfold q0V;have hl:=z2q (rows:=rows) (w:=w) (n:=n) (m:=m) ((List.range (2^n - 1)).map (· + 1));rw[List.length_map,List.length_range]at hl;have pw:=z0v (fu:=fu) (k:=k+1) n (by omega);refine q2Y (q0M (m:=.ses 2) (δ':=[.val (tT rows),.val (.int w),es [],.no,.no,.no,.no]) rfl (q5T (z2l (n:=2^n) (q0x (f:=8) (q0d (q4p R (q0a rfl)) q0l) rfl pw) (by omega)) (.inr rfl) h1 (q2Q (q2H (cl:=.fresh) ?_))));show srdD ((ml rows w n m (al n)).map kD)=_;unfold srdD;rw[z0F];show(if q2U (q3N (ml rows w n m (al n)))=true/\(ml rows w n m (al n)).length<=1000 then some (Re.ok (.lst ((q3N (ml rows w n m (al n))).map λp=>.tup [.int p.1,.int p.2])) .fresh)else none)=_;rw[if_pos ⟨by rw[z2h];exact q5C q6s,by unfold al;omega⟩,z2h];rfl
end
end k32
end
noncomputable section
namespace k32
open PySem L2
variable {fu k:Nat} {F:Nat->List DV->Option Ou} {δ:List Sv} {ds:List DV} {cl:Cl}
theorem z0i:∀{l:List (Int×Int)} {d:DV},d∈zpD (pD l) (pD l)->∃p∈l,d=.tup [.tup [.int p.1,.int p.2],.tup [.int p.1,.int p.2]]
 | [],d,h=>by cases h
 | a::r,d,h=>by
  have h':d∈DV.tup [.tup [.int a.1,.int a.2],.tup [.int a.1,.int a.2]]::zpD (pD r) (pD r):=h;rcases List.mem_cons.mp h' with e | e
  ·exact⟨a,List.mem_cons_self ..,e⟩
  ·obtain⟨x,hx,e⟩:=z0i e;exact⟨x,List.mem_cons_of_mem _ hx,e⟩
theorem z7u(p:Int×Int):cmpD .NotEq (.tup [.int p.1,.int p.2]) (.tup [.int p.1,.int p.2])=some false:=by
 have q:deq (.tup [.int p.1,.int p.2]) (.tup [.int p.1,.int p.2])=true:=(z8e [p.1,p.2] [p.1,p.2]).trans (beq_self_eq_true _);have r:DV.plain 60 (.tup [.int p.1,.int p.2])=true:=q8L 59 [p.1,p.2];show(if(DV.plain 60 (.tup [.int p.1,.int p.2])&&DV.plain 60 (.tup [.int p.1,.int p.2]))=true then some (!deq (.tup [.int p.1,.int p.2]) (.tup [.int p.1,.int p.2]))else none)=_;rw[q,r];rfl
theorem z2P(l:List (Int×Int)):run G T fu (k+2) 13 [.lst (pD l),.lst (pD l)]=some (.v (.bl true) false):=by
 rw[q1N (fd:=q1D) rfl rfl];obtain⟨δ1,h1,z2,z3,rfl⟩:=q6j (I:=λδ=>∃z2 z3:Sv,δ=[.val (.lst (pD l)),.val (.lst (pD l)),z2,z3]) (tg:=.many [2,3])
  (body:=λδ'=>evSs G (run G T fu (k+1)) fu [.iff (.or [.not (.isi (.var 2) ["tuple"]),.cmp .NotEq (.bi .len [.var 2]) (.int 2),.not (.call 4 [.ix (.var 2) (.int 0)]),.not (.call 4 [.ix (.var 2) (.int 1)])]) [.ret (.bl false)] [],.iff (.cmp .NotEq (.var 2) (.var 3)) [.ret (.bl false)] []] δ') (ds:=zpD (pD l) (pD l)) (δ:=[.val (.lst (pD l)),.val (.lst (pD l)),.no,.no])
  (λd hd δ I=>by
   obtain⟨z2,z3,rfl⟩:=I;obtain⟨p,_,rfl⟩:=z0i hd;refine⟨_,_,rfl,?_,.val (.tup [.int p.1,.int p.2]),.val (.tup [.int p.1,.int p.2]),rfl⟩;exact q2h (q0S (x:=false) (cl:=.strong) rfl) (q2h (q0S (x:=false) (cl:=.strong) (q1K (q0a rfl) (q0a rfl) (z7u p))) rfl)) ⟨.no,.no,rfl⟩
 unfold q1D;have hl:evE G (run G T fu (k+1)) (.cmp .NotEq (.bi .len [.var 0]) (.bi .len [.var 1])) [.val (.lst (pD l)),.val (.lst (pD l)),.no,.no]=some (.ok (.bl false) .strong):=by have:=q1K (op:=.NotEq) (t:=false) (q4q (F:=run G T fu (k+1)) (δ:=[.val (.lst (pD l)),.val (.lst (pD l)),.no,.no]) (e:=.var 0) (ds:=pD l) (c:=.strong) rfl) (q4q (e:=.var 1) (ds:=pD l) (c:=.strong) rfl) (by rw[z1r,beq_self_eq_true];rfl);exact this
 exact q2Y (q2h (q0S (or_f (a:=.not (.isi (.var 0) ["list"])) (cx:=.strong) rfl (or_1 hl))) (q5T (cl:=.strong) rfl (.inl rfl) h1 (q2Q (q2H (cl:=.strong) rfl))))
theorem in_t(w:Int)(r:List Int):cmpD .In (.int w) (.tup (iD r))=some (r.any λx=>x==w):=by
 have e:(iD r).any (λd=>deq d (.int w))=r.any λx=>x==w:=by unfold iD;rw[List.any_map];rfl
 show(if(DV.plain 60 (.int w)&&DV.plains 60 (iD r))=true then some ((iD r).any λd=>deq d (.int w))else none)=_;rw[q2M,e];rfl
section
variable {rows:List (List Int)} {w:Int} {n m:Nat}
theorem z7z{i j:Nat}(hi:i<n)(hj:j<m):wl rows (ax rows i j) n m≠[]:=λz=>by
 have h2:2^i<2^n:=Nat.pow_lt_pow_right (by decide) hi;have h0:0<2^i:=Nat.pow_pos (by decide);have hJ:JL rows (ax rows i j) m (2^i)≠[]:=λq=>by have:j∈JL rows (ax rows i j) m (2^i):=(by refine List.mem_filter.mpr ⟨List.mem_range.mpr hj,List.all_eq_true.mpr λr hr=>?_⟩;have hb:=(List.mem_filter.mp hr).2;rw[Nat.testBit_two_pow]at hb;have:i=r:=of_decide_eq_true hb;subst this;exact beq_self_eq_true _);rw[q]at this;cases this
 have:=q8Y (rows:=rows) (w:=ax rows i j) (n:=n) (m:=m).mpr ⟨2^i,⟨h0,h2⟩,hJ,rfl⟩;rw[z]at this;cases this
theorem z8b(h:∀r c,r<n->c<m->ax rows r c≠w):wl rows w n m=[]:=by
 cases q:wl rows w n m with
 | nil=>rfl
 | cons x l=>
  have:x∈wl rows w n m:=by rw[q];exact List.mem_cons_self ..
  obtain⟨S,hS,hJ,_⟩:=q8Y.mp this;obtain⟨c,hc⟩:=List.exists_mem_of_ne_nil _ hJ;obtain⟨r,hr⟩:=List.exists_mem_of_ne_nil _ (z2y hS.1 hS.2);obtain⟨h1,h2⟩:=List.mem_filter.mp hc;exact absurd (beq_iff_eq.mp (List.all_eq_true.mp h2 r hr)) (h r c (q8f hS.2 hr) (List.mem_range.mp h1))
theorem z7S(R:Rect n m rows){r c:Nat}(hr:r<n)(hc:c<m):rows.getD r []∈rows/\ax rows r c∈rows.getD r []:=by
 have hm:=q3l (rows:=rows) (i:=r) (by rw[R.1];exact hr);refine⟨hm,?_⟩;have hl:=R.2 _ hm;unfold ax;generalize rows.getD r []=q at hl ⊢;rw[List.getD_eq_getElem?_getD,List.getElem?_eq_getElem (by rw[hl];exact hc)];exact List.getElem_mem _
end
theorem ixm{n:Nat}(x:Int)(hn:0<n):∃i:Nat,i<n/\x%(n:Int)=(i:Int):=by
 have h1:=Int.emod_nonneg x (show(n:Int)≠0 by omega);have h2:=Int.emod_lt_of_pos x (show(0:Int)<n by omega);exact⟨(x%n).toNat,by omega,by omega⟩
theorem z2I:∀ns:List Int,ns.length<=63->run G T 100 60 14 [.scr ns]=some (.v (.bl true) false):=by
 intro ns hns;rw[q1N (fd:=z1A) rfl rfl];obtain⟨n,m,rows,n0,n8,m0,m8,R,B,ft⟩:=z5V (fu:=100) (k:=57) ns hns;obtain⟨v0,c0⟩:=q7y (fu:=100) (k:=58) ns 0;obtain⟨v1,c1⟩:=q7y (fu:=100) (k:=58) ns 1;obtain⟨i,hi,ei⟩:=ixm (v0/7) n0;obtain⟨j,hj,ej⟩:=ixm (v1/7) m0;obtain⟨rw',hrw⟩:∃q,rows.getD i []=q:=⟨_,rfl⟩;have hrl:rw'.length=m:=by rw[←hrw];exact R.2 _ (q3l (by rw[R.1];exact hi))
 obtain⟨w,hw⟩:∃w,ax rows i j=w:=⟨_,rfl⟩;have ha:=λw=>z7f (fu:=100) (k:=56) (w:=w) R n0 n8 m8
 have hd:=λw=>z1O (fu:=100) (k:=56) (w:=w) R n0 n8 m8;have hp:=λl=>z2P (fu:=100) (k:=57) l;have wne:wl rows w n m≠[]:=by rw[←hw];exact z7z hi hj
 have wlen:∀w,(wl rows w n m).length<=255:=λw=>z5P n8;obtain⟨δ1,h1,z6,rfl⟩:=q1x (i:=6) (I:=λ_ δ=>∃z6:Sv,δ=[.val (.scr ns),.val (tT rows),.val (.tup (iD rw')),.val (.int w),.val (.lst (pD (wl rows w n m))),.own (.lst (pD (wl rows w n m)++[.int 0])),z6,.no])
  (body:=λδ'=>evSs G (run G T 100 59) 100 [.iff (.and [.cmp .Eq (.bi .len [.compi (.var 0) (.one 0) (.var 1) (.cmp .In (.var 1) (.var 0)) [none,some 6]]) (.int 0),.cmp .NotEq (.call 1 [.var 1,.var 6]) (.lst [])]) [.ret (.bl false)] []] δ') 10 0 (δ:=[.val (.scr ns),.val (tT rows),.val (.tup (iD rw')),.val (.int w),.val (.lst (pD (wl rows w n m))),.own (.lst (pD (wl rows w n m)++[.int 0])),.no,.no])
  (λo ho δ I=>by
   obtain⟨z6,rfl⟩:=I;rw[show(0:Int)+(o:Int)=o by omega];refine⟨_,?_,.val (.int o),rfl⟩;have q:=q1k (F:=run G T 100 59) (δ:=[.val (.scr ns),.val (tT rows),.val (.tup (iD rw')),.val (.int w),.val (.lst (pD (wl rows w n m))),.own (.lst (pD (wl rows w n m)++[.int 0])),.val (.int (o:Int)),.no]) (l:=rows) (h:=λr=>DV.tup (iD r)) (f:=λr=>DV.tup (iD r)) (p:=λr=>r.any λx=>x==(o:Int)) (elt:=.var 0) (tg:=.one 0) (it:=.var 1) (cd:=.cmp .In (.var 1) (.var 0)) (fr:=[none,some 6]) (cl:=.strong)
    rfl (by decide) (by rw[R.1];exact Nat.le_trans n8 (by decide)) (λr hr=>⟨[.val (.tup (iD r)),.val (.int (o:Int))],rfl,q0S (q1K (q0a rfl) (q0a rfl) (in_t _ _)),.strong,rfl,rfl⟩)
   have q2:=b_eq (q4q q) (q0k (i:=0));rw[List.length_map]at q2;by_cases hz:rows.filter (λr=>r.any λx=>x==(o:Int))=[]
   ·rw[hz]at q2;have nowd:wl rows (o:Int) n m=[]:=z8b λr c hr hc e=>by
     obtain⟨m1,m2⟩:=z7S R hr hc;have:=List.filter_eq_nil_iff.mp hz _ m1;rw[List.any_eq_true]at this;exact this ⟨_,m2,by rw[e];exact beq_self_eq_true _⟩
    have dd:=hd (o:Int);rw[nowd]at dd;exact q2h (q0S (x:=false) (cl:=.strong) (z2V q2 (z4b (q1K (t:=false) (y:=.lst []) (cy:=.fresh) (q0x (f:=1) (q0d (q0a (n:=1) (d:=tT rows) rfl) (q0d (q0a (n:=6) (d:=.int (o:Int)) rfl) q0l)) rfl dd) rfl rfl)))) rfl
   ·have:(((rows.filter (λr=>r.any λx=>x==(o:Int))).length:Int)==0)=false:=by
     rw[beq_eq_false_iff_ne];intro z;exact hz (List.length_eq_zero_iff.mp (by omega))
    rw[this]at q2;exact q2h (q0S (z5X q2)) rfl) ⟨.no,rfl⟩
 unfold z1A;refine q2Y (q0M (q0P (d:=tT rows) (cl:=.strong) (q0x (f:=7) (q0d (q0a (n:=0) (d:=.scr ns) rfl) (q0d (q0k (i:=2)) q0l)) rfl ft) rfl) ?_);refine q0M (q0P (d:=.tup (iD rw')) (cl:=.strong) (q1U (q0a (n:=1) (d:=tT rows) rfl) (q3E (z3S (q0x (f:=5) (q0d (q0a (n:=0) (d:=.scr ns) rfl) (q0d (q0k (i:=0)) q0l)) rfl c0) q0k (by decide)) (q4p R (q0a rfl)) (by omega)) (by rw[ei,←hrw];exact q7T (by rw[R.1];exact hi))) rfl) ?_;refine q0M (q0P (d:=.int w) (cl:=.strong) (q1U (q0a (n:=2) (d:=.tup (iD rw')) rfl) (q3E (z3S (q0x (f:=5) (q0d (q0a (n:=0) (d:=.scr ns) rfl) (q0d (q0k (i:=1)) q0l)) rfl c1) q0k (by decide)) (by have:=q6u (F:=run G T 100 59) (δ:=[.val (.scr ns),.val (tT rows),.val (.tup (iD rw')),.no,.no,.no,.no,.no]) (e:=.var 2) (ds:=iD rw') (c:=.strong) rfl;rw[z2v,hrl]at this;exact this) (by omega)) (by rw[ej,←hw];unfold ax;rw[hrw];exact q6p (by rw[hrl];exact hj))) rfl) ?_;refine q0M (q0P (d:=.lst (pD (wl rows w n m))) (cl:=.fresh) (q0x (f:=11) (q0d (q0a (n:=1) (d:=tT rows) rfl) (q0d (q0a (n:=3) (d:=.int w) rfl) q0l)) rfl (ha w)) rfl) ?_;refine q0M (q7q (d:=.lst (pD (wl rows w n m))) (q0x (f:=1) (q0d (q0a (n:=1) (d:=tT rows) rfl) (q0d (q0a (n:=3) (d:=.int w) rfl) q0l)) rfl (hd w))) ?_;have eqn:evE G (run G T 100 59) (.cmp .Eq (.var 4) (.lst [])) [.val (.scr ns),.val (tT rows),.val (.tup (iD rw')),.val (.int w),.val (.lst (pD (wl rows w n m))),.own (.lst (pD (wl rows w n m))),.no,.no]=some (.ok (.bl false) .strong):=by
  refine q1K (q0a (d:=.lst (pD (wl rows w n m))) rfl) (y:=.lst []) (cy:=.fresh) rfl ?_;rw[(z2b (z8a _)).1]
  congr 1
  rw[List.isEmpty_eq_false_iff];intro z;exact wne (List.map_eq_nil_iff.mp z)
 have prs:evE G (run G T 100 59) (.not (.call 13 [.var 5,.var 4])) [.val (.scr ns),.val (tT rows),.val (.tup (iD rw')),.val (.int w),.val (.lst (pD (wl rows w n m))),.own (.lst (pD (wl rows w n m))),.no,.no]=some (.ok (.bl false) .strong):=(by refine z2m (x:=true) (cl:=.weak) (z1m (l:=[(.lst (pD (wl rows w n m)),.top),(.lst (pD (wl rows w n m)),.strong)]) rfl rfl (hp _)));refine q2h (q0S (or_f eqn (or_1 prs))) ?_;refine q0M (z0m (d:=.int 0) (cl:=.strong) (ds:=pD (wl rows w n m)) rfl rfl rfl (by unfold pD;rw[List.length_map];exact Nat.lt_of_le_of_lt (wlen w) (by decide))) ?_;refine q5T (q8r (n:=10) (cl:=.strong) rfl (by decide)) (.inr rfl) h1 ?_;obtain⟨w2,hw2⟩:∃w2,(w+1)%10=w2:=⟨_,rfl⟩;refine q0M (q0P (d:=.int w2) (cl:=.strong) (by rw[←hw2];exact q3E (q4u (q0a (n:=3) (d:=.int w) rfl) q0k) q0k (by decide)) rfl) ?_;refine q2h (q0S (x:=false) (cl:=.strong) (z2m (x:=true) (cl:=.strong) (q0x (f:=13) (q0d (q0x (f:=1) (q0d (q0a (n:=1) (d:=tT rows) rfl) (q0d (q0a (n:=7) (d:=.int w2) rfl) q0l)) rfl (hd w2)) (q0d (q0x (f:=11) (q0d (q0a (n:=1) (d:=tT rows) rfl) (q0d (q0a (n:=7) (d:=.int w2) rfl) q0l)) rfl (ha w2)) q0l)) rfl (hp _)))) ?_;exact q2Q (q2H (cl:=.strong) (q0x (f:=13) (q0d (q0x (f:=1) (q0d (q0a (n:=1) (d:=tT rows) rfl) (q0d (q0a (n:=3) (d:=.int w) rfl) q0l)) rfl (hd w)) (q0d (q0a (n:=4) (d:=.lst (pD (wl rows w n m))) rfl) q0l)) rfl (hp _)))
end k32
end
noncomputable section
namespace k32
open PySem PySem.W L2 PySem.Spec PyProof.Rows
theorem lnS{α:Type}{us:List α}{n:Nat}(h:us.length=n+1):∃a r,us=a::r/\r.length=n:=by cases us with | nil=>cases h | cons a r=>exact⟨a,r,rfl,Nat.succ.inj h⟩
theorem ln0{α:Type}{us:List α}(h:us.length=0):us=[]:=List.length_eq_zero_iff.mp h
theorem ln1{α:Type}{us:List α}(h:us.length=1):∃a0,us=[a0]:=by obtain⟨_,_,rfl,h0⟩:=lnS h;obtain rfl:=ln0 h0;exact⟨_,rfl⟩
theorem ln2{α:Type}{us:List α}(h:us.length=2):∃a0 a1,us=[a0,a1]:=by obtain⟨_,_,rfl,h0⟩:=lnS h;obtain⟨_,_,rfl,h1⟩:=lnS h0;obtain rfl:=ln0 h1;exact⟨_,_,rfl⟩
theorem ln3{α:Type}{us:List α}(h:us.length=3):∃a0 a1 a2,us=[a0,a1,a2]:=by obtain⟨_,_,rfl,h0⟩:=lnS h;obtain⟨_,_,rfl,h1⟩:=lnS h0;obtain⟨_,_,rfl,h2⟩:=lnS h1;obtain rfl:=ln0 h2;exact⟨_,_,_,rfl⟩
def fn:List Str:=["cards_in","widest","columns_with","rows_with","_law_int","_law_cell_at","_law_stream","_law_full_table","_law_power","_law_cards","_law_set","_law_all_widest","cards_in","_law_pairs","law"]
def bl:List Str:=["range","len","sum","all","isinstance","int","bool","tuple","min","sorted","zip","list"]
def cl:List Str:=[]
theorem ok0:okD fn bl cl q1w ["cards"] ["cards"] (top 1)=true:=by decide +kernel
theorem ok1:okD fn bl cl q3J ["table","word","found","rows","columns"] ["table","word"] (top 3)=true:=by decide +kernel
theorem ok2:okD fn bl cl q1i ["table","rows","word","inside"] ["table","rows","word"] (top 4)=true:=by decide +kernel
theorem ok3:okD fn bl cl q1Y ["table","columns","word","inside"] ["table","columns","word"] (top 5)=true:=by decide +kernel
theorem ok4:okD fn bl cl q4L ["_law_found"] ["_law_found"] (top 7)=true:=by decide +kernel
theorem ok5:okD fn bl cl q1h ["_law_script","_law_k"] ["_law_script","_law_k"] (top 8)=true:=by decide +kernel
theorem ok6:okD fn bl cl q1u ["_law_cell","_law_many","_law_found","_law_number","_law_k"] ["_law_cell","_law_many"] (top 9)=true:=by decide +kernel
theorem ok7:okD fn bl cl q0W ["_law_script","_law_start","_law_xs","_law_many","_law_wide","_law_top","_law_words","_law_k"] ["_law_script","_law_start"] (top 10)=true:=by decide +kernel
theorem ok8:okD fn bl cl q1E ["_law_many","_law_found","_law_k"] ["_law_many"] (top 11)=true:=by decide +kernel
theorem ok9:okD fn bl cl q1C ["_law_some"] ["_law_some"] (top 12)=true:=by decide +kernel
theorem ok10:okD fn bl cl q2w ["_law_cards_here","_law_some","_law_card"] ["_law_cards_here"] (top 13)=true:=by decide +kernel
theorem ok11:okD fn bl cl q0V ["_law_table","_law_word","_law_met","_law_rows","_law_some","_law_columns","_law_every"] ["_law_table","_law_word"] (top 14)=true:=by decide +kernel
theorem ok12:okD fn bl cl q1w ["cards"] ["cards"] (top 1)=true:=by decide +kernel
theorem ok13:okD fn bl cl q1D ["_law_found","_law_due","_law_pair","_law_right"] ["_law_found","_law_due"] (top 16)=true:=by decide +kernel
theorem ok14:okD fn bl cl z1A ["_law_script","_law_table","_law_row","_law_word","_law_due","_law_found","_law_other","_law_second"] ["_law_script"] (top 17)=true:=by decide +kernel
abbrev ck(P:Params)(x:Str)(f:Addr)(i:Nat)(dV pm:Value)(cd:Addr):Prop:=(nsIn (kK P) mainGlobals x,(kK P).lookup f,codeIn (kK P) (.ref cd) x,keepIn (kK P) (.ref f))=(some (some (.ref f)),some (fo x i dV pm cd),true,true)
theorem ck4{P:Params}{x:Str}{f:Addr}{i:Nat}{dV pm:Value}{cd:Addr}(q:ck P x f i dV pm cd):nsIn (kK P) mainGlobals x=some (some (.ref f))/\(kK P).lookup f=some (fo x i dV pm cd)/\codeIn (kK P) (.ref cd) x=true/\keepIn (kK P) (.ref f)=true:=by
 obtain⟨a,b⟩:=Prod.mk.inj q;obtain⟨b,c⟩:=Prod.mk.inj b;exact⟨a,b,Prod.mk.inj c⟩
theorem kN(P:Params):((kK P).map (·.1)).Nodup:=by rw[show(kK P).map (·.1)=kA by kernel_rfl];decide +kernel
theorem kM(P:Params):((q0I (kK P)).map (·.1)).Nodup:=by rw[show(q0I (kK P)).map (·.1)=[16,21,28,33,38,45,52,59,64,71,76,83,93,100] by kernel_rfl];decide +kernel
theorem zz(P:Params):bl.map (nsIn (kK P) mainGlobals)=bl.map λ_=>some none:=by kernel_rfl
open PySem.W
theorem all_mk{l:OpenLaw}{w:World}{h:Heap}{mg:Str->Option Value}{fa:Addr}(X:(kK w.params).In h)(Ns:h.Ns mainGlobals mg)(hfa:mg "law" = some (.ref fa)):∃fd:FuncData,(∀(s:Shared) (v:Value),BindsTo s fd ⟨[v],[]⟩ [("_law_script",v)])/\∀base:Heap,(kK w.params).In base->base.Ns mainGlobals mg->FnOk l.prog w (kK w.params) mg base CX0 60 fa fd ["_law_script"] (spS (kK w.params)):=by
 obtain⟨a0,l0,c0,k0⟩:=ck4 (P:=w.params) (x:="cards_in") (f:=19) (i:=1) (dV:=.none) (pm:=(.str "talkleast.tables" 187)) (cd:=18) (by kernel_rfl);have S0:=q0z X Ns ok0 a0 l0 c0 k0 λ_ _ _ _ _ _ us hl=>by obtain⟨_,rfl⟩:=ln1 hl;rfl
 obtain⟨a1,l1,c1,k1⟩:=ck4 (P:=w.params) (x:="widest") (f:=26) (i:=3) (dV:=.none) (pm:=(.str "talkleast.blocks" 195)) (cd:=25) (by kernel_rfl);have S1:=q0z X Ns ok1 a1 l1 c1 k1 λ_ _ _ _ _ _ us hl=>by obtain⟨_,_,rfl⟩:=ln2 hl;rfl
 obtain⟨a2,l2,c2,k2⟩:=ck4 (P:=w.params) (x:="columns_with") (f:=31) (i:=4) (dV:=.none) (pm:=(.str "talkleast.blocks" 195)) (cd:=30) (by kernel_rfl);have S2:=q0z X Ns ok2 a2 l2 c2 k2 λ_ _ _ _ _ _ us hl=>by obtain⟨_,_,_,rfl⟩:=ln3 hl;rfl
 obtain⟨a3,l3,c3,k3⟩:=ck4 (P:=w.params) (x:="rows_with") (f:=36) (i:=5) (dV:=.none) (pm:=(.str "talkleast.blocks" 195)) (cd:=35) (by kernel_rfl);have S3:=q0z X Ns ok3 a3 l3 c3 k3 λ_ _ _ _ _ _ us hl=>by obtain⟨_,_,_,rfl⟩:=ln3 hl;rfl
 obtain⟨a4,l4,c4,k4⟩:=ck4 (P:=w.params) (x:="_law_int") (f:=43) (i:=7) (dV:=.none) (pm:=(.str "law_talkleast_k32_widest_blocks" 220)) (cd:=42) (by kernel_rfl);have S4:=q0z X Ns ok4 a4 l4 c4 k4 λ_ _ _ _ _ _ us hl=>by obtain⟨_,rfl⟩:=ln1 hl;rfl
 obtain⟨a5,l5,c5,k5⟩:=ck4 (P:=w.params) (x:="_law_cell_at") (f:=50) (i:=8) (dV:=.none) (pm:=(.str "law_talkleast_k32_widest_blocks" 220)) (cd:=49) (by kernel_rfl);have S5:=q0z X Ns ok5 a5 l5 c5 k5 λ_ _ _ _ _ _ us hl=>by obtain⟨_,_,rfl⟩:=ln2 hl;rfl
 obtain⟨a6,l6,c6,k6⟩:=ck4 (P:=w.params) (x:="_law_stream") (f:=57) (i:=9) (dV:=.none) (pm:=(.str "law_talkleast_k32_widest_blocks" 220)) (cd:=56) (by kernel_rfl);have S6:=q0z X Ns ok6 a6 l6 c6 k6 λ_ _ _ _ _ _ us hl=>by obtain⟨_,_,rfl⟩:=ln2 hl;rfl
 obtain⟨a7,l7,c7,k7⟩:=ck4 (P:=w.params) (x:="_law_full_table") (f:=62) (i:=10) (dV:=.none) (pm:=(.str "law_talkleast_k32_widest_blocks" 220)) (cd:=61) (by kernel_rfl);have S7:=q0z X Ns ok7 a7 l7 c7 k7 λ_ _ _ _ _ _ us hl=>by obtain⟨_,_,rfl⟩:=ln2 hl;rfl
 obtain⟨a8,l8,c8,k8⟩:=ck4 (P:=w.params) (x:="_law_power") (f:=69) (i:=11) (dV:=.none) (pm:=(.str "law_talkleast_k32_widest_blocks" 220)) (cd:=68) (by kernel_rfl);have S8:=q0z X Ns ok8 a8 l8 c8 k8 λ_ _ _ _ _ _ us hl=>by obtain⟨_,rfl⟩:=ln1 hl;rfl
 obtain⟨a9,l9,c9,k9⟩:=ck4 (P:=w.params) (x:="_law_cards") (f:=74) (i:=12) (dV:=.none) (pm:=(.str "law_talkleast_k32_widest_blocks" 220)) (cd:=73) (by kernel_rfl);have S9:=q0z X Ns ok9 a9 l9 c9 k9 λ_ _ _ _ _ _ us hl=>by obtain⟨_,rfl⟩:=ln1 hl;rfl
 obtain⟨a10,l10,c10,k10⟩:=ck4 (P:=w.params) (x:="_law_set") (f:=81) (i:=13) (dV:=.none) (pm:=(.str "law_talkleast_k32_widest_blocks" 220)) (cd:=80) (by kernel_rfl);have S10:=q0z X Ns ok10 a10 l10 c10 k10 λ_ _ _ _ _ _ us hl=>by obtain⟨_,rfl⟩:=ln1 hl;rfl
 obtain⟨a11,l11,c11,k11⟩:=ck4 (P:=w.params) (x:="_law_all_widest") (f:=86) (i:=14) (dV:=.none) (pm:=(.str "law_talkleast_k32_widest_blocks" 220)) (cd:=85) (by kernel_rfl);have S11:=q0z X Ns ok11 a11 l11 c11 k11 λ_ _ _ _ _ _ us hl=>by obtain⟨_,_,rfl⟩:=ln2 hl;rfl
 obtain⟨a12,l12,c12,k12⟩:=ck4 (P:=w.params) (x:="cards_in") (f:=19) (i:=1) (dV:=.none) (pm:=(.str "talkleast.tables" 187)) (cd:=18) (by kernel_rfl);have S12:=q0z X Ns ok12 a12 l12 c12 k12 λ_ _ _ _ _ _ us hl=>by obtain⟨_,rfl⟩:=ln1 hl;rfl
 obtain⟨a13,l13,c13,k13⟩:=ck4 (P:=w.params) (x:="_law_pairs") (f:=98) (i:=16) (dV:=.none) (pm:=(.str "law_talkleast_k32_widest_blocks" 220)) (cd:=97) (by kernel_rfl);have S13:=q0z X Ns ok13 a13 l13 c13 k13 λ_ _ _ _ _ _ us hl=>by obtain⟨_,_,rfl⟩:=ln2 hl;rfl
 obtain⟨a14,l14,c14,k14⟩:=ck4 (P:=w.params) (x:="law") (f:=103) (i:=17) (dV:=.none) (pm:=(.str "law_talkleast_k32_widest_blocks" 220)) (cd:=102) (by kernel_rfl);have S14:=q0z X Ns ok14 a14 l14 c14 k14 λ_ _ _ _ _ _ us hl=>by obtain⟨_,rfl⟩:=ln1 hl;rfl
 have e:=hfa.symm.trans (mg_of X Ns a14);cases e;have HX:XFacts (kK w.params) mg G cl:=(by exact⟨z3D,z2W⟩);have HC:∀x d,G.con.lookup x=some d->∃u v,mg x=some u/\RelV v u/\∀H,Rep ⟨kK w.params,mg⟩ H d v:=(by intro x d h;exact z3q x d h);have HD:∀x kvs,G.dcs.lookup x=some kvs->q8x (kK w.params) w mg x kvs:=(by intro x kvs h;exact z3v x kvs h);refine⟨_,λs v=>.of_eq rfl,λbase _ _=>z0Y (T:=T) (G:=G) (fu:=100) rfl (q1a S0 (q1a S1 (q1a S2 (q1a S3 (q1a S4 (q1a S5 (q1a S6 (q1a S7 (q1a S8 (q1a S9 (q1a S10 (q1a S11 (q1a S12 (q1a S13 (q1a S14 z5Y))))))))))))))) (λx hx=>mg_none_of X Ns (List.map_inj_left.mp (zz _) x hx)) HX HC HD z3R z3w z0R (i:=14) rfl rfl S14 rfl z2I⟩
end k32
open PySem PySem.W PyProof.Rows
set_option maxRecDepth 100000 in
set_option maxHeartbeats 0 in
theorem PySem.Challenge.cw_talkleast_k32_widest_blocks_holds : PySem.Challenge.rw_talkleast_k32_widest_blocks.Holds := by
 refine holds_law (by kernel_rfl) λ said => ?_
 refine holds_open (q := k32.kQ) (loose := k32.kL) (Xt := λ s => xlAt k32.kQ [] s && recOk (RowW.records (OpenRow.toRowW (OpenLaw.row PySem.Challenge.rw_talkleast_k32_widest_blocks))) s) (XP := XL k32.kQ []) (Yf := (kHook k32.kAll k32.kB k32.kE).obs) (Ya := (kHook k32.kAll k32.kB k32.kE).val) (YP := (kHook k32.kAll k32.kB k32.kE).says) (N := 1034) k32.kLeft (kHook k32.kAll k32.kB k32.kE).of (kHook k32.kAll k32.kB k32.kE).keeps (λ s e => xl_of s (Bool.and_eq_true_iff.mp e).1) XL.keeps (by rfl) (by rfl) (by rfl) (λ s e => recFacts_of (Bool.and_eq_true_iff.mp e).2) (by rfl) said (by decide +kernel) ⟨rfl, rfl, rfl, rfl, rfl, by decide +kernel⟩ ?hw ?hc
 case hw => w_witness2
 exact L2.walkE (l := PySem.Challenge.rw_talkleast_k32_widest_blocks) (k := 60) (p := "_law_script") rfl rfl ⟨rfl, by decide, by decide⟩ (λ w h Y => (L2.in_app (kIn_of Y) (by kernel_rfl)).1) (λ w h Y => ⟨L2.htb_of (T := k32.kT) (L2.in_app (kIn_of Y) (by kernel_rfl)).1 (L2.in_app (kIn_of Y) (by kernel_rfl)).2 (k32.kN _) (by kernel_rfl), k32.kM _⟩) λ w mg fa h KX G hmg => k32.all_mk KX G hmg
end

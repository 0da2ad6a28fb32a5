import PyProof.Rows.All
import Wide.All
import OpenK.AllK
import Wide.FinOn
import Lean
import PyProof.EqAt
import PyProof.EqKinds
import PyProof.TupleCall
import PyProof.ExcAttrAll.ValueError
import PyProof.ZipIter
import PyProof.TupleIter
import PyProof.P3In
import PyProof.Rows.SeqMore2
import PyProof.FactsAll.tuple_3
import PyProof.FactsAll.list_3
import PyProof.Rows.Range3
import KE.KRevIter
import PyProof.Rows.FactsT2
import PySem.Builtin.Int.W1All
import PyProof.SetScanFacts
import PyProof.SetKind
import PyProof.DictKinds
import PyProof.DictStraight
import PyProof.Rows.SetFrom
import PyProof.CollectWalk
import PyProof.Seq
import PyProof.DictIter
import PyProof.Rows.Tup
import PyProof.FactsAll.set_1
import PyProof.FactsAll.set_2
import PyProof.Rows.SortWalk
import PyProof.ConsumeWalk
import PyProof.Rows.SumAny
import PySem.Syntax
import PySem.Eval
import PyProof.DictTable
import PyProof.ListRange
import PyProof.EnumMake
import PyProof.DictItems
import PyProof.DictItemsLoops
import PyProof.MeetsDict
import PyProof.DictWalks
import PyProof.RulesTry
import KE.KPairComp
import PySem.Challenge.RW_talkleast_k44_whole_ranks
set_option Elab.async false
set_option linter.all false
set_option bootstrap.genMatcherCode false
set_option genSizeOfSpec false
set_option compiler.extract_closed false
set_option maxRecDepth 100000
set_option maxHeartbeats 4000000
noncomputable section
namespace L2
open PySem
def q1f(s:Stmt):Arguments:=match s with
 | .FunctionDef _ a _ _ _ _ _ _ _ _=>a
 | _=>{posonlyargs:=[],args:=[],vararg:=none,kwonlyargs:=[],kw_defaults:=[],kwarg:=none,defaults:=[]}
def q0M(s:Stmt):List Stmt:=match s with
 | .FunctionDef _ _ b _ _ _ _ _ _ _=>b
 | _=>[]
def q0f(s:Stmt):Scope:=match s with
 | .FunctionDef _ _ _ _ _ _ sc _ _ _=>sc
 | _=>{kind:=.function,names:=[],isGenerator:=false,isCoroutine:=false}
end L2
namespace k44
open PySem PySem.W L2 PySem.Spec PyProof.Rows
def top(i:Nat):Stmt:=PySem.Challenge.pw_talkleast_k44_whole_ranks.main.body.getD i (.Pass ⟨0,0,0,0⟩)
def fo(n:Str)(i:Nat)(dV pm:Value)(cd:Addr):Obj:=⟨.type "function",none,.func (fnOf n n (q1f (top i)) (q0M (top i)) (q0f (top i)) dV .none .none pm none (.ref cd) .none),#[]⟩
def en(P:Params)(s:Str)(t:Nat)(v:Value):DictEntry:=⟨PyData.keyHash P s,.str s t,v⟩
def co(n:Str)(t:Nat)(ln na fl:Int)(a b c d e:Value)(q:Int)(r:Nat):Obj:=⟨.type "code",none,.fields #[.str n t,.str n (t+1),.str "/claim/cut.py" (t+2),.int ln 0,.int na 0,.int 0 0,.int 0 0,.int fl 0,a,.bool true,.int 181 0,b,.none,c,d,e,.int q 0,.int ln 0,.str "/claim/cut.py" r],#[]⟩
def kK(P:Params):Frag:=[(2,⟨.none,none,.dict #[] 0,#[]⟩),
 (3,⟨.type "dict",none,.dict #[en P "__name__" 165 (.str "law_talkleast_k44_whole_ranks" 377),en P "__doc__" 166 .none,en P "__package__" 167 .none,en P "__loader__" 168 (.builtin "__main__.__loader__#opaque"),en P "__spec__" 169 .none,en P "__annotations__" 170 (.ref 6),en P "__builtins__" 171 (.ref 4),en P "__file__" 173 (.str "/claim/cut.py" 172),en P "__cached__" 174 .none,en P "is_int" 197 (.ref 21),en P "TalkError" 217 (.ref 31),en P "NoCard" 233 (.ref 44),en P "flipped" 241 (.ref 51),en P "cut" 250 (.ref 58),en P "check_cards" 258 (.ref 65),en P "cards_in" 264 (.ref 70),en P "crossing" 270 (.ref 75),en P "row_kinds" 276 (.ref 80),en P "column_kinds" 283 (.ref 87),en P "trimmed" 290 (.ref 94),en P "base" 299 (.ref 101),en P "rank" 306 (.ref 108),en P "base_lines" 312 (.ref 113),en P "reduced" 318 (.ref 118),en P "leading_place" 324 (.ref 123),en P "base_in_twos" 333 (.ref 130),en P "rank_in_twos" 340 (.ref 137),en P "lines_in_twos" 346 (.ref 142),en P "base_indexes" 352 (.ref 147),en P "kept_lines" 363 (.ref 154),en P "reduced_in_twos" 376 (.ref 161),en P "_law_cell_at" 386 (.ref 168),en P "_law_stream" 399 (.ref 175),en P "_law_mixed" 405 (.ref 180),en P "_law_rows" 411 (.ref 185),en P "_law_determinant" 425 (.ref 192),en P "_law_square" 431 (.ref 197),en P "_law_great" 444 (.ref 204),en P "law" 450 (.ref 209)] 39,#[]⟩),
 (20,co "is_int" 189 2 3 3 (.ref 15) (.ref 16) (.ref 17) (.ref 18) (.ref 19) 195 196),
 (21,fo "is_int" 1 .none (.str "talkleast.checks" 187) 20),
 (30,⟨.type "dict",none,.dict #[en P "__module__" 207 (.str "talkleast.errors" 198),en P "__firstlineno__" 211 (.int 5 210),en P "__static_attributes__" 212 (.ref 29),en P "__weakref__" 214 (.ref 32),en P "__doc__" 215 .none] 3,#[]⟩),
 (31,⟨.type "type",none,.cls ⟨"TalkError",[.type "ValueError"],[.ref 31,.type "ValueError",.type "Exception",.type "BaseException",.type "object"],30,"TalkError",true,[],[.ref 44],false,none,false⟩,#[some (.ref 22),none,some (.str "TalkError" 200),some (.str "TalkError" 208),some (.builtin "ValueError.__new__"),some (.bool true)]⟩),
 (32,⟨.type "getset_descriptor",none,.fields #[.str "__weakref__" 213,.ref 31,.builtin "ExceptionGroup.__weakref__",.none],#[]⟩),
 (43,⟨.type "dict",none,.dict #[en P "__module__" 225 (.str "talkleast.errors" 198),en P "__firstlineno__" 229 (.int 7 228),en P "__static_attributes__" 230 (.ref 42),en P "__doc__" 231 .none] 2,#[]⟩),
 (44,⟨.type "type",none,.cls ⟨"NoCard",[.ref 31],[.ref 44,.ref 31,.type "ValueError",.type "Exception",.type "BaseException",.type "object"],43,"NoCard",true,[],[],false,none,false⟩,#[some (.ref 35),none,some (.str "NoCard" 218),some (.str "NoCard" 226),some (.builtin "ValueError.__new__"),some (.bool true)]⟩),
 (50,co "flipped" 236 10 1 3 (.ref 47) (.ref 48) .none .none (.ref 49) 239 240),
 (51,fo "flipped" 6 .none (.str "talkleast.tables" 234) 50),
 (57,co "cut" 242 12 3 3 (.ref 52) (.ref 53) (.ref 54) (.ref 55) (.ref 56) 248 249),
 (58,fo "cut" 7 .none (.str "talkleast.tables" 234) 57),
 (64,co "check_cards" 251 16 2 3 (.ref 59) (.ref 60) (.ref 61) (.ref 62) (.ref 63) 256 257),
 (65,fo "check_cards" 8 .none (.str "talkleast.tables" 234) 64),
 (69,co "cards_in" 259 19 1 3 (.ref 66) (.ref 67) .none .none (.ref 68) 262 263),
 (70,fo "cards_in" 9 .none (.str "talkleast.tables" 234) 69),
 (74,co "crossing" 265 21 3 3 (.ref 71) (.ref 72) .none .none (.ref 73) 268 269),
 (75,fo "crossing" 10 .none (.str "talkleast.tables" 234) 74),
 (79,co "row_kinds" 271 23 1 3 (.ref 76) (.ref 77) .none .none (.ref 78) 274 275),
 (80,fo "row_kinds" 11 .none (.str "talkleast.tables" 234) 79),
 (86,co "column_kinds" 277 25 1 3 (.ref 81) (.ref 82) (.ref 83) (.ref 84) (.ref 85) 281 282),
 (87,fo "column_kinds" 12 .none (.str "talkleast.tables" 234) 86),
 (93,co "trimmed" 284 27 1 3 (.ref 88) (.ref 89) (.ref 90) (.ref 91) (.ref 92) 288 289),
 (94,fo "trimmed" 13 .none (.str "talkleast.tables" 234) 93),
 (100,co "base" 293 30 1 3 (.ref 95) (.ref 96) (.ref 97) (.ref 98) (.ref 99) 297 298),
 (101,fo "base" 15 .none (.str "talkleast.ranks" 291) 100),
 (107,co "rank" 300 32 1 3 (.ref 102) (.ref 103) (.ref 104) (.ref 105) (.ref 106) 304 305),
 (108,fo "rank" 16 .none (.str "talkleast.ranks" 291) 107),
 (112,co "base_lines" 307 34 1 3 (.ref 109) (.ref 110) .none .none (.ref 111) 310 311),
 (113,fo "base_lines" 17 .none (.str "talkleast.ranks" 291) 112),
 (117,co "reduced" 313 43 2 3 (.ref 114) (.ref 115) .none .none (.ref 116) 316 317),
 (118,fo "reduced" 18 .none (.str "talkleast.ranks" 291) 117),
 (122,co "leading_place" 319 50 1 3 (.ref 119) (.ref 120) .none .none (.ref 121) 322 323),
 (123,fo "leading_place" 19 .none (.str "talkleast.ranks" 291) 122),
 (129,co "base_in_twos" 327 53 1 3 (.ref 124) (.ref 125) (.ref 126) (.ref 127) (.ref 128) 331 332),
 (130,fo "base_in_twos" 21 .none (.str "talkleast.twos" 325) 129),
 (136,co "rank_in_twos" 334 55 1 3 (.ref 131) (.ref 132) (.ref 133) (.ref 134) (.ref 135) 338 339),
 (137,fo "rank_in_twos" 22 .none (.str "talkleast.twos" 325) 136),
 (141,co "lines_in_twos" 341 57 1 3 (.ref 138) (.ref 139) .none .none (.ref 140) 344 345),
 (142,fo "lines_in_twos" 23 .none (.str "talkleast.twos" 325) 141),
 (146,co "base_indexes" 347 59 1 3 (.ref 143) (.ref 144) .none .none (.ref 145) 350 351),
 (147,fo "base_indexes" 24 .none (.str "talkleast.twos" 325) 146),
 (153,co "kept_lines" 353 61 1 3 (.ref 148) (.ref 149) (.ref 150) (.ref 151) (.ref 152) 361 362),
 (154,fo "kept_lines" 25 .none (.str "talkleast.twos" 325) 153),
 (160,co "reduced_in_twos" 364 68 2 3 (.ref 155) (.ref 156) (.ref 157) (.ref 158) (.ref 159) 374 375),
 (161,fo "reduced_in_twos" 26 .none (.str "talkleast.twos" 325) 160),
 (167,co "_law_cell_at" 379 77 2 3 (.ref 162) (.ref 163) (.ref 164) (.ref 165) (.ref 166) 384 385),
 (168,fo "_law_cell_at" 28 .none (.str "law_talkleast_k44_whole_ranks" 377) 167),
 (174,co "_law_stream" 387 81 2 3 (.ref 169) (.ref 170) (.ref 171) (.ref 172) (.ref 173) 397 398),
 (175,fo "_law_stream" 29 .none (.str "law_talkleast_k44_whole_ranks" 377) 174),
 (179,co "_law_mixed" 400 95 2 3 (.ref 176) (.ref 177) .none .none (.ref 178) 403 404),
 (180,fo "_law_mixed" 30 .none (.str "law_talkleast_k44_whole_ranks" 377) 179),
 (184,co "_law_rows" 406 111 2 3 (.ref 181) (.ref 182) .none .none (.ref 183) 409 410),
 (185,fo "_law_rows" 31 .none (.str "law_talkleast_k44_whole_ranks" 377) 184),
 (191,co "_law_determinant" 412 119 2 3 (.ref 186) (.ref 187) (.ref 188) (.ref 189) (.ref 190) 423 424),
 (192,fo "_law_determinant" 32 .none (.str "law_talkleast_k44_whole_ranks" 377) 191),
 (196,co "_law_square" 426 132 3 3 (.ref 193) (.ref 194) .none .none (.ref 195) 429 430),
 (197,fo "_law_square" 33 .none (.str "law_talkleast_k44_whole_ranks" 377) 196),
 (203,co "_law_great" 432 134 3 3 (.ref 198) (.ref 199) (.ref 200) (.ref 201) (.ref 202) 442 443),
 (204,fo "_law_great" 34 .none (.str "law_talkleast_k44_whole_ranks" 377) 203),
 (208,co "law" 445 145 1 3 (.ref 205) (.ref 206) .none .none (.ref 207) 448 449),
 (209,fo "law" 35 .none (.str "law_talkleast_k44_whole_ranks" 377) 208)]
def kA:List Addr:=[2,3,20,21,30,31,32,43,44,50,51,57,58,64,65,69,70,74,75,79,80,86,87,93,94,100,101,107,108,112,113,117,118,122,123,129,130,136,137,141,142,146,147,153,154,160,161,167,168,174,175,179,180,184,185,191,192,196,197,203,204,208,209]
theorem kE:∀P,kA=(kK P).map (·.1):=λ_=>by kernel_rfl
def kQ:Program:=view PySem.Challenge.pw_talkleast_k44_whole_ranks [1,3,4,6,7,8,9,10,11,12,13,15,16,17,18,19,21,22,23,24,25,26,28,29,30,31,32,33,34,35]
def kL:List Str:=[]
set_option maxHeartbeats 0 in
theorem kLeft:LeftO PySem.Challenge.pw_talkleast_k44_whole_ranks kQ kL (λs=>xlAt kQ [] s&&recOk (RowW.records (OpenRow.toRowW (OpenLaw.row PySem.Challenge.rw_talkleast_k44_whole_ranks))) s) (kHook kK kA kE).obs (kHook kK kA kE).val 2648:=by
 intro w
 kernel_rfl
end k44
end
noncomputable section
namespace L2
open PySem PySem.Spec PyProof.Rows
abbrev Key:=Sum Int Str
def z8o:Key->Value->Bool
 | .inl k,v=>Value.isInt k v
 | .inr x,v=>Value.isStrOf x v
def keyH(w:World):Key->Int
 | .inl k=>hashInt k
 | .inr x=>hashStr w x
theorem q0L:∀{k:Key} {v:Value},z8o k v=true->(∃i t,k=Sum.inl i/\v=Value.int i t)\/(∃x t,k=Sum.inr x/\v=Value.str x t)
 | .inl i,v,h=>by obtain⟨t,e⟩:=Value.isInt_shape (k:=i) (v:=v) h;exact .inl ⟨i,t,rfl,e⟩
 | .inr x,v,h=>by obtain⟨t,e⟩:=Value.isStrOf_shape (x:=x) (v:=v) h;exact .inr ⟨x,t,rfl,e⟩
theorem z8J(a b:Int):decide ((Sum.inl a:Key)=Sum.inl b)=(a==b):=by
 by_cases e:a=b
 ·subst e;simp
 ·have h:¬(Sum.inl a:Key)=Sum.inl b:=λq=>e (Sum.inl.inj q);rw[decide_eq_false h];exact(beq_eq_false_iff_ne.mpr e).symm
theorem z7H(a b:Str):decide ((Sum.inr a:Key)=Sum.inr b)=decide (a=b):=by
 by_cases e:a=b
 ·subst e;simp
 ·have h:¬(Sum.inr a:Key)=Sum.inr b:=λq=>e (Sum.inr.inj q);rw[decide_eq_false h,decide_eq_false e]
theorem z6J(a:Int)(b:Str):decide ((Sum.inl a:Key)=Sum.inr b)=false:=decide_eq_false (λq=>nomatch q)
theorem z7l(a:Str)(b:Int):decide ((Sum.inr a:Key)=Sum.inl b)=false:=decide_eq_false (λq=>nomatch q)
def q7r(prog:Program)(w:World):PySem.KeyKind prog w Key where
 is:=z8o
 hash:=keyH w
 inj:=λv a b ha hb=>by
  rcases q0L ha with⟨i,t,rfl,rfl⟩ | ⟨x,t,rfl,rfl⟩
  ·rcases q0L hb with⟨j,u,rfl,e⟩ | ⟨y,u,rfl,e⟩
   ·injection e with e1 _;rw[e1]
   ·exact nomatch e
  ·rcases q0L hb with⟨j,u,rfl,e⟩ | ⟨y,u,rfl,e⟩
   ·exact nomatch e
   ·injection e with e1 _;rw[e1]
 byValue:=λk v h=>by rcases q0L h with⟨i,t,rfl,rfl⟩ | ⟨x,t,rfl,rfl⟩<;>rfl
 pyHash:=λhv h=>by
  rcases q0L hv with⟨i,t,rfl,rfl⟩ | ⟨x,t,rfl,rfl⟩
  ·exact wpAny_pyHash_int h
  ·exact wpAny_pyHash_str h
 eqBool:=λhu hv h=>by
  rcases q0L hu with⟨i,t,rfl,rfl⟩ | ⟨x,t,rfl,rfl⟩
  ·rcases q0L hv with⟨j,u,rfl,rfl⟩ | ⟨y,u,rfl,rfl⟩
   ·rw[z8J]at h;exact wpAny_eqBool_int h
   ·rw[z6J]at h;exact SeqAt.EqAt.int_str i t y u _ _ _ _ h
  ·rcases q0L hv with⟨j,u,rfl,rfl⟩ | ⟨y,u,rfl,rfl⟩
   ·rw[z7l]at h;exact SeqAt.EqAt.str_int x t j u _ _ _ _ h
   ·rw[z7H]at h;exact wpAny_eqBool_str h
 «strs»:=λk x t v h=>by
  rcases q0L h with⟨i,u,rfl,e⟩ | ⟨y,u,rfl,e⟩
  ·exact nomatch e
  ·injection e with e1 _
   subst e1;cases v<;>rfl
end L2
namespace L2
open PySem PySem.Spec PyProof.Rows
inductive V where
 | non | bl (b:Bool) | int (i:Int) | str (x:Str) | byt (b:Array UInt8) | flt (b:UInt64) | ref (a:Addr) | ty (n:String)
 deriving DecidableEq
def RelV:V->Value->Prop
 | .non,u=>u=Value.none
 | .bl b,u=>u=Value.bool b
 | .int i,u=>∃t,u=Value.int i t
 | .str x,u=>∃t,u=Value.str x t
 | .byt b,u=>∃t,u=Value.bytes b t
 | .flt b,u=>∃t,u=Value.float b t
 | .ref a,u=>u=Value.ref a
 | .ty n,u=>u=Value.type n
abbrev Vals:List V->List Value->Prop:=Paired RelV
theorem Vals.length{xs:List V}{us:List Value}(r:Vals xs us):xs.length=us.length:=Paired.length r
theorem Vals.get:∀{xs:List V} {us:List Value} {i:Nat} {x:V},Vals xs us->xs[i]? = some x->∃u,us[i]? = some u/\RelV x u
 | _,_,_,_,.nil,e=>by simp at e
 | _,_,0,_,.cons r _,e=>by simp at e;subst e;exact⟨_,rfl,r⟩
 | _,_,i+1,x,.cons _ t,e=>by obtain⟨u,h1,h2⟩:=Vals.get (i:=i) (x:=x) t (by simpa using e);exact⟨u,by simpa using h1,h2⟩
theorem Vals.set{x:V}{u:Value}(r:RelV x u):∀{xs:List V} {us:List Value} (i:Nat),Vals xs us->Vals (xs.set i x) (us.set i u)
 | _,_,_,.nil=>.nil
 | _,_,0,.cons _ t=>.cons r t
 | _,_,i+1,.cons q t=>.cons q (Vals.set r i t)
theorem Vals.append:∀{xs ys:List V} {us ws:List Value},Vals xs us->Vals ys ws->Vals (xs++ys) (us++ws)
 | _,_,_,_,.nil,s=>s
 | _,_,_,_,.cons r t,s=>.cons r (Vals.append t s)
theorem Vals.take:∀{xs:List V} {us:List Value} (n:Nat),Vals xs us->Vals (xs.take n) (us.take n)
 | _,_,0,_=>.nil
 | _,_,_+1,.nil=>.nil
 | _,_,n+1,.cons r t=>.cons r (Vals.take n t)
theorem Vals.drop:∀{xs:List V} {us:List Value} (n:Nat),Vals xs us->Vals (xs.drop n) (us.drop n)
 | _,_,0,r=>r
 | _,_,_+1,.nil=>.nil
 | _,_,n+1,.cons _ t=>Vals.drop n t
def RelO:Option V->Option Value->Prop
 | some v,some u=>RelV v u
 | none,none=>True
 | _,_=>False
def KV{κ:Type}:List (κ×V)->List (κ×Value)->Prop:=Paired λ(p:κ×V) (q:κ×Value)=>p.1=q.1/\RelV p.2 q.2
def kV:Key->V
 | .inl i=>.int i
 | .inr x=>.str x
inductive HO where
 | lst (xs:List V)
 | tup (xs:List V)
 | dK (kvs:List (Key×V)) | dT (kvs:List (List Key×V))
 | set (S:Int->Bool) (n:Nat)
 | ins (C dx:Addr) (fs:List (Str×V))
 | own (x:Addr)
 | xd (fs:List (Str×V))
 | met (f x:Addr)
 | rng (lo hi:Int)
 | frz (o:Obj) (u:HO)
 | tbl (ps:Array Value)
 | ext (φ:Heap->Prop)
abbrev Hp:=Addr->Option HO
def upd(H:Hp)(a:Addr)(o:HO):Hp:=λb=>if b=a then some o else H b
theorem q0P{H:Hp}{a:Addr}{o:HO}:upd H a o a=some o:=by unfold upd;rw[if_pos rfl]
theorem q0q{H:Hp}{a b:Addr}{o:HO}(h:b≠a):upd H a o b=H b:=by unfold upd;rw[if_neg h]
theorem q0u{H:Hp}{a b:Addr}{o:HO}(h:H a=some o)(h':H b=none):a≠b:=by
 intro e;subst e;rw[h]at h';cases h'
def q3r(h:Heap)(a:Addr)(items:Array Value):Prop:=∃o,h.get? a=some o/\(o.cls=.type "tuple" /\ o.dict=none)/\∃n,o.data=.seq items n
theorem q3r.tup{h:Heap}{a items}(x:q3r h a items):IsTup h a items:=let ⟨o,ho,hc,r⟩:=x;⟨o,ho,hc.1,r⟩
theorem q3r.lt{h:Heap}{a items}(x:q3r h a items):a<h.objs.size:=let ⟨_,ho,_⟩:=x;Heap.lt_size ho
theorem q3r.new(h:Heap)(items:Array Value):q3r (h.push {cls:=.type "tuple",data:=.seq items}) h.objs.size items:=⟨_,Heap.get?_push_size _ rfl,⟨rfl,rfl⟩,_,rfl⟩
section
variable (P:Program) (w:World)
def q1Q(H:Hp)(h:Heap)(a:Addr):HO->Prop
 | .lst xs=>xs.length<=sizeLine/\∃(its:List Value) (n:Nat),Vals xs its/\h.get? a=some {cls:=.type "list",data:=.seq its.toArray n}
 | .tup xs=>xs.length<=sizeLine/\∃its:List Value,Vals xs its/\q3r h a its.toArray
 | .dK kvs=>kvs.length<=sizeLine/\(a==sysModules)=false/\∃vs,KV kvs vs/\h.DictOf (q7r P w) a vs
 | .dT kvs=>kvs.length<=sizeLine/\(a==sysModules)=false/\∃xs:List (List Key×Addr×Value),
   Paired (λ(p:List Key×V) (q:List Key×Addr×Value)=>p.1=q.1/\H q.2.1=some (.tup (p.1.map kV))/\RelV p.2 q.2.2) kvs xs /\
   ∃o es ep,h.get? a=some o/\o.ExactDict/\o.data=.dict es ep/\es.toList=xs.map (entryOfKey (tupleKind (q7r P w)))/\(xs.map (·.1)).Nodup
 | .set S n=>h.SetOf (intKind P w) a S n
 | .ins C dx fs=>H dx=some (.own a)/\fs.length<=1000/\dx≠a/\h.get? a=some (PySem.W.instObj C dx) /\
   ∃mA,h.Ns1 dx mA/\(∀f,RelO (fs.lookup f) (mA f))/\PySem.Within mA (fs.map (·.1))
 | .own _=>∃o,h.get? a=some o
 | .xd fs=>∃mA,h.Ns1 a mA/\∀f,RelO (fs.lookup f) (mA f)
 | .rng lo hi=>∃t u v,h.get? a=some {cls:=.type "range",data:=.fields #[.int lo t,.int hi u,.int 1 v]}
 | .frz o u=>h.get? a=some o/\q1Q H h a u
 | .tbl ps=>h.get? a=some {cls:=.none,data:=.fields ps}
 | .met f x=>h.get? a=some (PySem.W.methodObj (.ref f) (.ref x))
 | .ext φ=>φ h/\(∃o,h.get? a=some o)/\∀h1 h2:Heap,φ h1->(∀o,h1.get? a=some o->h2.get? a=some o)->φ h2
def HOk(H:Hp)(h:Heap):Prop:=∀a o,H a=some o->q1Q P w H h a o
end
section
variable {P:Program} {w:World} {H H':Hp} {h h':Heap} {a:Addr} {o:HO}
theorem q1Q.lt(x:q1Q P w H h a o):a<h.objs.size:=by
 cases o with
 | lst xs=>obtain⟨_,_,_,_,e⟩:=x;exact Heap.lt_size e
 | tup xs=>obtain⟨_,_,_,p⟩:=x;exact p.lt
 | dK kvs=>obtain⟨_,_,_,_,o,_,_,e,_⟩:=x;exact Heap.lt_size e
 | dT kvs=>obtain⟨_,_,_,_,o,_,_,e,_⟩:=x;exact Heap.lt_size e
 | set S n=>obtain⟨o,_,_,_,e,_⟩:=x;exact Heap.lt_size e
 | ins C dx fs=>obtain⟨_,_,_,e,_⟩:=x;exact Heap.lt_size e
 | own y=>obtain⟨_,e⟩:=x;exact Heap.lt_size e
 | xd fs=>obtain⟨_,⟨_,_,_,e,_⟩,_⟩:=x;exact Heap.lt_size e
 | rng lo hi=>obtain⟨_,_,_,e⟩:=x;exact Heap.lt_size e
 | frz ob u=>obtain⟨e,_⟩:=x;exact Heap.lt_size e
 | tbl ps=>exact Heap.lt_size (show h.get? a=some _ from x)
 | met f y=>exact Heap.lt_size (show h.get? a=some _ from x)
 | ext φ=>obtain⟨_,⟨_,e⟩,_⟩:=x;exact Heap.lt_size e
theorem Paired.mapP{α β:Type}{F G:α->β->Prop}:∀{l₁:List α} {l₂:List β},Paired F l₁ l₂->(∀a b,F a b->G a b)->Paired G l₁ l₂
 | _,_,.nil,_=>.nil
 | _,_,.cons r t,f=>.cons (f _ _ r) (Paired.mapP t f)
theorem q1Q.stay(x:q1Q P w H h a o)(k:∀b u,(b=a\/H b=some (.own a))->h.get? b=some u->h'.get? b=some u)
  (ho:∀b,H b=some (.own a)->H' b=some (.own a)) (ht:∀b xs,H b=some (.tup xs)->H' b=some (.tup xs)):q1Q P w H' h' a o:=by
 induction o with
 | lst xs=>obtain⟨z,its,n,r,e⟩:=x;exact⟨z,its,n,r,k _ _ (.inl rfl) e⟩
 | tup xs=>obtain⟨z,its,r,ob,e,c⟩:=x;exact⟨z,its,r,ob,k _ _ (.inl rfl) e,c⟩
 | dK kvs=>obtain⟨z,y,vs,r,ob,es,ep,e,c⟩:=x;exact⟨z,y,vs,r,ob,es,ep,k _ _ (.inl rfl) e,c⟩
 | dT kvs=>
  obtain⟨z,y,xs,r,ob,es,ep,e,c⟩:=x;exact⟨z,y,xs,Paired.mapP r λp q z=>⟨z.1,ht _ _ z.2.1,z.2.2⟩,ob,es,ep,k _ _ (.inl rfl) e,c⟩
 | set S n=>obtain⟨ob,es,ep,t,e,c⟩:=x;exact⟨ob,es,ep,t,k _ _ (.inl rfl) e,c⟩
 | ins C dx fs=>
  obtain⟨d,z,ne,e,mA,⟨od,es,ep,e2,c⟩,r⟩:=x;exact⟨ho _ d,z,ne,k _ _ (.inl rfl) e,mA,⟨od,es,ep,k _ _ (.inr d) e2,c⟩,r⟩
 | own y=>obtain⟨ob,e⟩:=x;exact⟨ob,k _ _ (.inl rfl) e⟩
 | xd fs=>obtain⟨mA,⟨od,es,ep,e,c⟩,r⟩:=x;exact⟨mA,⟨od,es,ep,k _ _ (.inl rfl) e,c⟩,r⟩
 | rng lo hi=>obtain⟨t,u,v,e⟩:=x;exact⟨t,u,v,k _ _ (.inl rfl) e⟩
 | frz ob u ih=>obtain⟨e,q⟩:=x;exact⟨k _ _ (.inl rfl) e,ih q⟩
 | tbl ps=>
  have e:h.get? a=some {cls:=.none,data:=.fields ps}:=x;show h'.get? a=some {cls:=.none,data:=.fields ps};exact k a _ (.inl rfl) e
 | met f y=>
  have e:h.get? a=some (PySem.W.methodObj (.ref f) (.ref y)):=x;show h'.get? a=some (PySem.W.methodObj (.ref f) (.ref y));exact k a _ (.inl rfl) e
 | ext φ=>obtain⟨p,⟨o,e⟩,st⟩:=x;exact⟨st _ _ p λo q=>k _ _ (.inl rfl) q,⟨o,k _ _ (.inl rfl) e⟩,st⟩
theorem HOk.lt(x:HOk P w H h)(e:H a=some o):a<h.objs.size:=(x a o e).lt
theorem HOk.fresh(x:HOk P w H h)(e:h.objs.size<=a):H a=none:=by
 cases q:H a with
 | none=>rfl
 | some u=>exact absurd (Nat.lt_of_lt_of_le (x.lt q) e) (Nat.lt_irrefl _)
theorem HOk.kept(x:HOk P w H h)(k:∀b u,h.get? b=some u->h'.get? b=some u):HOk P w H h':=λa o e=>
 (x a o e).stay (λb u _ q=>k b u q) (λ_ q=>q) λ_ _ q=>q
theorem HOk.laid(x:HOk P w H h)(k:∀b u,h.get? b=some u->h'.get? b=some u)(hp:h.objs.size<=a)(new:q1Q P w (upd H a o) h' a o):HOk P w (upd H a o) h':=λb u e=>by
 have hn:=x.fresh hp;by_cases hb:b=a
 ·subst hb;rw[q0P]at e;cases e;exact new
 ·rw[q0q hb]at e;exact(x b u e).stay (λc v _ q=>k c v q) (λc q=>by rw[q0q (q0u q hn)];exact q) λc xs q=>by rw[q0q (q0u q hn)];exact q
end
def Rd(H:Hp)(a:Addr)(u:HO):Prop:=H a=some u\/∃o,H a=some (.frz o u)
theorem Rd.ok{P:Program}{w:World}{H:Hp}{h:Heap}{a:Addr}{u:HO}(r:Rd H a u)(x:HOk P w H h):q1Q P w H h a u:=by
 rcases r with r | ⟨o,r⟩
 ·exact x a u r
 ·obtain⟨_,q⟩:=x a _ r;exact q
def Mut:Option HO->Prop
 | some (.lst _)=>True
 | some (.dK _)=>True
 | some (.dT _)=>True
 | some (.set _ _)=>True
 | some (.ins _ _ _)=>True
 | some (.ext _)=>True
 | _=>False
section
variable {P:Program} {w:World} {H:Hp} {h h':Heap} {x e:Addr} {o':HO}
theorem HOk.write(ok:HOk P w H h)(mu:Mut (H x))(he:e=x\/H e=some (.own x))(k:∀b u,b≠e->h.get? b=some u->h'.get? b=some u)(heo:∃u,h'.get? e=some u)
  (new:q1Q P w (upd H x o') h' x o'):HOk P w (upd H x o') h':=λb u q=>by
 have nown:∀c y,H c=some (.own y)->c≠x:=λc y r z=>by subst z;rw[r]at mu;exact mu
 have ntup:∀c xs,H c=some (.tup xs)->c≠x:=λc xs r z=>by subst z;rw[r]at mu;exact mu
 by_cases hb:b=x
 ·subst hb;rw[q0P]at q;cases q;exact new
 ·rw[q0q hb]at q;by_cases hbe:b=e
  ·have q':H b=some (.own x):=by
    rcases he with z | z
    ·exact absurd (hbe.trans z) hb
    ·rw[hbe];exact z
   rw[q]at q';cases q';obtain⟨v,hv⟩:=heo;exact⟨v,by rw[hbe];exact hv⟩
  ·refine(ok b u q).stay (λc v hc r=>k c v ?_ r) (λc r=>by rw[q0q (nown c b r)];exact r) λc xs r=>by rw[q0q (ntup c xs r)];exact r
   rcases hc with rfl | hc
   ·exact hbe
   ·rintro rfl
    rcases he with z | z
    ·exact nown c b hc z
    ·rw[hc]at z;cases z;exact hb rfl
end
structure Un(fs ex:List Addr)(H H':Hp)(h h':Heap):Prop where
 keep:∀b o,h.get? b=some o->H b=none->b∉fs->b∉ex->h'.get? b=some o
 slot:∀b o,h.get? b=some o->H b=none->b∈fs->b∉ex->∃sl,h'.get? b=some {o with slots:=sl}
 free:∀b o,h.get? b=some o->H b=none->b∉ex->H' b=none
 there:∀b o,h.get? b=some o->b∉ex->∃o',h'.get? b=some o'
 tups:∀b xs,H b=some (.tup xs)->H' b=some (.tup xs)
 frzs:∀b o u,H b=some (.frz o u)->H' b=some (.frz o u)
 tbls:∀b ps,H b=some (.tbl ps)->∃more,H' b=some (.tbl (ps++more))
section
variable {fs fs' ex ex':List Addr} {H H1 H2:Hp} {h h1 h2 h':Heap} {a x e:Addr} {o:HO}
theorem Un.any(u:Un fs ex H H1 h h1){b:Addr}{ob:Obj}(q:h.get? b=some ob)(n:H b=none)(hx:b∉ex):∃sl,h1.get? b=some {ob with slots:=sl}:=by
 by_cases hb:b∈fs
 ·exact u.slot b ob q n hb hx
 ·exact⟨ob.slots,u.keep b ob q n hb hx⟩
theorem Un.kept(k:∀b u,h.get? b=some u->h'.get? b=some u):Un fs ex H H h h':=
 ⟨λb ob q _ _ _=>k b ob q,λb ob q _ _ _=>⟨ob.slots,k b ob q⟩,λ_ _ _ n _=>n,λb ob q _=>⟨ob,k b ob q⟩,λ_ _ q=>q,λ_ _ _ q=>q,λ_ ps q=>⟨#[],by rw[q];simp⟩⟩
theorem Un.refl:Un fs ex H H h h:=Un.kept λ_ _ q=>q
theorem Un.laid(k:∀b u,h.get? b=some u->h'.get? b=some u)(hp:h.objs.size<=a)(hn:H a=none):Un fs ex H (upd H a o) h h' where
 keep:=λb u q _ _ _=>k b u q
 slot:=λb u q _ _ _=>⟨u.slots,k b u q⟩
 free:=λb u q n _=>by rw[q0q (Nat.ne_of_lt (Nat.lt_of_lt_of_le (Heap.lt_size q) hp))];exact n
 there:=λb u q _=>⟨u,k b u q⟩
 tups:=λb xs q=>by rw[q0q (q0u q hn)];exact q
 frzs:=λb u xs q=>by rw[q0q (q0u q hn)];exact q
 tbls:=λb ps q=>⟨#[],by rw[q0q (q0u q hn),q];simp⟩
theorem Un.write(mu:Mut (H x))(he:e=x\/H e=some (.own x))(k:∀b u,b≠e->h.get? b=some u->h'.get? b=some u)(heo:∃u,h'.get? e=some u):Un fs ex H (upd H x o) h h':=by
 have hx:∀b,H b=none->b≠x:=λb n z=>by subst z;rw[n]at mu;exact mu
 have hb:∀b,H b=none->b≠e:=λb n z=>by
  subst z;rcases he with r | r
  ·exact hx b n r
  ·rw[n]at r;cases r
 have hm:∀b u,H b=some u->¬Mut (some u)->b≠x:=λb u q nm z=>by subst z;rw[q]at mu;exact nm mu
 refine⟨λb u q n _ _=>k b u (hb b n) q,λb u q n _ _=>⟨u.slots,k b u (hb b n) q⟩,λb u q n _=>by rw[q0q (hx b n)];exact n,λb u q _=>?_,
  λb xs q=>by rw[q0q (hm b _ q λz=>z)];exact q,λb u xs q=>by rw[q0q (hm b _ q λz=>z)];exact q,λb ps q=>⟨#[],by rw[q0q (hm b _ q λz=>z),q];simp⟩⟩
 by_cases hbe:b=e
 ·subst hbe;exact heo
 ·exact⟨u,k b u hbe q⟩
end
def trk(h:Heap)(H:Hp):List Addr:=(List.range h.objs.size).filter λa=>(H a).isSome
def hidT(h:Heap)(H:Hp):Heap:=PySem.W.hideAll h (trk h H)
theorem z0s(h:Heap)(H:Hp):(hidT h H).objs.size=h.objs.size:=PySem.W.hideAll_size _ _
theorem z2y{h:Heap}{H:Hp}{b:Addr}{o:Obj}(e:h.get? b=some o)(n:H b=none):(hidT h H).get? b=some o:=
 PySem.W.hideAll_get _ e λhm=>by have q:(H b).isSome=true:=(List.mem_filter.mp hm).2;rw[n]at q;simp at q
theorem z6C{h:Heap}{H:Hp}{b:Addr}{o:Obj}(e:(hidT h H).get? b=some o):h.get? b=some o/\H b=none:=by
 have e':h.get? b=some o:=PySem.W.of_hideAll (trk h H) e;refine⟨e',?_⟩;cases q:H b with
 | none=>rfl
 | some x=>
  have hm:b∈trk h H:=List.mem_filter.mpr ⟨List.mem_range.mpr (Heap.lt_size e'),by simp[q]⟩;have z:(hidT h H).get? b=none:=PySem.W.hideAll_none (trk h H) hm;rw[z]at e;cases e
def z5w(g h:Heap)(L:Addr):List (Addr×Obj):=(List.range h.objs.size).filterMap λa=>if a=L\/(g.get? a).isSome=true then none else(h.get? a).map λo=>(a,o)
def rest(g h:Heap)(L d:Addr):List (Addr×Obj):=(z5w g h L).filter λp=>decide (p.1≠d)
end L2
namespace L2
open PySem PySem.Spec PyProof.Rows
structure Mod(K:PySem.W.Frag)(mg:Str->Option Value)(base:Heap):Prop where
 kin:K.In base
 glob:base.Ns mainGlobals mg
 blt:∃mb,base.Ns builtinsNs mb/\∀x:Str,x ≠ "__name__" -> mb x=bootBuiltins x
 nolimit:base.NoLimit
structure Cx where
 prog:Program
 w:World
 K:PySem.W.Frag
 mg:Str->Option Value
 base:Heap
 A:Around
 N:List Str
 s₀:Shared
 H₀:Hp
 env:Env
 outer:List Env
 stack:List Env
 ex:List Addr
 fn:Str->Bool
 calm:Bool
 pn:List (Addr×Obj)
 xe:Value->Shared->Prop
def frs(l:List Env):List Addr:=l.filterMap (·.frame)
abbrev Cx.fs(X:Cx):List Addr:=frs X.outer
def Vis(sc:Scope)(x:Str):Prop:=sc.names.lookup x=some .local\/sc.names.lookup x=some .cell\/sc.names.lookup x=some .free
def Loc(sc:Scope)(x:Str):Prop:=sc.names.lookup x=some .local\/sc.names.lookup x=some .cell
def Look(env:Env)(h:Heap)(m:Str->Option Value)(x:Str)(u:Value):Prop:=
 (env.kindOf x=some .local/\m x=some u)\/((env.kindOf x=some .cell\/env.kindOf x=some .free)/\∃c,env.cells.lookup x=some c/\h.IsCell c (some u))
structure Cx.Ok(X:Cx):Prop where
 mod:Mod X.K X.mg X.base
 kind:X.env.scope.kind=.function
 glob:X.env.globals=mainGlobals
 blt:X.env.builtins=builtinsNs
 above:X.s₀.heap.objs.size<=X.env.locals
 inj:∀x y c,X.env.cells.lookup x=some c->X.env.cells.lookup y=some c->x=y
 has:∀x,(X.env.kindOf x=some .cell\/X.env.kindOf x=some .free)->∃c,X.env.cells.lookup x=some c
 cab:∀x c,X.fn x=true->X.env.cells.lookup x=some c->X.s₀.heap.objs.size<=c
 hd:X.calm=true->X.A.handled=none
 frames:X.A.frames=some X.stack
 stk:X.stack=X.outer\/(X.stack=X.env::X.outer/\X.env.frame=some X.env.locals)
 exf:∀b∈X.ex,b≠X.env.locals/\∀x c,X.env.cells.lookup x=some c->c≠b
 bs:∀b o,X.base.get? b=some o->X.s₀.heap.get? b=some o/\X.H₀ b=none
 bsz:X.base.objs.size<=X.s₀.heap.objs.size
 noex:∀b o,X.base.get? b=some o->b∉X.ex
 exfs:∀b∈X.ex,b∉X.fs
 funs:X.s₀.heap.FunFrames X.base X.outer
 frf:∀b∈X.fs,X.H₀ b=none
structure Inv(X:Cx)(pins:List (Addr×Obj))(σ:List (Option V))(H:Hp)(s:Shared):Prop where
 ok:X.Ok
 os:s.os=X.s₀.os
 bare:AllBare s.gens
 base:Un X.fs X.ex X.H₀ H X.s₀.heap s.heap
 loc:∃m,s.heap.Ns X.env.locals m/\∀(i:Nat) (x:Str) (v:V),X.N[i]? = some x->σ[i]? = some (some v)->Vis X.env.scope x->∃u,RelV v u/\Look X.env s.heap m x u
 cell:∀x c,X.env.cells.lookup x=some c->∃v,s.heap.IsCell c v
 free:H X.env.locals=none
 freeC:∀x c,X.env.cells.lookup x=some c->H c=none
 pin:∀p∈X.pn++pins,s.heap.get? p.1=some p.2/\H p.1=none/\p.1≠X.env.locals/\p.1∉X.fs/\∀v,p.2.data ≠ .cell v
 hok:HOk X.prog X.w H s.heap
 len:σ.length=X.N.length
section
variable {X:Cx} {pins:List (Addr×Obj)} {σ:List (Option V)} {H H':Hp} {s:Shared} {h':Heap}
theorem Cx.Ok.nofr(ok:X.Ok){b:Addr}{o:Obj}(e:X.base.get? b=some o):b∉X.fs:=λhb=>by
 have:=(ok.funs.mem hb).1;rw[e]at this;cases this
theorem Inv.bs(I:Inv X pins σ H s):∀b o,X.base.get? b=some o->s.heap.get? b=some o/\H b=none:=λb o e=>
 ⟨I.base.keep b o (I.ok.bs b o e).1 (I.ok.bs b o e).2 (I.ok.nofr e) (I.ok.noex b o e),I.base.free b o (I.ok.bs b o e).1 (I.ok.bs b o e).2 (I.ok.noex b o e)⟩
theorem Inv.bk(I:Inv X pins σ H s):∀b o,X.base.get? b=some o->s.heap.get? b=some o:=λb o e=>(I.bs b o e).1
theorem Inv.mod(I:Inv X pins σ H s):Mod X.K X.mg X.base:=I.ok.mod
theorem Inv.kIn(I:Inv X pins σ H s):X.K.In s.heap:=I.ok.mod.kin.keeps I.bk
theorem Inv.lt(I:Inv X pins σ H s):X.env.locals<s.heap.objs.size:=let ⟨_,hn,_⟩:=I.loc;hn.lt
theorem Inv.sz(I:Inv X pins σ H s):X.s₀.heap.objs.size<=s.heap.objs.size:=Nat.le_trans I.ok.above (Nat.le_of_lt I.lt)
theorem Inv.nofs(I:Inv X pins σ H s){a:Addr}(h:s.heap.objs.size<=a):a∉X.fs:=λhb=>by
 obtain⟨_,o,ho,_⟩:=I.ok.funs.mem hb
 exact absurd (Nat.lt_of_lt_of_le (Heap.lt_size ho) (Nat.le_trans I.sz h)) (Nat.lt_irrefl _)
theorem Inv.cne(I:Inv X pins σ H s):∀x c,X.env.cells.lookup x=some c->c≠X.env.locals:=λx c e z=>by
 obtain⟨v,o,ho,hd⟩:=I.cell x c e;obtain⟨m,⟨o',es,ep,ho',hd',_⟩,_⟩:=I.loc;rw[z,ho']at ho;cases ho;rw[hd']at hd;cases hd
theorem Inv.funs(I:Inv X pins σ H s):s.heap.FunFrames X.base X.outer:=by
 have all:∀(l:List Env),(∀b∈frs l,b∈X.fs)->X.s₀.heap.FunFrames X.base l->s.heap.FunFrames X.base l:=by
  intro l
  induction l with
  | nil=>intro _ _;trivial
  | cons env r ih=>
   intro hs hl;obtain⟨hk,⟨L,o,hf,hn,ho,hd⟩,hr⟩:=hl;have hL:L∈X.fs:=hs L (by unfold frs;rw[List.filterMap_cons,hf];exact List.mem_cons_self);obtain⟨sl,e⟩:=I.base.slot L o ho (I.ok.frf L hL) hL λz=>I.ok.exfs L z hL
   exact⟨hk,⟨L,_,hf,hn,e,hd⟩,ih (λb hb=>hs b (by unfold frs;rw[List.filterMap_cons,hf];exact List.mem_cons_of_mem _ hb)) hr⟩
 exact all X.outer (λ_ hb=>hb) I.ok.funs
theorem Inv.stack(I:Inv X pins σ H s):s.heap.FunFrames X.base X.stack:=by
 rcases I.ok.stk with e | ⟨e,hf⟩
 ·rw[e];exact I.funs
 ·rw[e];obtain⟨m,hn,_⟩:=I.loc;refine .cons (by rw[I.ok.kind];decide) hf hn ?_ I.funs
  exact Heap.get?_none_of_le (Nat.le_trans I.ok.bsz I.ok.above)
theorem Inv.stkSub(I:Inv X pins σ H s):∀b∈frs X.stack,b∈X.env.locals::X.fs:=λb hb=>by
 rcases I.ok.stk with e | ⟨e,hf⟩
 ·rw[e]at hb;exact List.mem_cons_of_mem _ hb
 ·rw[e]at hb;unfold frs at hb;rw[List.filterMap_cons,hf]at hb;exact hb
theorem Inv.stkFree(I:Inv X pins σ H s):∀b∈frs X.stack,H b=none:=λb hb=>by
 rcases List.mem_cons.mp (I.stkSub b hb)with e | hb
 ·rw[e];exact I.free
 ·obtain⟨_,o,ho,_⟩:=I.ok.funs.mem hb
  exact I.base.free b o ho (I.ok.frf b hb) λz=>I.ok.exfs b z hb
theorem Inv.step{g':Array GenState}{t':Nat}{d':Drawn}{ch:List Addr}(I:Inv X pins σ H s)
  (hch:∀b∈ch,(b∈X.ex\/X.s₀.heap.objs.size<=b)/\b≠X.env.locals/\(∀x c,X.env.cells.lookup x=some c->c≠b)/\∀p∈X.pn++pins,p.1≠b)
  (keep:∀b o,b≠X.env.locals->b∉X.fs->b∉ch->s.heap.get? b=some o->H b=none->h'.get? b=some o)
  (slot:∀b o,b≠X.env.locals->b∈X.fs->b∉ch->s.heap.get? b=some o->H b=none->∃sl,h'.get? b=some {o with slots:=sl}) (free:∀b o,b∉ch->s.heap.get? b=some o->H b=none->H' b=none)
  (there:∀b o,b∉ch->s.heap.get? b=some o->∃o',h'.get? b=some o')
  (tups:∀b xs,H b=some (.tup xs)->H' b=some (.tup xs)) (frzs:∀b o u,H b=some (.frz o u)->H' b=some (.frz o u)) (tbls:∀b ps,H b=some (.tbl ps)->∃more,H' b=some (.tbl (ps++more)))
  (ns:∀m,s.heap.Ns X.env.locals m->h'.Ns X.env.locals m) (hok:HOk X.prog X.w H' h') (hg:AllBare g') :
  Inv X pins σ H' {s with heap:=h',gens:=g',drawn:=d',toks:=t'}:=by
 have neL:∀b o,X.s₀.heap.get? b=some o->b≠X.env.locals:=λb o e=>Nat.ne_of_lt (Nat.lt_of_lt_of_le (Heap.lt_size e) I.ok.above);have neC:∀b o,X.s₀.heap.get? b=some o->b∉X.ex->b∉ch:=λb o e hx hb=>by
  rcases(hch b hb).1 with z | z
  ·exact hx z
  ·exact absurd (Nat.lt_of_lt_of_le (Heap.lt_size e) z) (Nat.lt_irrefl _)
 have cellK:∀x c,X.env.cells.lookup x=some c->∀v,s.heap.IsCell c v->h'.IsCell c v:=λx c e v ⟨o,ho,hd⟩=>by
  have nch:c∉ch:=λz=>(hch c z).2.2.1 x c e rfl;by_cases hc:c∈X.fs
  ·obtain⟨sl,q⟩:=slot c o (I.cne x c e) hc nch ho (I.freeC x c e);exact⟨_,q,hd⟩
  ·exact⟨o,keep c o (I.cne x c e) hc nch ho (I.freeC x c e),hd⟩
 refine⟨I.ok,I.os,hg,⟨λb o e n hb hx=>?_,λb o e n hb hx=>?_,λb o e n hx=>?_,λb o e hx=>?_,λb xs e=>tups b xs (I.base.tups b xs e),λb o xs e=>frzs b o xs (I.base.frzs b o xs e),λb ps e=>?_⟩,?_,λx c e=>?_,?_,λx c e=>?_,λp hp=>?_,hok,I.len⟩
 ·exact keep b o (neL b o e) hb (neC b o e hx) (I.base.keep b o e n hb hx) (I.base.free b o e n hx)
 ·obtain⟨sl,e1⟩:=I.base.slot b o e n hb hx;obtain⟨sl',e2⟩:=slot b _ (neL b o e) hb (neC b o e hx) e1 (I.base.free b o e n hx);exact⟨sl',e2⟩
 ·obtain⟨o',e1⟩:=I.base.there b o e hx;exact free b o' (neC b o e hx) e1 (I.base.free b o e n hx)
 ·obtain⟨o',e1⟩:=I.base.there b o e hx;exact there b o' (neC b o e hx) e1
 ·obtain⟨m1,e1⟩:=I.base.tbls b ps e;obtain⟨m2,e2⟩:=tbls b _ e1;exact⟨m1++m2,by rw[e2,Array.append_assoc]⟩
 ·obtain⟨m,hn,hl⟩:=I.loc;refine⟨m,ns m hn,λi x v e1 e2 e3=>?_⟩;obtain⟨u,r,l⟩:=hl i x v e1 e2 e3;refine⟨u,r,?_⟩;rcases l with l | ⟨k,c,e,z⟩
  ·exact .inl l
  ·exact .inr ⟨k,c,e,cellK x c e _ z⟩
 ·obtain⟨v,z⟩:=I.cell x c e;exact⟨v,cellK x c e v z⟩
 ·obtain⟨m,⟨o,_,_,ho,_⟩,_⟩:=I.loc;exact free _ o (λz=>(hch _ z).2.1 rfl) ho I.free
 ·obtain⟨v,o,ho,hd⟩:=I.cell x c e;exact free c o (λz=>(hch c z).2.2.1 x c e rfl) ho (I.freeC x c e)
 ·obtain⟨e,n,ne,nf,d⟩:=I.pin p hp;have nch:p.1∉ch:=λz=>(hch p.1 z).2.2.2 p hp rfl
  exact⟨keep p.1 p.2 ne nf nch e n,free p.1 p.2 nch e n,ne,nf,d⟩
theorem Inv.un{t':Nat}(I:Inv X pins σ H s)(u:Un X.fs [] H H' s.heap h')(hok:HOk X.prog X.w H' h'):Inv X pins σ H' {s with heap:=h',toks:=t'}:=by
 obtain⟨m,⟨o,es,ep,ho,r⟩,_⟩:=id I.loc;obtain⟨sl,hL⟩:=u.any ho I.free (by simp);exact I.step (g':=s.gens) (d':=s.drawn) (ch:=[]) (λ_ z=>nomatch z) (λb o _ hb _ e n=>u.keep b o e n hb (by simp)) (λb o _ hb _ e n=>u.slot b o e n hb (by simp)) (λb o _ e n=>u.free b o e n (by simp)) (λb o _ e=>u.there b o e (by simp)) u.tups u.frzs u.tbls (λm' hm=>by
  obtain⟨o',es',ep',ho',r'⟩:=hm;rw[ho]at ho';cases ho';exact⟨_,es',ep',hL,r'⟩) hok I.bare
theorem Inv.call{g':Array GenState}{t':Nat}{d':Drawn}{ch:List Addr}(I:Inv X pins σ H s)(u:Un (frs X.stack) ch H H' s.heap h')(hok:HOk X.prog X.w H' h')(hg:AllBare g')
  (hch:∀b∈ch,(b∈X.ex\/X.s₀.heap.objs.size<=b)/\b≠X.env.locals/\(∀x c,X.env.cells.lookup x=some c->c≠b)/\∀p∈X.pn++pins,p.1≠b) :
  Inv X pins σ H' {s with heap:=h',gens:=g',drawn:=d',toks:=t'}:=by
 obtain⟨m,⟨o,es,ep,ho,r⟩,_⟩:=id I.loc;obtain⟨sl,hL⟩:=u.any ho I.free λz=>(hch _ z).2.1 rfl
 exact I.step (ch:=ch) hch (λb o hL hb hc e n=>u.keep b o e n (λz=>(List.mem_cons.mp (I.stkSub b z)).elim hL hb) hc) (λb o _ _ hc e n=>u.any e n hc) (λb o hc e n=>u.free b o e n hc) (λb o hc e=>u.there b o e hc) u.tups u.frzs u.tbls (λm' hm=>by
  obtain⟨o',es',ep',ho',r'⟩:=hm;rw[ho]at ho';cases ho';exact⟨_,es',ep',hL,r'⟩) hok hg
theorem Inv.turned{t':Nat}{it:Addr}(I:Inv X pins σ H s)(k:∀b o,b≠it->s.heap.get? b=some o->h'.get? b=some o)(hn:H it=none)(hL:it≠X.env.locals)
  (h1:it∈X.ex\/X.s₀.heap.objs.size<=it) (h2:∀x c,X.env.cells.lookup x=some c->c≠it) (h3:∀p∈X.pn++pins,p.1≠it):Inv X pins σ H {s with heap:=h',toks:=t'}:=by
 have nit:∀b u,H b=some u->b≠it:=λb u e z=>by rw[z,hn]at e;cases e
 refine I.step (g':=s.gens) (d':=s.drawn) (ch:=[it]) (λb hb=>?_) (λb o _ _ hc e _=>k b o (λz=>hc (by simp[z])) e) (λb o _ _ hc e _=>⟨o.slots,k b o (λz=>hc (by simp[z])) e⟩) (λ_ _ _ _ n=>n)
  (λb o hc e=>⟨o,k b o (λz=>hc (by simp[z])) e⟩) (λ_ _ e=>e) (λ_ _ _ e=>e) (λb ps e=>⟨#[],by rw[e];simp⟩) (λm hm=>?_) (λb u e=>?_) I.bare
 ·have e:b=it:=by simpa using hb
  subst e;exact⟨h1,hL,h2,h3⟩
 ·obtain⟨o,es,ep,ho,r⟩:=hm;exact⟨o,es,ep,k _ o (Ne.symm hL) ho,r⟩
 ·refine(I.hok b u e).stay (λc v hc q=>k c v ?_ q) (λ_ q=>q) λ_ _ q=>q;rcases hc with z | z
  ·rw[z];exact nit b u e
  ·exact nit c _ z
theorem Inv.tok(I:Inv X pins σ H s)(t:Nat):Inv X pins σ H {s with toks:=t}:=I.un (h':=s.heap) (t':=t) Un.refl I.hok
theorem Inv.kept{t':Nat}(I:Inv X pins σ H s)(k:∀b u,s.heap.get? b=some u->h'.get? b=some u):Inv X pins σ H {s with heap:=h',toks:=t'}:=I.un (Un.kept k) (I.hok.kept k)
theorem Inv.laid{a:Addr}{o:HO}{t':Nat}(I:Inv X pins σ H s)(k:∀b u,s.heap.get? b=some u->h'.get? b=some u)(hp:s.heap.objs.size<=a)(new:q1Q X.prog X.w (upd H a o) h' a o) :
  Inv X pins σ (upd H a o) {s with heap:=h',toks:=t'}:=I.un (Un.laid k hp (I.hok.fresh hp)) (I.hok.laid k hp new)
theorem Inv.write{x e:Addr}{o:HO}{t':Nat}(I:Inv X pins σ H s)(mu:Mut (H x))(he:e=x\/H e=some (.own x))(k:∀b u,b≠e->s.heap.get? b=some u->h'.get? b=some u)(heo:∃u,h'.get? e=some u)
  (new:q1Q X.prog X.w (upd H x o) h' x o):Inv X pins σ (upd H x o) {s with heap:=h',toks:=t'}:=I.un (Un.write mu he k heo) (I.hok.write mu he k heo new)
theorem Inv.pins_of{pins':List (Addr×Obj)}(I:Inv X pins σ H s)(h:∀p∈pins',s.heap.get? p.1=some p.2/\H p.1=none/\p.1≠X.env.locals/\p.1∉X.fs/\∀v,p.2.data ≠ .cell v):Inv X pins' σ H s:=
 ⟨I.ok,I.os,I.bare,I.base,I.loc,I.cell,I.free,I.freeC,λp hp=>(List.mem_append.mp hp).elim (λz=>I.pin p (List.mem_append_left _ z)) (h p),I.hok,I.len⟩
theorem q5T{N:List Str}(hN:N.Nodup){i j:Nat}{x:Str}(a:N[i]? = some x)(b:N[j]? = some x):i=j:=by
 obtain⟨h1,e1⟩:=List.getElem?_eq_some_iff.mp a;obtain⟨h2,e2⟩:=List.getElem?_eq_some_iff.mp b;exact(List.getElem_inj hN).mp (e1.trans e2.symm)
theorem q6L{M:Model}{A:Around}{E:Value->Shared->Prop}{i:Nat}{x:Str}{v:V}{u:Value}{Q:Unit->Shared->Prop}(I:Inv X pins σ H s)(hN:X.N.Nodup)(hi:X.N[i]? = some x)(hx:Loc X.env.scope x)(r:RelV v u)
  (h:∀s',Inv X pins (σ.set i (some v)) H s'->(∃a,Heap.SameBut a s.heap s'.heap/\(a=X.env.locals\/X.env.cells.lookup x=some a))->Q () s') (hf:X.fn x=true\/X.env.scope.names.lookup x=some .local:=by first | exact .inl rfl | exact .inr rfl | assumption):wpAny M A (storeName X.env x u) Q E s:=by
 obtain⟨m,hn,hl⟩:=id I.loc;have hcls:(X.env.scope.kind == .class||(X.env.scope.kind == .module&&X.env.locals != X.env.globals))=false:=by rw[I.ok.kind];rfl
 have hiσ:i<σ.length:=by rw[I.len];exact(List.getElem?_eq_some_iff.mp hi).1
 have cne:=I.cne;have tracked:∀{a:Addr} {h':Heap},(∃o,s.heap.get? a=some o/\H a=none)->Heap.SameBut a s.heap h'->HOk X.prog X.w H h':=λ{a h'} ha hs b ob e=>by
  obtain⟨_,_,hfree⟩:=ha;refine(I.hok b ob e).stay (λc w' hc q=>(hs.2 c ?_).trans q) (λ_ q=>q) λ_ _ q=>q
  rintro rfl
  rcases hc with rfl | hc
  ·rw[hfree]at e;cases e
  ·rw[hfree]at hc;cases hc
 rcases hx with hk | hk
 ·refine wpAny_storeName_local hk hn (λh' hn' hs=>?_) hcls;obtain⟨oL,_,_,hoL,_⟩:=id hn;refine h _ ⟨I.ok,I.os,I.bare,⟨λb o e n hb hx=>?_,λb o e n hb hx=>?_,I.base.free,λb o e hx=>?_,I.base.tups,I.base.frzs,I.base.tbls⟩,⟨_,hn',λj y v' e1 e2 e3=>?_⟩,λy c e=>?_,I.free,I.freeC,λp hp=>?_,tracked ⟨oL,hoL,I.free⟩ hs,by simpa using I.len⟩ ⟨_,hs,.inl rfl⟩
  ·exact(hs.2 b (Nat.ne_of_lt (Nat.lt_of_lt_of_le (Heap.lt_size e) I.ok.above))).trans (I.base.keep b o e n hb hx)
  ·obtain⟨sl,e1⟩:=I.base.slot b o e n hb hx;exact⟨sl,(hs.2 b (Nat.ne_of_lt (Nat.lt_of_lt_of_le (Heap.lt_size e) I.ok.above))).trans e1⟩
  ·obtain⟨o',e1⟩:=I.base.there b o e hx;exact⟨o',(hs.2 b (Nat.ne_of_lt (Nat.lt_of_lt_of_le (Heap.lt_size e) I.ok.above))).trans e1⟩
  ·by_cases hj:j=i
   ·subst hj;rw[hi]at e1;cases e1;rw[List.getElem?_set_self hiσ]at e2;cases e2;exact⟨u,r,.inl ⟨hk,by simp⟩⟩
   ·rw[List.getElem?_set_ne (Ne.symm hj)]at e2;obtain⟨u',r',q⟩:=hl j y v' e1 e2 e3;refine⟨u',r',?_⟩;rcases q with⟨k,e⟩ | ⟨k,c,e,z⟩
    ·refine .inl ⟨k,?_⟩;have:y≠x:=λe=>hj (q5T hN e1 (e▸hi));simp[this,e]
    ·exact .inr ⟨k,c,e,z.sameBut hs (cne y c e)⟩
  ·obtain⟨w',z⟩:=I.cell y c e;exact⟨w',z.sameBut hs (cne y c e)⟩
  ·obtain⟨e,n,ne,nf,d⟩:=I.pin p hp;exact⟨(hs.2 p.1 ne).trans e,n,ne,nf,d⟩
 ·have hfn:X.fn x=true:=by
   rcases hf with z | z
   ·exact z
   ·rw[z]at hk;cases hk
  obtain⟨c,hc⟩:=I.ok.has x (.inl hk);obtain⟨w',z⟩:=I.cell x c hc;refine wpAny_storeName_cell I.ok.kind hk hc z (λh' hc' hs=>?_);obtain⟨oc,hoc,hocd⟩:=id z;refine h {s with heap:=h'} ⟨I.ok,I.os,I.bare,⟨λb o e n hb hx=>?_,λb o e n hb hx=>?_,I.base.free,λb o e hx=>?_,I.base.tups,I.base.frzs,I.base.tbls⟩,⟨m,hn.sameBut hs (Ne.symm (cne x c hc)),λj y v' e1 e2 e3=>?_⟩,λy c' e=>?_,I.free,I.freeC,λp hp=>?_,tracked ⟨oc,hoc,I.freeC x c hc⟩ hs,by simpa using I.len⟩ ⟨c,hs,.inr hc⟩
  ·exact(hs.2 b (Nat.ne_of_lt (Nat.lt_of_lt_of_le (Heap.lt_size e) (I.ok.cab x c hfn hc)))).trans (I.base.keep b o e n hb hx)
  ·obtain⟨sl,e1⟩:=I.base.slot b o e n hb hx;exact⟨sl,(hs.2 b (Nat.ne_of_lt (Nat.lt_of_lt_of_le (Heap.lt_size e) (I.ok.cab x c hfn hc)))).trans e1⟩
  ·obtain⟨o',e1⟩:=I.base.there b o e hx;exact⟨o',(hs.2 b (Nat.ne_of_lt (Nat.lt_of_lt_of_le (Heap.lt_size e) (I.ok.cab x c hfn hc)))).trans e1⟩
  ·by_cases hj:j=i
   ·subst hj;rw[hi]at e1;cases e1;rw[List.getElem?_set_self hiσ]at e2;cases e2;exact⟨u,r,.inr ⟨.inl hk,c,hc,hc'⟩⟩
   ·rw[List.getElem?_set_ne (Ne.symm hj)]at e2;obtain⟨u',r',q⟩:=hl j y v' e1 e2 e3;refine⟨u',r',?_⟩;rcases q with q | ⟨k,c',e,z'⟩
    ·exact .inl q
    ·refine .inr ⟨k,c',e,z'.sameBut hs ?_⟩
     rintro rfl
     exact hj (q5T hN e1 (I.ok.inj _ _ _ e hc▸hi))
  ·by_cases hcc:c'=c
   ·subst hcc;exact⟨_,hc'⟩
   ·obtain⟨w2,z2⟩:=I.cell y c' e;exact⟨w2,z2.sameBut hs hcc⟩
  ·obtain⟨e,n,ne,nf,d⟩:=I.pin p hp;refine⟨(hs.2 p.1 ?_).trans e,n,ne,nf,d⟩;intro q;rw[q,hoc]at e;have q':oc=p.2:=Option.some.inj e;exact d w' (by rw[←q'];exact hocd)
theorem q8t{M:Model}{A:Around}{E:Value->Shared->Prop}{i:Nat}{x:Str}{v:V}{u:Value}{Q:Unit->Shared->Prop}(I:Inv X pins σ H s)(hN:X.N.Nodup)(hi:X.N[i]? = some x)(hx:Loc X.env.scope x)(r:RelV v u)
  (h:∀s',Inv X pins (σ.set i (some v)) H s'->Q () s') (hf:X.fn x=true\/X.env.scope.names.lookup x=some .local:=by first | exact .inl rfl | exact .inr rfl | assumption):wpAny M A (storeName X.env x u) Q E s:=
 q6L I hN hi hx r (λs' I' _=>h s' I') hf
theorem Inv.call'{s':Shared}{ch:List Addr}(I:Inv X pins σ H s)(ho:s'.os=s.os)(u:Un (frs X.stack) ch H H' s.heap s'.heap)(hok:HOk X.prog X.w H' s'.heap)(hg:AllBare s'.gens)
  (hch:∀b∈ch,(b∈X.ex\/X.s₀.heap.objs.size<=b)/\b≠X.env.locals/\(∀x c,X.env.cells.lookup x=some c->c≠b)/\∀p∈X.pn++pins,p.1≠b):Inv X pins σ H' s':=by
 obtain⟨h',g',d',t',o'⟩:=s';have e:o'=s.os:=ho;subst e;exact I.call (g':=g') (t':=t') (d':=d') u hok hg hch
end
abbrev XK:=Value->Option Addr->Hp->Prop
abbrev St:=List (Option V)
abbrev VK:=V->Hp->Prop
abbrev TE:=St->Hp->VK->Prop
abbrev TT:=St->Hp->(Bool->Hp->Prop)->Prop
abbrev TA:=St->Hp->(List V->Hp->Prop)->Prop
structure Ends where
 nx:St->Hp->Prop
 rt:VK
 bk:St->Hp->Prop:=λ_ _=>False
 ct:St->Hp->Prop:=λ_ _=>False
abbrev TS:=Ends->St->Hp->Prop
def EP(X:Cx)(pins:List (Addr×Obj))(σ:St)(Q:VK)(u:Value)(s':Shared):Prop:=∃v H',Inv X pins σ H' s'/\RelV v u/\Q v H'
def TP(X:Cx)(pins:List (Addr×Obj))(σ:St)(Q:Bool->Hp->Prop)(b:Bool)(s':Shared):Prop:=∃H',Inv X pins σ H' s'/\Q b H'
def AP(X:Cx)(pins:List (Addr×Obj))(σ:St)(Q:List V->Hp->Prop)(us:List Value)(s':Shared):Prop:=∃vs H',Inv X pins σ H' s'/\Vals vs us/\Q vs H'
def SP(X:Cx)(pins:List (Addr×Obj))(D:Ends)(f:Flow)(s':Shared):Prop:=
 match f with
 | .next=>∃σ' H',Inv X pins σ' H' s'/\D.nx σ' H'
 | .brk=>∃σ' H',Inv X pins σ' H' s'/\D.bk σ' H'
 | .cont=>∃σ' H',Inv X pins σ' H' s'/\D.ct σ' H'
 | .ret u=>∃v σ' H',Inv X pins σ' H' s'/\RelV v u/\D.rt v H'
def PE(X:Cx)(e:Expr)(t:TE):Prop:=
 ∀(pins:List (Addr×Obj)) (s:Shared) (σ:St) (H:Hp) (Q:VK),Inv X pins σ H s->t σ H Q->wpAny (model X.prog X.w) X.A (eval e X.env) (EP X pins σ Q) X.xe s
def PT(X:Cx)(e:Expr)(t:TT):Prop:=
 ∀(pins:List (Addr×Obj)) (s:Shared) (σ:St) (H:Hp) (Q:Bool->Hp->Prop),Inv X pins σ H s->t σ H Q->wpAny (model X.prog X.w) X.A (isTrue e X.env (eval e X.env)) (TP X pins σ Q) X.xe s
def PW(X:Cx)(e:Expr)(t:TT):Prop:=
 ∀(whole:Sem Value) (pins:List (Addr×Obj)) (s:Shared) (σ:St) (H:Hp) (Q:Bool->Hp->Prop),Inv X pins σ H s->t σ H Q->wpAny (model X.prog X.w) X.A (isTrue e X.env whole) (TP X pins σ Q) X.xe s
theorem PW.pt{X:Cx}{e:Expr}{t:TT}(h:PW X e t):PT X e t:=h _
def PA(X:Cx)(es:List Expr)(t:TA):Prop:=
 ∀(pos:Pos) (pins:List (Addr×Obj)) (s:Shared) (σ:St) (H:Hp) (Q:List V->Hp->Prop),Inv X pins σ H s->t σ H Q->wpAny (model X.prog X.w) X.A (spliced (backTo pos (starEach es X.env))) (AP X pins σ Q) X.xe s
def PS(X:Cx)(st:Stmt)(t:TS):Prop:=
 ∀(pins:List (Addr×Obj)) (s:Shared) (σ:St) (H:Hp) (D:Ends),Inv X pins σ H s->t D σ H->wpAny (model X.prog X.w) X.A (exec st X.env) (SP X pins D) X.xe s
def PSs(X:Cx)(st:List Stmt)(t:TS):Prop:=
 ∀(pins:List (Addr×Obj)) (s:Shared) (σ:St) (H:Hp) (D:Ends),Inv X pins σ H s->t D σ H->wpAny (model X.prog X.w) X.A (execs st X.env) (SP X pins D) X.xe s
theorem thn{α:Type}{t:Sem α}{Q Q':α->Shared->Prop}{M:Model}{A:Around}{E:Value->Shared->Prop}{s:Shared}(h:wpAny M A t Q E s)(hQ:∀a s,Q a s->Q' a s):wpAny M A t Q' E s:=wpAny_mono h hQ λ_ _ x=>x
end L2
namespace L2
open PySem PySem.Spec PyProof.Rows
section
variable {X:Cx}
theorem bin{a b:Expr}{ta tb:TE}(ha:PE X a ta)(hb:PE X b tb){pins:List (Addr×Obj)}{s:Shared}{σ:St}{H:Hp}{R:V->V->Hp->Prop}(I:Inv X pins σ H s)(h:ta σ H λx H1=>tb σ H1 λy H2=>R x y H2)
  {α:Type} {Q:α->Shared->Prop} {f:Value->Value->Sem α}
  (hf:∀v u s2 x y H2,Inv X pins σ H2 s2->RelV x v->RelV y u->R x y H2->wpAny (model X.prog X.w) X.A (f v u) Q X.xe s2) :
  wpAny (model X.prog X.w) X.A (eval a X.env) (λv s₁=>wpAny (model X.prog X.w) X.A (eval b X.env) (λu s₂=>wpAny (model X.prog X.w) X.A (f v u) Q X.xe s₂) X.xe s₁) X.xe s:=by
 refine thn (ha pins s σ H _ I h) λv s1 ⟨x,H1,I1,r1,q1⟩=>?_;refine thn (hb pins s1 σ H1 _ I1 q1) λu s2 ⟨y,H2,I2,r2,q2⟩=>?_;exact hf v u s2 x y H2 I2 r1 r2 q2
def tVar(i:Nat):TE:=λσ H Q=>∃v,σ[i]? = some (some v)/\Q v H
def tC(v:V):TE:=λ_ H Q=>Q v H
theorem z0e{i:Nat}{x:Str}{pos:Pos}(hN:X.N[i]? = some x)(hv:Vis X.env.scope x)(hd:(x==("__debug__" : Str))=false:=by decide)(hcd:(x==("__classdict__" : Str))=false:=by decide):PE X (.Name x pos) (tVar i):=by
 intro pins s σ H Q I h;obtain⟨v,e,h⟩:=h;obtain⟨m,hn,hl⟩:=I.loc;obtain⟨u,r,l⟩:=hl i x v hN e hv;have fin:EP X pins σ Q u s:=⟨v,H,I,r,h⟩;rcases l with⟨hk,hm⟩ | ⟨hk,c,hc,hcell⟩
 ·exact wpAny_Name (wpAny_loadName_local I.ok.kind hk hn hm fin) hd
 ·rcases hk with hk | hk
  ·exact wpAny_Name (wpAny_loadName_cell I.ok.kind hk hc hcell fin) hd
  ·exact wpAny_Name (wpAny_loadName_free I.ok.kind hk hc hcell fin hcd) hd
theorem z8m{i j pos}:PE X (.Constant (.int i) j pos) (tC (.int i)):=λ_ _ _ H _ I h=>wpAny_Constant_int ⟨.int i,H,I.tok _,⟨_,rfl⟩,h⟩
theorem y0k{b j pos}:PE X (.Constant (.bool b) j pos) (tC (.bl b)):=λ_ _ _ H _ I h=>Constant_bool ⟨.bl b,H,I,rfl,h⟩
theorem z8H{j pos}:PE X (.Constant .none j pos) (tC .non):=λ_ _ _ H _ I h=>Constant_none ⟨.non,H,I,rfl,h⟩
theorem z8A{x j pos}:PE X (.Constant (.str x) j pos) (tC (.str x)):=λ_ _ _ H _ I h=>Calls.Constant_str ⟨.str x,H,I.tok _,⟨_,rfl⟩,h⟩
def Gl(X:Cx)(x:Str):Prop:=X.env.kindOf x=some .globalImplicit
theorem q7v{E:Value->Shared->Prop}{pins:List (Addr×Obj)}{s:Shared}{σ:St}{H:Hp}{x:Str}{u:Value}{pos:Pos}{Q:Value->Shared->Prop}(I:Inv X pins σ H s)(hg:Gl X x)(hm:X.mg x=some u)(h:Q u s)
  (hd:(x==("__debug__" : Str))=false:=by decide):wpAny (model X.prog X.w) X.A (eval (.Name x pos) X.env) Q E s:=
 Calls.Name_function_global I.ok.kind hg (Calls.loadGlobal_global (by rw[I.ok.glob];exact I.mod.glob.keeps I.bk) hm h) hd
theorem q3J{E:Value->Shared->Prop}{pins:List (Addr×Obj)}{s:Shared}{σ:St}{H:Hp}{x:Str}{u:Value}{pos:Pos}{Q:Value->Shared->Prop}(I:Inv X pins σ H s)(hg:Gl X x)(hm:X.mg x=none)(hv:bootBuiltins x=some u)(h:Q u s)
  (hn:x ≠ "__name__":=by decide) (hd:(x==("__debug__" : Str))=false:=by decide):wpAny (model X.prog X.w) X.A (eval (.Name x pos) X.env) Q E s:=by
 obtain⟨mb,h1,h2⟩:=I.mod.blt;exact Calls.Name_function_global I.ok.kind hg (Calls.loadGlobal_builtin (by rw[I.ok.glob];exact I.mod.glob.keeps I.bk) hm (by rw[I.ok.blt];exact h1.keeps I.bk) ((h2 x hn).trans hv) h) hd
theorem z5a{x:Str}{v:V}{u:Value}{pos:Pos}(hg:Gl X x)(hm:X.mg x=some u)(r:RelV v u)(hd:(x==("__debug__" : Str))=false:=by decide):PE X (.Name x pos) (tC v):=
 λ_ _ _ H _ I h=>q7v I hg hm ⟨v,H,I,r,h⟩ hd
theorem z6b{x:Str}{v:V}{u:Value}{pos:Pos}(hg:Gl X x)(hm:X.mg x=none)(hv:bootBuiltins x=some u)(r:RelV v u)(hn:x ≠ "__name__":=by decide)(hd:(x==("__debug__" : Str))=false:=by decide):PE X (.Name x pos) (tC v):=
 λ_ _ _ H _ I h=>q3J I hg hm hv ⟨v,H,I,r,h⟩ hn hd
variable {a b:Expr} {ta tb:TE} {pos:Pos}
def tB(t:TE):TT:=λσ H Q=>t σ H λx H1=>∃c,x=.bl c/\Q c H1
variable {tA tB':TT} {rest:List Expr}
def tAnd(t u:TT):TT:=λσ H Q=>t σ H λc H1=>if c=true then u σ H1 Q else Q false H1
def tOr(t u:TT):TT:=λσ H Q=>t σ H λc H1=>if c=true then Q true H1 else u σ H1 Q
def tNot(t:TT):TT:=λσ H Q=>t σ H λc H1=>Q (!c) H1
theorem z5A(ha:PT X a tA):PW X (.BoolOp .And [a] pos) tA:=by
 intro wh pins s σ H Q I h;refine isTrue_and (thn (ha pins s σ H Q I h) λc s1 e=>?_);cases c with
 | true=>exact isTrue_and_nil e
 | false=>exact e
theorem z8g(ha:PT X a tA):PW X (.BoolOp .Or [a] pos) tA:=by
 intro wh pins s σ H Q I h;refine isTrue_or (thn (ha pins s σ H Q I h) λc s1 e=>?_);cases c with
 | false=>exact isTrue_or_nil e
 | true=>exact e
theorem z1c(ha:PT X a tA)(hb:PW X (.BoolOp .And (b::rest) pos) tB'):PW X (.BoolOp .And (a::b::rest) pos) (tAnd tA tB'):=by
 intro wh pins s σ H Q I h;refine isTrue_and (thn (ha pins s σ H _ I h) λc s1 ⟨H1,I1,q1⟩=>?_);cases c with
 | true=>exact hb wh pins s1 σ H1 Q I1 q1
 | false=>exact⟨H1,I1,q1⟩
theorem z4Q(ha:PT X a tA)(hb:PW X (.BoolOp .Or (b::rest) pos) tB'):PW X (.BoolOp .Or (a::b::rest) pos) (tOr tA tB'):=by
 intro wh pins s σ H Q I h;refine isTrue_or (thn (ha pins s σ H _ I h) λc s1 ⟨H1,I1,q1⟩=>?_);cases c with
 | true=>exact⟨H1,I1,q1⟩
 | false=>exact hb wh pins s1 σ H1 Q I1 q1
theorem z3K(ha:PT X a tA):PT X (.UnaryOp .Not a pos) (tNot tA):=by
 intro pins s σ H Q I h;exact isTrue_not (ha pins s σ H (λc H1=>Q (!c) H1) I h)
theorem z3t{op}{t:TE}(h:PE X a t):PE X (.BoolOp op [a] pos) t:=λpins s σ H Q I hw=>BoolOp_one (h pins s σ H Q I hw)
end
end L2
namespace L2
open PySem PySem.Spec PyProof.Rows
def SqL(K:PySem.W.Frag)(H:Hp)(a:Addr)(xs:List V):Prop:=
 Rd H a (.lst xs) \/
  ∃(o:Obj) (its:Array Value) (n:Nat),K.lookup a=some o/\o.cls=.type "list" /\ o.dict=none/\o.data=.seq its n/\its.size<=sizeLine/\Vals xs its.toList
def SqT(K:PySem.W.Frag)(H:Hp)(a:Addr)(xs:List V):Prop:=
 Rd H a (.tup xs) \/
  ∃(o:Obj) (its:Array Value) (n:Nat),K.lookup a=some o/\(o.cls=.type "tuple" /\ o.dict=none)/\o.data=.seq its n/\its.size<=sizeLine/\Vals xs its.toList
def absV:Value->Option V
 | .none=>some .non
 | .bool b=>some (.bl b)
 | .int i _=>some (.int i)
 | .str x _=>some (.str x)
 | .bytes b _=>some (.byt b)
 | .float b _=>some (.flt b)
 | .ref a=>some (.ref a)
 | .type n=>some (.ty n)
 | _=>none
theorem RelV.abs{x:V}{u:Value}(r:RelV x u):absV u=some x:=by
 cases x with
 | non=>cases r;rfl
 | bl _=>cases r;rfl
 | int _=>obtain⟨t,rfl⟩:=r;rfl
 | str _=>obtain⟨t,rfl⟩:=r;rfl
 | byt _=>obtain⟨t,rfl⟩:=r;rfl
 | flt _=>obtain⟨t,rfl⟩:=r;rfl
 | ref _=>cases r;rfl
 | ty _=>cases r;rfl
theorem RelV.inj{x y:V}{u:Value}(r:RelV x u)(q:RelV y u):x=y:=Option.some.inj (r.abs.symm.trans q.abs)
theorem Vals.inj{xs ys:List V}{us:List Value}(h:Vals xs us):Vals ys us->xs=ys:=by
 induction h generalizing ys with
 | nil=>intro t;cases t;rfl
 | cons r _ ih=>intro t;cases t with | cons r' t'=>rw[r.inj r',ih t']
section
variable {X:Cx} {pins:List (Addr×Obj)} {σ:St} {H:Hp} {s:Shared} {a:Addr} {xs ys:List V}
theorem SqL.of{K:PySem.W.Frag}(h:H a=some (.lst xs)):SqL K H a xs:=.inl (.inl h)
theorem SqT.of{K:PySem.W.Frag}(h:H a=some (.tup xs)):SqT K H a xs:=.inl (.inl h)
theorem Inv.list(I:Inv X pins σ H s)(h:SqL X.K H a xs):∃its:List Value,Vals xs its/\PlainL s.heap a its.toArray/\xs.length<=sizeLine:=by
 rcases h with h | ⟨o,its,n,hk,hc,hd,hs,hz,r⟩
 ·obtain⟨z,its,n,r,e⟩:=h.ok I.hok;exact⟨its,r,⟨_,n,e,rfl,rfl,rfl⟩,z⟩
 ·refine⟨its.toList,r,⟨o,n,I.kIn a o hk,hc,hd,by simpa using hs⟩,?_⟩;have e:=r.length;simp only[Array.length_toList]at e;omega
theorem Inv.tuple(I:Inv X pins σ H s)(h:SqT X.K H a xs):∃its:List Value,Vals xs its/\IsTup s.heap a its.toArray/\xs.length<=sizeLine:=by
 rcases h with h | ⟨o,its,n,hk,hc,hs,hz,r⟩
 ·obtain⟨z,its,r,p⟩:=h.ok I.hok;exact⟨its,r,p.tup,z⟩
 ·refine⟨its.toList,r,⟨o,I.kIn a o hk,hc.1,n,by simpa using hs⟩,?_⟩;have e:=r.length;simp only[Array.length_toList]at e;omega
theorem Inv.tupleN(I:Inv X pins σ H s)(h:SqT X.K H a xs):∃o,s.heap.get? a=some o/\o.cls=.type "tuple" /\ o.dict=none:=by
 rcases h with h | ⟨o,its,n,hk,hc,hs,hz,r⟩
 ·obtain⟨z,its,r,o,e,c,_⟩:=h.ok I.hok;exact⟨o,e,c.1,c.2⟩
 ·exact⟨o,I.kIn a o hk,hc.1,hc.2⟩
theorem Inv.list_inj(I:Inv X pins σ H s)(h:SqL X.K H a xs)(h':SqL X.K H a ys):xs=ys:=by
 obtain⟨its,r,⟨o,n,e,_,_,d⟩,_⟩:=I.list h;obtain⟨its',r',⟨o',n',e',_,_,d'⟩,_⟩:=I.list h';rw[e]at e';cases e';rw[d]at d';injection d' with d1 _
 have:its=its':=by simpa using congrArg Array.toList d1
 subst this;exact r.inj r'
theorem Inv.tuple_inj(I:Inv X pins σ H s)(h:SqT X.K H a xs)(h':SqT X.K H a ys):xs=ys:=by
 obtain⟨its,r,⟨o,e,_,n,d⟩,_⟩:=I.tuple h;obtain⟨its',r',⟨o',e',_,n',d'⟩,_⟩:=I.tuple h';rw[e]at e';cases e';rw[d]at d';injection d' with d1 _
 have:its=its':=by simpa using congrArg Array.toList d1
 subst this;exact r.inj r'
end
section
variable {X:Cx} {pins:List (Addr×Obj)} {σ:St} {H:Hp} {s:Shared} {E:Value->Shared->Prop}
end
section
variable {X:Cx} {st:Stmt} {rest:List Stmt} {t u:TS} {e:Expr} {te:TE} {pos:Pos}
def z9o:TS:=λD σ H=>D.nx σ H
def tSeq(t u:TS):TS:=λD σ H=>t {D with nx:=u D} σ H
theorem z4U:PSs X [] z9o:=λ_ _ σ H _ I h=>wpAny_execs_nil ⟨σ,H,I,h⟩
theorem q3R(h1:PS X st t)(h2:PSs X rest u):PSs X (st::rest) (tSeq t u):=by
 intro pins s σ H D I h;refine wpAny_execs_cons (thn (h1 pins s σ H {D with nx:=u D} I h) λf s1 q=>?_);cases f with
 | next=>
  obtain⟨σ',H',I',q⟩:=q;exact h2 pins s1 σ' H' D I' q
 | ret v=>exact q
 | brk=>exact q
 | cont=>exact q
theorem Inv.quiet{pins:List (Addr×Obj)}{σ:St}{H:Hp}{s:Shared}(I:Inv X pins σ H s):interactive X.env=false:=by simp[interactive,I.ok.kind]
def z9N(te:TE):TS:=λD σ H=>te σ H λ_ H1=>D.nx σ H1
theorem q7e(he:PE X e te)(hs:swapsWith e none pos.line X.env=pure false:=by rfl):PS X (.Expr e pos) (z9N te):=by
 intro pins s σ H D I h;exact wpAny_Expr_any (thn (he pins s σ H _ I h) λv s1 ⟨x,H1,I1,r1,q1⟩=>⟨σ,H1,I1,q1⟩) I.quiet hs
def tRet(te:TE):TS:=λD σ H=>te σ H D.rt
theorem z1U(he:PE X e te):PS X (.Return (some e) pos) (tRet te):=by
 intro pins s σ H D I h;exact wpAny_Return_some (thn (he pins s σ H _ I h) λv s1 ⟨x,H1,I1,r1,q1⟩=>⟨x,σ,H1,I1,r1,q1⟩)
def tIfS(c:TT)(t u:TS):TS:=λD σ H=>c σ H λb H1=>if b=true then t D σ H1 else u D σ H1
theorem z5h{c:Expr}{a b:List Stmt}{tc:TT}(hc:PT X c tc)(ha:PSs X a t)(hb:PSs X b u):PS X (.If c a b pos) (tIfS tc t u):=by
 intro pins s σ H D I h;refine wpAny_If (thn (hc pins s σ H _ I h) λd s1 ⟨H1,I1,q1⟩=>?_);cases d with
 | true=>exact ha pins s1 σ H1 D I1 q1
 | false=>exact hb pins s1 σ H1 D I1 q1
def z7A:TS:=λ_ _ _=>False
theorem q1D{sts:List Stmt}:PSs X sts z7A:=λ_ _ _ _ _ _ h=>h.elim
end
abbrev TG:=V->St->Hp->(St->Hp->Prop)->Prop
abbrev TGs:=List V->St->Hp->(St->Hp->Prop)->Prop
def PG(X:Cx)(target:Expr)(t:TG):Prop:=
 ∀(pins:List (Addr×Obj)) (s:Shared) (σ:St) (H:Hp) (v:V) (u:Value) (Q:St->Hp->Prop),Inv X pins σ H s->RelV v u->t v σ H Q ->
  wpAny (model X.prog X.w) X.A (assign target X.env u) (λ_ s'=>∃σ' H',Inv X pins σ' H' s'/\Q σ' H') X.xe s
def PGs(X:Cx)(ts:List Expr)(t:TGs):Prop:=
 ∀(pins:List (Addr×Obj)) (s:Shared) (σ:St) (H:Hp) (vs:List V) (us:List Value) (Q:St->Hp->Prop),Inv X pins σ H s->Vals vs us->t vs σ H Q ->
  wpAny (model X.prog X.w) X.A (assignInOrder ((assignEach ts X.env).map (·.2)) us) (λ_ s'=>∃σ' H',Inv X pins σ' H' s'/\Q σ' H') X.xe s
abbrev TSet:=V->V->V->Hp->(Hp->Prop)->Prop
def PSet(X:Cx)(t:TSet):Prop:=
 ∀(pins:List (Addr×Obj)) (s:Shared) (σ:St) (H:Hp) (o i v:V) (ov iv u:Value) (Q:Hp->Prop),Inv X pins σ H s->RelV o ov->RelV i iv->RelV v u->t o i v H Q ->
  wpAny (model X.prog X.w) X.A (setItem ov iv u) (λ_ s'=>∃H',Inv X pins σ H' s'/\Q H') X.xe s
section
variable {X:Cx} {pos:Pos}
def z0D(i:Nat):TG:=λv σ H Q=>Q (σ.set i (some v)) H
theorem q9y{i:Nat}{x:Str}(hN:X.N.Nodup)(hi:X.N[i]? = some x)(hx:Loc X.env.scope x)(hf:X.fn x=true\/X.env.scope.names.lookup x=some .local:=by first | exact .inl rfl | exact .inr rfl | assumption):PG X (.Name x pos) (z0D i):=by
 intro pins s σ H v u Q I r h;exact wpAny_assign_Name (q8t I hN hi hx r (λs' I'=>⟨_,H,I',h⟩) hf)
def gNil:TGs:=λvs σ H Q=>vs=[]/\Q σ H
def z8V(t:TG)(u:TGs):TGs:=λvs σ H Q=>∃v r,vs=v::r/\t v σ H λσ' H'=>u r σ' H' Q
theorem z4H:PGs X [] gNil:=by
 intro pins s σ H vs us Q I r h;obtain⟨e,h⟩:=h;subst e;cases r;exact assignInOrder_nil ⟨σ,H,I,h⟩
theorem z2j{e:Expr}{es:List Expr}{t:TG}{u:TGs}(h1:PG X e t)(h2:PGs X es u)
  (hs:(assignEach (e::es) X.env).map (·.2)=assign e X.env::(assignEach es X.env).map (·.2):=by rfl):PGs X (e::es) (z8V t u):=by
 intro pins s σ H vs us Q I r h;obtain⟨v,vr,e1,h⟩:=h;subst e1;cases r with
 | cons r rr=>
  rw[hs];refine assignInOrder_cons (thn (h1 pins s σ H _ _ _ I r h) λ_ s1 ⟨σ1,H1,I1,q1⟩=>?_);exact h2 pins s1 σ1 H1 _ _ Q I1 rr q1
def gTup(K:PySem.W.Frag)(n:Nat)(t:TGs):TG:=λv σ H Q=>∃a xs,v=.ref a/\SqT K H a xs/\xs.length=n/\t xs σ H Q
theorem z6U{es:List Expr}{k:Nat}{t:TGs}{n:Nat}(hc:X.calm=true)(h:PGs X es t)
  (hn:(assignEach es X.env).length=n:=by rfl) (hst:(assignEach es X.env).findIdx? (·.1)=none:=by rfl):PG X (.Tuple es k pos) (gTup X.K n t):=by
 intro pins s σ H v u Q I r hw;obtain⟨a,xs,e1,hq,hl,hw⟩:=hw;subst e1;cases r;obtain⟨its,rv,ht,hz⟩:=I.tuple hq;refine assign_Tuple_tuple (I.ok.hd hc) ht (by simp[hn,←hl,rv.length]) hst λh' hx=>?_
 have I1:Inv X pins σ H {s with heap:=h'}:=I.kept (t':=s.toks) λb o e=>hx b o (Nat.ne_of_lt (Heap.lt_size e)) e;exact h pins _ σ H xs _ Q I1 (by simpa using rv) hw
def gSub(to ti:TE)(t:TSet):TG:=λv σ H Q=>to σ H λo H1=>ti σ H1 λi H2=>t o i v H2 λH3=>Q σ H3
theorem z8s{o i:Expr}{to ti:TE}{t:TSet}(ho:PE X o to)(hi:PE X i ti)(hs:PSet X t)
  (ha:∀v,assign (.Subscript o i pos) X.env v=(do
   let ov ←holding [v] (eval o X.env)
   let iv ←holding [v,ov] (eval i X.env)
   standAt pos
   holding [v,ov,iv] (setItem ov iv v)
   release [v,ov,iv] []):=by intro _;rfl):PG X (.Subscript o i pos) (gSub to ti t):=by
 intro pins s σ H v u Q I r h;rw[ha];refine wpAny_bind (wpAny_holding (thn (ho pins s σ H _ I h) λov s1 ⟨x,H1,I1,r1,q1⟩=>?_));refine wpAny_bind (wpAny_holding (thn (hi pins s1 σ H1 _ I1 q1) λiv s2 ⟨y,H2,I2,r2,q2⟩=>?_));refine wpAny_bind (wpAny_standAt (wpAny_bind (wpAny_holding (thn (hs pins s2 σ H2 x y v ov iv u _ I2 r1 r2 r q2) λ_ s3 ⟨H3,I3,q3⟩=>?_))));exact wpAny_release ⟨σ,H3,I3,q3⟩
def tAsg(te:TE)(g:TG):TS:=λD σ H=>te σ H λx H1=>g x σ H1 D.nx
theorem z6L{tg e:Expr}{te:TE}{g:TG}(he:PE X e te)(hg:PG X tg g)(hs:swapsWithSole [tg] e pos.line X.env=pure false:=by rfl)(hw:swappedStores [tg] e X.env=pure none:=by rfl)
  (h1:(assignEach [tg] X.env).map (·.2)=[assign tg X.env]:=by rfl):PS X (.Assign [tg] e pos) (tAsg te g):=by
 intro pins s σ H D I h;refine wpAny_Assign_stores (thn (he pins s σ H _ I h) λv s1 ⟨x,H1,I1,r1,q1⟩=>?_) hs hw;rw[h1];exact thn (hg pins s1 σ H1 x v _ I1 r1 q1) λ_ s2 q=>q
theorem z3U{i:Nat}{x:Str}{e:Expr}{te:TE}{pos':Pos}(hN:X.N.Nodup)(hi:X.N[i]? = some x)(hx:Loc X.env.scope x)(he:PE X e te)(hs:swapsWith e (some (.Name x pos')) pos.line X.env=pure false:=by rfl)(hf:X.fn x=true\/X.env.scope.names.lookup x=some .local:=by first | exact .inl rfl | exact .inr rfl | assumption) :
  PS X (.Assign [.Name x pos'] e pos) (tAsg te (z0D i)):=by
 intro pins s σ H D I h;refine wpAny_Assign_Name (thn (he pins s σ H _ I h) λv s1 ⟨y,H1,I1,r1,q1⟩=>?_) hs;exact q8t I1 hN hi hx r1 (λs2 I2=>⟨_,H1,I2,q1⟩) hf
end
section
variable {X:Cx} {pos:Pos}
end
structure It where
 go:Nat->Hp->Prop
 yld:Nat->Hp->V->Hp->Prop
 stop:Nat->Hp->Prop
def FpOk(X:Cx)(pins:List (Addr×Obj))(H:Hp)(b:Addr):Prop:=
 H b=none/\b≠X.env.locals/\b∉X.fs/\(b∈X.ex\/X.s₀.heap.objs.size<=b)/\(∀x c,X.env.cells.lookup x=some c->c≠b)/\∀p∈X.pn++pins,p.1≠b
theorem Inv.fpOk{X:Cx}{pins:List (Addr×Obj)}{σ:St}{H H':Hp}{s:Shared}{b:Addr}(I:Inv X pins σ H s)(hb:s.heap.objs.size<=b)(hn:H' b=none):FpOk X pins H' b:=by
 refine⟨hn,Nat.ne_of_gt (Nat.lt_of_lt_of_le I.lt hb),I.nofs hb,.inr (Nat.le_trans I.sz hb),λx c e z=>?_,λp hp z=>?_⟩
 ·obtain⟨v,q⟩:=I.cell x c e;exact absurd (Nat.lt_of_lt_of_le q.lt (by rw[z];exact hb)) (Nat.lt_irrefl _)
 ·exact absurd (Nat.lt_of_lt_of_le (Heap.lt_size (I.pin p hp).1) (by rw[z];exact hb)) (Nat.lt_irrefl _)
structure Turn(P:Program)(w:World)(K:PySem.W.Frag)(tg:Expr)(J:It)(fp:List Addr)(it:Addr)(tn:Nat->Heap->Prop):Prop where
 mem:it∈fp
 obj:∀i h,tn i h->∀b∈fp,∃o,h.get? b=some o/\∀v,o.data ≠ .cell v
 keep:∀i h h',tn i h->(∀b∈fp,∀o,h.get? b=some o->h'.get? b=some o)->tn i h'
 item:∀(X:Cx),X.prog=P->X.w=w->X.K=K->X.calm=true->∀(i:Nat) (pins:List (Addr×Obj)) (s:Shared) (σ:St) (H:Hp) (E:Value->Shared->Prop),Inv X pins σ H s->(∀b∈fp,FpOk X pins H b)->tn i s.heap->J.go i H ->
  wpAny (model P w) X.A (pyNext (.ref it)) (λr s1=>∃u,r=some u /\
   wpAny (model P w) X.A (letOwnedTupleGo tg (.ref it) u) (λ_ s2=>∃x H',Inv X pins σ H' s2/\RelV x u/\J.yld i H x H'/\tn (i+1) s2.heap/\∀b∈fp,H' b=none) E s1) E s
 done:∀(X:Cx),X.prog=P->X.w=w->X.K=K->X.calm=true->∀(i:Nat) (pins:List (Addr×Obj)) (s:Shared) (σ:St) (H:Hp) (E:Value->Shared->Prop),Inv X pins σ H s->(∀b∈fp,FpOk X pins H b)->tn i s.heap->J.stop i H ->
  wpAny (model P w) X.A (pyNext (.ref it)) (λr s1=>r=none/\Inv X pins σ H s1) E s
 self:∀(A:Around) (i:Nat) (s:Shared) (Q:Value->Shared->Prop) (E:Value->Shared->Prop),tn i s.heap->Q (.ref it) s->wpAny (model P w) A (pyIter (.ref it)) Q E s
abbrev TI:=St->Hp->(It->Hp->Prop)->Prop
def PIE(X:Cx)(pins:List (Addr×Obj))(σ:St)(tg:Expr)(R:It->Hp->Prop)(itv:Value)(s2:Shared):Prop:=
 ∃(it:Addr) (fp:List Addr) (tn:Nat->Heap->Prop) (J:It) (H':Hp),itv=.ref it/\Inv X pins σ H' s2/\Turn X.prog X.w X.K tg J fp it tn/\tn 0 s2.heap/\(∀b∈fp,FpOk X pins H' b)/\R J H'
def PI(X:Cx)(tg iter:Expr)(wi:TI):Prop:=
 ∀(pins:List (Addr×Obj)) (s:Shared) (σ:St) (H:Hp) (R:It->Hp->Prop),Inv X pins σ H s->wi σ H R ->
  wpAny (model X.prog X.w) X.A (eval iter X.env) (λv s1=>wpAny (model X.prog X.w) X.A (pyIter v) (PIE X pins σ tg R) X.xe s1) X.xe s
theorem z2Q{M:Model}{A:Around}{E:Value->Shared->Prop}{s:Shared}{tg:Expr}{it:Addr}{u:Value}{o:Obj}{n:String}{vs:Array Value}{Q:Unit->Shared->Prop}(ho:s.heap.get? it=some o)(hc:o.cls=.type n)(hd:o.data=.fields vs)
    (hn : ["enumerate","zip","dict_itemiterator","dict_reverseitemiterator","odict_iterator","itertools.zip_longest","itertools.pairwise"].contains n=false) (hQ:Q () s):wpAny M A (letOwnedTupleGo tg (.ref it) u) Q E s:=by
  unfold letOwnedTupleGo;cases tg<;>first
    | exact wpAny_pure hQ
    | (cases u<;>first
        | exact wpAny_pure hQ
        | (refine wpAny_bind (wpAny_load ho ?_)
           rw[hc,hd];show wpAny M A (if(["enumerate","zip","dict_itemiterator","dict_reverseitemiterator","odict_iterator","itertools.zip_longest","itertools.pairwise"].contains n&&vs[0]? == some (rawInt _))=true then _ else _) Q E s;rw[if_neg (by intro h;rw[hn,Bool.false_and]at h;cases h)];exact wpAny_pure hQ))
def Itl(K:PySem.W.Frag)(a:Addr):It:=
 ⟨λi H=>∃xs x,SqL K H a xs/\xs[i]? = some x,λi H x H'=>H'=H/\∀xs,SqL K H a xs->xs[i]? = some x,λi H=>∃xs,SqL K H a xs/\xs.length<=i⟩
def Itt(K:PySem.W.Frag)(a:Addr):It:=
 ⟨λi H=>∃xs x,SqT K H a xs/\xs[i]? = some x,λi H x H'=>H'=H/\∀xs,SqT K H a xs->xs[i]? = some x,λi H=>∃xs,SqT K H a xs/\xs.length<=i⟩
def Itr(lo:Int)(n:Nat):It:=⟨λi _=>i<n,λi H x H'=>H'=H/\x=.int (lo+i),λi _=>n<=i⟩
theorem z1C{P:Program}{w:World}{K:PySem.W.Frag}{tg:Expr}(a it:Addr):Turn P w K tg (Itl K a) [it] it (λi h=>h.IsListIter it a i) where
 mem:=by simp
 obj:=λi h st b hb=>by
  have e:b=it:=by simpa using hb
  subst e;obtain⟨o,e,c,d⟩:=st;exact⟨o,e,λv z=>by rw[d]at z;cases z⟩
 keep:=λi h h' st k=>st.at λo e=>k it (by simp) o e
 item:=by
  intro X hP hw hK hc i pins s σ H E I hf st hg;subst hP hw hK;obtain⟨xs,x,hq,hx⟩:=hg;obtain⟨its,rv,p,hz⟩:=I.list hq;obtain⟨u,hu,ru⟩:=rv.get hx;obtain⟨f0,f1,f2,f3,f4,f5⟩:=hf it (by simp);refine wpAny_pyNext_list_item st p.isList (x:=u) (by simpa using hu) λh' st' sb=>?_
  have I1:Inv X pins σ H {s with heap:=h'}:=I.turned (t':=s.toks) (λb o hb e=>(sb.2 b hb).trans e) f0 f1 f3 f4 f5;obtain⟨o,e,c,d⟩:=id st';exact⟨u,rfl,z2Q (s:={s with heap:=h'}) e c d (by decide) ⟨x,H,I1,ru,⟨rfl,λys hy=>by rw[I.list_inj hy hq];exact hx⟩,st',λb hb=>(hf b hb).1⟩⟩
 done:=by
  intro X hP hw hK hc i pins s σ H E I hf st hg;subst hP hw hK;obtain⟨xs,hq,hx⟩:=hg;obtain⟨its,rv,p,hz⟩:=I.list hq;obtain⟨f0,f1,f2,f3,f4,f5⟩:=hf it (by simp);have hl:=rv.length;exact wpAny_pyNext_list_end (I.ok.hd hc) st p.isList (by simp;omega) λh' eb=>⟨rfl,I.turned (t':=s.toks) (λb o hb e=>eb b o hb e) f0 f1 f3 f4 f5⟩
 self:=λ_ _ _ _ _ st h=>wpAny_pyIter_listiter st h
theorem q9c{P:Program}{w:World}{K:PySem.W.Frag}{tg:Expr}(a it:Addr):Turn P w K tg (Itt K a) [it] it (λi h=>h.IsTupleIter it a i) where
 mem:=by simp
 obj:=λi h st b hb=>by
  have e:b=it:=by simpa using hb
  subst e;obtain⟨o,e,c,d⟩:=st;exact⟨o,e,λv z=>by rw[d]at z;cases z⟩
 keep:=λi h h' st k=>st.at λo e=>k it (by simp) o e
 item:=by
  intro X hP hw hK hc i pins s σ H E I hf st hg;subst hP hw hK;obtain⟨xs,x,hq,hx⟩:=hg;obtain⟨its,rv,p,hz⟩:=I.tuple hq;obtain⟨u,hu,ru⟩:=rv.get hx;obtain⟨f0,f1,f2,f3,f4,f5⟩:=hf it (by simp);refine wpAny_pyNext_tuple_item st (show s.heap.IsTuple a its.toArray from p) (x:=u) (by simpa using hu) λh' st' sb=>?_
  have I1:Inv X pins σ H {s with heap:=h'}:=I.turned (t':=s.toks) (λb o hb e=>(sb.2 b hb).trans e) f0 f1 f3 f4 f5;obtain⟨o,e,c,d⟩:=id st';exact⟨u,rfl,z2Q (s:={s with heap:=h'}) e c d (by decide) ⟨x,H,I1,ru,⟨rfl,λys hy=>by rw[I.tuple_inj hy hq];exact hx⟩,st',λb hb=>(hf b hb).1⟩⟩
 done:=by
  intro X hP hw hK hc i pins s σ H E I hf st hg;subst hP hw hK;obtain⟨xs,hq,hx⟩:=hg;obtain⟨its,rv,p,hz⟩:=I.tuple hq;obtain⟨f0,f1,f2,f3,f4,f5⟩:=hf it (by simp);have hl:=rv.length;exact wpAny_pyNext_tuple_end (I.ok.hd hc) st (show s.heap.IsTuple a its.toArray from p) (by simp;omega) λh' eb=>⟨rfl,I.turned (t':=s.toks) (λb o hb e=>eb b o hb e) f0 f1 f3 f4 f5⟩
 self:=λ_ _ _ _ _ st h=>wpAny_pyIter_tupleiter st h
theorem q8O{P:Program}{w:World}{K:PySem.W.Frag}{tg:Expr}(it:Addr)(lo:Int)(n:Nat):Turn P w K tg (Itr lo n) [it] it (λi h=>IsRangeIter h it (lo+(i:Nat)*1) ((n:Int) - (i:Nat)) 1) where
 mem:=by simp
 obj:=λi h st b hb=>by
  have e:b=it:=by simpa using hb
  subst e;exact⟨_,st,λv z=>by
   have z':Data.fields _=Data.cell v:=z;cases z'⟩
 keep:=λi h h' st k=>k it (by simp) _ st
 item:=by
  intro X hP hw hK hc i pins s σ H E I hf st hg;subst hP hw hK;obtain⟨f0,f1,f2,f3,f4,f5⟩:=hf it (by simp);have W:=Walks.range (prog:=X.prog) (w:=X.w) (I.ok.hd hc) it lo 1 n;refine W.item i s _ _ hg st λv h' tk hv st' kk=>?_
  obtain⟨t,rfl⟩:=hv;have I1:Inv X pins σ H {s with heap:=h',toks:=tk}:=I.turned (λb o hb e=>kk b o (by simpa using hb) e) f0 f1 f3 f4 f5;refine⟨_,rfl,z2Q (s:={s with heap:=h',toks:=tk}) (n:="range_iterator") st' rfl rfl (by decide) ⟨.int (lo+i),H,I1,⟨t,?_⟩,⟨rfl,rfl⟩,st',λb hb=>(hf b hb).1⟩⟩;rw[Int.mul_one]
 done:=by
  intro X hP hw hK hc i pins s σ H E I hf st hg;subst hP hw hK;obtain⟨f0,f1,f2,f3,f4,f5⟩:=hf it (by simp);exact wpAny_pyNext_range_end (I.ok.hd hc) st (by have:n<=i:=hg;omega) λh' eb=>⟨rfl,I.turned (t':=s.toks) (λb o hb e=>eb b o hb e) f0 f1 f3 f4 f5⟩
 self:=λ_ _ _ _ _ st h=>wpAny_pyIter_rangeiter st h
end L2
namespace L2
open PySem PySem.Spec PyProof.Rows
section
variable {X:Cx} {tg:Expr}
def z8Z(K:PySem.W.Frag)(tl:TE):TI:=λσ H R=>tl σ H λx H1=>∃a,x=.ref a/\(∃xs,SqL K H1 a xs)/\R (Itl K a) H1
def iTup(K:PySem.W.Frag)(tl:TE):TI:=λσ H R=>tl σ H λx H1=>∃a,x=.ref a/\(∃xs,SqT K H1 a xs)/\R (Itt K a) H1
theorem q7p{l:Expr}{tl:TE}(hl:PE X l tl):PI X tg l (z8Z X.K tl):=by
 intro pins s σ H R I h;refine thn (hl pins s σ H _ I h) λv s1 ⟨x,H1,I1,r1,q1⟩=>?_
 obtain⟨a,e,⟨xs,hq⟩,q⟩:=q1;subst e;cases r1;obtain⟨its,rv,p,hz⟩:=I1.list hq;refine wpAny_pyIter_list p.isList ?_;refine⟨s1.heap.objs.size,[s1.heap.objs.size],_,_,H1,rfl,I1.kept (t':=s1.toks) λb o e=>Heap.get?_push_of_some _ e,z1C a _,⟨_,Heap.get?_push_size _ rfl,rfl,rfl⟩,λb hb=>?_,q⟩;have e:b=s1.heap.objs.size:=by simpa using hb
 subst e;exact I1.fpOk (Nat.le_refl _) (I1.hok.fresh (Nat.le_refl _))
theorem z7f{l:Expr}{tl:TE}(hl:PE X l tl):PI X tg l (iTup X.K tl):=by
 intro pins s σ H R I h;refine thn (hl pins s σ H _ I h) λv s1 ⟨x,H1,I1,r1,q1⟩=>?_
 obtain⟨a,e,⟨xs,hq⟩,q⟩:=q1;subst e;cases r1;obtain⟨its,rv,p,hz⟩:=I1.tuple hq;refine wpAny_pyIter_tuple (show s1.heap.IsTuple a its.toArray from p) ?_;refine⟨s1.heap.objs.size,[s1.heap.objs.size],_,_,H1,rfl,I1.kept (t':=s1.toks) λb o e=>Heap.get?_push_of_some _ e,q9c a _,⟨_,Heap.get?_push_size _ rfl,rfl,rfl⟩,λb hb=>?_,q⟩;have e:b=s1.heap.objs.size:=by simpa using hb
 subst e;exact I1.fpOk (Nat.le_refl _) (I1.hok.fresh (Nat.le_refl _))
theorem q7N{pins:List (Addr×Obj)}{σ:St}{H:Hp}{s:Shared}{R:It->Hp->Prop}{E:Value->Shared->Prop}{lo hi:Int}{t u v:Tok}{tk:Nat}(I:Inv X pins σ H s)(h1 : -(2^62)<=lo)(h2:lo<2^62)(h3 : -(2^62)<=hi)(h4:hi<2^62)
  (q:R (Itr lo (hi - lo).toNat) H):wpAny (model X.prog X.w) X.A (pyIter (.ref s.heap.objs.size)) (PIE X pins σ tg R) E {s with heap:=s.heap.push {cls:=.type "range",data:=.fields #[.int lo t,.int hi u,.int 1 v]},toks:=tk}:=by
 refine wpAny_pyIter_range (IsRange.new ..) (small_one h1 h2 h3 h4) ?_;have I1:Inv X pins σ H {s with heap:=s.heap.push {cls:=.type "range",data:=.fields #[.int lo t,.int hi u,.int 1 v]},toks:=tk}:=I.kept λb o e=>Heap.get?_push_of_some _ e;refine⟨(s.heap.push {cls:=.type "range",data:=.fields #[.int lo t,.int hi u,.int 1 v]}).objs.size,[(s.heap.push {cls:=.type "range",data:=.fields #[.int lo t,.int hi u,.int 1 v]}).objs.size],_,_,H,rfl,
  I1.kept (t':=tk) λb o e=>Heap.get?_push_of_some _ e,q8O _ lo (hi - lo).toNat,?_,λb hb=>?_,q⟩
 ·have e1:lo+((0:Nat):Int)*1=lo:=by simp
  have e2:(((hi - lo).toNat:Nat):Int) - ((0:Nat):Int)=Builtin.Range.rangeSize lo hi 1:=by rw[rangeSize_one];split<;>omega
  show IsRangeIter _ _ (lo+((0:Nat):Int)*1) ((((hi - lo).toNat:Nat):Int) - ((0:Nat):Int)) 1;rw[e1,e2];exact Heap.get?_push_size _ rfl
 ·have e:b=(s.heap.push {cls:=.type "range",data:=.fields #[.int lo t,.int hi u,.int 1 v]}).objs.size:=by simpa using hb
  subst e;exact I1.fpOk (Nat.le_refl _) (I1.hok.fresh (Nat.le_refl _))
def z9D(ta:TA):TI:=λσ H R=>ta σ H λvs H1=>∃j:Int,vs=[.int j] /\ -(2^62)<=j/\j<2^62/\R (Itr 0 j.toNat) H1
def y0l(ta:TA):TI:=λσ H R=>ta σ H λvs H1=>∃i j:Int,vs=[.int i,.int j]/\(-(2^62)<=i/\i<2^62 /\ -(2^62)<=j/\j<2^62)/\R (Itr i (j - i).toNat) H1
theorem z0Y{a:Expr}{ta:TA}{p pos:Pos}(hg:Gl X "range")(hm:X.mg "range" = none)(ha:PA X [a] ta)(hs:starEach [a] X.env=[(false,eval a X.env)]:=by rfl):PI X tg (.Call (.Name "range" p) [a] [] pos) (z9D ta):=by
 intro pins s σ H R I h;refine Call_ (q3J I hg hm boot_range (PyProof.Rows.callWith_type1 (thn (ha pos pins s σ H _ I h) λus s1 ⟨vs,H1,I1,r1,q1⟩=>?_) hs rfl));obtain⟨j,e,q1,q2,q⟩:=q1;subst e;cases r1 with
 | cons r rr=>
  cases rr;obtain⟨t,rfl⟩:=r;exact call_range_1 (q7N I1 (by omega) (by omega) q1 q2 (by simpa using q))
theorem z0K{a b:Expr}{ta:TA}{p pos:Pos}(hg:Gl X "range")(hm:X.mg "range" = none)(ha:PA X [a,b] ta)(hs:starEach [a,b] X.env=[(false,eval a X.env),(false,eval b X.env)]:=by rfl)(hs2:starEach [b] X.env=[(false,eval b X.env)]:=by rfl) :
  PI X tg (.Call (.Name "range" p) [a,b] [] pos) (y0l ta):=by
 intro pins s σ H R I h;refine Call_ (q3J I hg hm boot_range (PyProof.Rows.callWith_type1 (thn (ha pos pins s σ H _ I h) λus s1 ⟨vs,H1,I1,r1,q1⟩=>?_) (by rw[hs,hs2]) (by rw[hs2];rfl)));obtain⟨i,j,e,⟨q1,q2,q3,q4⟩,q⟩:=q1;subst e;cases r1 with
 | cons r rr=>
  cases rr with
  | cons r' rr=>
   cases rr;obtain⟨t,rfl⟩:=r;obtain⟨t',rfl⟩:=r';exact call_range_2 (q7N I1 q1 q2 q3 q4 q)
def tFor(wi:TI)(g:TG)(tb:TS):TS:=λD σ H=>wi σ H λJ H1=>∃W:Nat->Nat->St->Hp->Prop,(∃m,W 0 m σ H1)/\∀i m σ H,W i m σ H ->
 (J.stop i H/\D.nx σ H)\/(J.go i H/\∃N:St->Hp->Prop,(∀σ' H',N σ' H'->∃m',m'<m/\W (i+1) m' σ' H')/\∀x H',J.yld i H x H'->g x σ H' λσ2 H2=>tb {D with nx:=N,ct:=N,bk:=D.nx} σ2 H2)
def q6u(fp:List Addr)(h:Heap):List (Addr×Obj):=fp.filterMap λb=>(h.get? b).map λo=>(b,o)
theorem q2B{fp:List Addr}{h:Heap}{b:Addr}{o:Obj}(hb:b∈fp)(e:h.get? b=some o):(b,o)∈q6u fp h:=List.mem_filterMap.mpr ⟨b,hb,by rw[e];rfl⟩
theorem z0l{fp:List Addr}{h:Heap}{p:Addr×Obj}(hp:p∈q6u fp h):p.1∈fp/\h.get? p.1=some p.2:=by
 obtain⟨b,hb,e⟩:=List.mem_filterMap.mp hp;cases q:h.get? b with
 | none=>rw[q]at e;cases e
 | some o=>
  rw[q]at e;have e':(b,o)=p:=Option.some.inj e;subst e';exact⟨hb,q⟩
theorem Inv.pinned{pins:List (Addr×Obj)}{σ:St}{H:Hp}{s:Shared}{fp:List Addr}(I:Inv X pins σ H s)(hf:∀b∈fp,FpOk X pins H b)(ho:∀b∈fp,∃o,s.heap.get? b=some o/\∀v,o.data ≠ .cell v):Inv X (pins++q6u fp s.heap) σ H s:=
 I.pins_of λp hp=>(List.mem_append.mp hp).elim (λz=>I.pin p (List.mem_append_right _ z)) λz=>by obtain⟨hb,e⟩:=z0l z;obtain⟨f0,f1,f2,_⟩:=hf p.1 hb;obtain⟨o,e',d⟩:=ho p.1 hb;rw[e]at e';cases e';exact⟨e,f0,f1,f2,d⟩
theorem Inv.unpinned{pins pl:List (Addr×Obj)}{σ:St}{H:Hp}{s:Shared}(I:Inv X (pins++pl) σ H s):Inv X pins σ H s:=I.pins_of λp hp=>I.pin p (List.mem_append_right _ (List.mem_append_left _ hp))
theorem z3M{iter:Expr}{body:List Stmt}{wi:TI}{g:TG}{tb:TS}{pos:Pos}(hp:PassesOwn (model X.prog X.w) X.A X.env X.xe)(hc:X.calm=true)(hi:PI X tg iter wi)(hg:PG X tg g)(hb:PSs X body tb)
  (hs:∀x,foldedSetIterable iter X.env x=pure x:=by intro _;rfl):PS X (.For tg iter body [] pos) (tFor wi g tb):=by
 intro pins s σ H D I h;refine wpAny_For (thn (hi pins s σ H _ I h) λv s1 h1=>thn h1 λitv s2 h2=>?_) hs;obtain⟨it,fp,tn,J,H2,e,I2,T,st2,f2,W,⟨m0,w0⟩,turn⟩:=h2;subst e;have stat:∀{H':Hp},(∀b∈fp,H' b=none)->∀b∈fp,FpOk X pins H' b:=λhn b hb=>⟨hn b hb,(f2 b hb).2⟩
 refine codeAny_forLoop_any (λn s'=>∃i σ' H',Inv X pins σ' H' s'/\tn i s'.heap/\(∀b∈fp,H' b=none)/\W i n σ' H') ?_ m0 ⟨0,σ,H2,I2,st2,λb hb=>(f2 b hb).1,w0⟩
 rintro n s3 ⟨i,σ3,H3,I3,st3,fr3,w3⟩
 rcases turn i n σ3 H3 w3 with⟨stop,qn⟩ | ⟨go,N,hN,step⟩
 ·refine wpAny_passesOwn hp (thn (T.done X rfl rfl rfl hc i pins s3 σ3 H3 X.xe I3 (stat fr3) st3 stop) λr s4 ⟨hr,I4⟩=>?_);subst hr;exact wpAny_execs_nil ⟨σ3,H3,I4,qn⟩
 ·refine wpAny_passesOwn hp (thn (T.item X rfl rfl rfl hc i pins s3 σ3 H3 X.xe I3 (stat fr3) st3 go) λr s4 ⟨u,hr,h4⟩=>?_);subst hr;refine wpAny_passesOwn hp (thn h4 λ_ s5 ⟨x,H5,I5,r5,y5,st5,fr5⟩=>?_);have I5':=I5.pinned (stat fr5) (T.obj _ _ st5);refine wpAny_passesOwn hp (thn (hg _ s5 σ3 H5 x u _ I5' r5 (step x H5 y5)) λ_ s6 ⟨σ6,H6,I6,q6⟩=>?_);refine wpAny_passesOwn hp (thn (hb _ s6 σ6 H6 _ I6 q6) λf s7 q7=>?_);have again:∀{σ7:St} {H7:Hp},Inv X (pins++q6u fp s5.heap) σ7 H7 s7->N σ7 H7->∃m,m<n/\∃i σ' H',Inv X pins σ' H' s7/\tn i s7.heap/\(∀b∈fp,H' b=none)/\W i m σ' H':=λ{σ7 H7} I7 n7=>by
   obtain⟨m',hm,w7⟩:=hN σ7 H7 n7;refine⟨m',hm,i+1,σ7,H7,I7.unpinned,T.keep _ _ _ st5 λb hb o e=>(I7.pin (b,o) (List.mem_append_right _ (List.mem_append_right _ (q2B hb e)))).1,λb hb=>?_,w7⟩;obtain⟨o,e,d⟩:=T.obj _ _ st5 b hb;exact(I7.pin (b,o) (List.mem_append_right _ (List.mem_append_right _ (q2B hb e)))).2.1
  cases f with
  | next=>obtain⟨σ7,H7,I7,n7⟩:=q7;exact again I7 n7
  | cont=>obtain⟨σ7,H7,I7,n7⟩:=q7;exact again I7 n7
  | brk=>obtain⟨σ7,H7,I7,q7⟩:=q7;exact⟨σ7,H7,I7.unpinned,q7⟩
  | ret v=>obtain⟨x7,σ7,H7,I7,r7,q7⟩:=q7;exact⟨x7,σ7,H7,I7.unpinned,r7,q7⟩
end
end L2
namespace L2
open PySem PySem.Spec PyProof.Rows
abbrev R2:=V->V->Hp->VK->Prop
def OpR(X:Cx)(f:Value->Value->Sem Value)(r:R2):Prop:=
 ∀(pins:List (Addr×Obj)) (s:Shared) (σ:St) (H:Hp) (x y:V) (v u:Value) (Q:VK),Inv X pins σ H s->RelV x v->RelV y u->r x y H Q ->
  wpAny (model X.prog X.w) X.A (f v u) (EP X pins σ Q) X.xe s
def q1p(X:Cx)(f:Value)(r:List V->Hp->VK->Prop):Prop:=
 ∀(pins:List (Addr×Obj)) (s:Shared) (σ:St) (H:Hp) (xs:List V) (us:List Value) (Q:VK),Inv X pins σ H s->Vals xs us->r xs H Q ->
  wpAny (model X.prog X.w) X.A (call f us) (EP X pins σ Q) X.xe s
def TruR(X:Cx)(r:V->Hp->(Bool->Hp->Prop)->Prop):Prop:=
 ∀(pins:List (Addr×Obj)) (s:Shared) (σ:St) (H:Hp) (x:V) (v:Value) (Q:Bool->Hp->Prop),Inv X pins σ H s->RelV x v->r x H Q ->
  wpAny (model X.prog X.w) X.A (truthy v) (TP X pins σ Q) X.xe s
def tOp(r:R2)(ta tb:TE):TE:=λσ H Q=>ta σ H λx H1=>tb σ H1 λy H2=>r x y H2 Q
def tUn(r:V->Hp->VK->Prop)(ta:TE):TE:=λσ H Q=>ta σ H λx H1=>r x H1 Q
def rI(C:Int->Int->Prop)(g:Int->Int->V):R2:=λx y H Q=>∃i j,x=.int i/\y=.int j/\C i j/\Q (g i j) H
def rI0(g:Int->Int->V):R2:=λx y H Q=>∃i j,x=.int i/\y=.int j/\Q (g i j) H
section
variable {X:Cx} {a b c:Expr} {ta tb tc:TE} {pos:Pos}
theorem binT(ha:PE X a ta)(hb:PE X b tb){pins:List (Addr×Obj)}{s:Shared}{σ:St}{H:Hp}{R:V->V->Hp->Prop}(I:Inv X pins σ H s)
  (h:ta σ H λx H1=>tb σ H1 λy H2=>R x y H2) {Q:Value->Shared->Prop} {f:Value->Value->Sem Value}
  (hf:∀v u s2 x y H2,Inv X pins σ H2 s2->RelV x v->RelV y u->R x y H2->wpAny (model X.prog X.w) X.A (f v u) Q X.xe s2) :
  wpAny (model X.prog X.w) X.A (eval a X.env) (λv s₁=>wpAny (model X.prog X.w) X.A (eval b X.env) (λu s₂=>wpAny (model X.prog X.w) X.A (f v u) Q X.xe s₂) X.xe s₁) X.xe s:=by
 refine thn (ha pins s σ H _ I h) λv s1 ⟨x,H1,I1,r1,q1⟩=>?_;refine thn (hb pins s1 σ H1 _ I1 q1) λu s2 ⟨y,H2,I2,r2,q2⟩=>?_;exact hf v u s2 x y H2 I2 r1 r2 q2
theorem z9A{op:Operator}{r:R2}(ho:OpR X (binaryOp op) r)(ha:PE X a ta)(hb:PE X b tb):PE X (.BinOp a op b pos) (tOp r ta tb):=by
 intro pins s σ H Q I h;exact wpAny_BinOp (binT ha hb I h λv u s2 x y H2 I2 rx ry q=>ho pins s2 σ H2 x y v u Q I2 rx ry q)
theorem opI{f:Value->Value->Sem Value}{C:Int->Int->Prop}{g:Int->Int->Int}
  (rule:∀(i j:Int) (t u:Tok) (s:Shared) (Q:Value->Shared->Prop) (E:Value->Shared->Prop),C i j->Q (.int (g i j) s.toks) {s with toks:=s.toks+1} -> wpAny (model X.prog X.w) X.A (f (.int i t) (.int j u)) Q E s) :
  OpR X f (rI C λi j=>.int (g i j)):=by
 intro pins s σ H x y v u Q I rx ry h;obtain⟨i,j,rfl,rfl,hc,q⟩:=h;obtain⟨t,rfl⟩:=rx;obtain⟨t',rfl⟩:=ry;exact rule i j t t' s _ _ hc ⟨.int (g i j),H,I.tok _,⟨_,rfl⟩,q⟩
theorem opI0{f:Value->Value->Sem Value}{g:Int->Int->Int}
  (rule:∀(i j:Int) (t u:Tok) (s:Shared) (Q:Value->Shared->Prop) (E:Value->Shared->Prop),Q (.int (g i j) s.toks) {s with toks:=s.toks+1} -> wpAny (model X.prog X.w) X.A (f (.int i t) (.int j u)) Q E s) :
  OpR X f (rI0 λi j=>.int (g i j)):=by
 intro pins s σ H x y v u Q I rx ry h;obtain⟨i,j,rfl,rfl,q⟩:=h;obtain⟨t,rfl⟩:=rx;obtain⟨t',rfl⟩:=ry;exact rule i j t t' s _ _ ⟨.int (g i j),H,I.tok _,⟨_,rfl⟩,q⟩
theorem opB0{f:Value->Value->Sem Value}{g:Int->Int->Bool}
  (rule:∀(i j:Int) (t u:Tok) (s:Shared) (Q:Value->Shared->Prop) (E:Value->Shared->Prop),Q (.bool (g i j)) s->wpAny (model X.prog X.w) X.A (f (.int i t) (.int j u)) Q E s) :
  OpR X f (rI0 λi j=>.bl (g i j)):=by
 intro pins s σ H x y v u Q I rx ry h;obtain⟨i,j,rfl,rfl,q⟩:=h;obtain⟨t,rfl⟩:=rx;obtain⟨t',rfl⟩:=ry;exact rule i j t t' s _ _ ⟨.bl (g i j),H,I,rfl,q⟩
def CPow(i j:Int):Prop:=0<=j/\j<=1000000/\i.natAbs<2^64
def CMul(i j:Int):Prop:=(-(2^64)<i/\i<2^64)\/(-(2^64)<j/\j<2^64)
theorem CMul.ok{i j:Int}(h:CMul i j):IntMulOk i j:=by
 rcases h with⟨h1,h2⟩ | ⟨h1,h2⟩
 ·exact .of_left (intBits_le_64 h1 h2)
 ·exact .of_right (intBits_le_64 h1 h2)
theorem q9o(k:Nat):(0:Int)<=2^k:=by
 rw[two_pow_cast];exact Int.natCast_nonneg _
theorem z7M:OpR X (binaryOp .Add) (rI0 λi j=>.int (i+j)):=opI0 λ_ _ _ _ _ _ _ q=>add_int q
theorem z8h:OpR X (binaryOp .Sub) (rI0 λi j=>.int (i - j)):=opI0 λ_ _ _ _ _ _ _ q=>sub_int q
theorem z8N:OpR X (binaryOp .Mod) (rI (λ_ j=>0<j) λi j=>.int (i%j)):=opI λi j _ _ _ _ _ hc q=>by
 have h1:(0:Int)<j:=hc;exact mod_int' (by omega) (by rw[Int.fmod_eq_emod_of_nonneg i (by omega)];exact q)
theorem z7v:OpR X (binaryOp .LShift) (rI CPow λi j=>.int (i*2^j.toNat)):=opI λ_ _ _ _ _ _ _ hc q=>lshift_int_small hc.1 hc.2.1 hc.2.2 q
theorem z8q:OpR X (binaryOp .RShift) (rI (λ_ j=>0<=j) λi j=>.int (i/2^j.toNat)):=opI λi j _ _ _ _ _ hc q=>
 rshift_int hc (by rw[Int.fdiv_eq_ediv_of_nonneg i (q9o _)];exact q)
theorem z7h:OpR X (binaryOp .BitAnd) (rI0 λi j=>.int (Builtin.bitAnd i j)):=opI0 λ_ _ _ _ _ _ _ q=>and_int q
theorem z9O:OpR X (binaryOp .BitOr) (rI0 λi j=>.int (Builtin.bitOr i j)):=opI0 λ_ _ _ _ _ _ _ q=>or_int q
theorem z8C:OpR X (binaryOp .BitXor) (rI0 λi j=>.int (Builtin.bitXor i j)):=opI0 λ_ _ _ _ _ _ _ q=>xor_int q
end
section
variable {X:Cx} {a b c:Expr} {ta tb tc:TE} {pos:Pos}
theorem z9U:OpR X (compareOp .Lt) (rI0 λi j=>.bl (decide (i<j))):=opB0 λ_ _ _ _ _ _ _ q=>lt_int q
theorem z9q:OpR X (compareOp .LtE) (rI0 λi j=>.bl (decide (i<=j))):=opB0 λ_ _ _ _ _ _ _ q=>le_int q
theorem z9V:OpR X (compareOp .Gt) (rI0 λi j=>.bl (decide (j<i))):=opB0 λ_ _ _ _ _ _ _ q=>gt_int q
theorem OpR.or{f:Value->Value->Sem Value}{r r':R2}(h:OpR X f r)(h':OpR X f r'):OpR X f (λx y H Q=>r x y H Q\/r' x y H Q):=by
 intro pins s σ H x y v u Q I rx ry q;rcases q with q | q
 ·exact h pins s σ H x y v u Q I rx ry q
 ·exact h' pins s σ H x y v u Q I rx ry q
theorem y0o(b:Expr){op:CmpOp}(h:op ≠ .In:=by decide)(h2:op ≠ .NotIn:=by decide):behindInMarks op b=false:=by
 have e1:(op==CmpOp.In)=false:=by cases op<;>first | rfl | exact absurd rfl h
 have e2:(op==CmpOp.NotIn)=false:=by cases op<;>first | rfl | exact absurd rfl h2
 cases b<;>simp[behindInMarks,e1,e2]
theorem z5L{op:CmpOp}{r:R2}(ho:OpR X (compareOp op) r)(ha:PE X a ta)(hb:PE X b tb)(hm:behindInMarks op b=false):PE X (.Compare a [op] [b] pos) (tOp r ta tb):=by
 intro pins s σ H Q I h;exact wpAny_Compare1 (binT ha hb I h λv u s2 x y H2 I2 rx ry q=>ho pins s2 σ H2 x y v u Q I2 rx ry q) hm
def z8b(t:TE):TT:=λσ H Q=>t σ H λx H'=>∃k,x=.bl k/\Q k H'
theorem z5x{op:CmpOp}{r:R2}(ho:OpR X (compareOp op) r)(ha:PE X a ta)(hb:PE X b tb)(hm:behindInMarks op b=false):PT X (.Compare a [op] [b] pos) (z8b (tOp r ta tb)):=by
 intro pins s σ H Q I h;refine wpAny_isTrue_Compare1 (thn (ha pins s σ H _ I h) λv s1 ⟨x,H1,I1,r1,q1⟩=>thn (hb pins s1 σ H1 _ I1 q1) λu s2 ⟨y,H2,I2,r2,q2⟩=>
  thn (ho pins s2 σ H2 x y v u _ I2 r1 r2 q2) λc s3 ⟨z,H3,I3,r3,k,e,q3⟩=>?_) hm
 subst e;cases r3;exact wpAny_truthy_bool ⟨H3,I3,q3⟩
def z1l(r r':R2)(ta tb tc:TE):TE:=λσ H Q=>ta σ H λx H1=>tb σ H1 λy H2=>r x y H2 λz H3=>∃k,z=.bl k /\
 (if k=true then tc σ H3 λw' H4=>r' y w' H4 Q else Q (.bl false) H3)
theorem z2T{op op':CmpOp}{r r':R2}(ho:OpR X (compareOp op) r)(ho':OpR X (compareOp op') r')(ha:PE X a ta)(hb:PE X b tb)(hc:PE X c tc)
  (hm:lastMarks [op,op'] [b,c]=false:=by with_unfolding_all rfl):PE X (.Compare a [op,op'] [b,c] pos) (z1l r r' ta tb tc):=by
 intro pins s σ H Q I h;refine Compare_chain (thn (ha pins s σ H _ I h) λv s1 ⟨x,H1,I1,r1,q1⟩=>chain_link (thn (hb pins s1 σ H1 _ I1 q1) λu s2 ⟨y,H2,I2,r2,q2⟩=>
  thn (ho pins s2 σ H2 x y v u _ I2 r1 r2 q2) λd s3 ⟨z,H3,I3,r3,k,e,q3⟩=>?_)) hm
 subst e;cases r3;refine wpAny_truthy_bool ?_;cases k with
 | false=>exact ite_ff ⟨.bl false,H3,I3,rfl,q3⟩
 | true=>exact ite_tt (chain_last (thn (hc pins s3 σ H3 _ I3 q3) λw' s4 ⟨z',H4,I4,r4,q4⟩=>ho' pins s4 σ H4 y z' u w' Q I4 r2 r4 q4))
theorem z2t{op op':CmpOp}{r r':R2}(ho:OpR X (compareOp op) r)(ho':OpR X (compareOp op') r')(ha:PE X a ta)(hb:PE X b tb)(hc:PE X c tc)
  (hm:lastMarks [op,op'] [b,c]=false:=by with_unfolding_all rfl):PT X (.Compare a [op,op'] [b,c] pos) (z8b (z1l r r' ta tb tc)):=by
 intro pins s σ H Q I h;refine isTrue_chain (thn (ha pins s σ H _ I h) λv s1 ⟨x,H1,I1,r1,q1⟩=>test_link (thn (hb pins s1 σ H1 _ I1 q1) λu s2 ⟨y,H2,I2,r2,q2⟩=>
  thn (ho pins s2 σ H2 x y v u _ I2 r1 r2 q2) λd s3 ⟨z,H3,I3,r3,k,e,q3⟩=>?_)) hm
 subst e;cases r3;refine wpAny_truthy_bool ?_;cases k with
 | false=>
  obtain⟨k',e',q'⟩:=q3;cases e';exact ite_ff ⟨H3,I3,q'⟩
 | true=>
  refine ite_tt (test_last (thn (hc pins s3 σ H3 _ I3 q3) λw' s4 ⟨z',H4,I4,r4,q4⟩=>thn (ho' pins s4 σ H4 y z' u w' _ I4 r2 r4 q4) λd' s5 ⟨z2,H5,I5,r5,k2,e2,q5⟩=>?_));subst e2;cases r5;exact wpAny_truthy_bool ⟨H5,I5,q5⟩
def TruV(K:PySem.W.Frag)(x:V)(H:Hp)(k:Bool):Prop:=
 match x with
 | .non=>k=false
 | .bl b=>k=b
 | .int i=>k=(i != 0)
 | .str y=>y.length<=sizeLine/\k=((y.length:Int) != 0)
 | .byt y=>y.size<=sizeLine/\k=((y.size:Int) != 0)
 | .ref p=>(∃xs,SqL K H p xs/\k = !xs.isEmpty)\/(∃xs,SqT K H p xs/\k = !xs.isEmpty)\/∃kvs,H p=some (.dK kvs)/\k = !kvs.isEmpty
 | _=>False
theorem q9u{κ:Type}{kvs:List (κ×V)}{vs:List (κ×Value)}(r:KV kvs vs):(!vs.isEmpty) = !kvs.isEmpty:=by
 cases r<;>rfl
theorem q5c{xs:List V}{its:List Value}(r:Vals xs its):(!its.toArray.isEmpty) = !xs.isEmpty:=by
 cases r<;>simp
theorem q4p:(sizeLine:Nat)<2^63:=by rw[sizeLine_eq];decide
theorem q7X:TruR X (λx H Q=>∃k,TruV X.K x H k/\Q k H):=by
 intro pins s σ H x v Q I rx h;obtain⟨k,e,q⟩:=h;have hl:=q4p;have hs:sizeLine=16777216:=sizeLine_eq;cases x with
 | non=>
  cases rx;have e':k=false:=e;subst e';exact truthy_none ⟨H,I,q⟩
 | bl b=>
  cases rx;have e':k=b:=e;subst e';exact wpAny_truthy_bool ⟨H,I,q⟩
 | int i=>
  obtain⟨t,rfl⟩:=rx;have e':k=(i != 0):=e;subst e';exact PySem.P.truthy_int ⟨H,I,q⟩
 | str y=>
  obtain⟨t,rfl⟩:=rx;obtain⟨hy,e'⟩:y.length<=sizeLine/\k=((y.length:Int) != 0):=e;subst e';exact PySem.P.truthy_str (by omega) ⟨H,I.tok _,q⟩
 | byt y=>
  obtain⟨t,rfl⟩:=rx;obtain⟨hy,e'⟩:y.size<=sizeLine/\k=((y.size:Int) != 0):=e;subst e';exact PySem.W.truthy_bytes (by omega) ⟨H,I.tok _,q⟩
 | ref p=>
  cases rx;have e':(∃xs,SqL X.K H p xs/\k = !xs.isEmpty)\/(∃xs,SqT X.K H p xs/\k = !xs.isEmpty)\/∃kvs,H p=some (.dK kvs)/\k = !kvs.isEmpty:=e;rcases e' with⟨xs,hx,e'⟩ | ⟨xs,hx,e'⟩ | ⟨kvs,hx,e'⟩
  ·subst e';obtain⟨its,r,pl,hz⟩:=I.list hx;have hlen:=r.length;exact wpAny_truthy_list pl.isList (by simp only[List.size_toArray];omega) ⟨H,I.tok _,by rw[q5c r];exact q⟩
  ·subst e';obtain⟨its,r,pl,hz⟩:=I.tuple hx;have hlen:=r.length;exact truthy_tuple pl (by simp only[List.size_toArray];omega) ⟨H,I.tok _,by rw[q5c r];exact q⟩
  ·subst e';obtain⟨hz,hS,vs,r,m⟩:kvs.length<=sizeLine/\(p==sysModules)=false/\∃vs,KV kvs vs/\s.heap.DictOf (q7r X.prog X.w) p vs:=I.hok p _ hx;have hlen:kvs.length=vs.length:=Paired.length r;exact wpAny_truthy_dict hS m (by omega) ⟨H,I.tok _,by rw[q9u r];exact q⟩
 | _=>exact(show False from e).elim
theorem q7V(ha:PE X a ta)(he:∀whole,isTrue a X.env whole=(do let v ←whole;standAt a.pos;holding [v] (truthy v))) :
  PT X a (λσ H Q=>ta σ H λx H'=>∃k,TruV X.K x H' k/\Q k H'):=by
 intro pins s σ H Q I h;exact isTrue_plain (thn (ha pins s σ H _ I h) λv s1 ⟨x,H1,I1,r1,q1⟩=>q7X pins s1 σ H1 x v Q I1 r1 q1) (he _)
theorem q4e{x:V}{us:List Value}(r:Vals [x] us):∃u,us=[u]/\RelV x u:=by
 cases r with
 | cons r1 r2=>cases r2;exact⟨_,rfl,r1⟩
theorem z5S{x y:V}{us:List Value}(r:Vals [x,y] us):∃u w',us=[u,w']/\RelV x u/\RelV y w':=by
 cases r with
 | cons r1 r2=>
  cases r2 with
  | cons r3 r4=>cases r4;exact⟨_,_,rfl,r1,r3⟩
theorem z0x(hc:X.calm=true):q1p X (.builtin "max") (λxs H Q=>∃i j,xs=[.int i,.int j]/\Q (.int (if j>i then j else i)) H):=by
 intro pins s σ H xs us Q I r h;obtain⟨i,j,rfl,q⟩:=h;obtain⟨u,w',rfl,⟨t,rfl⟩,⟨t',rfl⟩⟩:=z5S r;refine max_two_ints (I.ok.hd hc) λh' tk k=>⟨_,H,I.kept k,?_,q⟩
 by_cases hj:j>i
 ·rw[if_pos hj,if_pos hj];exact⟨_,rfl⟩
 ·rw[if_neg hj,if_neg hj];exact⟨_,rfl⟩
theorem z0j(hc:X.calm=true):q1p X (.builtin "min") (λxs H Q=>∃i j,xs=[.int i,.int j]/\Q (.int (if j<i then j else i)) H):=by
 intro pins s σ H xs us Q I r h;obtain⟨i,j,rfl,q⟩:=h;obtain⟨u,w',rfl,⟨t,rfl⟩,⟨t',rfl⟩⟩:=z5S r;refine min_two_ints (I.ok.hd hc) λh' tk k=>⟨_,H,I.kept k,?_,q⟩
 by_cases hj:j<i
 ·rw[if_pos hj,if_pos hj];exact⟨_,rfl⟩
 ·rw[if_neg hj,if_neg hj];exact⟨_,rfl⟩
end
end L2
namespace L2
open PySem PySem.Spec PyProof.Rows
structure ObjM(h:Heap)(x dx C:Addr)(mA:Str->Option Value):Prop where
 obj:h.get? x=some (PySem.W.instObj C dx)
 ns:h.Ns1 dx mA
 ne:dx≠x
section
variable {prog:Program} {w:World} {A:Around} {E:Value->Shared->Prop} {s:Shared} {K:PySem.W.Frag} {x dx C f:Addr} {mA:Str->Option Value} {name:Str} {v:Value}
end
section
variable {P:Program} {w:World} {H H':Hp} {h h':Heap} {a C dx:Addr} {fs fs':List (Str×V)}
end
structure Cls(K:PySem.W.Frag)(C:Addr):Prop where
 pg:PySem.W.plainGet K C Str.empty=true
 hd:PySem.W.hasDictIn K C=true
 po:PySem.W.plainOver K C=true
 sa:PySem.W.findIn K (.ref C) "__setattr__" = some (some (.builtin "object.__setattr__"))
structure Con(K:PySem.W.Frag)(C:Addr)(f:Str)(v:V)(u:Value):Prop where
 at_:PySem.W.findIn K (.ref C) f=some (some u)
 rel:RelV v u
 get:PySem.W.specialIn K u "__get__" = some none
 cp:PySem.W.copiedNames.contains f=false
structure Meth(K:PySem.W.Frag)(C:Addr)(m:Str)(f:Addr):Prop where
 at_:PySem.W.findIn K (.ref C) m=some (some (.ref f))
 fn:PySem.W.isFn K (.ref f)=true
 kp:PySem.W.keepIn K (.ref f)=true
section
variable {X:Cx} {pins:List (Addr×Obj)} {σ:St} {H:Hp} {s:Shared} {a C dx:Addr} {fs:List (Str×V)} {f:Str} {v:V} {A:Around} {E:Value->Shared->Prop}
end
section
variable {X:Cx} {o e value:Expr} {f:Str} {pos pos' tpos:Pos} {ta tv:TE}
end
section
variable {X:Cx} {pins:List (Addr×Obj)} {σ:St} {H:Hp} {s:Shared} {A:Around} {E:Value->Shared->Prop} {Q:Value->Shared->Prop} {c:Value} {b:Bool}
inductive TyOf (K:PySem.W.Frag) (H:Hp):V->Value->Prop where
 | non:TyOf K H .non (.type "NoneType")
 | bl (x:Bool):TyOf K H (.bl x) (.type "bool")
 | int (i:Int):TyOf K H (.int i) (.type "int")
 | str (x:Str):TyOf K H (.str x) (.type "str")
 | flt (x:UInt64):TyOf K H (.flt x) (.type "float")
 | lst {a:Addr} {xs:List V} (e:H a=some (.lst xs)):TyOf K H (.ref a) (.type "list")
 | frz {a:Addr} {o:Obj} {xs:List V} (e:H a=some (.frz o (.lst xs))):TyOf K H (.ref a) (.type "list")
 | tup {a:Addr} {xs:List V} (e:H a=some (.tup xs)):TyOf K H (.ref a) (.type "tuple")
 | dK {a:Addr} {kvs:List (Key×V)} (e:H a=some (.dK kvs)):TyOf K H (.ref a) (.type "dict")
 | dT {a:Addr} {kvs:List (List Key×V)} (e:H a=some (.dT kvs)):TyOf K H (.ref a) (.type "dict")
 | ins {a C dx:Addr} {fs:List (Str×V)} (e:H a=some (.ins C dx fs)) (cl:Cls K C) (ha:PySem.W.findIn K (.ref C) "__class__" = some (some (.builtin "object.__class__")))
   (hn:PySem.W.specialIn K (.builtin "object.__class__") "__get__" = some (some (.builtin "getset_descriptor.__get__"))) (htk:PySem.W.takesIn K (.builtin "object.__class__")=some true)
   (hm:PySem.W.mroIn K C (.type "object")=some true):TyOf K H (.ref a) (.ref C)
end
end L2
namespace L2
open PySem PySem.Spec PyProof.Rows
structure Room(k:Nat)(A:Around):Prop where
 hd:A.handled=none
 dp:A.depth+3*k+5<recursionLimit
 un:A.units+16*k+200<cLine
theorem Room.deeper{k:Nat}{A:Around}(r:Room (k+1) A)(env:Env):Room k (A.deeper env):=
 ⟨r.hd,by have:=r.dp;show A.depth+1+3*k+5<_;omega,by have:=r.un;show A.units+3+16*k+200<_;omega⟩
theorem Room.depth{k:Nat}{A:Around}(r:Room k A):A.depth<recursionLimit:=by have:=r.dp;omega
theorem Room.units{k:Nat}{A:Around}(r:Room k A):A.units+64<cLine:=by have:=r.un;omega
def tNil:TA:=λ_ H Q=>Q [] H
def z9z(ta:TE)(tr:TA):TA:=λσ H Q=>ta σ H λx H1=>tr σ H1 λxs H2=>Q (x::xs) H2
section
variable {X:Cx} {e:Expr} {es:List Expr} {te:TE} {t:TA} {pos:Pos}
theorem q4H:PA X [] tNil:=λ_ _ _ _ H Q I h=>Calls.spliced_nil ⟨[],H,I,.nil,h⟩
theorem q1x(ha:PE X e te)(hr:PA X es t)(hs:starEach (e::es) X.env=(false,eval e X.env)::starEach es X.env:=by rfl):PA X (e::es) (z9z te t):=by
 intro pos pins s σ H Q I h;rw[hs];show wpAny _ _ (spliced ((false,eval e X.env)::backTo pos (starEach es X.env))) _ _ s;refine Calls.spliced_cons (thn (ha pins s σ H _ I h) λu s1 ⟨x,H1,I1,r1,q1⟩=>?_);exact thn (hr pos pins s1 σ H1 _ I1 q1) λus s2 ⟨xs,H2,I2,r2,q2⟩=>⟨x::xs,H2,I2,.cons r1 r2,q2⟩
def tTup(t:TA):TE:=λσ H Q=>t σ H λxs H1=>xs.length<=sizeLine/\∀p,H1 p=none->Q (.ref p) (upd H1 p (.tup xs))
def tLst(t:TA):TE:=λσ H Q=>t σ H λxs H1=>xs.length<=sizeLine/\∀p,H1 p=none->Q (.ref p) (upd H1 p (.lst xs))
theorem z7a{x1}(h:PA X es t):PE X (.Tuple es x1 pos) (tTup t):=by
 intro pins s σ H Q I hq;refine wpAny_Tuple_spliced (thn (h pos pins s σ H _ I hq) λus s1 ⟨xs,H1,I1,r,z,q⟩=>⟨by rw[←r.length];exact z,?_⟩);have hf:H1 s1.heap.objs.size=none:=I1.hok.fresh (Nat.le_refl _);refine⟨.ref s1.heap.objs.size,upd H1 s1.heap.objs.size (.tup xs),I1.laid (t':=s1.toks) (λb u e=>Heap.get?_push_of_some _ e) (Nat.le_refl _) ?_,rfl,q _ hf⟩;exact⟨z,us,r,⟨_,Heap.get?_push_size _ rfl,⟨rfl,rfl⟩,_,rfl⟩⟩
theorem z6S(h:PA X es t):PE X (.List es pos) (tLst t):=by
 intro pins s σ H Q I hq;refine wpAny_List_spliced (thn (h pos pins s σ H _ I hq) λus s1 ⟨xs,H1,I1,r,z,q⟩=>⟨by rw[←r.length];exact z,?_⟩);have hf:H1 s1.heap.objs.size=none:=I1.hok.fresh (Nat.le_refl _);refine⟨.ref s1.heap.objs.size,upd H1 s1.heap.objs.size (.lst xs),I1.laid (t':=s1.toks) (λb u e=>Heap.get?_push_of_some _ e) (Nat.le_refl _) ?_,rfl,q _ hf⟩;exact⟨z,us,0,r,Heap.get?_push_size _ rfl⟩
end
abbrev Sp:=List V->Hp->VK->XK->Prop
abbrev CXT:=List Env->Hp->Shared->XK->Value->Shared->Prop
structure Env0(P:Program)(w:World)(K:PySem.W.Frag)(mg:Str->Option Value)(base:Heap)(A:Around)(outer:List Env)(s:Shared)(H:Hp):Prop where
 frames:A.frames=some outer
 mod:Mod K mg base
 bs:∀b o,base.get? b=some o->s.heap.get? b=some o/\H b=none
 bsz:base.objs.size<=s.heap.objs.size
 funs:s.heap.FunFrames base outer
 frf:∀b∈frs outer,H b=none
 hok:HOk P w H s.heap
 bare:AllBare s.gens
def CE(outer:List Env)(P:Program)(w:World)(H:Hp)(s:Shared)(Q:VK)(u:Value)(s':Shared):Prop:=
 ∃v H',s'.os=s.os/\AllBare s'.gens/\Un (frs outer) [] H H' s.heap s'.heap/\HOk P w H' s'.heap/\RelV v u/\Q v H'
def CR(CX:CXT)(outer:List Env)(P:Program)(w:World)(H:Hp)(s:Shared)(Q:VK)(E:XK)(r:Result)(s':Shared):Prop:=
 match r with
 | .ok (.ret u)=>CE outer P w H s Q u s'
 | .ok _=>False
 | .error e=>CX outer H s E e s'
structure FnOk(P:Program)(w:World)(K:PySem.W.Frag)(mg:Str->Option Value)(base:Heap)(CX:CXT)(k:Nat)(f:Addr)(fd:FuncData)(ps:List Str)(sp:Sp):Prop where
 len:∀vs H Q E,sp vs H Q E->vs.length=ps.length
 run:∀(A:Around) (outer:List Env) (s:Shared) (H:Hp) (args:Args) (us:List Value) (vs:List V) (Q:VK) (E:XK),Room k A->Env0 P w K mg base A outer s H->BindsTo s fd args (ps.zip us)->Vals vs us->sp vs H Q E ->
  codeAny (model P w) A (.call (.ref f) args) (CR CX outer P w H s Q E) s
section
variable {X:Cx} {pins:List (Addr×Obj)} {σ:St} {H:Hp} {s s':Shared}
theorem Inv.env0(I:Inv X pins σ H s):Env0 X.prog X.w X.K X.mg X.base X.A X.stack s H:=
 ⟨I.ok.frames,I.ok.mod,I.bs,Nat.le_trans I.ok.bsz I.sz,I.stack,I.stkFree,I.hok,I.bare⟩
theorem Inv.after{Q:VK}{u:Value}(I:Inv X pins σ H s)(h:CE X.stack X.prog X.w H s Q u s'):EP X pins σ Q u s':=by
 obtain⟨v,H',os,bare,un,hok,r,q⟩:=h;obtain⟨hh,g,d,t,os'⟩:=s';obtain rfl:os'=s.os:=os;exact⟨v,H',I.call (h':=hh) (g':=g) (d':=d) (t':=t) (ch:=[]) un hok bare (λb z=>absurd z (by simp)),r,q⟩
end
def q2Q(K:PySem.W.Frag)(fd:FuncData)(ps:List Str)(ds:List Value):Prop:=
 ∀(s:Shared) (us:List Value),K.In s.heap->(us++ds).length=ps.length->BindsTo s fd ⟨us,[]⟩ (ps.zip (us++ds))
theorem q2Q.all{K:PySem.W.Frag}{fd:FuncData}{ps:List Str}(h:∀us:List Value,us.length=ps.length->bindArgs fd ⟨us,[]⟩=pure (ps.zip us)):q2Q K fd ps []:=λs us _ hl=>by
 rw[List.append_nil]at hl ⊢;exact .of_eq (h us hl)
def z0a(CX:CXT)(X:Cx)(E:XK):Prop:=∀(pins:List (Addr×Obj)) (σ:St) (H:Hp) (s:Shared) (e:Value) (s':Shared),Inv X pins σ H s->CX X.stack H s E e s'->X.xe e s'
section
variable {X:Cx} {CX:CXT} {k:Nat} {f C:Addr} {fd:FuncData} {ps:List Str} {sp:Sp} {dvs:List V} {ds:List Value} {E:XK} {x m:Str} {p pos apos:Pos} {e o:Expr} {es:List Expr} {ta:TE} {t:TA}
structure Mk(K:PySem.W.Frag)(C f:Addr):Prop where
 makes:PySem.W.makesIn K C=true
 init:PySem.W.findIn K (.ref C) "__init__" = some (some (.ref f))
 fn:PySem.W.isFn K (.ref f)=true
 kp:PySem.W.keepIn K (.ref C)=true
end
section
variable {X:Cx} {CX:CXT} {k:Nat} {f C:Addr} {fd:FuncData} {ps ks:List Str} {sp:Sp} {E:XK} {x m:Str} {p pos apos kpos:Pos} {e o:Expr} {es:List Expr} {kws:List Keyword} {te ta:TE} {t tk:TA} {nm:Option Str}
structure KBinds(K:PySem.W.Frag)(fd:FuncData)(ps ks:List Str)(g:List Value->List Value->List Value)(gV:List V->List V->List V):Prop where
 to:∀(s:Shared) (us ws:List Value),K.In s.heap->(g us ws).length=ps.length->BindsTo s fd ⟨us,ks.zip ws⟩ (ps.zip (g us ws))
 rel:∀{vs:List V} {us:List Value} {zs:List V} {ws:List Value},Vals vs us->Vals zs ws->Vals (gV vs zs) (g us ws)
variable {g:List Value->List Value->List Value} {gV:List V->List V->List V}
end
structure FnScope(N P:List Str)(sc:Scope):Prop where
 kind:sc.kind=.function
 co:sc.isCoroutine=false
 gen:sc.isGenerator=false
 nd:N.Nodup
 pre:N.take P.length=P
 par:∀x∈P,sc.names.lookup x=some .local\/sc.names.lookup x=some .cell
 nofree:∀y∈sc.names,y.2 ≠ .free
theorem q6y{kindOf:Str->Option NameKind}{x:Str}:∀{binds:List (Str×Value)} {m:Str->Option Value},(∀v,(x,v)∉binds)->bindL kindOf binds m x=m x
 | [],_,_=>rfl
 | (n,v)::r,m,h=>by
  unfold bindL;rw[q6y λw hw=>h w (List.mem_cons_of_mem _ hw)];split
  ·have:x≠n:=by rintro rfl;exact h v List.mem_cons_self
   simp[this]
  ·rfl
theorem q6d{kindOf:Str->Option NameKind}{x:Str}:∀{binds:List (Str×Value)} {m:Str->Option Value},(∀v,(x,v)∉binds)->bindC kindOf binds m x=m x
 | [],_,_=>rfl
 | (n,v)::r,m,h=>by
  unfold bindC;rw[q6d λw hw=>h w (List.mem_cons_of_mem _ hw)];split
  ·rfl
  ·have:x≠n:=by rintro rfl;exact h v List.mem_cons_self
   simp[this]
theorem q6D{kindOf:Str->Option NameKind}{x:Str}{v:Value}:∀{P:List Str} {vs:List Value} {i:Nat} {m:Str->Option Value},P.Nodup->P[i]? = some x->vs[i]? = some v->kindOf x=some .local ->
  bindL kindOf (P.zip vs) m x=some v
 | [],_,_,_,_,h,_,_=>by simp at h
 | _::_,[],_,_,_,_,h,_=>by simp at h
 | p::P,w::vs,0,m,nd,h1,h2,hk=>by simp at h1 h2;subst h1;subst h2;show bindL kindOf ((p,w)::P.zip vs) m p=_;unfold bindL;rw[q6y λv hv=>(List.nodup_cons.mp nd).1 (List.of_mem_zip hv).1,if_pos hk];simp
 | p::P,w::vs,i+1,m,nd,h1,h2,hk=>by show bindL kindOf ((p,w)::P.zip vs) m x=_;unfold bindL;exact q6D (i:=i) (List.nodup_cons.mp nd).2 (by simpa using h1) (by simpa using h2) hk
theorem q6W{kindOf:Str->Option NameKind}{x:Str}{v:Value}:∀{P:List Str} {vs:List Value} {i:Nat} {m:Str->Option Value},P.Nodup->P[i]? = some x->vs[i]? = some v->kindOf x≠some .local ->
  bindC kindOf (P.zip vs) m x=some v
 | [],_,_,_,_,h,_,_=>by simp at h
 | _::_,[],_,_,_,_,h,_=>by simp at h
 | p::P,w::vs,0,m,nd,h1,h2,hk=>by simp at h1 h2;subst h1;subst h2;show bindC kindOf ((p,w)::P.zip vs) m p=_;unfold bindC;rw[q6d λv hv=>(List.nodup_cons.mp nd).1 (List.of_mem_zip hv).1,if_neg hk];simp
 | p::P,w::vs,i+1,m,nd,h1,h2,hk=>by show bindC kindOf ((p,w)::P.zip vs) m x=_;unfold bindC;exact q6W (i:=i) (List.nodup_cons.mp nd).2 (by simpa using h1) (by simpa using h2) hk
def start(N:List Str)(vs:List V):St:=vs.map some++List.replicate (N.length - vs.length) none
def cxOf(CX:CXT)(P:Program)(w:World)(K:PySem.W.Frag)(mg:Str->Option Value)(base:Heap)(N:List Str)(qual:Str)(scope:Scope)(f:Addr)(cd:Value)(A:Around)(outer:List Env)(s:Shared)(H:Hp)(E:XK):Cx where
 prog:=P
 w:=w
 K:=K
 mg:=mg
 base:=base
 A:=A.deeper (envOfC qual scope s.heap.objs.size f cd)
 N:=N
 s₀:=s
 H₀:=H
 env:=envOfC qual scope s.heap.objs.size f cd
 outer:=outer
 stack:=envOfC qual scope s.heap.objs.size f cd::outer
 ex:=[]
 calm:=true
 fn:=λ_=>true
 pn:=[]
 xe:=λe s'=>wpAny (model P w) (A.deeper (envOfC qual scope s.heap.objs.size f cd)) (leaving (envOfC qual scope s.heap.objs.size f cd) e) (λ_ s''=>CX outer H s E e s'') (λe' s''=>CX outer H s E e' s'') s'
theorem q8h{sc:Scope}{n:Nat}{x:Str}(h:sc.names.lookup x=some .cell):∃c,(cellsFrom n sc.names []).lookup x=some c:=by
 have q:=PySem.W.cellsFrom_some sc.names n [] (.inl h);exact Option.isSome_iff_exists.mp q
theorem q9U{CX:CXT}{P:Program}{w:World}{K:PySem.W.Frag}{mg:Str->Option Value}{base:Heap}{N ps:List Str}{qual:Str}{scope:Scope}{f:Addr}{cd:Value}{A:Around}{outer:List Env}{s s1:Shared}{H:Hp}{E:XK}{us:List Value}{vs:List V}
  (S:FnScope N ps scope) (hd:A.handled=none) (e0:Env0 P w K mg base A outer s H) (hl:vs.length=ps.length) (r:Vals vs us)
  (x:InCallC s s.heap.objs.size (bindL (envOfC qual scope s.heap.objs.size f cd).kindOf (ps.zip us) λ_=>none) (cellsFrom (s.heap.objs.size+1) scope.names []) (bindC (envOfC qual scope s.heap.objs.size f cd).kindOf (ps.zip us) λ_=>none) s1) :
  Inv (cxOf CX P w K mg base N qual scope f cd A outer s H E) [] (start N vs) H s1:=by
 have hpl:ps.length<=N.length:=by have:=congrArg List.length S.pre;rw[List.length_take]at this;omega
 obtain⟨h1,tk,rfl,hk⟩:=x.done;have noA:∀b:Addr,b∉(cxOf CX P w K mg base N qual scope f cd A outer s H E).ex:=λb z=>absurd (show b∈([]:List Addr)from z) (by simp)
 refine⟨⟨e0.mod,S.kind,rfl,rfl,Nat.le_refl _,λy z c h1 h2=>?_,λy hy=>?_,λy c _ h=>?_,λ_=>hd,Around.frames_deeper e0.frames,.inr ⟨rfl,rfl⟩,λb z=>absurd z (noA b),e0.bs,e0.bsz,λb _ _=>noA b,λb z=>absurd z (noA b),e0.funs,e0.frf⟩,
  rfl,e0.bare,Un.kept hk,⟨_,x.toInCall.ns,λi y v h1 h2 h3=>?_⟩,λy c h=>⟨_,x.cell y c h⟩,e0.hok.fresh (Nat.le_refl _),λy c h=>?_,λp hp=>absurd (show p∈([]:List (Addr×Obj))from hp) (by simp),e0.hok.kept hk,?_⟩
 ·exact name_of_addr x.apart (PySem.mem_of_lookup h1) (PySem.mem_of_lookup h2)
 ·have hy:scope.names.lookup y=some .cell\/scope.names.lookup y=some .free:=hy;rcases hy with hy | hy
  ·exact q8h hy
  ·exact absurd rfl (S.nofree _ (PySem.mem_of_lookup hy))
 ·exact Nat.le_of_lt (x.above y c (PySem.mem_of_lookup h))
 ·have hi:i<vs.length:=by
   unfold start at h2;by_cases hi:i<vs.length
   ·exact hi
   ·rw[List.getElem?_append_right (by simpa using hi)]at h2;rw[List.getElem?_replicate]at h2;split at h2<;>cases h2
  have ha:vs[i]? = some v:=by
   unfold start at h2;rw[List.getElem?_append_left (by simpa using hi),List.getElem?_map]at h2;cases e:vs[i]? with
   | none=>rw[e]at h2;cases h2
   | some a=>rw[e]at h2;cases h2;rfl
  obtain⟨u,hu,rv⟩:=r.get ha;have hp:ps[i]? = some y:=(by rw[←S.pre,List.getElem?_take_of_lt (by omega)];exact h1);have ndP:ps.Nodup:=by rw[←S.pre];exact S.nd.sublist (List.take_sublist _ _)
  refine⟨u,rv,?_⟩;rcases S.par y (List.mem_of_getElem? hp)with k | k
  ·exact .inl ⟨k,q6D ndP hp hu k⟩
  ·obtain⟨c,e⟩:=q8h (n:=s.heap.objs.size+1) k;refine .inr ⟨.inl k,c,e,?_⟩;have q:=x.cell y c e;rw[q6W ndP hp hu (by show scope.names.lookup y≠_;rw[k];decide)]at q;exact q
 ·exact e0.hok.fresh (Nat.le_of_lt (x.above y c (PySem.mem_of_lookup h)))
 ·unfold start;show _=N.length;rw[List.length_append,List.length_map,List.length_replicate];omega
theorem y0e{CX:CXT}{P:Program}{w:World}{K:PySem.W.Frag}{mg:Str->Option Value}{base:Heap}{k:Nat}{f:Addr}{name qual:Str}{params:Arguments}{body:List Stmt}{scope:Scope}{dV kV doc pm cdv ct oc:Value}{an od:Option Addr}
  {osl:Array (Option Value)} {N ps:List Str} {sp:Sp} (lk:K.lookup f=some ⟨oc,od,.func (PySem.W.fnOf name qual params body scope dV kV doc pm an cdv ct),osl⟩) (hcd:PySem.W.codeIn K cdv qual=true) (S:FnScope N ps scope)
  (len:∀vs H Q E,sp vs H Q E->vs.length=ps.length)
  (hbody:∀(A:Around) (outer:List Env) (s:Shared) (H:Hp) (vs:List V) (Q:VK) (E:XK),Room k (A.deeper (envOfC qual scope s.heap.objs.size f cdv))->sp vs H Q E ->
   ∃t,PSs (cxOf CX P w K mg base N qual scope f cdv A outer s H E) body t/\t {nx:=λ_ H'=>Q .non H',rt:=Q} (start N vs) H) :
  FnOk P w K mg base CX (k+1) f (PySem.W.fnOf name qual params body scope dV kV doc pm an cdv ct) ps sp:=by
 refine⟨len,λA outer s H args us vs Q E hr e0 hb r hsp=>?_⟩;have hl:=len _ _ _ _ hsp;have KX:K.In s.heap:=e0.mod.kin.keeps λb o e=>(e0.bs b o e).1;have lim:s.heap.NoLimit:=e0.mod.nolimit.keeps λb o e=>(e0.bs b o e).1;have hkind:∀y∈ps.zip us,scope.names.lookup y.1=some .local\/(scope.names.lookup y.1=some .cell/\((cellsFrom (s.heap.objs.size+1) scope.names []).lookup y.1).isSome=true):=λ⟨n,v⟩ hy=>by
  rcases S.par n (List.of_mem_zip hy).1 with q | q
  ·exact .inl q
  ·exact .inr ⟨q,PySem.W.cellsFrom_some _ _ _ (.inl q)⟩
 refine codeAny_call_function hr.depth (KX _ _ lk) rfl S.co S.gen rfl (PySem.W.codeRec_of KX hcd) (hb _ _ _ _ ?_)
 refine wpAny_newFunctionEnv_cells S.kind hkind λenv he s1 x=>?_;subst he;refine⟨lim.keeps x.toInCall.keep,codeAny_func ?_⟩;obtain⟨t,ht,hq⟩:=hbody A outer s H vs Q E (hr.deeper _) hsp;have I:Inv (cxOf CX P w K mg base N qual scope f cdv A outer s H E) [] (start N vs) H s1:=q9U S hr.hd e0 hl r x;refine wpAny_mono (ht [] s1 (start N vs) H _ I hq) (λfl s' hs=>?_) λe s' hs=>hs;have fin:∀{σ':St} {H':Hp} {v:V} {u:Value},Inv (cxOf CX P w K mg base N qual scope f cdv A outer s H E) [] σ' H' s'->RelV v u->Q v H'->CE outer P w H s Q u s':=
  λ{σ' H' v u} J rv q=>⟨v,H',J.os,J.bare,J.base,J.hok,rv,q⟩
 cases fl with
 | ret u=>
  obtain⟨v,σ',H',J,rv,q⟩:=hs;exact fin J rv q
 | next=>
  obtain⟨σ',H',J,q⟩:=hs;exact fin (v:=V.non) (u:=Value.none) J rfl q
 | brk=>
  obtain⟨_,_,_,q⟩:=hs;exact False.elim q
 | cont=>
  obtain⟨_,_,_,q⟩:=hs;exact False.elim q
end L2
namespace L2
open PySem PySem.Spec PyProof.Rows
section
variable {X:Cx} {x:Str} {p pos:Pos} {e:Expr} {es:List Expr} {t:TA} {id T:String} {r:List V->Hp->VK->Prop}
def tCB(r:List V->Hp->VK->Prop)(t:TA):TE:=λσ H Q=>t σ H λvs H1=>r vs H1 Q
theorem q5y(hc:q1p X (.builtin id) r)(hg:Gl X x)(hm:X.mg x=none)(hv:bootBuiltins x=some (.builtin id))(ha:PA X (e::es) t)(hn:x ≠ "__name__":=by decide)(hdb:(x==("__debug__" : Str))=false:=by decide)
  (he:starEach (e::es) X.env=(false,eval e X.env)::starEach es X.env:=by rfl) (hpl:(backTo pos (starEach es X.env)).any (·.1)=false:=by rfl):PE X (.Call (.Name x p) (e::es) [] pos) (tCB r t):=by
 intro pins s σ H Q I h;refine wpAny_Call_Name_kw (q3J I hg hm hv ?_ hn hdb);exact PyProof.Rows.callWith_builtin1 (thn (ha pos pins s σ H _ I h) λus s1 ⟨vs,H1,I1,r1,q1⟩=>hc pins s1 σ H1 vs us Q I1 r1 q1) he hpl
theorem q6e(hc:q1p X (.type T) r)(hg:Gl X x)(hm:X.mg x=none)(hv:bootBuiltins x=some (.type T))(ha:PA X (e::es) t)(hn:x ≠ "__name__":=by decide)(hdb:(x==("__debug__" : Str))=false:=by decide)
  (he:starEach (e::es) X.env=(false,eval e X.env)::starEach es X.env:=by rfl) (hpl:(backTo pos (starEach es X.env)).any (·.1)=false:=by rfl):PE X (.Call (.Name x p) (e::es) [] pos) (tCB r t):=by
 intro pins s σ H Q I h;refine wpAny_Call_Name_kw (q3J I hg hm hv ?_ hn hdb);exact PyProof.Rows.callWith_type1 (thn (ha pos pins s σ H _ I h) λus s1 ⟨vs,H1,I1,r1,q1⟩=>hc pins s1 σ H1 vs us Q I1 r1 q1) he hpl
end
end L2
namespace HT
open PySem PyProof.Rows
section
open PySem.SeqAt
open PySem.AutoSeq1 (wpAny_loadPart')
open PySem.MeetsSeq PySem.MeetsSeq2 PySem.MeetsSeq3
end
section
variable {prog:Program} {w:World} {A:Around} {E:Value->Shared->Prop} {s:Shared}
def sIx(n d:Nat):Option Int->Nat
 | none=>d
 | some v=>if v<0 then(v+(n:Int)).toNat else min v.toNat n
theorem z7p(n d:Nat)(hd:d<=n)(o:Option Int):sIx n d o<=n:=by
 cases o with
 | none=>exact hd
 | some v=>
  show(if v<0 then(v+(n:Int)).toNat else min v.toNat n)<=n;by_cases hv:v<0
  ·rw[if_pos hv];omega
  ·rw[if_neg hv];exact Nat.min_le_right _ _
theorem z1D(v:Int)(n d:Nat):(if v<0 then max (v+(n:Int)) 0 else min v (n:Int))=((sIx n d (some v):Nat):Int):=by
 show(if v<0 then max (v+(n:Int)) 0 else min v (n:Int))=(((if v<0 then(v+(n:Int)).toNat else min v.toNat n):Nat):Int);by_cases hv:v<0
 ·simp only[if_pos hv];omega
 ·simp only[if_neg hv];omega
theorem q9s(lo hi:Option Int)(n:Nat):Builtin.Slice.sliceAdjust lo hi 1 (n:Int)=(((sIx n 0 lo:Nat):Int),((sIx n n hi:Nat):Int)):=by
 have h1:¬((1:Int)<0):=by omega
 unfold Builtin.Slice.sliceAdjust;simp only[h1,if_false];refine Prod.ext ?_ ?_
 ·cases lo with
  | none=>rfl
  | some v=>exact z1D v n 0
 ·cases hi with
  | none=>rfl
  | some v=>exact z1D v n n
theorem q8Y(i j:Nat):Builtin.Slice.slicePlaces (i:Int) (j:Int) 1=j - i:=by
 unfold Builtin.Slice.slicePlaces;have h1:(1:Int)>0:=by omega
 simp only[h1,if_true,Int.ediv_one];split<;>omega
theorem q4W{v:Value}{o:Option Int}{Q:Option Int->Shared->Prop}(p:IsPart v o)(h:Q o s):wpAny (model prog w) A (Builtin.Slice.slicePartIndex v) Q E s:=by
 cases p with
 | none=>exact slicePart_none h
 | int i t=>exact slicePart_int h
theorem q3Q{sl:Addr}{vl vu:Value}{lo hi:Option Int}{n:Nat}{Q:Int×Int×Nat->Shared->Prop}(hs:s.heap.IsSliceOf sl vl vu .none)(pl:IsPart vl lo)(pu:IsPart vu hi)
  (h:Q (((sIx n 0 lo:Nat):Int),1,sIx n n hi - sIx n 0 lo) s):wpAny (model prog w) A (Builtin.Slice.sliceApplied (.ref sl) (pure (n:Int))) Q E s:=by
 obtain⟨os,hos,hcs,hds⟩:=id hs;unfold Builtin.Slice.sliceApplied Builtin.Slice.sliceFields;refine wpAny_bind (wpAny_bind (wpAny_field hos hds (x:=vl) rfl (wpAny_bind (wpAny_field hos hds (x:=vu) rfl (wpAny_bind (wpAny_field hos hds (x:=.none) rfl (wpAny_pure ?_)))))));refine wpAny_bind (slicePart_none ?_);show wpAny _ _ (if((1:Int)==0)=true then _ else _) _ _ s;rw[if_neg (by decide)];refine wpAny_bind (q4W pl (wpAny_bind (q4W pu (wpAny_bind (wpAny_pure ?_)))));show wpAny _ _ (match Builtin.Slice.sliceAdjust lo hi 1 (n:Int)with | (lo,hi)=>pure (lo,(1:Int),Builtin.Slice.slicePlaces lo hi 1)) _ _ s;rw[q9s lo hi n];show wpAny _ _ (pure (((sIx n 0 lo:Nat):Int),(1:Int),Builtin.Slice.slicePlaces ((sIx n 0 lo:Nat):Int) ((sIx n n hi:Nat):Int) 1)) _ _ s;rw[q8Y];exact wpAny_pure h
theorem z2H(xs:Array Value)(i k:Nat):((List.range k).filterMap λ(m:Nat)=>xs[((i:Int)+(m:Int)*1).toNat]?).toArray=((xs.toList.drop i).take k).toArray:=by
 have e:(λ(m:Nat)=>xs[((i:Int)+(m:Int)*1).toNat]?)=λm=>xs[i+m]?:=by
  funext m
  have:((i:Int)+(m:Int)*1).toNat=i+m:=by omega
  rw[this]
 rw[e];have:=pick_run xs i k;rw[List.filterMap_map]at this;have e2:((λx=>xs[x]?) ∘ λx=>i+x)=λm=>xs[i+m]?:=rfl
 rw[e2]at this;rw[this]
theorem getItem_tuple_cut{t sl:Addr}{items:Array Value}{vl vu:Value}{lo hi:Option Int}{Q:Value->Shared->Prop}(ht:IsTup s.heap t items)(hs:s.heap.IsSliceOf sl vl vu .none)(pl:IsPart vl lo)(pu:IsPart vu hi)
  (hw:¬(sIx items.size 0 lo=0/\sIx items.size items.size hi=items.size))
  (h:Q (.ref s.heap.objs.size) {s with heap:=s.heap.push {cls:=.type "tuple",data:=.seq ((items.toList.drop (sIx items.size 0 lo)).take (sIx items.size items.size hi - sIx items.size 0 lo)).toArray}})
  (hsz:items.size<=sizeLine):wpAny (model prog w) A (getItem (.ref t) (.ref sl)) Q E s:=by
 have htake:sizeOk (.seq ((items.toList.drop (sIx items.size 0 lo)).take (sIx items.size items.size hi - sIx items.size 0 lo)).toArray):=(by show((items.toList.drop (sIx items.size 0 lo)).take (sIx items.size items.size hi - sIx items.size 0 lo)).toArray.size<=sizeLine;rw[List.size_toArray,List.length_take,List.length_drop,Array.length_toList];omega);have hj:sIx items.size items.size hi<=items.size:=z7p _ _ (Nat.le_refl _) hi;obtain⟨os,hos,hcs,hds⟩:=id hs;have hTs:s.TypeIs (.ref sl) "slice":=⟨os,hos,hcs⟩;unfold getItem
 try with_reducible refine wpAny_holding ?_
 first | refine wpAny_bind (wpAny_pure ?_) | skip
 refine wpAny_bind (wpAny_sequenceKey ht.typeIs (by decide) ?_);refine wpAny_bind (wpAny_callSpecial?_slot (name:=Str.ofString "__getitem__") ht.typeIs PyProof.Rows.slot_tuple_getitem
  (wpAny_call_entry PyProof.Rows.slot_tuple_getitem ht.typeIs entry_tuple_getitem ?_ (args_tuple_getitem _ _)))
 show wpAny _ _ (Builtin.Tuple.tupleItemsOf (.ref t) >>= _) _ _ s;refine wpAny_bind (tupleItemsOf_ ht ?_);refine wpAny_bind (wpAny_typeOf hTs ?_);rw[if_pos (by decide)];refine wpAny_bind (q3Q hs pl pu ?_);have hno:¬((((sIx items.size 0 lo:Nat):Int)==0&&(1:Int)==1&&(sIx items.size items.size hi - sIx items.size 0 lo)==items.size)=true):=by intro q;rw[Bool.and_eq_true,Bool.and_eq_true]at q;have q1:((sIx items.size 0 lo:Nat):Int)=0:=eq_of_beq q.1.1;have q2:sIx items.size items.size hi - sIx items.size 0 lo=items.size:=eq_of_beq q.2;exact hw ⟨by omega,by omega⟩
 show wpAny _ _ (if(((sIx items.size 0 lo:Nat):Int)==0&&(1:Int)==1&&(sIx items.size items.size hi - sIx items.size 0 lo)==items.size)=true then _ else _) _ _ s;rw[if_neg hno,z2H]
 first
  | exact wpAny_bind (m:=Builtin.Tuple.tupleExact _) (wpAny_newObj_type (wpAny_pure ⟨_,rfl,wpAny_pure h⟩) htake)
  | exact wpAny_bind (m:=Builtin.Tuple.tupleExact _) (wpAny_newObj_type (wpAny_bind (wpAny_pure (wpAny_pure ⟨_,rfl,wpAny_pure h⟩))) htake)
  | exact wpAny_bind (wpAny_bind (m:=Builtin.Tuple.tupleExact _) (wpAny_newObj_type (wpAny_pure (wpAny_pure ⟨_,rfl,wpAny_pure h⟩)) htake))
  | exact wpAny_bind (wpAny_bind (m:=Builtin.Tuple.tupleExact _) (wpAny_newObj_type (wpAny_pure ⟨_,rfl,wpAny_pure h⟩) htake))
end
end HT
namespace L2
open PySem PySem.Spec PyProof.Rows
abbrev TO:=St->Hp->(Option Int->Hp->Prop)->Prop
def PO(X:Cx)(e:Option Expr)(t:TO):Prop:=
 ∀(pins:List (Addr×Obj)) (s:Shared) (σ:St) (H:Hp) (Q:Option Int->Hp->Prop),Inv X pins σ H s->t σ H Q ->
  wpAny (model X.prog X.w) X.A (evalPart e X.env) (λu s'=>∃o H',Inv X pins σ H' s'/\IsPart u o/\Q o H') X.xe s
def z6u:TO:=λ_ H Q=>Q none H
def z9T(t:TE):TO:=λσ H Q=>t σ H λx H1=>∃i,x=.int i/\Q (some i) H1
section
variable {X:Cx} {e:Expr} {te:TE} {lo hi:Option Expr} {tl th:TO} {pos p2:Pos}
theorem q3v:PO X none z6u:=by
 intro pins s σ H Q I h;rw[evalPart_none];exact wpAny_pure ⟨none,H,I,.none,h⟩
theorem z0F(h:PE X e te):PO X (some e) (z9T te):=by
 intro pins s σ H Q I hw;rw[evalPart_some];refine thn (h pins s σ H _ I hw) λu s1 ⟨x,H1,I1,r1,q1⟩=>?_
 obtain⟨i,rfl,q⟩:=q1;obtain⟨t,rfl⟩:=r1;exact⟨some i,H1,I1,.int i t,q⟩
def SlR(X:Cx)(r:V->Option Int->Option Int->Hp->VK->Prop):Prop:=
 ∀(pins:List (Addr×Obj)) (s:Shared) (σ:St) (H:Hp) (x:V) (v vl vu:Value) (lo hi:Option Int) (sl:Addr) (Q:VK),Inv X pins σ H s->RelV x v->s.heap.IsSliceOf sl vl vu .none->IsPart vl lo->IsPart vu hi->r x lo hi H Q ->
  ∃T id,typeLookup (.type T) "__getitem__" = pure (some (.builtin id))/\s.TypeIs v T/\wpAny (model X.prog X.w) X.A (getItem v (.ref sl)) (EP X pins σ Q) X.xe s
theorem SlR.or{r r':V->Option Int->Option Int->Hp->VK->Prop}(h:SlR X r)(h':SlR X r'):SlR X (λx lo hi H Q=>r x lo hi H Q\/r' x lo hi H Q):=by
 intro pins s σ H x v vl vu lo hi sl Q I rx hs pl pu q;rcases q with q | q
 ·exact h pins s σ H x v vl vu lo hi sl Q I rx hs pl pu q
 ·exact h' pins s σ H x v vl vu lo hi sl Q I rx hs pl pu q
def tSl(r:V->Option Int->Option Int->Hp->VK->Prop)(te:TE)(tl th:TO):TE:=λσ H Q=>te σ H λx H1=>tl σ H1 λl H2=>th σ H2 λu H3=>r x l u H3 Q
theorem q1l{r:V->Option Int->Option Int->Hp->VK->Prop}(hr:SlR X r)(he:PE X e te)(hl:PO X lo tl)(hu:PO X hi th):PE X (.Subscript e (.Slice lo hi none p2) pos) (tSl r te tl th):=by
 intro pins s σ H Q I h;refine Subscript_ (thn (he pins s σ H _ I h) λv s1 ⟨x,H1,I1,r1,q1⟩=>?_);refine wpAny_Slice (thn (hl pins s1 σ H1 _ I1 q1) λvl s2 ⟨l,H2,I2,pl,q2⟩=>thn (hu pins s2 σ H2 _ I2 q2) λvu s3 ⟨u,H3,I3,pu,q3⟩=>?_);rw[evalPart_none];refine wpAny_pure ?_;have I4:Inv X pins σ H3 {s3 with heap:=s3.heap.push {cls:=.type "slice",data:=.fields #[vl,vu,.none]}}:=I3.kept (t':=s3.toks) λb ob q=>Heap.get?_push_of_some _ q
 obtain⟨T,id,hT,ht,hg⟩:=hr pins {s3 with heap:=s3.heap.push {cls:=.type "slice",data:=.fields #[vl,vu,.none]}} σ H3 x v vl vu l u s3.heap.objs.size Q I4 r1 (Heap.IsSliceOf.new ..) pl pu q3;show wpAny (model X.prog X.w) X.A (subscriptTail e (.Slice lo hi none p2) v (.ref s3.heap.objs.size)) (EP X pins σ Q) X.xe {s3 with heap:=s3.heap.push {cls:=.type "slice",data:=.fields #[vl,vu,.none]}};exact tail_any (ops:=[.ref s3.heap.objs.size,v]) ht hT hg (by with_unfolding_all rfl)
def cutV(xs:List V)(lo hi:Option Int):List V:=(xs.drop (HT.sIx xs.length 0 lo)).take (HT.sIx xs.length xs.length hi - HT.sIx xs.length 0 lo)
theorem q4L(xs:List V)(lo hi:Option Int):(cutV xs lo hi).length<=xs.length:=by
 unfold cutV;rw[List.length_take,List.length_drop];omega
def rSlT(K:PySem.W.Frag):V->Option Int->Option Int->Hp->VK->Prop:=λx lo hi H Q=>∃a xs,x=.ref a/\SqT K H a xs /\
 ¬(HT.sIx xs.length 0 lo=0/\HT.sIx xs.length xs.length hi=xs.length)/\∀p,H p=none->Q (.ref p) (upd H p (.tup (cutV xs lo hi)))
theorem z7s:SlR X (rSlT X.K):=by
 intro pins s σ H x v vl vu lo hi sl Q I rx hs pl pu h;obtain⟨a,xs,rfl,hx,hw,q⟩:=h;cases rx;obtain⟨its,r,ht,hz⟩:=I.tuple hx;have hlen:its.toArray.size=xs.length:=by rw[List.size_toArray];exact r.length.symm
 refine⟨"tuple",_,PyProof.Rows.slot_tuple_getitem.lookup,ht.typeIs,?_⟩;refine HT.getItem_tuple_cut ht hs pl pu (by rw[hlen];exact hw) ?_ (by rw[hlen];exact hz);rw[hlen];refine⟨.ref s.heap.objs.size,_,I.laid (t':=s.toks) (o:=.tup (cutV xs lo hi)) (λb ob q=>Heap.get?_push_of_some _ q) (Nat.le_refl _) ?_,rfl,q _ (I.hok.fresh (Nat.le_refl _))⟩;exact⟨Nat.le_trans (q4L xs lo hi) hz,_,(r.drop (HT.sIx xs.length 0 lo)).take (HT.sIx xs.length xs.length hi - HT.sIx xs.length 0 lo),q3r.new _ _⟩
end
end L2
namespace L2
open PySem PySem.Spec PyProof.Rows
def ixN(n:Nat)(i:Int):Option Nat:=if 0<=i then(if i<n then some i.toNat else none)else if -(n:Int)<=i then some (i+n).toNat else none
def atI{α:Type}(xs:List α)(i:Int):Option α:=(ixN xs.length i).bind λj=>xs[j]?
theorem z0k{n:Nat}{i:Int}{j:Nat}(h:ixN n i=some j):seqIndex? i n=some j/\j<n /\ -(n:Int)<=i/\i<n:=by
 unfold ixN at h;by_cases h0:0<=i
 ·rw[if_pos h0]at h;by_cases h1:i<n
  ·rw[if_pos h1]at h;have e:i.toNat=j:=Option.some.inj h;exact⟨by rw[seqIndex_of h0 h1,e],by omega,by omega,h1⟩
  ·rw[if_neg h1]at h;cases h
 ·rw[if_neg h0]at h;by_cases h1 : -(n:Int)<=i
  ·rw[if_pos h1]at h;have e:(i+n).toNat=j:=Option.some.inj h;exact⟨by rw[seqIndex_neg (by omega) h1,e],by omega,h1,by omega⟩
  ·rw[if_neg h1]at h;cases h
theorem q7D{α:Type}{xs:List α}{i:Int}{v:α}(h:atI xs i=some v):∃j,seqIndex? i xs.length=some j/\xs[j]? = some v/\j<xs.length /\ -(xs.length:Int)<=i/\i<xs.length:=by
 unfold atI at h;cases e:ixN xs.length i with
 | none=>rw[e]at h;cases h
 | some j=>
  rw[e]at h;obtain⟨h1,h2,h3,h4⟩:=z0k e;exact⟨j,h1,h,h2,h3,h4⟩
def z6a(b:Expr):Prop:=∀o i,subscripted b false o i=operate [o,i] (getItem o i)
def IxR(X:Cx)(r:R2):Prop:=
 ∀(value slice:Expr) (pins:List (Addr×Obj)) (s:Shared) (σ:St) (H:Hp) (x y:V) (v u:Value) (Q:VK),Inv X pins σ H s->RelV x v->RelV y u->r x y H Q ->
  subscripted slice false v u=operate [v,u] (getItem v u)->wpAny (model X.prog X.w) X.A (subscriptTail value slice v u) (EP X pins σ Q) X.xe s
def MtR(X:Cx)(id:String)(r:V->List V->Hp->VK->Prop):Prop:=
 ∀(pins:List (Addr×Obj)) (s:Shared) (σ:St) (H:Hp) (x:V) (xs:List V) (v:Value) (us:List Value) (Q:VK),Inv X pins σ H s->RelV x v->Vals xs us->r x xs H Q ->
  wpAny (model X.prog X.w) X.A (call (.builtin id) (v::us)) (EP X pins σ Q) X.xe s
section
variable {X:Cx} {a b:Expr} {ta tb:TE} {pos:Pos}
theorem IxR.or{r r':R2}(h:IxR X r)(h':IxR X r'):IxR X (λx y H Q=>r x y H Q\/r' x y H Q):=by
 intro value slice pins s σ H x y v u Q I rx ry q hs;rcases q with q | q
 ·exact h value slice pins s σ H x y v u Q I rx ry q hs
 ·exact h' value slice pins s σ H x y v u Q I rx ry q hs
theorem z9g{r:R2}(hr:IxR X r)(ha:PE X a ta)(hb:PE X b tb)(hs:z6a b):PE X (.Subscript a b pos) (tOp r ta tb):=by
 intro pins s σ H Q I h;exact Subscript_ (binT ha hb I h λv u s2 x y H2 I2 rx ry q=>hr a b pins s2 σ H2 x y v u Q I2 rx ry q (hs _ _))
def rIxL(K:PySem.W.Frag):R2:=λx y H Q=>∃p xs i v,x=.ref p/\y=.int i/\SqL K H p xs/\atI xs i=some v/\Q v H
def rIxT(K:PySem.W.Frag):R2:=λx y H Q=>∃p xs i v,x=.ref p/\y=.int i/\SqT K H p xs/\atI xs i=some v/\Q v H
def rIxS:R2:=λx y H Q=>∃z i c,x=.str z/\y=.int i/\z.length<=sizeLine/\atI z.cps.toList i=some c/\Q (.str ⟨#[c]⟩) H
theorem z6G:IxR X (rIxL X.K):=by
 intro value slice pins s σ H x y v u Q I rx ry h hs;obtain⟨p,xs,i,z,rfl,rfl,hq,he,q⟩:=h;cases rx;obtain⟨t,rfl⟩:=ry;obtain⟨its,r,pl,hz⟩:=I.list hq;obtain⟨j,h1,h2,h3,h4,h5⟩:=q7D he;obtain⟨w,ew,rw'⟩:=r.get h2;have hl:=r.length;have hn:=q4p;have fin:EP X pins σ Q w s:=⟨z,H,I,rw',q⟩;by_cases h0:0<=i
 ·have hj:i.toNat=j:=by
   rw[seqIndex_of h0 h5]at h1;exact Option.some.inj h1
  exact item_listR pl.isList h0 (by omega) (by rw[hj];simpa using ew) fin hs
 ·have hj:(i+(its.toArray.size:Int)).toNat=j:=by
   rw[seqIndex_neg (by omega) h4]at h1;rw[List.size_toArray,←hl];exact Option.some.inj h1
  exact subscriptTail_builtinR (x:=w) pl.isList.typeIs slot_list_getitem.lookup
   (wpAny_getItem_list_neg (Q:=λr s'=>r=w/\EP X pins σ Q r s') pl.isList (by omega) (by rw[List.size_toArray]<;>omega) (by omega) (by rw[hj];simpa using ew) ⟨rfl,fin⟩) hs
theorem z8k:IxR X (rIxT X.K):=by
 intro value slice pins s σ H x y v u Q I rx ry h hs;obtain⟨p,xs,i,z,rfl,rfl,hq,he,q⟩:=h;cases rx;obtain⟨t,rfl⟩:=ry;obtain⟨its,r,pl,hz⟩:=I.tuple hq;obtain⟨j,h1,h2,h3,h4,h5⟩:=q7D he;obtain⟨w,ew,rw'⟩:=r.get h2;have hl:=r.length;have hn:=q4p;have fin:EP X pins σ Q w s:=⟨z,H,I,rw',q⟩;exact subscriptTail_builtinR (x:=w) pl.typeIs slot_tuple_getitem.lookup
  (getItem_tuple (j:=j) (Q:=λr s'=>r=w/\EP X pins σ Q r s') pl (by omega) (by omega) (by rw[List.size_toArray,←hl];exact h1) (by simpa using ew) ⟨rfl,fin⟩) hs
theorem z8f:IxR X rIxS:=by
 intro value slice pins s σ H x y v u Q I rx ry h hs;obtain⟨z,i,c,rfl,rfl,hz,he,q⟩:=h;obtain⟨t,rfl⟩:=rx;obtain⟨t',rfl⟩:=ry;obtain⟨j,h1,h2,h3,h4,h5⟩:=q7D he;have hl:z.cps.toList.length=z.length:=by simp[Str.length]
 rw[hl]at h1 h4 h5;have hn:=q4p;exact tail_any (typeIs_str s z t) slot_str_getitem.lookup (getItem_str (c:=c) (by
  have e1:decide (i < -(2^63:Int))=false:=decide_eq_false (by omega);have e2:decide (i ≥ 2^63)=false:=decide_eq_false (by omega);rw[e1,e2,Bool.or_false]) (by rw[h1];simpa using h2) ⟨.str ⟨#[c]⟩,H,I.tok _,⟨_,rfl⟩,q⟩) hs
def rIx(K:PySem.W.Frag):R2:=λx y H Q=>rIxL K x y H Q\/rIxT K x y H Q\/rIxS x y H Q
theorem z7t:IxR X (rIx X.K):=z6G.or (z8k.or z8f)
theorem q8X(its:List Value)(n j:Nat)(u:Value):Obj.mapSeq (·.setIfInBounds j u) {cls:=.type "list",data:=.seq its.toArray n} = {cls:=.type "list",data:=.seq (its.set j u).toArray n}:=by
 simp[Obj.mapSeq]
theorem Inv.lst{pins:List (Addr×Obj)}{σ:St}{H:Hp}{s:Shared}{p:Addr}{xs:List V}(I:Inv X pins σ H s)(h:H p=some (.lst xs)) :
  ∃(its:List Value) (n:Nat),Vals xs its/\s.heap.get? p=some {cls:=.type "list",data:=.seq its.toArray n} /\ xs.length<=sizeLine:=by
 obtain⟨z,its,n,r,e⟩:=I.hok p _ h;exact⟨its,n,r,e,z⟩
theorem Inv.lstUpd{pins:List (Addr×Obj)}{σ:St}{H:Hp}{s:Shared}{p:Addr}{xs ys:List V}{its its':List Value}{n n':Nat}{f:Obj->Obj}(I:Inv X pins σ H s)(h:H p=some (.lst xs))
  (ho:s.heap.get? p=some {cls:=.type "list",data:=.seq its.toArray n}) (hf:f {cls:=.type "list",data:=.seq its.toArray n} = {cls:=.type "list",data:=.seq its'.toArray n'}) (r:Vals ys its') (hz:ys.length<=sizeLine) (t:Nat) :
  Inv X pins σ (upd H p (.lst ys)) {s with heap:=s.heap.update p f,toks:=t}:=by
 have e:(s.heap.update p f).get? p=some {cls:=.type "list",data:=.seq its'.toArray n'}:=(by rw[Heap.get?_update_self f ho (by rw[hf]<;>rfl),hf]);refine I.write (x:=p) (e:=p) (by rw[h];trivial) (.inl rfl) (λb u hb q=>(Heap.get?_update_other _ _ (Ne.symm hb)).trans q) ⟨_,e⟩ ?_;exact⟨hz,its',n',r,e⟩
def y0h:V->V->V->Hp->(Hp->Prop)->Prop:=λo i v H Q=>∃p xs k j,o=.ref p/\i=.int k/\H p=some (.lst xs)/\ixN xs.length k=some j/\Q (upd H p (.lst (xs.set j v)))
theorem z3j:PSet X y0h:=by
 intro pins s σ H o i v ov iv u Q I ro ri rv h;obtain⟨p,xs,k,j,rfl,rfl,hp,hj,q⟩:=h;cases ro;obtain⟨t,rfl⟩:=ri;obtain⟨its,n,r,ho,hz⟩:=I.lst hp;obtain⟨h1,h2,h3,h4⟩:=z0k hj;have hl:=r.length;have hn:=q4p;have I':Inv X pins σ (upd H p (.lst (xs.set j v))) {s with heap:=s.heap.update p (Obj.mapSeq (·.setIfInBounds j u))}:=
  I.lstUpd hp ho (q8X its n j u) (r.set rv j) (by rw[List.length_set];exact hz) s.toks
 by_cases h0:0<=k
 ·have hk:k.toNat=j:=by
   rw[seqIndex_of h0 h4]at h1;exact Option.some.inj h1
  exact PySem.W.ki_setAt ho h0 (by omega) (by rw[List.size_toArray,←hl];exact h4) (by rw[hk];exact⟨_,I',q⟩)
 ·have hk:(k+(its.toArray.size:Int)).toNat=j:=by
   rw[seqIndex_neg (by omega) h3]at h1;rw[List.size_toArray,←hl];exact Option.some.inj h1
  exact PySem.W.ki_setBack ho (by omega) (by rw[List.size_toArray,←hl];exact h3) (by omega) (by rw[hk];exact⟨_,I',q⟩)
theorem q6I(lo hi:Option Int)(n:Nat):(sliceBounds lo hi none n).1=((HT.sIx n 0 lo:Nat):Int)/\(sliceBounds lo hi none n).2.1=((HT.sIx n n hi:Nat):Int)/\(sliceBounds lo hi none n).2.2=1:=by
 refine⟨?_,?_,rfl⟩
 ·cases lo with
  | none=>simp[sliceBounds,HT.sIx]
  | some i=>
   simp only[sliceBounds,HT.sIx,Option.getD_none,show(1:Int)>0 by decide,if_true];by_cases h:i<0
   ·simp only[h,if_true]<;>omega
   ·simp only[h,if_false]<;>omega
 ·cases hi with
  | none=>simp[sliceBounds,HT.sIx]
  | some i=>
   simp only[sliceBounds,HT.sIx,Option.getD_none,show(1:Int)>0 by decide,if_true];by_cases h:i<0
   ·simp only[h,if_true]<;>omega
   ·simp only[h,if_false]<;>omega
theorem q5R(its:List Value)(lo hi:Option Int):slicePick its.toArray lo hi none=((its.drop (HT.sIx its.length 0 lo)).take (HT.sIx its.length its.length hi - HT.sIx its.length 0 lo)).toArray:=by
 obtain⟨h1,h2,h3⟩:=q6I lo hi its.toArray.size;unfold slicePick;rw[h1,h2,h3];simp only[sliceRange_one,pick_run,List.size_toArray]<;>rfl
def rSlL(K:PySem.W.Frag):V->Option Int->Option Int->Hp->VK->Prop:=λx lo hi H Q=>∃a xs,x=.ref a/\SqL K H a xs/\∀p,H p=none->Q (.ref p) (upd H p (.lst (cutV xs lo hi)))
theorem z5X:SlR X (rSlL X.K):=by
 intro pins s σ H x v vl vu lo hi sl Q I rx hs pl pu h;obtain⟨a,xs,rfl,hx,q⟩:=h;cases rx;obtain⟨its,r,ht,hz⟩:=I.list hx;have hlen:=r.length;refine⟨"list",_,slot_list_getitem.lookup,ht.isList.typeIs,?_⟩;refine wpAny_getItem_list_slice ht.isList hs pl pu .none (by simp) ?_ (by rw[List.size_toArray]<;>omega);rw[q5R,←hlen];refine⟨.ref s.heap.objs.size,_,I.laid (t':=s.toks) (o:=.lst (cutV xs lo hi)) (λb ob q=>Heap.get?_push_of_some _ q) (Nat.le_refl _) ?_,rfl,q _ (I.hok.fresh (Nat.le_refl _))⟩;exact⟨Nat.le_trans (q4L xs lo hi) hz,_,0,(r.drop (HT.sIx xs.length 0 lo)).take (HT.sIx xs.length xs.length hi - HT.sIx xs.length 0 lo),Heap.get?_push_size _ rfl⟩
theorem q2y:q1p X (.builtin "len") (λxs H Q=>∃p ys,xs=[.ref p]/\(SqL X.K H p ys\/SqT X.K H p ys)/\Q (.int ys.length) H):=by
 intro pins s σ H xs us Q I r h;obtain⟨p,ys,rfl,hq,q⟩:=h;obtain⟨u,rfl,rx⟩:=q4e r;cases rx;have hn:=q4p;rcases hq with hq | hq
 ·obtain⟨its,r',pl,hz⟩:=I.list hq;have hlen:=r'.length;exact Calls.call_len_list pl.isList (by simp only[List.size_toArray]<;>omega) ⟨.int ys.length,H,I.tok _,⟨s.toks+1,by rw[List.size_toArray,hlen]⟩,q⟩
 ·obtain⟨its,r',pl,hz⟩:=I.tuple hq;have hlen:=r'.length;exact len_tuple pl (by simp only[List.size_toArray]<;>omega) ⟨.int ys.length,H,I.tok _,⟨s.toks+1,by rw[List.size_toArray,hlen]⟩,q⟩
theorem q6c:q1p X (.builtin "len") (λxs H Q=>∃z,xs=[.str z]/\z.length<=sizeLine/\Q (.int z.length) H):=by
 intro pins s σ H xs us Q I r h;obtain⟨z,rfl,hz,q⟩:=h;obtain⟨u,rfl,t,rfl⟩:=q4e r;have hn:=q4p;exact len_str (by omega) ⟨.int z.length,H,I.tok _,⟨_,rfl⟩,q⟩
theorem q2p:q1p X (.type "list") (λxs H Q=>∃p ys,xs=[.ref p]/\(SqL X.K H p ys\/SqT X.K H p ys)/\∀l,H l=none->Q (.ref l) (upd H l (.lst ys))):=by
 intro pins s σ H xs us Q I r h;obtain⟨p,ys,rfl,hq,q⟩:=h;obtain⟨u,rfl,rx⟩:=q4e r;cases rx;have fin:∀(its:List Value),Vals ys its->ys.length<=sizeLine->∀(h':Heap) (c':Nat),(∀b o',s.heap.get? b=some o'->h'.get? b=some o') ->
   h'.get? s.heap.objs.size=some {cls:=.type "list",dict:=none,data:=.seq its.toArray c',slots:=#[]} -> EP X pins σ Q (.ref s.heap.objs.size) {s with heap:=h'}:=λits r' hz h' c' kp e=>
  ⟨.ref s.heap.objs.size,_,I.laid (t':=s.toks) kp (Nat.le_refl _) (show q1Q X.prog X.w _ h' _ (.lst ys)from⟨hz,its,c',r',e⟩),rfl,q _ (I.hok.fresh (Nat.le_refl _))⟩
 rcases hq with hq | hq
 ·obtain⟨its,r',pl,hz⟩:=I.list hq;have hlen:=r'.length;obtain⟨o,ho,hc,n,hd⟩:=pl.isList;exact call_list_seq p (.inl rfl) ho hc hd (λh' c' kp e=>fin its r' hz h' c' kp e) (by simp only[List.size_toArray]<;>omega)
 ·obtain⟨its,r',pl,hz⟩:=I.tuple hq;have hlen:=r'.length;obtain⟨o,ho,hc,n,hd⟩:=pl;exact call_list_seq p (.inr rfl) ho hc hd (λh' c' kp e=>fin its r' hz h' c' kp e) (by simp only[List.size_toArray]<;>omega)
theorem q3b:q1p X (.type "tuple") (λxs H Q=>∃p ys,xs=[.ref p]/\((SqL X.K H p ys/\∀l,H l=none->Q (.ref l) (upd H l (.tup ys)))\/(SqT X.K H p ys/\Q (.ref p) H))):=by
 intro pins s σ H xs us Q I r h;obtain⟨p,ys,rfl,h⟩:=h;obtain⟨u,rfl,rx⟩:=q4e r;cases rx;rcases h with⟨hq,q⟩ | ⟨hq,q⟩
 ·obtain⟨its,r',pl,hz⟩:=I.list hq;have hlen:=r'.length;refine call_tuple_list pl.isList (λh' kp=>?_) (by simp only[List.size_toArray]<;>omega);have I1:Inv X pins σ H {s with heap:=h'}:=I.kept (t':=s.toks) kp;have I2:Inv X pins σ (upd H h'.objs.size (.tup ys)) {s with heap:=h'.push {cls:=.type "tuple",data:=.seq its.toArray}}:=
   I1.laid (t':=s.toks) (λb o e=>Heap.get?_push_of_some _ e) (Nat.le_refl _) (show q1Q X.prog X.w _ _ _ (.tup ys)from⟨hz,its,r',q3r.new _ _⟩)
  exact⟨.ref h'.objs.size,_,I2,rfl,q _ (I1.hok.fresh (Nat.le_refl _))⟩
 ·obtain⟨its,r',pl,hz⟩:=I.tuple hq;exact call_tuple_same pl ⟨.ref p,H,I,rfl,q⟩
def tyV(K:PySem.W.Frag)(T:String)(x:V)(H:Hp):Prop:=match x with
 | .str _=>T = "str"
 | .int _=>T = "int"
 | .ref p=>(T = "list" /\ ∃xs,SqL K H p xs)\/(T = "tuple" /\ ∃o,K.lookup p=some o/\o.cls=.type "tuple" /\ o.dict=none) \/
   (T = "dict" /\ ((∃kvs,H p=some (.dK kvs))\/∃kvs,H p=some (.dT kvs)))\/(T = "set" /\ ∃S n,H p=some (.set S n))
 | _=>False
theorem z3r{pins:List (Addr×Obj)}{σ:St}{H:Hp}{s:Shared}{T:String}{x:V}{v:Value}(I:Inv X pins σ H s)(r:RelV x v)(ty:tyV X.K T x H) :
  s.TypeIs v T/\∀a,v=.ref a->∃ob,s.heap.get? a=some ob/\ob.dict=none:=by
 cases x with
 | str z=>
  obtain⟨t,rfl⟩:=r;cases(show T = "str" from ty);exact⟨typeIs_str s z t,λ_ e=>nomatch e⟩
 | int i=>
  obtain⟨t,rfl⟩:=r;cases(show T = "int" from ty);exact⟨typeIs_int s i t,λ_ e=>nomatch e⟩
 | ref p=>
  cases r;rcases ty with⟨rfl,xs,hq⟩ | ⟨rfl,o,hk,hc,hd⟩ | ⟨rfl,hk⟩ | ⟨rfl,S,n,hk⟩
  ·obtain⟨its,_,pl,_⟩:=I.list hq;refine⟨pl.isList.typeIs,λa e=>?_⟩;cases e;obtain⟨o,n,e,c,hd,_⟩:=pl;exact⟨o,e,hd⟩
  ·refine⟨⟨o,I.kIn p o hk,hc⟩,λa e=>?_⟩;cases e;exact⟨o,I.kIn _ o hk,hd⟩
  ·have z:∃o,s.heap.get? p=some o/\o.ExactDict:=by
    rcases hk with⟨kvs,hk⟩ | ⟨kvs,hk⟩
    ·obtain⟨_,_,_,_,o,_,_,e,ex,_⟩:=I.hok p _ hk;exact⟨o,e,ex⟩
    ·obtain⟨_,_,_,_,o,_,_,e,ex,_⟩:=I.hok p _ hk;exact⟨o,e,ex⟩
   obtain⟨o,e,ex⟩:=z;refine⟨⟨o,e,ex.1⟩,λa e2=>?_⟩;cases e2;exact⟨o,e,ex.2.1⟩
  ·obtain⟨o,_,_,_,e,ex,_⟩:=I.hok p _ hk;refine⟨⟨o,e,ex.1⟩,λa e2=>?_⟩;cases e2;exact⟨o,e,ex.2.1⟩
 | _=>exact False.elim ty
def tBM0(K:PySem.W.Frag)(T:String)(r:V->List V->Hp->VK->Prop)(to:TE):TE:=λσ H Q=>to σ H λx H1=>tyV K T x H1/\r x [] H1 Q
def tBM(K:PySem.W.Frag)(T:String)(r:V->List V->Hp->VK->Prop)(to:TE)(t:TA):TE:=λσ H Q=>to σ H λx H1=>tyV K T x H1/\t σ H1 λxs H2=>r x xs H2 Q
variable {o e:Expr} {es:List Expr} {to:TE} {t:TA} {name:Str} {apos cpos:Pos} {T id:String} {r:V->List V->Hp->VK->Prop}
theorem z6P(pa:PlainAttrs T)(slot:Slot T name id)(hty:typeOf (.builtin id)=pure (.type "method_descriptor"))(hm:MtR X id r)(ho:PE X o to)
  (hbase:attributeBase o name X.env (eval o X.env)=eval o X.env:=by rfl) (hline:(apos.endLine==cpos.line)=true:=by rfl):PE X (.Call (.Attribute o name apos) [] [] cpos) (tBM0 X.K T r to):=by
 intro pins s σ H Q I h;refine wpAny_Call_method0_late hbase hline (thn (ho pins s σ H _ I h) λv s1 ⟨x,H1,I1,r1,ty,q1⟩=>?_);obtain⟨h1,h2⟩:=z3r I1 r1 ty;exact⟨T,id,pa,slot,hty,h1,h2,Calls.callWith_builtin rfl (PySem.evalArgs_none (hm pins s1 σ H1 x [] v [] Q I1 r1 .nil q1))⟩
theorem y0j(pa:PlainAttrs T)(slot:Slot T name id)(hty:typeOf (.builtin id)=pure (.type "method_descriptor"))(hm:MtR X id r)(ho:PE X o to)(ha:PA X (e::es) t)
  (hbase:attributeBase o name X.env (eval o X.env)=eval o X.env:=by rfl)
  (hfew:((backTo cpos (starEach (e::es) X.env)).all (λx=>!x.1)&&(backToKw cpos (keywordEach [] X.env)).all (λx=>x.1.isSome)
   && decide ((e::es).length+([]:List Keyword).length+(if([]:List Keyword).isEmpty then 0 else 1)<30))=true:=by rfl)
  (hline:(apos.endLine==cpos.line)=true:=by rfl) (hs:starEach (e::es) X.env=(false,eval e X.env)::starEach es X.env:=by rfl) (hplain:(backTo cpos (starEach es X.env)).any (·.1)=false:=by rfl) :
  PE X (.Call (.Attribute o name apos) (e::es) [] cpos) (tBM X.K T r to t):=by
 intro pins s σ H Q I h;refine wpAny_Call_method_late hbase hfew hline rfl (thn (ho pins s σ H _ I h) λv s1 ⟨x,H1,I1,r1,ty,q1⟩=>?_);obtain⟨h1,h2⟩:=z3r I1 r1 ty;refine⟨T,id,pa,slot,hty,h1,h2,?_⟩;have hA:=ha cpos pins s1 σ H1 _ I1 q1;rw[hs]at hA ⊢;refine Calls.callWith_builtin (by show(false||(backTo cpos (starEach es X.env)).any (·.1))=false;rw[hplain]<;>rfl) (Calls.evalArgs_plain ?_);exact thn hA λus s2 ⟨vs,H2,I2,r2,q2⟩=>hm pins s2 σ H2 x vs v us Q I2 r1 r2 q2
end
end L2
namespace L2
open PySem PySem.Spec PyProof.Rows
def MtM(X:Cx)(id:String)(r:V->List V->Hp->VK->Prop):Prop:=
 ∀(pins:List (Addr×Obj)) (s:Shared) (σ:St) (H:Hp) (x:V) (xs:List V) (v:Value) (us:List Value) (Q:VK),Inv X pins σ H s->RelV x v->Vals xs us->r x xs H Q ->
  wpAny (model X.prog X.w) X.A (call (.builtin id) (v::us)) (EP X pins σ Q) X.xe s
theorem Vals.unc{x:V}{xs:List V}{us:List Value}(h:Vals (x::xs) us):∃u ws,us=u::ws/\RelV x u/\Vals xs ws:=by
 cases h with
 | cons r t=>exact⟨_,_,rfl,r,t⟩
theorem Vals.nl{us:List Value}(h:Vals [] us):us=[]:=by cases h;rfl
theorem Vals.one{x:V}{us:List Value}(h:Vals [x] us):∃u,us=[u]/\RelV x u:=by
 obtain⟨u,ws,rfl,r,t⟩:=h.unc;cases t.nl;exact⟨_,rfl,r⟩
theorem Vals.two{x y:V}{us:List Value}(h:Vals [x,y] us):∃u v,us=[u,v]/\RelV x u/\RelV y v:=by
 obtain⟨u,ws,rfl,r,t⟩:=h.unc;obtain⟨v,rfl,q⟩:=t.one;exact⟨_,_,rfl,r,q⟩
theorem Vals.rep{xs:List V}{us:List Value}(h:Vals xs us):∀k:Nat,Vals (List.replicate k xs).flatten (List.replicate k us).flatten
 | 0=>.nil
 | k+1=>by rw[List.replicate_succ,List.replicate_succ,List.flatten_cons,List.flatten_cons];exact Vals.append h (Vals.rep h k)
theorem q6l(its:List Value):∀(k:Nat) (acc:List Value),
  List.foldl (λx1 x2=>x1++x2) acc.toArray (List.replicate k its.toArray)=(acc++(List.replicate k its).flatten).toArray
 | 0,acc=>by simp
 | k+1,acc=>by
  have e:acc.toArray++its.toArray=(acc++its).toArray:=by simp
  have e2:(acc++its)++(List.replicate k its).flatten=acc++(List.replicate (k+1) its).flatten:=(by rw[List.replicate_succ,List.flatten_cons,List.append_assoc]);rw[←e2,←q6l its k (acc++its),←e,List.replicate_succ,List.foldl_cons]
section
variable {X:Cx} {pins:List (Addr×Obj)} {σ:St} {H:Hp} {s:Shared} {l b:Addr} {xs ys zs:List V}
theorem Inv.lset{its its':List Value}{n:Nat}{f:Array Value->Array Value}{t':Nat}(I:Inv X pins σ H s)(hH:H l=some (.lst xs))
  (e:s.heap.get? l=some {cls:=.type "list",data:=.seq its.toArray n}) (hf:f its.toArray=its'.toArray) (hv:Vals ys its') (hz:ys.length<=sizeLine) :
  Inv X pins σ (upd H l (.lst ys)) {s with heap:=s.heap.update l (Obj.mapSeq f),toks:=t'}:=by
 have q:=PySem.IsL.update e f;rw[hf]at q;refine I.write (x:=l) (e:=l) (by rw[hH];exact trivial) (.inl rfl) (λb' u hb hu=>(Heap.get?_update_other s.heap (Obj.mapSeq f) (Ne.symm hb)).trans hu) ⟨_,q⟩ ?_;exact⟨hz,its',_,hv,q⟩
theorem Inv.lnew{its:List Value}{t':Nat}(I:Inv X pins σ H s)(hv:Vals ys its)(hz:ys.length<=sizeLine) :
  Inv X pins σ (upd H s.heap.objs.size (.lst ys)) {s with heap:=s.heap.push {cls:=.type "list",data:=.seq its.toArray},toks:=t'}:=
 I.laid (λ_ _ q=>Heap.get?_push_of_some _ q) (Nat.le_refl _) ⟨hz,its,0,hv,Heap.get?_push_size _ rfl⟩
theorem Inv.fresh(I:Inv X pins σ H s):H s.heap.objs.size=none:=I.hok.fresh (Nat.le_refl _)
theorem Inv.lstM(I:Inv X pins σ H s)(hH:H l=some (.lst xs)):xs.length<=sizeLine/\∃(its:List Value) (n:Nat),Vals xs its/\xs.length=its.length/\s.heap.get? l=some {cls:=.type "list",data:=.seq its.toArray n}:=by
 obtain⟨z,its,n,r,e⟩:=I.hok l _ hH;exact⟨z,its,n,r,r.length,e⟩
theorem z2p{n:Nat}(h:n<=sizeLine):Builtin.List.listTooLong n=false:=by
 unfold Builtin.List.listTooLong;exact decide_eq_false (by omega)
end
section
variable {X:Cx}
def z4r:V->List V->Hp->VK->Prop:=λx vs H Q=>∃l xs y,x=.ref l/\vs=[y]/\H l=some (.lst xs)/\xs.length<sizeLine/\Q .non (upd H l (.lst (xs++[y])))
theorem z1P:MtM X "list.append" z4r:=by
 intro pins s σ H x vs v us Q I rx rv h;obtain⟨l,xs,y,rfl,rfl,hH,hz,q⟩:=h;cases rx;obtain⟨u,rfl,ru⟩:=rv.one;obtain⟨z,its,n,r,hl,e⟩:=I.lstM hH;refine call_meets F.slot_list_append ⟨_,e,rfl⟩ F.entry_list_append (F.args_list_append_2 _ _) (PySem.list_append l its.toArray n u (by rw[List.size_toArray];omega)) ⟨e,?_⟩;refine⟨.non,_,I.lset (its':=its++[u]) hH e (by simp) (r.append (.cons ru .nil)) ?_,rfl,q⟩;rw[List.length_append,List.length_singleton];omega
def rCat:R2:=λx y H Q=>∃l b xs zs,x=.ref l/\y=.ref b/\H l=some (.lst xs)/\H b=some (.lst zs)/\xs.length+zs.length<=sizeLine/\∀p,H p=none->Q (.ref p) (upd H p (.lst (xs++zs)))
theorem z8d:OpR X (binaryOp .Add) rCat:=by
 intro pins s σ H x y v u Q I rx ry h;obtain⟨l,b,xs,zs,rfl,rfl,hH,hB,hz,q⟩:=h;cases rx;cases ry;obtain⟨z,its,n,r,hl,e⟩:=I.lstM hH;obtain⟨z2,its2,n2,r2,hl2,e2⟩:=I.lstM hB;refine PySem.P.add_list e e2 ?_ (by rw[List.size_toArray,List.size_toArray];omega);have ea:its.toArray++its2.toArray=(its++its2).toArray:=by simp
 rw[ea];exact⟨.ref _,_,I.lnew (t':=s.toks) (r.append r2) (by rw[List.length_append];omega),rfl,q _ I.fresh⟩
def rRep:R2:=λx y H Q=>∃l k xs,x=.ref l/\y=.int k/\H l=some (.lst xs) /\ -(2^63)<=k/\k<2^63/\xs.length*k.toNat<=sizeLine /\
 ∀p,H p=none->Q (.ref p) (upd H p (.lst (List.replicate k.toNat xs).flatten))
theorem z6k{α:Type}(xs:List α)(k:Nat):(List.replicate k xs).flatten.length=k*xs.length:=by
 induction k with
 | zero=>simp
 | succ k ih=>rw[List.replicate_succ,List.flatten_cons,List.length_append,ih,Nat.succ_mul,Nat.add_comm]
theorem z8i:OpR X (binaryOp .Mult) rRep:=by
 intro pins s σ H x y v u Q I rx ry h;obtain⟨l,k,xs,rfl,rfl,hH,h1,h2,hz,q⟩:=h;cases rx;obtain⟨t,rfl⟩:=ry;obtain⟨z,its,n,r,hl,e⟩:=I.lstM hH;have hlen:its.toArray.size*k.toNat<=sizeLine:=by rw[List.size_toArray,←hl];exact hz
 have hcap:¬its.toArray.size*k.toNat>(2^63 - 1)/8:=by
  have:(sizeLine:Nat)<=(2^63 - 1)/8:=by decide
  omega
 have hfit:¬(!Builtin.List.listFitsIndex k)=true:=(by rw[fitsIndex_both h1 h2];exact Bool.false_ne_true);have hlong:¬Builtin.List.listTooLong (its.toArray.size*k.toNat)=true:=(by rw[z2p hlen];exact Bool.false_ne_true);have hnew:List.foldl (λx1 x2=>x1++x2) #[] (List.replicate (if its.toArray.isEmpty=true then 0 else k.toNat) its.toArray)=(List.replicate k.toNat its).flatten.toArray:=by
  have f0:∀m:Nat,List.foldl (λx1 x2=>x1++x2) #[] (List.replicate m its.toArray)=(List.replicate m its).flatten.toArray:=λm=>by have:=q6l its m [];rw[List.nil_append]at this;exact this
  rw[f0];cases its with
  | nil=>simp
  | cons a r'=>rw[if_neg (by simp)]
 refine wpAny_binaryOp_repeat_ref (T:="list") (U:="int") (by decide) ⟨_,e,rfl⟩ (λs'=>typeIs_int s' k t) noFill_list_mul F.fills_int_mul F.slot_int_rmul repeat_list F.slot_int_index.lookup
  (call_meets F.slot_int_rmul (typeIs_int s k t) F.entry_int_rmul (F.args_int_rmul_2 _ _) (int___rmul___int_list k t l its.toArray n)
   ⟨e,rfl,⟨_,e,rfl⟩,call_meets F.slot_list_mul ⟨_,e,rfl⟩ F.entry_list_mul (F.args_list_mul_2 _ _) (AutoListH.list___mul___list_int_3 l its.toArray n k t hfit hcap hlong) ⟨e,?_⟩⟩)
 rw[hnew];exact⟨.ref _,_,I.lnew (t':=s.toks) (r.rep k.toNat) (by rw[z6k,Nat.mul_comm];exact hz),rfl,q _ I.fresh⟩
end
section
variable {prog:Program} {w:World} {A:Around} {E:Value->Shared->Prop} {s:Shared}
end
section
variable {X:Cx}
end
end L2
namespace Att
open PySem PySem.W PySem.Calls PyProof.Rows
theorem q4x{P:Params}{h:Heap}:∀(ns:List Int) (vs:List Value),WellAll P h vs (ns.map WData.int)->IntsAre vs ns:=by
 intro ns
 induction ns with
 | nil=>
  intro vs w;rw[List.map_nil]at w;cases w;exact .nil
 | cons n ns ih=>
  intro vs w;rw[List.map_cons]at w;cases w with
  | cons a b=>
   cases a;exact .cons _ _ (ih _ b)
theorem z1X{l:OpenLaw}{n:Nat}(hn:l.most=some n){P:Params}{h:Heap}{args:List WData}{vals:List Value}
  (hpre:l.row.toRowW.claim.pre args=true) (hwl:WellAll P h vals args) :
  ∃a vs ns,vals=[Value.ref a]/\args=[WData.list (ns.map WData.int)]/\h.get? a=some {cls:=.type "list",data:=.seq vs.toArray} /\ IntsAre vs ns/\ns.length<=n:=by
 have hsh:WShape.hasAll [] args [.list .int]=true:=(pre_splitW hpre).1;have hc:l.pre.holds [] {args:=args} = true:=(pre_splitW hpre).2;obtain⟨d,r,rfl,h1,h2⟩:=hasAllW_cons hsh;obtain rfl:=hasAllW_nil h2;obtain⟨xs,rfl,h3⟩:=hasW_list h1;obtain⟨ns,rfl⟩:=items_int h3;have hlen:ns.length<=n:=by
  unfold OpenLaw.pre at hc;have h4:(WTm.not (.lt (.lit (.int (n:Int))) (.len (.arg 0)))).holds [] {args:=[.list (ns.map .int)]} = true:=by have h4:=(holds_andW hc).1;rw[hn]at h4;exact h4
  have h5:=condW_of h4 (w_not (w_lt w_lit (w_len_list (w_arg rfl))));rw[List.length_map]at h5;refine Nat.le_of_not_lt λq=>?_;have q':(n:Int)<((ns.length:Nat):Int):=by omega
  first
   | (rw[decide_eq_true q']at h5;exact absurd h5 (by decide))
   | (simp at h5;omega)
 cases hwl with
 | cons w1 w2=>
  cases w2;cases w1 with
  | list ho hall=>exact⟨_,_,ns,rfl,rfl,ho,q4x ns _ hall,hlen⟩
theorem z0N(l:OpenLaw)(args:List WData):l.row.toRowW.claim.post args (.bool true) args=true:=
 postW_of (r:=l.row.toRowW) (X:=(true==true))
  (show WShape.has [] (.bool true) .bool=true by first | rfl | decide | simp[WShape.has,WShape.arms,WShape.armsAll])
  (show(WTm.eq .res (.lit (.bool true))).value [] {args:=args,res:=some (.bool true),after:=args} = some (.bool (true==true))from w_eq_bool (w_res rfl) w_lit) rfl
theorem attach_call{l:OpenLaw}{n:Nat}{q:Program}{loose:List Str}{XP:(Str->Option Value)->Heap->Prop}{YP:World->Heap->Prop}{d:DefRec}
  (hn:l.most=some n) (hdf:d.params.defaults=[])
  (call:∀(w:World) (s₀ s₁:Shared) (mg mb:Str->Option Value) (fa:Addr) (o:Obj) (pm cd doc:Value) (a:Addr) (vs:List Value) (ns:List Int),
   Ground q loose [] XP w s₀ mg mb s₁.heap->YP w s₁.heap ->
   s₁.heap.get? fa=some o->o.data=.func (docDef d.name d.params d.body d.scope pm cd doc)->s₁.heap.CodeRec cd d.name->mg d.name=some (.ref fa) ->
   s₁.heap.get? a=some {cls:=.type "list",data:=.seq vs.toArray} -> IntsAre vs ns->ns.length<=n->s₁.gens = #[] ->
   codeAny (model l.prog w) callerA (.call (.ref fa) ⟨[.ref a],[]⟩) (λr s'=>r=.ok (.ret (.bool true))/\OldK s₁.heap s'.heap/\s'.os=s₁.os/\AllBare s'.gens) s₁) :
  WalkO q loose XP YP l.row.toRowW d [] (λf vs=>PySem.call f vs):=by
 intro w s₀ s₁ mg mb G Y fa o pm cd doc dV kV ho hd hcd hD hmg hg args vals as hpre hlay hrd hwl hlo;obtain rfl:dV=.none:=Dflts.none hD hdf;obtain rfl:kV=.none:=Dflts.noKw hD;obtain⟨a,vs,ns,rfl,rfl,hobj,hints,hlen⟩:=z1X hn hpre hwl;refine enter_call (codeAny_mono (call w s₀ s₁ mg mb fa o pm cd doc a vs ns G Y ho (fd_plain hd) hcd hmg hobj hints hlen hg) λr s' hq=>?_);obtain⟨rfl,h2,h3,h4⟩:=hq;exact⟨.inl ⟨.bool true,.bool true,[],rfl,λ_=>rfl,.bool true,z0N l _,λ_=>⟨List.Pairwise.nil,λ_ hm=>(nomatch hm)⟩⟩,h2,h3,h4⟩
section
variable {prog:Program} {w:World} {A:Around} {E:Value->Shared->Prop} {s:Shared} {K:Frag}
def y0p(h:Heap)(L d:Addr):List (Addr×Obj):=(List.range h.objs.size).filterMap λa=>if a=L\/a=d then none else(h.get? a).map λo=>(a,o)
end
end Att
namespace L2
open PySem PySem.Spec PyProof.Rows
theorem q6H:∀{vs:List Value} {ns:List Int},IntsAre vs ns->Vals (ns.map V.int) vs
 | _,_,.nil=>.nil
 | _,_,.cons n t h=>.cons ⟨t,rfl⟩ (q6H h)
def Only(H:Hp):Prop:=∀b,H b=none\/∃o xs,H b=some (.frz o (.lst xs))
theorem z3m{P:Program}{w:World}{K:PySem.W.Frag}{mg mb:Str->Option Value}{CX:CXT}{k:Nat}{fa a:Addr}{fd:FuncData}{x:Str}{sp:Sp}{s₁:Shared}{vs:List Value}{ns:List Int}
  (KX:K.In s₁.heap) (hns:s₁.heap.Ns mainGlobals mg) (hb:s₁.heap.Ns builtinsNs mb) (hbb:∀x:Str,x ≠ "__name__" -> mb x=bootBuiltins x) (hlim:s₁.heap.NoLimit) (hg:s₁.gens = #[])
  (ha:s₁.heap.get? a=some {cls:=.type "list",data:=.seq vs.toArray}) (hi:IntsAre vs ns) (hl:ns.length<=sizeLine) (hr:Room k callerA)
  (F:∀base:Heap,K.In base->base.Ns mainGlobals mg->FnOk P w K mg base CX k fa fd [x] sp) (hbind:∀(s:Shared) (u:Value),BindsTo s fd ⟨[u],[]⟩ [(x,u)])
  (hsp:∀H:Hp,Only H->SqL K H a (ns.map V.int)->sp [.ref a] H (λv _=>v=.bl true) λ_ _ _=>False)
  (hCX:∀H e s',CX [] H s₁ (λ_ _ _=>False) e s'->False) :
  codeAny (model P w) callerA (.call (.ref fa) ⟨[.ref a],[]⟩) (λr s'=>r=.ok (.ret (.bool true))/\OldK s₁.heap s'.heap/\s'.os=s₁.os/\AllBare s'.gens) s₁:=by
 have rv:=q6H hi;have lenV:=hi.length;have core:∀H:Hp,Only H->SqL K H a (ns.map V.int)->HOk P w H s₁.heap->(∀b,H b≠none->b=a)->(H a≠none->K.lookup a=none) ->
   codeAny (model P w) callerA (.call (.ref fa) ⟨[.ref a],[]⟩) (λr s'=>r=.ok (.ret (.bool true))/\OldK s₁.heap s'.heap/\s'.os=s₁.os/\AllBare s'.gens) s₁:=by
  intro H hO hS hok hA hK;have base_of:∀{b:Addr} {o:Obj},s₁.heap.get? b=some o->H b=none->(hidT s₁.heap H).get? b=some o:=λe n=>z2y e n
  have noA:∀{b:Addr} {o:Obj} {es:Array DictEntry} {ep:Nat},s₁.heap.get? b=some o->o.data=.dict es ep->H b=none:=λ{b o es ep} e d=>by
   cases q:H b with
   | none=>rfl
   | some u=>
    have e':b=a:=hA b (by rw[q];simp);subst e';rw[ha]at e;cases e;have d':Data.seq vs.toArray _=Data.dict es ep:=d;cases d'
  have nsK:∀{b:Addr} {m:Str->Option Value},s₁.heap.Ns b m->(hidT s₁.heap H).Ns b m:=λ{b m} ⟨o,es,ep,e,d,r⟩=>⟨o,es,ep,base_of e (noA e d),d,r⟩;have hKb:K.In (hidT s₁.heap H):=λb o e=>base_of (KX b o e) (by
   cases q:H b with
   | none=>rfl
   | some u=>
    have e':b=a:=hA b (by rw[q];simp);subst e';rw[hK (by rw[q];simp)]at e;cases e)
  have hM:Mod K mg (hidT s₁.heap H):=⟨hKb,nsK hns,⟨mb,nsK hb,hbb⟩,let ⟨mc,h1,h2⟩:=hlim;⟨mc,nsK h1,h2⟩⟩;have e0:Env0 P w K mg (hidT s₁.heap H) callerA [] s₁ H:=⟨rfl,hM,λb o e=>z6C e,Nat.le_of_eq (z0s _ _),trivial,λb hb=>absurd (show b∈([]:List Addr)from hb) (by simp),hok,.of_eq hg⟩;refine codeAny_mono ((F _ hKb (nsK hns)).run callerA [] s₁ H ⟨[.ref a],[]⟩ [.ref a] [.ref a] _ _ hr e0 (hbind s₁ (.ref a)) (.cons rfl .nil) (hsp H hO hS)) λr s' h=>?_;cases r with
  | error e=>exact(hCX H e s' h).elim
  | ok fl=>
   cases fl with
   | next=>exact False.elim h
   | brk=>exact False.elim h
   | cont=>exact False.elim h
   | ret u=>
    obtain⟨v,H',os,bare,un,hok',r',q⟩:=h;have q':v=.bl true:=q;subst q';obtain rfl:u=Value.bool true:=r';refine⟨rfl,OldK.of_keep λb o e=>?_,os,bare⟩;cases q:H b with
    | none=>exact un.keep b o e q (by intro z;exact absurd (show b∈([]:List Addr)from z) (by simp)) (by simp)
    | some u=>
     rcases hO b with z | ⟨ob,xs,z⟩
     ·rw[q]at z;cases z
     ·have z2:=un.frzs b ob _ z;obtain⟨e1,_⟩:=hok b _ z;obtain⟨e2,_⟩:=hok' b _ z2;rw[e]at e1;cases e1;exact e2
 cases hk:K.lookup a with
 | some o=>
  have e:=KX a o hk;rw[ha]at e;cases e;refine core (λ_=>none) (λ_=>.inl rfl) (.inr ⟨_,vs.toArray,_,hk,rfl,rfl,rfl,by rw[List.size_toArray,lenV];exact hl,by simpa using rv⟩) (λb u z=>by have z':(none:Option HO)=some u:=z;cases z') (λb z=>absurd rfl z) λz=>absurd rfl z
 | none=>
  refine core (λb=>if b=a then some (.frz {cls:=.type "list",data:=.seq vs.toArray} (.lst (ns.map V.int)))else none) (λb=>?_) (.inl (.inr ⟨{cls:=.type "list",data:=.seq vs.toArray},if_pos rfl⟩)) (λb u z=>?_) (λb z=>?_) λ_=>hk
  ·by_cases hb:b=a
   ·exact .inr ⟨_,_,if_pos hb⟩
   ·exact .inl (if_neg hb)
  ·by_cases hb:b=a
   ·have z':=(if_pos hb).symm.trans z;cases z';subst hb;exact⟨ha,by rw[List.length_map];exact hl,vs,_,rv,ha⟩
   ·have z':=(if_neg hb).symm.trans z;cases z'
  ·by_cases hb:b=a
   ·exact hb
   ·exact absurd (if_neg hb) z
end L2
namespace L2
open PySem PySem.Spec PyProof.Rows
abbrev KOf{K:PySem.W.Frag}{h:Heap}(_:K.In h):PySem.W.Frag:=K
theorem walk_of{l:PySem.W.OpenLaw}{n k:Nat}{q:Program}{loose:List Str}{XP:(Str->Option Value)->Heap->Prop}{YP:World->Heap->Prop}{d:DefRec}{K:Params->PySem.W.Frag}{CX:World->CXT}{sp:World->Sp}{x:Str}
  (hn:l.most=some n) (hn2:n<=sizeLine) (hdf:d.params.defaults=[]) (hr:Room k callerA)
  (hY:∀(w:World) (h:Heap),YP w h->(K w.params).In h)
  (F:∀(w:World) (mg:Str->Option Value) (fa:Addr) (h:Heap),(K w.params).In h->h.Ns mainGlobals mg->mg d.name=some (.ref fa) ->
   ∃fd:FuncData,(∀(s:Shared) (u:Value),BindsTo s fd ⟨[u],[]⟩ [(x,u)]) /\
    ∀base:Heap,(K w.params).In base->base.Ns mainGlobals mg->FnOk l.prog w (K w.params) mg base (CX w) k fa fd [x] (sp w))
  (hsp:∀(w:World) (H:Hp) (a:Addr) (ns:List Int),ns.length<=n->Only H->SqL (K w.params) H a (ns.map V.int)->sp w [.ref a] H (λv _=>v=.bl true) λ_ _ _=>False)
  (hCX:∀(w:World) (H:Hp) (s:Shared) (e:Value) (s':Shared),CX w [] H s (λ_ _ _=>False) e s'->False) :
  PySem.W.WalkO q loose XP YP l.row.toRowW d [] (λf vs=>PySem.call f vs):=by
 refine Att.attach_call hn hdf λw s₀ s₁ mg mb fa o pm cd doc a vs ns G Y ho hd hcd hmg hobj hints hlen hg=>?_;have KX:=hY w _ Y;obtain⟨fd,hb,hF⟩:=F w mg fa _ KX G.T.g hmg;exact z3m KX G.T.g G.T.b G.T.builtins G.T.nolimit hg hobj hints (Nat.le_trans hlen hn2) hr hF hb (λH hO hS=>hsp w H a ns hlen hO hS) λH e s'=>hCX w H s₁ e s'
end L2
namespace L2
open PySem PySem.Spec PyProof.Rows
abbrev CX0:CXT:=λ_ _ _ _ _ _=>False
abbrev E0:XK:=λ_ _ _=>False
structure Fun(K:PySem.W.Frag)(x qual:Str)(st:Stmt)(f:Addr)(fd:FuncData):Prop where
 ex:∃(oc:Value) (od:Option Addr) (kV doc pm:Value) (an:Option Addr) (cdv ct:Value) (osl:Array (Option Value)),
  fd=PySem.W.fnOf x qual (q1f st) (q0M st) (q0f st) .none kV doc pm an cdv ct/\K.lookup f=some ⟨oc,od,.func fd,osl⟩/\PySem.W.codeIn K cdv qual=true
 kp:PySem.W.keepIn K (.ref f)=true
section
variable {P:Program} {w:World} {K:PySem.W.Frag} {mg:Str->Option Value} {base:Heap}
end
section
variable {X:Cx}
end
theorem iteF{A B:Prop}(h:B):if false=true then A else B:=by
 rw[if_neg Bool.false_ne_true];exact h
theorem iteT{A B:Prop}(h:A):if true=true then A else B:=by
 rw[if_pos rfl];exact h
def Same(H H':Hp):Prop:=∀b o,H b=some o->H' b=some o
theorem Same.refl(H:Hp):Same H H:=λ_ _ h=>h
theorem Same.trans{H H1 H2:Hp}(a:Same H H1)(b:Same H1 H2):Same H H2:=λc o h=>b c o (a c o h)
theorem Same.free{H H':Hp}(e:Same H H'){l:Addr}(h:H' l=Option.none):H l=Option.none:=by
 cases q:H l with
 | none=>rfl
 | some o=>
  rw[e l o q]at h;cases h
theorem Same.seq{K:PySem.W.Frag}{H H':Hp}{a:Addr}{xs:List V}(e:Same H H')(h:SqL K H a xs):SqL K H' a xs:=by
 rcases h with(h | ⟨o,h⟩) | h
 ·exact .inl (.inl (e _ _ h))
 ·exact .inl (.inr ⟨o,e _ _ h⟩)
 ·exact .inr h
end L2
end
noncomputable section
namespace L2
open PySem PySem.Spec PyProof.Rows
def q0k(cells:List (Str×Addr)):List (Str×NameKind)->List (Str×Addr)->List (Str×Addr)
 | [],acc=>acc
 | (n,k)::r,acc=>if(k==NameKind.free)=true then q0k cells r ((n,(cells.lookup n).getD 0)::acc)else q0k cells r acc
theorem q1F{env:Env}:∀(names:List (Str×NameKind)) (acc:List (Str×Addr)),(∀y∈names,y.2=NameKind.free->∃c,env.cells.lookup y.1=some c) ->
  (forIn names acc (λ(x:Str×NameKind) (cs:List (Str×Addr))=>(match x with | (name,kind)=>if(kind==NameKind.free)=true then(do let a ←cellOf env name;pure (ForInStep.yield ((name,a)::cs)))else pure (ForInStep.yield cs):Sem (ForInStep (List (Str×Addr))))):Sem (List (Str×Addr)))=pure (q0k env.cells names acc)
 | [],acc,_=>rfl
 | (n,k)::r,acc,h=>by
  have hr:∀y∈r,y.2=NameKind.free->∃c,env.cells.lookup y.1=some c:=λy hy=>h y (List.mem_cons_of_mem _ hy);rw[List.forIn_cons];by_cases hk:(k==NameKind.free)=true
  ·obtain⟨c,hc⟩:=h (n,k) List.mem_cons_self (beq_iff_eq.mp hk);have e1:cellOf env n=pure c:=by unfold cellOf;rw[hc]
   have e2:q0k env.cells ((n,k)::r) acc=q0k env.cells r ((n,c)::acc):=(by show(if(k==NameKind.free)=true then q0k env.cells r ((n,(env.cells.lookup n).getD 0)::acc)else q0k env.cells r acc)=_;rw[if_pos hk,hc];rfl);rw[e2,←q1F r ((n,c)::acc) hr];simp only[hk,if_true,e1];rfl
  ·have e2:q0k env.cells ((n,k)::r) acc=q0k env.cells r acc:=by
    show(if(k==NameKind.free)=true then q0k env.cells r ((n,(env.cells.lookup n).getD 0)::acc)else q0k env.cells r acc)=_;rw[if_neg hk]
   rw[e2,←q1F r acc hr];simp only[hk,if_false];rfl
theorem q2n{scope:Scope}{env:Env}(h:∀y∈scope.names,y.2=NameKind.free->∃c,env.cells.lookup y.1=some c):closureFor scope env=pure (q0k env.cells scope.names []):=by
 have q:=q1F (env:=env) scope.names [] h;unfold closureFor
 first
  | exact(congrArg (λt=>(t >>= λcs=>pure cs)) q).trans rfl
  | (simp only[q];rfl)
theorem q2h{cells:List (Str×Addr)}:∀{names:List (Str×NameKind)} {acc:List (Str×Addr)} {x:Str} {c:Addr},(∀y∈names,y.2=NameKind.free->∃c,cells.lookup y.1=some c) ->
  (x,c)∈q0k cells names acc->(x,c)∈acc\/(cells.lookup x=some c/\(x,NameKind.free)∈names)
 | [],acc,x,c,_,h=>.inl h
 | (n,k)::r,acc,x,c,hh,h=>by
  have hr:∀y∈r,y.2=NameKind.free->∃c,cells.lookup y.1=some c:=λy hy=>hh y (List.mem_cons_of_mem _ hy);unfold q0k at h;by_cases hk:(k==NameKind.free)=true
  ·rw[if_pos hk]at h;obtain⟨c',hc⟩:=hh (n,k) List.mem_cons_self (beq_iff_eq.mp hk);rcases q2h hr h with z | ⟨z1,z2⟩
   ·rcases List.mem_cons.mp z with z | z
    ·cases z;exact .inr ⟨by rw[hc];rfl,by rw[←beq_iff_eq.mp hk];exact List.mem_cons_self⟩
    ·exact .inl z
   ·exact .inr ⟨z1,List.mem_cons_of_mem _ z2⟩
  ·rw[if_neg hk]at h;rcases q2h hr h with z | ⟨z1,z2⟩
   ·exact .inl z
   ·exact .inr ⟨z1,List.mem_cons_of_mem _ z2⟩
theorem q2j{cells:List (Str×Addr)}:∀{names:List (Str×NameKind)} {acc:List (Str×Addr)} {y:Str×Addr},y∈acc->y∈q0k cells names acc
 | [],_,_,h=>h
 | (n,k)::r,acc,y,h=>by
  unfold q0k;split
  ·exact q2j (List.mem_cons_of_mem _ h)
  ·exact q2j h
theorem q2i{cells:List (Str×Addr)}:∀{names:List (Str×NameKind)} {acc:List (Str×Addr)} {x:Str} {c:Addr},(x,NameKind.free)∈names->cells.lookup x=some c->(x,c)∈q0k cells names acc
 | (n,k)::r,acc,x,c,h,hc=>by
  unfold q0k;rcases List.mem_cons.mp h with z | z
  ·cases z;rw[if_pos (show(NameKind.free==NameKind.free)=true from rfl),hc];exact q2j List.mem_cons_self
  ·split
   ·exact q2i z hc
   ·exact q2i z hc
theorem q1g:∀(names:List (Str×NameKind)) (n:Nat) (acc:List (Str×Addr)),cellsFrom n names acc=cellsFrom n names []++acc
 | [],_,_=>rfl
 | (x,k)::r,n,acc=>by
  unfold cellsFrom;split
  ·rw[q1g r (n+1) ((x,n)::acc),q1g r (n+1) [(x,n)],List.append_assoc];rfl
  ·exact q1g r n acc
theorem q2g:∀{names:List (Str×NameKind)} {n:Nat} {x:Str} {c:Addr},(x,c)∈cellsFrom n names []->(x,NameKind.cell)∈names
 | [],_,_,_,h=>nomatch h
 | (y,k)::r,n,x,c,h=>by
  unfold cellsFrom at h;by_cases hk:(k==NameKind.cell)=true
  ·rw[if_pos hk,q1g]at h;rcases List.mem_append.mp h with z | z
   ·exact List.mem_cons_of_mem _ (q2g z)
   ·have z':(x,c)=(y,n):=by simpa using z
    cases z';rw[beq_iff_eq.mp hk];exact List.mem_cons_self
  ·rw[if_neg hk]at h;exact List.mem_cons_of_mem _ (q2g h)
theorem q1V{α:Type}{x:Str}:∀{l r:List (Str×α)},(l++r).lookup x=(l.lookup x).or (r.lookup x)
 | [],r=>by simp
 | (y,v)::l,r=>by
  rw[List.cons_append,List.lookup_cons,List.lookup_cons];cases hb:x==y with
  | true=>rfl
  | false=>exact q1V
theorem q2K{α:Type}{x:Str}:∀{l:List (Str×α)},(∀c,(x,c)∉l)->l.lookup x=none
 | [],_=>rfl
 | (y,v)::l,h=>by
  rw[List.lookup_cons];cases hb:x==y with
  | true=>exact absurd (by rw[beq_iff_eq.mp hb];exact List.mem_cons_self) (h v)
  | false=>exact q2K λc hc=>h c (List.mem_cons_of_mem _ hc)
theorem q2L{α:Type}{x:Str}:∀{l:List (Str×α)} {c:α},(x,c)∈l->∃c',l.lookup x=some c'
 | (y,v)::l,c,h=>by
  rw[List.lookup_cons];cases hb:x==y with
  | true=>exact⟨v,rfl⟩
  | false=>
   rcases List.mem_cons.mp h with z | z
   ·cases z;rw[beq_self_eq_true]at hb;cases hb
   ·exact q2L z
theorem q0H{α:Type}{x:Str}:∀{l:List (Str×α)} {c:α},(l.map (·.1)).Nodup->(x,c)∈l->l.lookup x=some c
 | (y,v)::l,c,nd,h=>by
  rw[List.lookup_cons];rw[List.map_cons]at nd;have nd':=List.nodup_cons.mp nd;rcases List.mem_cons.mp h with z | z
  ·cases z;rw[beq_self_eq_true]
  ·have:x≠y:=λe=>nd'.1 (by rw[←e];exact List.mem_map.mpr ⟨_,z,rfl⟩);rw[beq_eq_false_iff_ne.mpr this];exact q0H nd'.2 z
theorem q1H{scope:Scope}{env:Env}{x:Str}:(relabel scope env).names.lookup x=(scope.names.lookup x).map λk=>if(k==NameKind.free&&env.scope.kind == .function&&env.kindOf x==some .cell)=true then NameKind.cell else k:=by
 unfold relabel;show(scope.names.map _).lookup x=_;generalize scope.names=l
 induction l with
 | nil=>rfl
 | cons y r ih=>
  obtain⟨n,k⟩:=y;rw[List.map_cons];show List.lookup x ((if(k==NameKind.free&&env.scope.kind == .function&&env.kindOf n==some .cell)=true then(n,NameKind.cell)else(n,k))::_)=_;have e:(if(k==NameKind.free&&env.scope.kind == .function&&env.kindOf n==some .cell)=true then(n,NameKind.cell)else(n,k))=(n,if(k==NameKind.free&&env.scope.kind == .function&&env.kindOf n==some .cell)=true then NameKind.cell else k):=by split<;>rfl
  rw[e,List.lookup_cons,List.lookup_cons];cases hb:x==n with
  | true=>rw[beq_iff_eq.mp hb];rfl
  | false=>exact ih
theorem q7m{M:Model}{A:Around}{E:Value->Shared->Prop}{s:Shared}{scope:Scope}{g:Addr}{cl:List (Str×Addr)}{q:Str}{env:Env}{Q:Env->Shared->Prop}
  (hQ:Q (newEnv scope s.heap.objs.size g (cellsFrom (s.heap.objs.size+1) scope.names cl) q none .none (some env) builtinsNs) {s with heap:=pushCells (s.heap.push {cls:=.type "dict",data:=.dict #[]}) scope.names}) :
  wpAny M A (newFunctionEnv scope g cl [] q none .none (some env)) Q E s:=by
 simp only[newFunctionEnv,Option.isSome_some,if_true];refine wpAny_bind (wpAny_alloc ?_);refine wpAny_bind (wpAny_layCells _ (λname kind cells=>by cases hkc:kind==NameKind.cell<;>simp[hkc]) _ _ _ _ ?_);rw[show({s with heap:=s.heap.push {cls:=.type "dict",data:=.dict #[]}}:Shared).heap.objs.size=s.heap.objs.size+1 from Heap.size_push ..];exact wpAny_bind (wpAny_pure (wpAny_pure hQ))
theorem q6o{prog:Program}{w:World}{A:Around}{R:Result->Shared->Prop}{s:Shared}{elt target iter:Expr}{ifs:List Expr}{scope:Scope}{pos:Pos}{it acc:Value}{env:Env}(I:Nat->Shared->Prop)
  (turn:∀n s,I n s->wpAny (model prog w) A (pyNext it) (λr s₁=>match r with
   | none=>R (.ok .next) s₁
   | some v=>wpAny (model prog w) A (letOwnedTupleGo target it v) (λ_ s₁'=>wpAny (model prog w) A (assign target env v) (λ_ s₂=>
     wpAny (model prog w) A (forIn ifs true λc r=>if r=true then do let ok ←isTrue c env (eval c env);pure (ForInStep.yield ok)else pure (ForInStep.yield r)) (λok s₃=>
      if ok=true then wpAny (model prog w) A (eval elt env) (λx s₄=>
       wpAny (model prog w) A (call (.builtin "list.append") [acc,x]) (λ_ s₅=>∃m,m<n/\I m s₅) (notedBy (model prog w) A env λe s'=>R (.error e) s') s₄) (notedBy (model prog w) A env λe s'=>R (.error e) s') s₃
      else ∃m,m<n/\I m s₃) (notedBy (model prog w) A env λe s'=>R (.error e) s') s₂) (notedBy (model prog w) A env λe s'=>R (.error e) s') s₁') (notedBy (model prog w) A env λe s'=>R (.error e) s') s₁) (notedBy (model prog w) A env λe s'=>R (.error e) s') s)
  (n:Nat) (h:I n s) :
  codeAny (model prog w) A (.compLoop (.ListComp elt [⟨target,iter,ifs,0⟩] scope pos) 0 it acc env) R s:=by
 refine codeAny_loop rfl I (λn s hI=>?_) n h;show wpAny _ A ((compTurn (.ListComp elt [⟨target,iter,ifs,0⟩] scope pos) 0 it acc env).onRaise (λx=>do noteFrame x env;theTreesLotGoes x)) _ _ s;refine wpAny_noted ?_;rw[compTurn_list];refine wpAny_bind (wpAny_standAt (wpAny_bind (wpAny_mono (turn n s hI) (λr s₁ h₁=>?_) λ_ _ h'=>h')));cases r with
 | none=>exact wpAny_pure h₁
 | some v=>
  refine wpAny_bind (wpAny_mono h₁ (λ_ s₁' h₁'=>?_) λ_ _ h'=>h');refine wpAny_bind (wpAny_mono h₁' (λ_ s₂ h₂=>wpAny_bind (wpAny_mono h₂ (λok s₃ h₃=>?_) λ_ _ h'=>h')) λ_ _ h'=>h');cases ok with
  | false=>exact wpAny_pure ⟨rfl,h₃⟩
  | true=>
   exact wpAny_bind (wpAny_bind (wpAny_mono h₃ (λx s₄ h₄=>wpAny_bind (wpAny_mono h₄ (λ_ s₅ h₅=>wpAny_pure (wpAny_pure ⟨rfl,h₅⟩)) λ_ _ h'=>h')) λ_ _ h'=>h'))
theorem HOk.track{P:Program}{w:World}{H:Hp}{h:Heap}{a:Addr}{o:HO}(x:HOk P w H h)(hn:H a=none)(new:q1Q P w (upd H a o) h a o):HOk P w (upd H a o) h:=λb u e=>by
 by_cases hb:b=a
 ·subst hb;rw[q0P]at e;cases e;exact new
 ·rw[q0q hb]at e;exact(x b u e).stay (λc v _ q=>q) (λc q=>by rw[q0q (q0u q hn)];exact q) λc xs q=>by rw[q0q (q0u q hn)];exact q
theorem Un.track{fs ex:List Addr}{H H':Hp}{h h':Heap}{a:Addr}{o:HO}(u:Un fs ex H H' h h')(hn:H' a=none)(hh:h.get? a=none):Un fs ex H (upd H' a o) h h' where
 keep:=u.keep
 slot:=u.slot
 free:=λb ob q n hx=>by
  have:b≠a:=λz=>by rw[z,hh]at q;cases q
  rw[q0q this];exact u.free b ob q n hx
 there:=u.there
 tups:=λb xs q=>by have z:=u.tups b xs q;rw[q0q (q0u z hn)];exact z
 frzs:=λb ob xs q=>by have z:=u.frzs b ob xs q;rw[q0q (q0u z hn)];exact z
 tbls:=λb ps q=>by obtain⟨m,z⟩:=u.tbls b ps q;exact⟨m,by rw[q0q (q0u z hn)];exact z⟩
structure CompScope(N N':List Str)(sc osc:Scope)(fr:List (Option Nat)):Prop where
 kind:sc.kind=.function
 nd:N'.Nodup
 snd:(sc.names.map (·.1)).Nodup
 len:fr.length=N'.length
 fre:∀(j i:Nat),fr[j]? = some (some i)->∃x,N'[j]? = some x/\N[i]? = some x/\(x,NameKind.free)∈sc.names
 out:∀y∈sc.names,y.2=NameKind.free->osc.names.lookup y.1=some .cell\/osc.names.lookup y.1=some .free
def inner(fr:List (Option Nat))(σ:St):St:=fr.map λo=>o.bind λi=>(σ[i]?).join
def q0v(X:Cx)(scope:Scope)(N':List Str)(C:Addr)(cells:List (Str×Addr))(s₂:Shared)(H₂:Hp)(fp:List Addr):Cx:=
 {X with N:=N',s₀:=s₂,H₀:=H₂,env:=compEnvC scope cells C X.env,outer:=X.stack,stack:=X.stack,ex:=fp,fn:=λx=>scope.names.lookup x==some .cell,pn:=[],xe:=λ_ _=>False}
section
variable {X:Cx} {pins:List (Addr×Obj)} {σ:St} {H:Hp} {s₂:Shared} {N':List Str} {scope:Scope} {fr:List (Option Nat)} {fp:List Addr}
abbrev q1U:Obj:={cls:=.type "list",dict:=none,data:=.seq ([]:List Value).toArray}
abbrev q6j:Obj:={cls:=.type "dict",data:=.dict #[]}
theorem z2Y(S:CompScope X.N N' scope X.env.scope fr)(I:Inv X pins σ H s₂)(f:∀b∈fp,FpOk X pins H b)(ho:∀b∈fp,@LT.lt Nat _ b s₂.heap.objs.size){C:Nat}(hC:C=s₂.heap.objs.size+1){h4:Heap}(h4e:h4=pushCells ((s₂.heap.push q1U).push q6j) scope.names) :
  Inv (q0v X scope N' C (cellsFrom (C+1) scope.names (q0k X.env.cells scope.names [])) s₂ H fp) [] (inner fr σ) H {s₂ with heap:=h4} /\ h4.get? s₂.heap.objs.size=some q1U/\(∀b o,s₂.heap.get? b=some o->h4.get? b=some o):=by
 have hsz1:(s₂.heap.push q1U).objs.size=s₂.heap.objs.size+1:=Heap.size_push ..;have hsz2:((s₂.heap.push q1U).push q6j).objs.size=C+1:=by rw[Heap.size_push,hsz1,hC]
 have keep:∀b o,s₂.heap.get? b=some o->h4.get? b=some o:=λb o e=>by rw[h4e];exact pushCells_keeps _ _ b o (Heap.get?_push_of_some _ (Heap.get?_push_of_some _ e))
 have hD:h4.get? s₂.heap.objs.size=some q1U:=by rw[h4e];exact pushCells_keeps _ _ _ _ (Heap.get?_push_of_some _ (Heap.get?_push_size _ rfl))
 have hns:h4.Ns C λ_=>none:=by have q:=(Heap.Ns.new (s₂.heap.push q1U) (.type "dict")).keeps (pushCells_keeps scope.names _);rw[hsz1,←hC]at q;rw[h4e];exact q
 have ok:=cellsFrom_ok scope.names ((s₂.heap.push q1U).push q6j) (C+1) [] ⟨λ_ _ hm=>(nomatch hm),List.Pairwise.nil⟩ (by rw[hsz2];exact Nat.le_refl _);rw[hsz2,←h4e]at ok;have hfree:∀y∈scope.names,y.2=NameKind.free->∃c,X.env.cells.lookup y.1=some c:=λy hy hk=>I.ok.has y.1 (S.out y hy hk);generalize hcl:q0k X.env.cells scope.names []=cl;have memcl:∀{x:Str} {c:Addr},(x,c)∈cl->X.env.cells.lookup x=some c/\(x,NameKind.free)∈scope.names:=λ{x c} hm=>by
  rw[←hcl]at hm;rcases q2h hfree hm with z | z
  ·exact nomatch z
  ·exact z
 generalize hown:cellsFrom (C+1) scope.names []=own at ok;have app:cellsFrom (C+1) scope.names cl=own++cl:=by rw[q1g,hown]
 rw[app];have memown:∀{x:Str} {c:Addr},(x,c)∈own->(x,NameKind.cell)∈scope.names:=λ{x c} hm=>by rw[←hown]at hm;exact q2g hm
 have L1:∀x c,(own++cl).lookup x=some c->((x,c)∈own)\/(X.env.cells.lookup x=some c/\(x,NameKind.free)∈scope.names/\own.lookup x=none):=λx c e=>by
  rw[q1V]at e;cases q:own.lookup x with
  | some c'=>rw[q]at e;cases e;exact .inl (PySem.mem_of_lookup q)
  | none=>rw[q]at e;have z:=memcl (PySem.mem_of_lookup (show cl.lookup x=some c from e));exact .inr ⟨z.1,z.2,rfl⟩
 have own_ge:∀{x:Str} {c:Nat},(x,c)∈own->@LE.le Nat _ (C+1) c:=λ{x c} hm=>(ok.empty x c hm).2;have cell_lt:∀{x:Str} {c:Nat},X.env.cells.lookup x=some c->@LT.lt Nat _ c s₂.heap.objs.size:=λ{x c} e=>by obtain⟨v,z⟩:=I.cell x c e;exact z.lt
 have free_no:∀{x:Str},(x,NameKind.free)∈scope.names->own.lookup x=none:=λ{x} hm=>by refine q2K λc hc=>?_;have a:=q0H S.snd hm;have b:=q0H S.snd (memown hc);rw[a]at b;cases b
 have cl_get:∀{x:Str} {c:Addr},(x,NameKind.free)∈scope.names->X.env.cells.lookup x=some c->(own++cl).lookup x=some c:=λ{x c} hm hc=>by rw[q1V,free_no hm];obtain⟨c',e⟩:=q2L (l:=cl) (by rw[←hcl];exact q2i hm hc);have z:=(memcl (PySem.mem_of_lookup e)).1;rw[hc]at z;cases z;exact e
 have hX:(q0v X scope N' C (own++cl) s₂ H fp).Ok:=by
  refine⟨I.ok.mod,S.kind,I.ok.glob,I.ok.blt,?_,λx y c h1 h2=>?_,λx hx=>?_,λx c hf hc=>?_,I.ok.hd,I.ok.frames,.inl rfl,λb hb=>⟨?_,λx c e=>?_⟩,I.bs,Nat.le_trans I.ok.bsz I.sz,λb o e hb=>?_,λb hb hs=>?_,I.stack,I.stkFree⟩
  ·show s₂.heap.objs.size<=C;rw[hC];exact Nat.le_succ _
  ·have h1:(own++cl).lookup x=some c:=h1;have h2:(own++cl).lookup y=some c:=h2;rcases L1 x c h1 with a | ⟨a,_⟩<;>rcases L1 y c h2 with b | ⟨b,_⟩
   ·exact name_of_addr ok.apart a b
   ·exfalso;have q1:=own_ge a;have q2:=cell_lt b;omega
   ·exfalso;have q1:=own_ge b;have q2:=cell_lt a;omega
   ·exact I.ok.inj x y c a b
  ·have hx':(relabel scope X.env).names.lookup x=some .cell\/(relabel scope X.env).names.lookup x=some .free:=hx;show ∃c,(own++cl).lookup x=some c;rw[q1H]at hx';cases q:scope.names.lookup x with
   | none=>rw[q]at hx';rcases hx' with z | z<;>cases z
   | some k=>
    have km:=PySem.mem_of_lookup q;by_cases k1:k=.cell
    ·subst k1;have z:=PySem.W.cellsFrom_some scope.names (C+1) [] (.inl q);rw[hown]at z;obtain⟨c,z⟩:=Option.isSome_iff_exists.mp z;exact⟨c,by rw[q1V,z];rfl⟩
    ·by_cases k2:k=.free
     ·subst k2;obtain⟨c,e⟩:=hfree _ km rfl;exact⟨c,cl_get km e⟩
     ·exfalso;rw[q]at hx';have e0:(k==NameKind.free)=false:=beq_eq_false_iff_ne.mpr k2;simp only[Option.map_some,e0,Bool.false_and]at hx';rcases hx' with z | z
      ·exact k1 (by simpa using z)
      ·exact k2 (by simpa using z)
  ·have hf':(scope.names.lookup x==some .cell)=true:=hf;have q:scope.names.lookup x=some .cell:=by simpa using hf'
   have z:=PySem.W.cellsFrom_some scope.names (C+1) [] (.inl q);rw[hown]at z;obtain⟨c',z⟩:=Option.isSome_iff_exists.mp z;have hc':(own++cl).lookup x=some c:=hc;rw[q1V,z]at hc';have e:c'=c:=Option.some.inj hc';subst e;have:=own_ge (PySem.mem_of_lookup z);show @LE.le Nat _ s₂.heap.objs.size c';omega
  ·have:=ho b hb;show @Ne Nat b C;omega
  ·rcases L1 x c e with a | ⟨a,_⟩
   ·have:=own_ge a;have:=ho b hb;show @Ne Nat c b;omega
   ·exact(f b hb).2.2.2.2.1 x c a
  ·rcases(f b hb).2.2.2.1 with z | z
   ·exact I.ok.noex b o e z
   ·exact absurd (Nat.lt_of_lt_of_le (Heap.lt_size e) (Nat.le_trans I.ok.bsz z)) (Nat.lt_irrefl _)
  ·rcases List.mem_cons.mp (I.stkSub b hs)with z | z
   ·exact(f b hb).2.1 z
   ·exact(f b hb).2.2.1 z
 refine⟨⟨hX,rfl,I.bare,Un.kept keep,⟨_,hns,λi x v e1 e2 e3=>?_⟩,λx c e=>?_,I.hok.fresh (by show @LE.le Nat _ s₂.heap.objs.size C;omega),λx c e=>?_,λp hp=>absurd (show p∈([]:List (Addr×Obj))from hp) (by simp),I.hok.kept keep,?_⟩,hD,keep⟩
 ·have e1:N'[i]? = some x:=e1;unfold inner at e2;rw[List.getElem?_map]at e2;cases q:fr[i]? with
  | none=>rw[q]at e2;cases e2
  | some o=>
   rw[q]at e2;cases o with
   | none=>cases e2
   | some j=>
    have e2':(σ[j]?).join=some v:=Option.some.inj e2;have hv:σ[j]? = some (some v):=by
     cases z:σ[j]? with
     | none=>rw[z]at e2';cases e2'
     | some o=>rw[z]at e2';rw[show o=some v from e2']
    obtain⟨x',a1,a2,a3⟩:=S.fre i j q;rw[e1]at a1;cases a1;obtain⟨m,hn,hl⟩:=I.loc;have ko:=S.out _ a3 rfl;obtain⟨u,r,l⟩:=hl j x v a2 hv (ko.elim (λz=>.inr (.inl z)) λz=>.inr (.inr z));rcases l with⟨k,_⟩ | ⟨k,c,e,z⟩
    ·have k':X.env.scope.names.lookup x=some .local:=k;rcases ko with w | w<;>(rw[show X.env.scope.names.lookup x=_ from w]at k';cases k')
    ·refine⟨u,r,.inr ⟨?_,c,cl_get a3 e,z.keeps keep⟩⟩;show(relabel scope X.env).names.lookup x=some .cell\/(relabel scope X.env).names.lookup x=some .free;rw[q1H,q0H S.snd a3];simp only[Option.map_some];split
     ·exact .inl rfl
     ·exact .inr rfl
 ·rcases L1 x c e with a | ⟨a,_⟩
  ·exact⟨none,(ok.empty x c a).1⟩
  ·obtain⟨v,z⟩:=I.cell x c a;exact⟨v,z.keeps keep⟩
 ·rcases L1 x c e with a | ⟨a,_⟩
  ·exact I.hok.fresh (by have:=own_ge a;show @LE.le Nat _ s₂.heap.objs.size c;omega)
  ·exact I.freeC x c a
 ·show(inner fr σ).length=N'.length;unfold inner;rw[List.length_map,S.len]
end
def PTs(X:Cx)(ifs:List Expr)(t:TT):Prop:=
 ∀(pins:List (Addr×Obj)) (s:Shared) (σ:St) (H:Hp) (Q:Bool->Hp->Prop),Inv X pins σ H s->t σ H Q ->
  wpAny (model X.prog X.w) X.A (forIn ifs true λc r=>if r=true then do let ok ←isTrue c X.env (eval c X.env);pure (ForInStep.yield ok)else pure (ForInStep.yield r)) (TP X pins σ Q) X.xe s
def tYes:TT:=λ_ H Q=>Q true H
theorem z5c{X:Cx}:PTs X [] tYes:=λ_ _ _ H _ I h=>wpAny_tests_nil ⟨H,I,h⟩
theorem z5K{X:Cx}{c:Expr}{t:TT}(h:PT X c t):PTs X [c] t:=λpins s σ H Q I hq=>wpAny_tests_one (h pins s σ H Q I hq)
def z4J(J:It)(g:TG)(tc:TT)(te:TE)(Fin:List V->Hp->Prop)(σ:St)(H:Hp):Prop:=
 ∃W:Nat->Nat->List V->St->Hp->Prop,(∃m,W 0 m [] σ H)/\∀i m ys σ H,W i m ys σ H ->
  (J.stop i H/\Fin ys H)\/(J.go i H/\ys.length<sizeLine/\∀x H',J.yld i H x H'->g x σ H' λσ2 H2=>tc σ2 H2 λb H3=>
   if b=true then te σ2 H3 λy H4=>∃m',m'<m/\W (i+1) m' (ys++[y]) σ2 H4 else ∃m',m'<m/\W (i+1) m' ys σ2 H3)
theorem Vals.snoc{xs:List V}{us:List Value}{x:V}{u:Value}(r:Vals xs us)(q:RelV x u):Vals (xs++[x]) (us++[u]):=r.append (.cons q .nil)
theorem q7R{X:Cx}{pins:List (Addr×Obj)}{σ:St}{H:Hp}{s₂:Shared}{N':List Str}{scope:Scope}{fr:List (Option Nat)}{fp:List Addr}{iter elt tg:Expr}{ifs:List Expr}{pos:Pos}{g:TG}{te:TE}{tc:TT}{it:Addr}{tn:Nat->Heap->Prop}{J:It}
  {E:Value->Shared->Prop} {Fin:List V->Hp->Prop} {RR:Value->Addr->Result->Shared->Prop}
  (S:CompScope X.N N' scope X.env.scope fr) (hc:X.calm=true)
  (hg:∀C cells s₂ H₂ fp,PG (q0v X scope N' C cells s₂ H₂ fp) tg g) (ht:∀C cells s₂ H₂ fp,PTs (q0v X scope N' C cells s₂ H₂ fp) ifs tc) (he:∀C cells s₂ H₂ fp,PE (q0v X scope N' C cells s₂ H₂ fp) elt te)
  (I:Inv X pins σ H s₂) (T:Turn X.prog X.w X.K tg J fp it tn) (st:tn 0 s₂.heap) (f:∀b∈fp,FpOk X pins H b) (h:z4J J g tc te Fin (inner fr σ) H)
  (hRR:∀D C H' s' m ys,Inv X pins σ (upd H' D (.lst ys)) s'->H' D=none->s'.heap.Ns C m->upd H' D (.lst ys) C=none->C≠X.env.locals->X.s₀.heap.objs.size<=C->(∀x c,X.env.cells.lookup x=some c->c≠C)->(∀p∈X.pn++pins,p.1≠C)->Fin ys H'->RR (.ref D) C (.ok .next) s') :
  wpAny (model X.prog X.w) X.A (newList []) (λacc s₃=>wpAny (model X.prog X.w) X.A (newFunctionEnv scope X.env.globals (q0k X.env.cells scope.names []) [] X.env.qual none .none (some X.env)) (λcenv s₄=>
   codeAny (model X.prog X.w) X.A (.compStart (.ListComp elt [⟨tg,iter,ifs,0⟩] scope pos) 0 (.ref it) acc {cenv with scope:=relabel scope X.env}) (RR acc cenv.locals) s₄) E s₃) E s₂:=by
 have ho:∀b∈fp,b<s₂.heap.objs.size:=λb hb=>by obtain⟨o,e,_⟩:=T.obj _ _ st b hb;exact Heap.lt_size e
 refine wpAny_newObj_type (q7m ?_);have hsz1:(s₂.heap.push q1U).objs.size=s₂.heap.objs.size+1:=Heap.size_push ..;obtain⟨I4,hD4,keep⟩:=z2Y (C:=s₂.heap.objs.size+1) S I f ho rfl rfl;show codeAny _ _ (.compStart _ 0 (.ref it) (.ref s₂.heap.objs.size) (compEnvC scope (cellsFrom ((s₂.heap.push q1U).objs.size+1) scope.names (q0k X.env.cells scope.names [])) (s₂.heap.push q1U).objs.size X.env)) (RR (.ref s₂.heap.objs.size) (s₂.heap.push q1U).objs.size) {s₂ with heap:=pushCells ((s₂.heap.push q1U).push q6j) scope.names};rw[hsz1];generalize hDe:s₂.heap.objs.size=D at *;generalize cellsFrom (D+1+1) scope.names (q0k X.env.cells scope.names [])=cells at *;generalize pushCells ((s₂.heap.push q1U).push q6j) scope.names=h4 at *;have hfp:∀{pins':List (Addr×Obj)} {H':Hp},(∀b∈fp,H' b=none)->(∀p∈pins',p.1=D)->∀b∈fp,FpOk (q0v X scope N' (D+1) cells s₂ H fp) pins' H' b:=λ{pins' H'} hn hp b hb=>
  ⟨hn b hb,(I4.ok.exf b hb).1,I4.ok.exfs b hb,.inl hb,(I4.ok.exf b hb).2,λp hp' z=>by
   have hp':p∈([]:List (Addr×Obj))++pins':=hp';rw[List.nil_append]at hp';have:=ho b hb;rw[←z,hp p hp']at this;exact Nat.lt_irrefl _ this⟩
 obtain⟨W,⟨m0,w0⟩,turn⟩:=h;have hDC:D≠(q0v X scope N' (D+1) cells s₂ H fp).env.locals:=by show D≠D+1;omega
 have hDcell:∀x c,(q0v X scope N' (D+1) cells s₂ H fp).env.cells.lookup x=some c->c≠D:=λx c e z=>by
  obtain⟨v,o,hoc,hd⟩:=I4.cell x c e;have q:h4.get? D=some o:=by rw[←z];exact hoc
  rw[hD4]at q;cases q;cases hd
 have hDfs:D∉(q0v X scope N' (D+1) cells s₂ H fp).fs:=λz=>by
  obtain⟨_,o,ho',_⟩:=I4.ok.funs.mem z
  have:=Heap.lt_size ho';have e:s₂.heap.objs.size=D:=hDe;exact absurd this (by show ¬D<s₂.heap.objs.size;omega)
 have loop:codeAny (model X.prog X.w) X.A (.compLoop (.ListComp elt [⟨tg,iter,ifs,0⟩] scope pos) 0 (.ref it) (.ref D) (compEnvC scope cells (D+1) X.env)) (RR (.ref D) (D+1)) {s₂ with heap:=h4}:=by
  refine q6o (λn s'=>∃i ys its k σ' H',Inv (q0v X scope N' (D+1) cells s₂ H fp) [] σ' H' s'/\tn i s'.heap/\(∀b∈fp,H' b=none)/\H' D=none /\
   s'.heap.get? D=some {cls:=.type "list",data:=.seq (its:List Value).toArray k} /\ Vals ys its/\ys.length<=sizeLine/\W i n ys σ' H') ?_ m0
   ⟨0,[],[],_,_,H,I4,T.keep _ _ _ st λb _ o e=>keep b o e,λb hb=>(f b hb).1,I.hok.fresh (by omega),hD4,.nil,Nat.zero_le _,w0⟩
  rintro n s3 ⟨i,ys,its,k,σ3,H3,I3,st3,fr3,hD3,oD3,rv,hl,w3⟩
  have I3p:Inv (q0v X scope N' (D+1) cells s₂ H fp) [(D,{cls:=.type "list",data:=.seq its.toArray k})] σ3 H3 s3:=I3.pins_of λp hp=>by
   have e:p=(D,{cls:=.type "list",data:=.seq its.toArray k}):=by simpa using hp
   subst e;exact⟨oD3,hD3,hDC,hDfs,λv z=>by cases z⟩
  have pinD:∀p∈[((D:Addr),({cls:=.type "list",data:=.seq its.toArray k}:Obj))],p.1=D:=λp hp=>by
   have e:p=(D,{cls:=.type "list",data:=.seq its.toArray k}):=by simpa using hp
   subst e;rfl
  rcases turn i n ys σ3 H3 w3 with⟨stop,fin⟩ | ⟨go,hlt,step⟩
  ·refine thn (T.done (q0v X scope N' (D+1) cells s₂ H fp) rfl rfl rfl hc i _ s3 σ3 H3 _ I3p (hfp fr3 pinD) st3 stop) λr s4 ⟨hr,I4'⟩=>?_;subst hr;have oD:=(I4'.pin (D,_) (List.mem_append_right _ List.mem_cons_self)).1;have un:Un (frs X.stack) fp H H3 s₂.heap s4.heap:=I4'.base;have hn:s₂.heap.get? D=none:=Heap.get?_none_of_le (by rw[hDe];exact Nat.le_refl _);obtain⟨mC,hnC,_⟩:=I4'.loc;refine hRR D (D+1) H3 s4 mC ys (I.call' I4'.os (un.track hD3 hn) (I4'.hok.track hD3 ⟨hl,its,k,rv,oD⟩) I4'.bare λb hb=>?_) hD3 hnC ?_ ?_ ?_ (λx c e=>?_) (λp hp=>?_) fin
   ·obtain⟨_,f1,f2,f3,f4,f5⟩:=f b hb;exact⟨f3,f1,f4,f5⟩
   ·rw[q0q (show @Ne Nat (D+1) D by omega)];exact I4'.free
   ·have q:@LT.lt Nat _ X.env.locals s₂.heap.objs.size:=I.lt;show @Ne Nat (D+1) X.env.locals;omega
   ·have q:@LE.le Nat _ X.s₀.heap.objs.size s₂.heap.objs.size:=I.sz;show @LE.le Nat _ X.s₀.heap.objs.size (D+1);omega
   ·obtain⟨v,z⟩:=I.cell x c e;have q:@LT.lt Nat _ c s₂.heap.objs.size:=z.lt;show @Ne Nat c (D+1);omega
   ·have q:@LT.lt Nat _ p.1 s₂.heap.objs.size:=Heap.lt_size (I.pin p hp).1;show @Ne Nat p.1 (D+1);omega
  ·refine thn (T.item (q0v X scope N' (D+1) cells s₂ H fp) rfl rfl rfl hc i _ s3 σ3 H3 _ I3p (hfp fr3 pinD) st3 go) λr s4 ⟨u,hr,h4'⟩=>?_;subst hr;refine thn h4' λ_ s5 ⟨x,H5,I5,r5,y5,st5,fr5⟩=>?_;have I5':=I5.pinned (hfp fr5 pinD) (T.obj _ _ st5);refine wpAny_mono (hg (D+1) cells s₂ H fp _ s5 σ3 H5 x u _ I5' r5 (step x H5 y5)) (λ_ s6 ⟨σ6,H6,I6,q6⟩=>?_) λ_ _ z=>z.elim;refine wpAny_mono (ht (D+1) cells s₂ H fp _ s6 σ6 H6 _ I6 q6) (λb s7 ⟨H7,I7,q7⟩=>?_) λ_ _ z=>z.elim;have fpK:∀{H':Hp} {s':Shared},Inv (q0v X scope N' (D+1) cells s₂ H fp) ([(D,{cls:=.type "list",data:=.seq its.toArray k})]++q6u fp s5.heap) σ6 H' s'->tn (i+1) s'.heap/\(∀b∈fp,H' b=none)/\s'.heap.get? D=some {cls:=.type "list",data:=.seq its.toArray k} /\ H' D=none:=λ{H' s'} J'=>by
    refine⟨T.keep _ _ _ st5 λb hb o e=>(J'.pin (b,o) (List.mem_append_right _ (List.mem_append_right _ (q2B hb e)))).1,λb hb=>?_,?_,?_⟩
    ·obtain⟨o,e,d⟩:=T.obj _ _ st5 b hb;exact(J'.pin (b,o) (List.mem_append_right _ (List.mem_append_right _ (q2B hb e)))).2.1
    ·exact(J'.pin (D,_) (List.mem_append_right _ (List.mem_append_left _ List.mem_cons_self))).1
    ·exact(J'.pin (D,_) (List.mem_append_right _ (List.mem_append_left _ List.mem_cons_self))).2.1
   cases b with
   | false=>
    rw[if_neg Bool.false_ne_true]at q7 ⊢;obtain⟨m',hm,w7⟩:=q7;obtain⟨k1,k2,k3,k4⟩:=fpK I7;exact⟨m',hm,i+1,ys,its,k,σ6,H7,I7.pins_of (λp hp=>(nomatch hp)),k1,k2,k4,k3,rv,hl,w7⟩
   | true=>
    rw[if_pos rfl]at q7 ⊢;refine wpAny_mono (he (D+1) cells s₂ H fp _ s7 σ6 H7 _ I7 q7) (λy s8 ⟨v8,H8,I8,r8,q8⟩=>?_) λ_ _ z=>z.elim
    obtain⟨m',hm,w8⟩:=q8;obtain⟨k1,k2,k3,k4⟩:=fpK I8;have hits:its.length<=sizeLine:=by rw[←rv.length];exact hl
    refine append_at k3 (λh9 hs9 hD9=>?_) (by rw[List.size_toArray];exact hits);have I9:Inv (q0v X scope N' (D+1) cells s₂ H fp) [] σ6 H8 s8:=I8.pins_of λp hp=>(nomatch hp);refine⟨m',hm,i+1,ys++[v8],its++[y],k+1,σ6,H8,I9.turned (it:=D) (t':=s8.toks) (λb o hb e=>(hs9.2 b hb).trans e) k4 hDC (.inr (by show s₂.heap.objs.size<=D;omega)) hDcell (λp hp=>(nomatch hp)),?_,k2,k4,?_,rv.snoc r8,?_,w8⟩
    ·exact T.keep _ _ _ k1 λb hb o e=>(hs9.2 b (by have q:@LT.lt Nat _ b D:=ho b hb;show @Ne Nat b D;omega)).trans e
    ·rw[hD9,List.push_toArray]
    ·rw[List.length_append,List.length_singleton];omega
 exact codeAny_compStart_list loop (T.self X.A 0 _ _ _ (T.keep _ _ _ st λb _ o e=>keep b o e) loop)
def z6c(fr:List (Option Nat))(wi:TI)(g:TG)(tc:TT)(te:TE):TE:=λσ H Q=>wi σ H λJ H1=>z4J J g tc te (λys H'=>∀p,H' p=none->Q (.ref p) (upd H' p (.lst ys))) (inner fr σ) H1
theorem z5W{X:Cx}{N':List Str}{scope:Scope}{fr:List (Option Nat)}{iter elt tg:Expr}{ifs:List Expr}{pos:Pos}{wi:TI}{g:TG}{te:TE}{tc:TT}(S:CompScope X.N N' scope X.env.scope fr)(hc:X.calm=true)(hi:PI X tg iter wi)
  (hg:∀C cells s₂ H₂ fp,PG (q0v X scope N' C cells s₂ H₂ fp) tg g) (ht:∀C cells s₂ H₂ fp,PTs (q0v X scope N' C cells s₂ H₂ fp) ifs tc) (he:∀C cells s₂ H₂ fp,PE (q0v X scope N' C cells s₂ H₂ fp) elt te)
  (hs:∀x,foldedSetIterable iter X.env x=pure x:=by intro _;rfl):PE X (.ListComp elt [⟨tg,iter,ifs,0⟩] scope pos) (z6c fr wi g tc te):=by
 intro pins s σ H Q I h;rw[eval_ListComp];have hfree:∀y∈scope.names,y.2=NameKind.free->∃c,X.env.cells.lookup y.1=some c:=λy hy hk=>I.ok.has y.1 (S.out y hy hk)
 refine wpAny_comprehension_free (use:=none) rfl hs (q2n hfree) S.kind (λx hx hl=>q0H S.snd (by rw[←hl];exact hx)) (thn (hi pins s σ H _ I h) λv s1 h1=>thn h1 λitv s2 h2=>?_);obtain⟨it,fp,tn,J,H2,e,I2,T,st2,f2,w⟩:=h2;subst e;refine q7R (RR:=λacc C=>compPost (model X.prog X.w) X.A X.xe none (EP X pins σ Q) acc C) S hc hg ht he I2 T st2 f2 w ?_;intro D C H' s' m ys I' hD hnC hCn hCL hCs hCc hCp fin;exact⟨m,hnC,λh' hs'=>⟨.ref D,_,I'.turned (it:=C) (t':=s'.toks) (λb o hb e=>(hs'.2 b hb).trans e) hCn hCL (.inr hCs) hCc hCp,rfl,fin D hD⟩⟩
theorem q9v{X:Cx}{N':List Str}{scope:Scope}{fr:List (Option Nat)}{iter elt tg:Expr}{ifs:List Expr}{pos spos py:Pos}{y:Str}{i:Nat}{wi:TI}{g:TG}{te:TE}{tc:TT}(S:CompScope X.N N' scope X.env.scope fr)(hc:X.calm=true)(hN:X.N.Nodup)(hiN:X.N[i]? = some y)
  (hy:X.env.scope.names.lookup y=some .local) (hi:PI X tg iter wi)
  (hg:∀C cells s₂ H₂ fp,PG (q0v X scope N' C cells s₂ H₂ fp) tg g) (ht:∀C cells s₂ H₂ fp,PTs (q0v X scope N' C cells s₂ H₂ fp) ifs tc) (he:∀C cells s₂ H₂ fp,PE (q0v X scope N' C cells s₂ H₂ fp) elt te)
  (hsw:swapsWith (.ListComp elt [⟨tg,iter,ifs,0⟩] scope pos) (some (.Name y py)) spos.line X.env=pure true:=by rfl)
  (hs:∀x,foldedSetIterable iter X.env x=pure x:=by intro _;rfl):PS X (.Assign [.Name y py] (.ListComp elt [⟨tg,iter,ifs,0⟩] scope pos) spos) (tAsg (z6c fr wi g tc te) (z0D i)):=by
 intro pins s σ H Dn I h;rw[exec_Assign_Name_used _ _ _ _ hsw];refine wpAny_bind (wpAny_standAt (wpAny_bind ?_));show wpAny _ _ (do let _ ←comprehension (.ListComp elt [⟨tg,iter,ifs,0⟩] scope pos) scope X.env _ (newList []) false (eval iter X.env) (some (assign (.Name y py) X.env))) _ _ s;have hfree:∀y∈scope.names,y.2=NameKind.free->∃c,X.env.cells.lookup y.1=some c:=λy hy hk=>I.ok.has y.1 (S.out y hy hk)
 refine wpAny_bind (wpAny_mono (wpAny_comprehension_free (use:=some (assign (.Name y py) X.env)) (Q:=λ_ s'=>SP X pins Dn .next s') rfl hs (q2n hfree) S.kind (λx hx hl=>q0H S.snd (by rw[←hl];exact hx))
  (thn (hi pins s σ H _ I h) λv s1 h1=>thn h1 λitv s2 h2=>?_)) (λ_ s' hq=>wpAny_pure (wpAny_pure hq)) λ_ _ e=>e)
 obtain⟨it,fp,tn,J,H2,e,I2,T,st2,f2,w⟩:=h2;subst e;refine q7R (RR:=λacc C=>compPost (model X.prog X.w) X.A X.xe (some (assign (.Name y py) X.env)) (λ_ s'=>SP X pins Dn .next s') acc C) S hc hg ht he I2 T st2 f2 w ?_;intro D C H' s' m ys I' hD hnC hCn hCL hCs hCc hCp fin;refine wpAny_assign_Name (q6L (v:=.ref D) I' hN hiN (Or.inl hy) rfl (λs'' I'' ⟨a,hsb,ha⟩=>⟨m,hnC.sameBut hsb ?_,λh' hs'=>⟨_,_,I''.turned (it:=C) (t':=s''.toks) (λb o hb e=>(hs'.2 b hb).trans e) hCn hCL (.inr hCs) hCc hCp,fin D hD⟩⟩) (.inr hy));rcases ha with z | z
 ·rw[z];exact hCL
 ·exact Ne.symm (hCc y a z)
end L2
end
noncomputable section
namespace L2
open PySem PySem.Spec PyProof.Rows
structure Fly(P:Program)(w:World)(base:Heap)(l:List Env)(ea:Addr)(C:Value)(H:Hp)(B h:Heap):Prop where
 fly:∃a0,Heap.FlyingW B l ea C a0 h
 bas:∀b o,base.get? b=some o->B.get? b=some o
 hok:HOk P w H B
theorem Fly.stays{P:Program}{w:World}{base:Heap}{l:List Env}{ea:Addr}{C:Value}{H:Hp}{B h:Heap}(F:Fly P w base l ea C H B h):∀b o,B.get? b=some o->h.get? b=some o:=by
 obtain⟨a0,f⟩:=F.fly;exact f.1
def CXx(P:Program)(w:World)(base:Heap):CXT:=λouter H s E e s'=>∃(ea:Addr) (C:Value) (H':Hp) (B:Heap),e=.ref ea/\s'.os=s.os/\AllBare s'.gens/\Un (frs outer) [] H H' s.heap s'.heap /\
 Fly P w base outer ea C H' B s'.heap/\(∀b o,s.heap.get? b=some o->b∉frs outer->∃o',B.get? b=some o')/\E C none H'
theorem Un.flown{fs ex:List Addr}{H H':Hp}{h0 h1 h2 B:Heap}(u:Un fs ex H H' h0 h1)(cov:∀b o,h0.get? b=some o->b∉fs->b∉ex->∃o',B.get? b=some o')(s1:∀b o,B.get? b=some o->h1.get? b=some o)(s2:∀b o,B.get? b=some o->h2.get? b=some o)
  (up:h1.UpToSlots h2) (fd:∀b∈fs,b∉ex/\H b=none/\∀o,h0.get? b=some o->∀vs,o.data ≠ .fields vs):Un fs ex H H' h0 h2:=by
 have keep:∀b o,h0.get? b=some o->H b=none->b∉fs->b∉ex->h2.get? b=some o:=λb o e n hb hx=>by have e1:=u.keep b o e n hb hx;obtain⟨o',q⟩:=cov b o e hb hx;have q1:=s1 b o' q;rw[e1]at q1;cases q1;exact s2 b o q
 have slot:∀b o,h0.get? b=some o->H b=none->b∈fs->b∉ex->∃sl,h2.get? b=some {o with slots:=sl}:=λb o e n hb hx=>by obtain⟨sl,e1⟩:=u.slot b o e n hb hx;obtain⟨sl',e2⟩:=up b _ e1 ((fd b hb).2.2 o e);exact⟨sl',e2⟩
 refine⟨keep,slot,u.free,λb o e hx=>?_,u.tups,u.frzs,u.tbls⟩;by_cases hb:b∈fs
 ·obtain⟨sl,q⟩:=slot b o e (fd b hb).2.1 hb hx;exact⟨_,q⟩
 ·obtain⟨o',q⟩:=cov b o e hb hx;exact⟨o',s2 b o' q⟩
section
variable {X:Cx} {pins:List (Addr×Obj)} {σ:St} {H:Hp} {s:Shared}
theorem Inv.frameData(I:Inv X pins σ H s):∀b∈X.fs,b∉X.ex/\X.H₀ b=none/\∀o,X.s₀.heap.get? b=some o->∀vs,o.data ≠ .fields vs:=λb hb=>by
 refine⟨λz=>I.ok.exfs b z hb,I.ok.frf b hb,λo e=>?_⟩;obtain⟨_,o',e',d⟩:=I.ok.funs.mem hb
 rw[e]at e';cases e';exact d
theorem Inv.notStk(I:Inv X pins σ H s){b:Addr}{o:Obj}(e:X.s₀.heap.get? b=some o)(hb:b∉X.fs):b∉frs X.stack:=λz=>by
 rcases List.mem_cons.mp (I.stkSub b z)with q | q
 ·exact absurd (Nat.lt_of_lt_of_le (Heap.lt_size e) I.ok.above) (by rw[q];exact Nat.lt_irrefl _)
 ·exact hb q
end
section
variable {P:Program} {w:World} {K:PySem.W.Frag} {mg:Str->Option Value} {base:Heap} {N:List Str} {qual:Str} {scope:Scope} {f:Addr} {cd:Value} {A:Around} {outer:List Env} {s:Shared} {H:Hp} {E:XK}
abbrev cxD(P:Program)(w:World)(K:PySem.W.Frag)(mg:Str->Option Value)(base:Heap)(N:List Str)(qual:Str)(scope:Scope)(f:Addr)(cd:Value)(A:Around)(outer:List Env)(s:Shared)(H:Hp)(E:XK):Cx:=
 cxOf (CXx P w base) P w K mg base N qual scope f cd A outer s H E
theorem q7g{pins:List (Addr×Obj)}{σ:St}{H1:Hp}{s1:Shared}{h':Heap}{ea:Addr}{C:Value}{vs:List Value}(I:Inv (cxD P w K mg base N qual scope f cd A outer s H E) pins σ H1 s1)(hx:Heap.MadeExcOf s1.heap h' ea C vs)(hE:E C none H1) :
  (cxD P w K mg base N qual scope f cd A outer s H E).xe (.ref ea) {s1 with heap:=h'}:=by
 have hstk:=I.stack;have hin:∀env∈(cxD P w K mg base N qual scope f cd A outer s H E).stack,∀a,env.frame=some a->a∈frs (cxD P w K mg base N qual scope f cd A outer s H E).stack:=λenv he b hb=>List.mem_filterMap.mpr ⟨env,he,hb⟩;have hB1:∀b o,(PySem.W.hideAll s1.heap (frs (cxD P w K mg base N qual scope f cd A outer s H E).stack)).get? b=some o->s1.heap.get? b=some o:=λb o q=>PySem.W.of_hideAll _ q;have hHid:∀b u,H1 b≠none->s1.heap.get? b=some u->(PySem.W.hideAll s1.heap (frs (cxD P w K mg base N qual scope f cd A outer s H E).stack)).get? b=some u:=λb u hb q=>PySem.W.hideAll_get _ q λz=>hb (I.stkFree b z);refine wpAny_leaves_madeW (base:=PySem.W.hideAll s1.heap (frs (cxD P w K mg base N qual scope f cd A outer s H E).stack)) (h:=s1.heap) I.ok.frames rfl hB1 (PySem.W.funFrames_hide hstk hin) hx λh2 t fl tup nt up=>?_;have hcov:∀b o,s.heap.get? b=some o->b∉frs outer->∃o',(PySem.W.hideAll s1.heap (frs (cxD P w K mg base N qual scope f cd A outer s H E).stack)).get? b=some o':=λb o e hb=>by obtain⟨o1,e1⟩:=I.base.there b o e (by intro z;exact nomatch z);exact⟨o1,PySem.W.hideAll_get _ e1 (I.notStk e hb)⟩
 refine⟨ea,C,H1,_,rfl,I.os,I.bare,I.base.flown (λb o e hb _=>hcov b o e hb) hB1 fl.1 ((Heap.UpToSlots.of_keeps hx.keeps).trans up) I.frameData,⟨⟨_,fl⟩,λb o e=>?_,λa o q=>?_⟩,hcov,hE⟩
 ·refine PySem.W.hideAll_get _ (I.bk b o e) λz=>?_;have q:base.get? b=none:=(hstk.mem z).1;rw[q]at e;cases e
 ·refine(I.hok a o q).stay (λb u hc e=>hHid b u ?_ e) (λ_ z=>z) λ_ _ z=>z;rcases hc with z | z
  ·subst z;rw[q];intro z;cases z
  ·rw[z];intro z;cases z
theorem z2k{pins:List (Addr×Obj)}{σ:St}{H1:Hp}{s1:Shared}{ea:Addr}{C:Value}{B:Heap}(I:Inv (cxD P w K mg base N qual scope f cd A outer s H E) pins σ H1 s1)(F:Fly P w base (cxD P w K mg base N qual scope f cd A outer s H E).stack ea C H1 B s1.heap)
  (cov:∀b o,s.heap.get? b=some o->b∉frs (cxD P w K mg base N qual scope f cd A outer s H E).stack->∃o',B.get? b=some o') (hE:E C none H1):(cxD P w K mg base N qual scope f cd A outer s H E).xe (.ref ea) s1:=by
 obtain⟨a0,fl⟩:=F.fly;refine wpAny_leaves_onW I.ok.frames rfl fl λh2 fl2 up=>?_
 have hcov:∀b o,s.heap.get? b=some o->b∉frs outer->∃o',B.get? b=some o':=λb o e hb=>cov b o e (I.notStk e hb);exact⟨ea,C,H1,B,rfl,I.os,I.bare,I.base.flown (λb o e hb _=>hcov b o e hb) F.stays fl2.1 up I.frameData,⟨⟨_,fl2⟩,F.bas,F.hok⟩,hcov,hE⟩
theorem q9p:z0a (CXx P w base) (cxD P w K mg base N qual scope f cd A outer s H E) E:=by
 intro pins σ H0 s0 e s' I hcx;obtain⟨ea,C,H',B,rfl,os,bare,un,F,cov,hE⟩:=hcx;have I':Inv (cxD P w K mg base N qual scope f cd A outer s H E) pins σ H' s':=I.call' os un (F.hok.kept F.stays) bare λb hb=>nomatch hb
 refine z2k I' F (λb o e hb=>?_) hE;obtain⟨o1,e1⟩:=I.base.there b o e (by intro z;exact nomatch z);exact cov b o1 e1 hb
end
def excO(ea:Addr)(C:Value):HO:=.ext λh=>∃oe vs,h.get? ea=some oe/\oe.cls=C/\oe.data=.fields vs
def XP(X:Cx)(pins:List (Addr×Obj))(E:St->Value->Hp->Prop)(e:Value)(s':Shared):Prop:=∃(ea:Addr) (C:Value) (σ':St) (H':Hp) (B:Heap),e=.ref ea/\Inv X pins σ' H' s'/\Fly X.prog X.w X.base X.stack ea C H' B s'.heap /\
 (∀b o,X.s₀.heap.get? b=some o->b∉frs X.stack->b∉X.ex->∃o',B.get? b=some o')/\(∀p∈X.pn++pins,∃o',B.get? p.1=some o')/\E σ' C H'
section
variable {X:Cx} {pins pins':List (Addr×Obj)} {σ:St} {H:Hp} {s:Shared} {E:St->Value->Hp->Prop} {ea:Addr}
theorem Inv.track{a:Addr}{o:HO}(I:Inv X pins σ H s)(hn:H a=none)(h0:X.s₀.heap.get? a=none)(hL:a≠X.env.locals)(hc:∀x c,X.env.cells.lookup x=some c->c≠a)(hp:∀p∈X.pn++pins,p.1≠a)(new:q1Q X.prog X.w (upd H a o) s.heap a o) :
  Inv X pins σ (upd H a o) s:=
 ⟨I.ok,I.os,I.bare,I.base.track hn h0,I.loc,I.cell,by rw[q0q (Ne.symm hL)];exact I.free,λx c e=>by rw[q0q (hc x c e)];exact I.freeC x c e,λp hq=>by
  obtain⟨e,n,ne,nf,d⟩:=I.pin p hq;exact⟨e,by rw[q0q (hp p hq)];exact n,ne,nf,d⟩,I.hok.track hn new,I.len⟩
end
def q4r(CX:CXT)(X:Cx)(E:St->XK):Prop:=∀(pins:List (Addr×Obj)) (σ:St) (H:Hp) (s:Shared) (e:Value) (s':Shared),Inv X pins σ H s->CX X.stack H s (E σ) e s'->X.xe e s'
theorem z0a.s{CX:CXT}{X:Cx}{E:XK}(h:z0a CX X E):q4r CX X λ_=>E:=λpins σ H s e s' I q=>h pins σ H s e s' I q
section
variable {X:Cx} {CX:CXT} {k:Nat} {f C:Addr} {fd:FuncData} {ps:List Str} {sp:Sp} {dvs:List V} {ds:List Value} {E:St->XK} {x m:Str} {p pos apos:Pos} {e o:Expr} {es:List Expr} {ta:TE} {t:TA}
theorem z6e{pins:List (Addr×Obj)}{σ:St}{H:Hp}{s:Shared}{Q:VK}{us:List Value}{vs:List V}(F:FnOk X.prog X.w X.K X.mg X.base CX k f fd ps sp)(hr:Room k X.A)(hb:q2Q X.K fd ps ds)(hd:Vals dvs ds)(hx:q4r CX X E)
  (I:Inv X pins σ H s) (r:Vals vs us) (h:sp (vs++dvs) H Q (E σ)):wpAny (model X.prog X.w) X.A (call (.ref f) us) (EP X pins σ Q) X.xe s:=by
 have r2:Vals (vs++dvs) (us++ds):=r.append hd;have hl:(us++ds).length=ps.length:=by rw[←r2.length];exact F.len _ _ _ _ h
 refine wpAny_call (codeAny_mono (F.run X.A X.stack s H ⟨us,[]⟩ (us++ds) (vs++dvs) Q (E σ) hr I.env0 (hb s us I.kIn hl) r2 h) λr s' hq=>?_);cases r with
 | error e=>exact hx pins σ H s e s' I hq
 | ok fl=>
  cases fl with
  | ret u=>exact I.after hq
  | next=>exact False.elim hq
  | brk=>exact False.elim hq
  | cont=>exact False.elim hq
def z3p(sp:Sp)(dvs:List V)(E:St->XK)(t:TA):TE:=λσ H Q=>t σ H λvs H1=>sp (vs++dvs) H1 Q (E σ)
theorem z2B(F:FnOk X.prog X.w X.K X.mg X.base CX k f fd ps sp)(hr:Room k X.A)(hg:Gl X x)(hm:X.mg x=some (.ref f))(hk:PySem.W.keepIn X.K (.ref f)=true)(hb:q2Q X.K fd ps ds)(hd:Vals dvs ds)(hx:q4r CX X E)
  (ha:PA X (e::es) t) (hdb:(x==("__debug__" : Str))=false:=by decide) (he:starEach (e::es) X.env=(false,eval e X.env)::starEach es X.env:=by rfl) (hpl:(backTo pos (starEach es X.env)).any (·.1)=false:=by rfl) :
  PE X (.Call (.Name x p) (e::es) [] pos) (z3p sp dvs E t):=by
 intro pins s σ H Q I h;refine wpAny_Call_Name_kw (q7v I hg hm ?_ hdb);refine PySem.W.callWith_K (h₀:=X.base) I.ok.mod.kin hk (thn (ha pos pins s σ H _ I h) λus s1 ⟨vs,H1,I1,r,q⟩=>⟨I1.kIn,?_⟩) he hpl;exact z6e F hr hb hd hx I1 r q
end
theorem z3k{K:PySem.W.Frag}{h₀:Heap}{mg:Str->Option Value}{x:Str}{C:Addr}{bmB:List Value}{newId:String}(X:K.In h₀)(hm:mg x=some (.ref C))(q:PySem.W.excIn K C bmB newId=true):OwnCls x C bmB newId mg h₀:=by
 refine⟨hm,?_⟩;unfold PySem.W.excIn at q;split at q
 ·rename_i dd cd sl ho;split at q
  ·rename_i C' bm k0 k1 k2 k3 n k5 hm hs;simp only[Bool.and_eq_true,beq_iff_eq,Bool.not_eq_true']at q;obtain⟨⟨⟨⟨⟨rfl,rfl⟩,hdel⟩,ht⟩,hok⟩,hni⟩:=q;obtain⟨nm,bs,mro,ns,qn,hd,sn,sub,ab,col,del⟩:=cd;dsimp only at hm hdel hok hni;subst hm hdel;have hsl:sl = #[k0,k1,k2,k3,some (.builtin n),k5]:=by
    obtain⟨l⟩:=sl;simp only at hs;rw[hs]
   subst hsl;exact⟨bm,ns,nm,qn,bs,hd,sn,sub,ab,col,dd,k0,k1,k2,k3,k5,_,X _ _ ho,.of_isNs (PySem.W.isNs_of_in X hok),PySem.W.nsMap_none_of_in X hok hni,PySem.W.tail_of_in X ht⟩
  ·cases q
 ·cases q
def q3Z(X:Cx)(E:St->XK):Prop:=∀(pins:List (Addr×Obj)) (σ:St) (H:Hp) (s:Shared) (h':Heap) (ea:Addr) (C:Value) (vs:List Value),Inv X pins σ H s->Heap.MadeExcOf s.heap h' ea C vs->E σ C none H->X.xe (.ref ea) {s with heap:=h'}
theorem q9i{P:Program}{w:World}{K:PySem.W.Frag}{mg:Str->Option Value}{base:Heap}{N:List Str}{qual:Str}{scope:Scope}{f:Addr}{cd:Value}{A:Around}{outer:List Env}{s:Shared}{H:Hp}{E:XK} :
  q3Z (cxD P w K mg base N qual scope f cd A outer s H E) λ_=>E:=λpins σ H1 s1 h' ea C vs I hx hE=>q7g I hx hE
def z8Q(C:Addr)(E:St->XK)(t:TA):TS:=λ_ σ H=>t σ H λvs H1=>vs.length<=sizeLine/\E σ (.ref C) none H1
theorem z2X{X:Cx}{x:Str}{C:Addr}{bmB:List Value}{B newId initId:String}{np cpos pos:Pos}{e₀:Expr}{rest:List Expr}{t:TA}{E:St->XK}(FB:ExcBaseFacts B newId initId bmB)(hc:X.calm=true)(hg:Gl X x)(hm:X.mg x=some (.ref C))(hx:PySem.W.excIn X.K C bmB newId=true)
  (hR:q3Z X E) (ha:PA X (e₀::rest) t) (hd:(x==("__debug__" : Str))=false:=by decide) (he:starEach (e₀::rest) X.env=(false,eval e₀ X.env)::starEach rest X.env:=by rfl) (hpl:(backTo cpos (starEach rest X.env)).any (·.1)=false:=by rfl) :
  PS X (.Raise (some (.Call (.Name x np) (e₀::rest) [] cpos)) none pos) (z8Q C E t):=by
 intro pins s σ H D I h;obtain⟨tl,N,nm,q,bs,hdct,sn,sub,ab,col,dd,k0,k1,k2,k3,k5,mN,hC,hN,hni,T⟩:=(z3k I.mod.kin hm hx).obj;refine wpAny_Raise_call_subT (C:=C) (nm:=nm) (q:=q) (N:=N) (bs:=bs) (bm:=tl) (hdct:=hdct) (sn:=sn) (sub:=sub) (ab:=ab) (col:=col) (dd:=dd) (k0:=k0) (k1:=k1) (k2:=k2) (k3:=k3) (k5:=k5)
  FB (mN:=mN) (T.hasType FB.hasBase) (I.ok.hd hc) (by rw[he];show(false||(backTo cpos (starEach rest X.env)).any (·.1))=false;rw[hpl];rfl) hni (q7v I hg hm ⟨rfl,?_⟩ hd)
 have hq:=ha cpos pins s σ H _ I h;rw[he]at hq ⊢;exact Calls.evalArgs_plain (thn hq λvs s₂ ⟨xs,H2,I2,r2,hl,hE⟩=>⟨rfl,by show vs.length<=sizeLine;rw[←r2.length];exact hl,I2.bk _ _ hC,hN.keeps I2.bk,T.keeps I2.bk,λh' e hm'=>hR pins σ H2 s₂ h' e _ _ I2 hm' hE⟩)
end L2
end
noncomputable section
namespace L2
open PySem PySem.W PySem.Spec PySem.Calls PyProof.Rows PySem.Builtin PySem.Builtin.ObjectAttr PySem.Builtin.Getset_descriptor
section
variable {prog:Program} {w:World} {K:Frag} {x D:Addr} {M:Model} {h:Heap}
structure ClsK(K:Frag)(D:Addr):Prop where
 ga:findIn K (.ref D) "__getattribute__" = some (some (.builtin "BaseException.__getattribute__"))
 gt:findIn K (.ref D) "__getattr__" = some none
 mb:mroIn K D (.type "BaseException")=some true
 hd:hasDictIn K D=true
 fc:findIn K (.ref D) "__class__" = some (some (.builtin "object.__class__"))
 sg:specialIn K (.builtin "object.__class__") "__get__" = some (some (.builtin "getset_descriptor.__get__"))
 tk:takesIn K (.builtin "object.__class__")=some true
 mo:mroIn K D (.type "object")=some true
variable {A:Around} {E:Value->Shared->Prop} {s:Shared}
end
end L2
end
noncomputable section
namespace L2
open PySem PySem.Spec PyProof.Rows
structure Src(P:Program)(w:World)(ia la:Addr)(vs:Array Value)(S:Nat->Heap->Prop):Prop where
 keep:∀k h h',S k h->(∀o,h.get? ia=some o->h'.get? ia=some o)->(∀o,h.get? la=some o->h'.get? la=some o)->S k h'
 there:∀k h,S k h->∃o xs,h.get? ia=some o/\o.data=.fields xs
 step:∀{A:Around} {E:Value->Shared->Prop} {s:Shared} {Q:Value->Shared->Prop} (k:Nat) (x:Value),S k s.heap->vs[k]? = some x->(∀h',S (k+1) h'->Heap.SameBut ia s.heap h'->Q x {s with heap:=h'}) ->
  wpAny (model P w) A (Builtin.SmallTypes.nextOf (.ref ia)) Q E s
 stop:∀{A:Around} {E:Value->Shared->Prop} {s:Shared} {Q:Value->Shared->Prop} (k:Nat),A.handled=none->S k s.heap->vs[k]? = none ->
  (∀h' e,Heap.ExtBut ia s.heap h'->(∃o,h'.get? e=some o/\o.cls=.type "StopIteration")->E (.ref e) {s with heap:=h'})->wpAny (model P w) A (Builtin.SmallTypes.nextOf (.ref ia)) Q E s
def sL(ia la:Addr)(vs:Array Value):Nat->Heap->Prop:=λk h=>h.IsListIter ia la k/\h.IsList la vs
def sT(ia la:Addr)(vs:Array Value):Nat->Heap->Prop:=λk h=>h.IsTupleIter ia la k/\h.IsTuple la vs
theorem z2c{P:Program}{w:World}{ia la:Addr}{vs:Array Value}(ne:la≠ia):Src P w ia la vs (sL ia la vs) where
 keep:=λk h h' ⟨p,q⟩ e1 e2=>⟨p.at e1,q.at e2⟩
 there:=λk h ⟨p,q⟩=>by obtain⟨o,e,_,d⟩:=p;exact⟨o,_,e,d⟩
 step:=λk x ⟨p,q⟩ hx hq=>wpAny_nextOf_list_item p q hx λh' p' sb=>hq h' ⟨p',q.extBut sb.extBut ne⟩ sb
 stop:=λk hh ⟨p,q⟩ hx hq=>wpAny_nextOf_list_end hh p q hx hq
section
variable {P:Program} {w:World} {A:Around} {E:Value->Shared->Prop} {s:Shared}
theorem z2f{ja ta:Addr}{k:Nat}{vs:Array Value}{x:Value}{Q:Value->Shared->Prop}(p:s.heap.IsTupleIter ja ta k)(q:s.heap.IsTuple ta vs)(hx:vs[k]? = some x)(hq:∀h',h'.IsTupleIter ja ta (k+1)->Heap.SameBut ja s.heap h'->Q x {s with heap:=h'}) :
  wpAny (model P w) A (Builtin.SmallTypes.nextOf (.ref ja)) Q E s:=by
 obtain⟨ob,e1,e2,e3⟩:=id p;obtain⟨ot,f1,_,nn,f3⟩:=q;unfold Builtin.SmallTypes.nextOf;refine wpAny_bind (wpAny_callSpecial?_slot (name:=Str.ofString "__next__") p.typeIs F.slot_tuple_iterator_next (wpAny_call_entry F.slot_tuple_iterator_next p.typeIs F.entry_tuple_iterator_next ?_ (F.args_tuple_iterator_next_1 _)));show wpAny _ _ (field (.ref ja) 0 >>= _) _ _ s;refine wpAny_bind (wpAny_field e1 e3 (x:=.ref ta) rfl ?_);show wpAny _ _ (if(Value.ref ta==Value.none)=true then _ else _) _ _ s;rw[if_neg (show ¬((Value.ref ta==Value.none)=true)from Bool.false_ne_true)];show wpAny _ _ (field (.ref ja) 1 >>= _) _ _ s;refine wpAny_bind (wpAny_field e1 e3 (x:=.int k 0) rfl ?_);show wpAny _ _ (seqItems? (.ref ta) >>= _) _ _ s;refine wpAny_bind (wpAny_seqItems f1 f3 ?_);simp only[Int.toNat_natCast,hx];refine wpAny_bind (wpAny_setField e1 e3 (by simp) (wpAny_pure ⟨x,rfl,wpAny_pure (hq _ ?_ (Heap.SameBut.update ..))⟩));exact⟨_,Heap.get?_update_self _ e1 (Obj.isFreed_of_fields (Obj.data_mapFields e3 _)),(Obj.cls_mapFields ..).trans e2,by rw[Obj.data_mapFields e3];simp[rawInt]⟩
theorem z2U{ja ta:Addr}{k:Nat}{vs:Array Value}{Q:Value->Shared->Prop}(hh:A.handled=none)(p:s.heap.IsTupleIter ja ta k)(q:s.heap.IsTuple ta vs)(hx:vs[k]? = none)(hE:∀h' e,Heap.ExtBut ja s.heap h'->(∃o,h'.get? e=some o/\o.cls=.type "StopIteration")->E (.ref e) {s with heap:=h'}) :
  wpAny (model P w) A (Builtin.SmallTypes.nextOf (.ref ja)) Q E s:=by
 obtain⟨ob,e1,e2,e3⟩:=id p;obtain⟨ot,f1,_,nn,f3⟩:=q;unfold Builtin.SmallTypes.nextOf;refine wpAny_bind (wpAny_callSpecial?_slot (name:=Str.ofString "__next__") p.typeIs F.slot_tuple_iterator_next (wpAny_call_entry F.slot_tuple_iterator_next p.typeIs F.entry_tuple_iterator_next ?_ (F.args_tuple_iterator_next_1 _)));show wpAny _ _ (field (.ref ja) 0 >>= _) _ _ s;refine wpAny_bind (wpAny_field e1 e3 (x:=.ref ta) rfl ?_);show wpAny _ _ (if(Value.ref ta==Value.none)=true then _ else _) _ _ s;rw[if_neg (show ¬((Value.ref ta==Value.none)=true)from Bool.false_ne_true)];show wpAny _ _ (field (.ref ja) 1 >>= _) _ _ s;refine wpAny_bind (wpAny_field e1 e3 (x:=.int k 0) rfl ?_);show wpAny _ _ (seqItems? (.ref ta) >>= _) _ _ s;refine wpAny_bind (wpAny_seqItems f1 f3 ?_);simp only[Int.toNat_natCast,hx];refine wpAny_bind (wpAny_rule (wpAny_bind (wpAny_setField e1 e3 (by simp) ?_)));show wpAny _ _ (newExc (.type "StopIteration") [] >>= λy=>raiseNew y) _ _ _;refine wpAny_bind ?_;simp only[newExc,newTuple];refine wpAny_bind (wpAny_newObj_type ?_ (by size_fits));refine wpAny_bind (m:=firstArgMember _ _) (wpAny_of_eq (a:=Value.none) (by first | rfl | (simp only[firstArgMember];rfl)) ?_);refine wpAny_newObj_type ?_ (by size_fits);simp only[raiseNew];refine wpAny_bind (wpAny_handled ?_)
 first | rw[show A.in1.handled=none from hh] | rw[hh]
 refine wpAny_bind (wpAny_pure (wpAny_throw (hE _ _ (((Heap.SameBut.update ..).extBut.push _).push _) ⟨_,Heap.get?_push_size _ rfl,rfl⟩)))
theorem z4o{ia la:Addr}{vs:Array Value}(ne:la≠ia):Src P w ia la vs (sT ia la vs) where
 keep:=λk h h' ⟨p,q⟩ e1 e2=>⟨by obtain⟨o,e,r⟩:=p;exact⟨o,e1 o e,r⟩,by obtain⟨o,e,r⟩:=q;exact⟨o,e2 o e,r⟩⟩
 there:=λk h ⟨p,q⟩=>by obtain⟨o,e,_,d⟩:=p;exact⟨o,_,e,d⟩
 step:=λk x ⟨p,q⟩ hx hq=>z2f p q hx λh' p' sb=>hq h' ⟨p',q.extBut sb.extBut ne⟩ sb
 stop:=λk hh ⟨p,q⟩ hx hq=>z2U hh p q hx hq
variable {Z U W a b l1 l2:Addr} {k:Nat} {vs1 vs2:Array Value} {S1 S2:Nat->Heap->Prop} {x y c d:Value}
theorem Src.ext{ia la:Addr}{vs:Array Value}{S:Nat->Heap->Prop}{h h':Heap}{e:Addr}(R:Src P w ia la vs S)(q:S k h)(hs:Heap.ExtBut e h h')(n1:ia≠e)(n2:la≠e):S k h':=R.keep k h h' q (λo z=>hs _ _ n1 z) (λo z=>hs _ _ n2 z)
theorem z2L{Q:Value->Shared->Prop}(D:ZipApart Z U W a b l1 l2)(R1:Src P w a l1 vs1 S1)(R2:Src P w b l2 vs2 S2)(hz:IsZip s.heap Z U W .none)(hU:IsPair s.heap U (.ref a) (.ref b))(hW:IsPair s.heap W c d)(h1:S1 k s.heap)(h2:S2 k s.heap)(hx:vs1[k]? = some x)(hy:vs2[k]? = some y)
  (hQ:∀h',IsZip h' Z U W (rawInt s.heap.objs.size)->IsPair h' W x y->S1 (k+1) h'->S2 (k+1) h'->IsPair h' s.heap.objs.size x y->h'.objs.size=s.heap.objs.size+1->(∀e o,e≠Z->e≠W->e≠a->e≠b->s.heap.get? e=some o->h'.get? e=some o)->Q (.ref s.heap.objs.size) {s with heap:=h'}) :
  wpAny (model P w) A (Builtin.«zip.__next__» ⟨[.ref Z],[]⟩) (λfin s'=>∃v,fin=.done (.ret v)/\Q v s') E s:=by
 show wpAny _ _ (field (.ref Z) 2 >>= _) _ _ _;refine wpAny_bind (wpAny_field hz rfl (x:=.bool false) rfl ?_);show wpAny _ _ (field (.ref Z) 3 >>= _) _ _ _;refine wpAny_bind (wpAny_field hz rfl (x:=.ref U) rfl (wpAny_bind (wpAny_seqItems hU rfl ?_)));show wpAny _ _ (Builtin.SmallTypes.ownedTupleIsFree (.ref Z) >>= _) _ _ _;refine wpAny_bind ?_;unfold Builtin.SmallTypes.ownedTupleIsFree;refine wpAny_bind (wpAny_field hz rfl (x:=.none) rfl (wpAny_pure ?_));simp only[if_true];refine wpAny_bind (wpAny_rule (wpAny_bind (wpAny_field hz rfl (x:=.ref W) rfl ?_)));refine wpAny_bind (wpAny_setField_rec hz (by simp) λg1 z1 t1=>?_)
 replace z1:IsZip g1 Z U W .ellipsis:=z1
 refine wpAny_bind ?_;simp only[List.zipIdx_cons,List.zipIdx_nil,List.forIn_cons,List.forIn_nil];refine wpAny_bind (wpAny_bind (wpAny_onRaise ?_));show wpAny _ _ (Builtin.SmallTypes.nextOf (.ref a) >>= _) _ _ _;refine wpAny_bind (R1.step k x (R1.ext h1 t1.extBut D.i1z D.l1z) hx λg2 r2 t2=>wpAny_pure ?_);have w2:IsPair g2 W c d:=t2.extBut _ _ D.TOi1 (t1.extBut _ _ D.TOz hW);refine wpAny_bind (wpAny_seqItems w2 rfl (wpAny_bind (wpAny_updateSeq_pair w2 λg3 w3 t3=>?_)))
 replace w3:IsPair g3 W x d:=w3
 refine wpAny_bind (wpAny_letGo (wpAny_pure ?_));refine wpAny_bind (wpAny_bind (wpAny_onRaise ?_));show wpAny _ _ (Builtin.SmallTypes.nextOf (.ref b) >>= _) _ _ _;refine wpAny_bind (R2.step k y (R2.ext (R2.ext (R2.ext h2 t1.extBut D.i2z D.l2z) t2.extBut D.i12.symm D.l2i1) t3.extBut D.TOi2.symm D.l2TO) hy λg4 r4 t4=>wpAny_pure ?_);have w4:IsPair g4 W x d:=t4.extBut _ _ D.TOi2 w3;refine wpAny_bind (wpAny_seqItems w4 rfl (wpAny_bind (wpAny_updateSeq_pair w4 λg5 w5 t5=>?_)))
 replace w5:IsPair g5 W x y:=w5
 refine wpAny_bind (wpAny_letGo (wpAny_pure (wpAny_pure (wpAny_bind (wpAny_seqItems w5 rfl (wpAny_bind (wpAny_newTuple ?_)))))));have sz:g5.objs.size=s.heap.objs.size:=by rw[t5.1,t4.1,t3.1,t2.1,t1.1]
 have z5:IsZip g5 Z U W .ellipsis:=t5.extBut _ _ D.TOz.symm (t4.extBut _ _ D.i2z.symm (t3.extBut _ _ D.TOz.symm (t2.extBut _ _ D.i1z.symm z1)));have kk:∀e o,e≠Z->e≠W->e≠a->e≠b->s.heap.get? e=some o->g5.get? e=some o:=λe o n1 n2 n3 n4 z=>t5.extBut _ _ n2 (t4.extBut _ _ n4 (t3.extBut _ _ n2 (t2.extBut _ _ n3 (t1.extBut _ _ n1 z))));have r15:S1 (k+1) g5:=R1.ext (R1.ext (R1.ext r2 t3.extBut D.TOi1.symm D.l1TO) t4.extBut D.i12 D.l1i2) t5.extBut D.TOi1.symm D.l1TO;have r25:S2 (k+1) g5:=R2.ext r4 t5.extBut D.TOi2.symm D.l2TO;have zlt:Z<g5.objs.size:=Heap.lt_size z5;show wpAny _ _ (Builtin.SmallTypes.ownedTupleHandOut (.ref Z) (.ref g5.objs.size) >>= _) _ _ _;refine wpAny_bind ?_;unfold Builtin.SmallTypes.ownedTupleHandOut;have z6:IsZip (g5.push {cls:=.type "tuple",data:=.seq #[x,y]}) Z U W .ellipsis:=Heap.get?_push_of_some _ z5;refine wpAny_bind (wpAny_setField_rec z6 (by simp) λg7 z7 t7=>?_)
 replace z7:IsZip g7 Z U W (rawInt g5.objs.size):=z7
 refine wpAny_setField_rec z7 (by simp) λg8 z8 t8=>?_
 replace z8:IsZip g8 Z U W (rawInt g5.objs.size):=z8
 have up:∀e o,e≠Z->g5.get? e=some o->g8.get? e=some o:=λe o n z=>t8.extBut _ _ n (t7.extBut _ _ n (Heap.get?_push_of_some _ z));have T8:IsPair g8 g5.objs.size x y:=t8.extBut _ _ (Nat.ne_of_gt zlt) (t7.extBut _ _ (Nat.ne_of_gt zlt) (Heap.get?_push_size _ rfl));have s8:g8.objs.size=g5.objs.size+1:=by rw[t8.1,t7.1,Heap.size_push]
 rw[sz]at z8 T8 s8;refine wpAny_pure ⟨_,rfl,?_⟩;show Q (.ref g5.objs.size) _;rw[sz];exact hQ g8 z8 (up _ _ D.TOz w5) (R1.keep _ _ _ r15 (λo z=>up _ o D.i1z z) (λo z=>up _ o D.l1z z)) (R2.keep _ _ _ r25 (λo z=>up _ o D.i2z z) (λo z=>up _ o D.l2z z)) T8 s8 λe o n1 n2 n3 n4 z=>up e o n1 (kk e o n1 n2 n3 n4 z)
theorem z3b{Q:Fin->Shared->Prop}(hh:A.handled=none)(D:ZipApart Z U W a b l1 l2)(R1:Src P w a l1 vs1 S1)(R2:Src P w b l2 vs2 S2)(hz:IsZip s.heap Z U W .none)(hU:IsPair s.heap U (.ref a) (.ref b))(hW:IsPair s.heap W c d)(h1:S1 k s.heap)(h2:S2 k s.heap)(hend:vs1[k]? = none\/vs2[k]? = none)
  (hE:∀h' e,(∀f o,f≠Z->f≠W->f≠a->f≠b->s.heap.get? f=some o->h'.get? f=some o)->(∃o,h'.get? e=some o/\o.cls=.type "StopIteration")->E (.ref e) {s with heap:=h'}) :
  wpAny (model P w) A (Builtin.«zip.__next__» ⟨[.ref Z],[]⟩) Q E s:=by
 show wpAny _ _ (field (.ref Z) 2 >>= _) _ _ _;refine wpAny_bind (wpAny_field hz rfl (x:=.bool false) rfl ?_);show wpAny _ _ (field (.ref Z) 3 >>= _) _ _ _;refine wpAny_bind (wpAny_field hz rfl (x:=.ref U) rfl (wpAny_bind (wpAny_seqItems hU rfl ?_)));show wpAny _ _ (Builtin.SmallTypes.ownedTupleIsFree (.ref Z) >>= _) _ _ _;refine wpAny_bind ?_;unfold Builtin.SmallTypes.ownedTupleIsFree;refine wpAny_bind (wpAny_field hz rfl (x:=.none) rfl (wpAny_pure ?_));simp only[if_true];refine wpAny_bind (wpAny_rule (wpAny_bind (wpAny_field hz rfl (x:=.ref W) rfl ?_)));refine wpAny_bind (wpAny_setField_rec hz (by simp) λg1 z1 t1=>?_)
 replace z1:IsZip g1 Z U W .ellipsis:=z1
 refine wpAny_bind ?_;simp only[List.zipIdx_cons,List.zipIdx_nil,List.forIn_cons,List.forIn_nil];refine wpAny_bind (wpAny_bind (wpAny_onRaise ?_));show wpAny _ _ (Builtin.SmallTypes.nextOf (.ref a) >>= _) _ _ _;cases hx:vs1[k]? with
 | none=>
  refine wpAny_bind (R1.stop k hh (R1.ext h1 t1.extBut D.i1z D.l1z) hx λg2 e t2 he=>?_);obtain⟨oe,q1,q2⟩:=he;have z2:IsZip g2 Z U W .ellipsis:=t2 _ _ D.i1z.symm z1;have ez:e≠Z:=λz=>by subst z;rw[z2]at q1;cases q1;simp at q2
  exact wpAny_setField_rec z2 (by simp) λg3 _ t3=>hE g3 e (λf o n1 _ n3 _ z=>t3.extBut _ _ n1 (t2 _ _ n3 (t1.extBut _ _ n1 z))) ⟨oe,t3.extBut _ _ ez q1,q2⟩
 | some x=>
  have hy:vs2[k]? = none:=by rcases hend with h | h;rw[hx]at h;cases h;exact h
  refine wpAny_bind (R1.step k x (R1.ext h1 t1.extBut D.i1z D.l1z) hx λg2 r2 t2=>wpAny_pure ?_);have w2:IsPair g2 W c d:=t2.extBut _ _ D.TOi1 (t1.extBut _ _ D.TOz hW);refine wpAny_bind (wpAny_seqItems w2 rfl (wpAny_bind (wpAny_updateSeq_pair w2 λg3 w3 t3=>?_)));refine wpAny_bind (wpAny_letGo (wpAny_pure ?_));refine wpAny_bind (wpAny_bind (wpAny_onRaise ?_));show wpAny _ _ (Builtin.SmallTypes.nextOf (.ref b) >>= _) _ _ _;refine wpAny_bind (R2.stop k hh (R2.ext (R2.ext (R2.ext h2 t1.extBut D.i2z D.l2z) t2.extBut D.i12.symm D.l2i1) t3.extBut D.TOi2.symm D.l2TO) hy λg4 e t4 he=>?_);obtain⟨oe,q1,q2⟩:=he;have z4:IsZip g4 Z U W .ellipsis:=t4 _ _ D.i2z.symm (t3.extBut _ _ D.TOz.symm (t2.extBut _ _ D.i1z.symm z1));have ez:e≠Z:=λz=>by subst z;rw[z4]at q1;cases q1;simp at q2
  exact wpAny_setField_rec z4 (by simp) λg5 _ t5=>hE g5 e (λf o n1 n2 n3 n4 z=>t5.extBut _ _ n1 (t4 _ _ n4 (t3.extBut _ _ n2 (t2.extBut _ _ n3 (t1.extBut _ _ n1 z))))) ⟨oe,t5.extBut _ _ ez q1,q2⟩
theorem z1F{Q:Option Value->Shared->Prop}(D:ZipApart Z U W a b l1 l2)(R1:Src P w a l1 vs1 S1)(R2:Src P w b l2 vs2 S2)(hz:IsZip s.heap Z U W .none)(hU:IsPair s.heap U (.ref a) (.ref b))(hW:IsPair s.heap W c d)(h1:S1 k s.heap)(h2:S2 k s.heap)(hx:vs1[k]? = some x)(hy:vs2[k]? = some y)
  (hQ:∀h',IsZip h' Z U W (rawInt s.heap.objs.size)->IsPair h' W x y->S1 (k+1) h'->S2 (k+1) h'->IsPair h' s.heap.objs.size x y->h'.objs.size=s.heap.objs.size+1->(∀e o,e≠Z->e≠W->e≠a->e≠b->s.heap.get? e=some o->h'.get? e=some o)->Q (some (.ref s.heap.objs.size)) {s with heap:=h'}) :
  wpAny (model P w) A (pyNext (.ref Z)) Q E s:=by
 have T:s.TypeIs (.ref Z) "zip":=⟨_,hz,rfl⟩;unfold pyNext;exact wpAny_bind (wpAny_attempt (wpAny_callSpecial?_slot (name:=Str.ofString "__next__") T F.slot_zip_next (wpAny_call_entry F.slot_zip_next T F.entry_zip_next (z2L D R1 R2 hz hU hW h1 h2 hx hy λh' b1 b2 b3 b4 b5 b6 b7=>wpAny_pure (hQ h' b1 b2 b3 b4 b5 b6 b7)) (F.args_zip_next_1 _))))
theorem z1I{Q:Option Value->Shared->Prop}(hh:A.handled=none)(D:ZipApart Z U W a b l1 l2)(R1:Src P w a l1 vs1 S1)(R2:Src P w b l2 vs2 S2)(hz:IsZip s.heap Z U W .none)(hU:IsPair s.heap U (.ref a) (.ref b))(hW:IsPair s.heap W c d)(h1:S1 k s.heap)(h2:S2 k s.heap)(hend:vs1[k]? = none\/vs2[k]? = none)
  (hQ:∀h',(∀f o,f≠Z->f≠W->f≠a->f≠b->s.heap.get? f=some o->h'.get? f=some o)->Q none {s with heap:=h'}):wpAny (model P w) A (pyNext (.ref Z)) Q E s:=by
 have T:s.TypeIs (.ref Z) "zip":=⟨_,hz,rfl⟩;unfold pyNext;refine wpAny_bind (wpAny_attempt (wpAny_callSpecial?_slot (name:=Str.ofString "__next__") T F.slot_zip_next (wpAny_call_entry F.slot_zip_next T F.entry_zip_next (z3b hh D R1 R2 hz hU hW h1 h2 hend λh' e hk he=>?_) (F.args_zip_next_1 _))));obtain⟨o,q1,q2⟩:=he;exact wpAny_bind (wpAny_isInstance (T:="StopIteration") (b:=true) ⟨o,q1,q2⟩ isSubtype_stop (wpAny_pure (hQ _ hk)))
end
def SqK(t:Bool)(h:Heap)(l:Addr)(vs:Array Value):Prop:=match t with | false=>h.IsList l vs | true=>h.IsTuple l vs
def sK(t:Bool)(ia la:Addr)(vs:Array Value):Nat->Heap->Prop:=match t with | false=>sL ia la vs | true=>sT ia la vs
theorem q8J{P:Program}{w:World}{ia la:Addr}{vs:Array Value}(t:Bool)(ne:la≠ia):Src P w ia la vs (sK t ia la vs):=by
 cases t
 ·exact z2c ne
 ·exact z4o ne
def itN:Bool->String | false=>"list_iterator" | true=>"tuple_iterator"
abbrev itO(t:Bool)(l:Addr):Obj:={cls:=.type (itN t),data:=.fields #[.ref l,.int 0 0]}
abbrev zH1(h:Heap)(t1:Bool)(l1:Addr):Heap:=h.push (itO t1 l1)
abbrev zH2(h:Heap)(t1 t2:Bool)(l1 l2:Addr):Heap:=(zH1 h t1 l1).push (itO t2 l2)
abbrev zH3(h:Heap)(t1 t2:Bool)(l1 l2:Addr):Heap:=(zH2 h t1 t2 l1 l2).push {cls:=.type "tuple",data:=.seq #[.ref h.objs.size,.ref (zH1 h t1 l1).objs.size]}
abbrev zH4(h:Heap)(t1 t2:Bool)(l1 l2:Addr):Heap:=(zH3 h t1 t2 l1 l2).push {cls:=.type "tuple",data:=.seq #[.none,.none]}
abbrev zH5(h:Heap)(t1 t2:Bool)(l1 l2:Addr):Heap:=(zH4 h t1 t2 l1 l2).push {cls:=.type "zip",data:=.fields #[.none,.bool false,.bool false,.ref (zH2 h t1 t2 l1 l2).objs.size,.ref (zH3 h t1 t2 l1 l2).objs.size]}
theorem z3i(t1 t2:Bool)(l1 l2:Addr)(vs1 vs2:Array Value):Meets (Builtin.«zip.__new__» ⟨[.type "zip",.ref l1,.ref l2],[]⟩) (λ_ R s=>SqK t1 s.heap l1 vs1/\SqK t2 s.heap l2 vs2/\R (.ok (.ret (.ref (zH4 s.heap t1 t2 l1 l2).objs.size))) {s with heap:=zH5 s.heap t1 t2 l1 l2}):=
 .of_wp λP w A R s h=>by
  obtain⟨h0,g0,d0,k0,o0⟩:=s;obtain⟨q1,q2,h⟩:=h;have hsub:=sub_zip;cases t1<;>cases t2
  ·have e1:Heap.IsList (Shared.heap ⟨h0,g0,d0,k0,o0⟩) l1 vs1:=q1;have e2:Heap.IsList (Shared.heap ⟨h0.push {cls:=.type "list_iterator",data:=.fields #[.ref l1,.int 0 0]},g0,d0,k0,o0⟩) l2 vs2:=Heap.IsList.push q2 _
   wp_walk using wpAny_pyIter_list e1,wpAny_pyIter_list e2
   exact⟨_,rfl,h⟩
  ·have e1:Heap.IsList (Shared.heap ⟨h0,g0,d0,k0,o0⟩) l1 vs1:=q1;have e2:Heap.IsTuple (Shared.heap ⟨h0.push {cls:=.type "list_iterator",data:=.fields #[.ref l1,.int 0 0]},g0,d0,k0,o0⟩) l2 vs2:=Heap.IsTuple.push q2 _
   wp_walk using wpAny_pyIter_list e1,wpAny_pyIter_tuple e2
   exact⟨_,rfl,h⟩
  ·have e1:Heap.IsTuple (Shared.heap ⟨h0,g0,d0,k0,o0⟩) l1 vs1:=q1;have e2:Heap.IsList (Shared.heap ⟨h0.push {cls:=.type "tuple_iterator",data:=.fields #[.ref l1,.int 0 0]},g0,d0,k0,o0⟩) l2 vs2:=Heap.IsList.push q2 _
   wp_walk using wpAny_pyIter_tuple e1,wpAny_pyIter_list e2
   exact⟨_,rfl,h⟩
  ·have e1:Heap.IsTuple (Shared.heap ⟨h0,g0,d0,k0,o0⟩) l1 vs1:=q1;have e2:Heap.IsTuple (Shared.heap ⟨h0.push {cls:=.type "tuple_iterator",data:=.fields #[.ref l1,.int 0 0]},g0,d0,k0,o0⟩) l2 vs2:=Heap.IsTuple.push q2 _
   wp_walk using wpAny_pyIter_tuple e1,wpAny_pyIter_tuple e2
   exact⟨_,rfl,h⟩
theorem z1i{t:Bool}{ia la:Addr}{vs:Array Value}{h h':Heap}(e:h'.get? ia=some (itO t la))(q:SqK t h la vs)(k:∀c o,h.get? c=some o->h'.get? c=some o):sK t ia la vs 0 h':=by
 cases t
 ·exact⟨⟨_,e,rfl,rfl⟩,Heap.IsList.at q λo z=>k _ o z⟩
 ·exact⟨⟨_,e,rfl,rfl⟩,by obtain⟨o,z,r⟩:=q;exact⟨o,k _ o z,r⟩⟩
theorem z1V{P:Program}{w:World}{A:Around}{E:Value->Shared->Prop}{s:Shared}{l1 l2:Addr}{vs1 vs2:Array Value}{Q:Value->Shared->Prop}(t1 t2:Bool)(q1:SqK t1 s.heap l1 vs1)(q2:SqK t2 s.heap l2 vs2)
  (h:∀h',IsZip h' (s.heap.objs.size+4) (s.heap.objs.size+2) (s.heap.objs.size+3) .none->IsPair h' (s.heap.objs.size+2) (.ref s.heap.objs.size) (.ref (s.heap.objs.size+1))->IsPair h' (s.heap.objs.size+3) .none .none->sK t1 s.heap.objs.size l1 vs1 0 h'->sK t2 (s.heap.objs.size+1) l2 vs2 0 h'->h'.objs.size=s.heap.objs.size+5 ->
   (∀c o,s.heap.get? c=some o->h'.get? c=some o)->Q (.ref (s.heap.objs.size+4)) {s with heap:=h'}):wpAny (model P w) A (call (.type "zip") [.ref l1,.ref l2]) Q E s:=by
 refine callType_new F.called_zip (by decide) (F.typeCall_zip_2 _ _) (F.newCall_zip_2 _ _) (λobj=>F.args_object_init_3 obj _ _) F.entry_zip_new (z3i t1 t2 l1 l2 vs1 vs2) ⟨q1,q2,?_⟩;have n1:(zH1 s.heap t1 l1).objs.size=s.heap.objs.size+1:=Heap.size_push ..;have n2:(zH2 s.heap t1 t2 l1 l2).objs.size=s.heap.objs.size+2:=by rw[Heap.size_push,n1]
 have n3:(zH3 s.heap t1 t2 l1 l2).objs.size=s.heap.objs.size+3:=by rw[Heap.size_push,n2]
 have n4:(zH4 s.heap t1 t2 l1 l2).objs.size=s.heap.objs.size+4:=by rw[Heap.size_push,n3]
 have n5:(zH5 s.heap t1 t2 l1 l2).objs.size=s.heap.objs.size+5:=by rw[Heap.size_push,n4]
 have e5:(zH5 s.heap t1 t2 l1 l2).get? (zH4 s.heap t1 t2 l1 l2).objs.size=some _:=Heap.get?_push_size _ rfl;have e4:(zH5 s.heap t1 t2 l1 l2).get? (zH3 s.heap t1 t2 l1 l2).objs.size=some _:=Heap.get?_push_of_some _ (Heap.get?_push_size _ rfl);have e3:(zH5 s.heap t1 t2 l1 l2).get? (zH2 s.heap t1 t2 l1 l2).objs.size=some _:=Heap.get?_push_of_some _ (Heap.get?_push_of_some _ (Heap.get?_push_size _ rfl));have e2:(zH5 s.heap t1 t2 l1 l2).get? (zH1 s.heap t1 l1).objs.size=some _:=Heap.get?_push_of_some _ (Heap.get?_push_of_some _ (Heap.get?_push_of_some _ (Heap.get?_push_size _ rfl)));have e1:(zH5 s.heap t1 t2 l1 l2).get? s.heap.objs.size=some _:=Heap.get?_push_of_some _ (Heap.get?_push_of_some _ (Heap.get?_push_of_some _ (Heap.get?_push_of_some _ (Heap.get?_push_size _ rfl))));have kp:∀c o,s.heap.get? c=some o->(zH5 s.heap t1 t2 l1 l2).get? c=some o:=λc o z=>Heap.get?_push_of_some _ (Heap.get?_push_of_some _ (Heap.get?_push_of_some _ (Heap.get?_push_of_some _ (Heap.get?_push_of_some _ z))));show _/\_;rw[n2,n3,n4]at e5;rw[n1,n2]at e3;rw[n3]at e4;rw[n1]at e2;rw[n4];exact⟨⟨_,e5,rfl⟩,h _ e5 e3 e4 (z1i e1 q1 kp) (z1i e2 q2 kp) n5 kp⟩
end L2
end
noncomputable section
namespace PySem.SeqAt
open AutoSeq1 (wpAny_loadPart')
open MeetsSeq MeetsSeq2 MeetsSeq3 SeqRoads2
theorem q4T{M:Model}{A:Around}{E:Value->Shared->Prop}{s:Shared}{β:Type}(f:Nat->β->Sem (ForInStep β))(I:List Nat->β->Shared->Prop)(Q:β->Shared->Prop)
  {n:Nat} {b:β} (turn:∀x rest b s,I (x::rest) b s->wpAny M A (f x b) (λr s'=>match r with | .yield b'=>I rest b' s' | .done b'=>Q b' s') E s)
  (fin:∀b s,I [] b s->Q b s) (h:I (List.range' 0 n 1) b s):wpAny M A (forIn [:n] b f) Q E s:=by
 rw[Std.Legacy.Range.forIn_eq_forIn_range'];have hsz:([:n]:Std.Legacy.Range).size=n:=by simp[Std.Legacy.Range.size]
 show wpAny M A (forIn (List.range' 0 ([:n]:Std.Legacy.Range).size 1) b f) Q E s;rw[hsz];exact wpAny_forIn_list f I Q turn fin _ b h
theorem q5D(l:Addr)(items:Array Value)(n:Nat)(dd:Option Addr)(sl:Array (Option Value))(x:Value)(e:Value->Bool)(j:Nat)(hj:j<items.size)
  (hit:e items[j]=true) (hno:∀m (hm:m<items.size),m<j->e items[m]=false) :
  Meets (Builtin.«tuple.index» ⟨[.ref l,x],[]⟩)
   (λA R s=>s.heap.get? l=some {cls:=.type "tuple",dict:=dd,data:=.seq items n,slots:=sl} /\ (∀y,y∈items->EqAt A.in1 s y x (e y))/\R (.ok (.ret (.int j s.toks))) {s with toks:=s.toks+1}):=
 .of_wp λprog w A R s h=>by
  obtain⟨hp,g,d,tk,os⟩:=s;obtain⟨hl,he,h⟩:=h
  wp_walk using wpAny_loadPart' hl,q4T _ (λrest b s'=>b.1=none/\s'=⟨hp,g,d,tk,os⟩/\∃i,i<=j/\rest=List.range' i (items.size - i) 1) _
  case turn=>
   rintro i rest b s' ⟨hb,rfl,i',hi',hr⟩
   obtain⟨m,hm⟩:∃m,items.size - i'=m+1:=⟨items.size - i' - 1,by omega⟩;rw[hm,List.range'_succ]at hr;obtain⟨rfl,rfl⟩:=List.cons.inj hr;have hlt:i<items.size:=by omega
   rw[show items[i]? = some items[i] by simp[hlt]];refine wpAny_bind (he _ (Array.getElem_mem hlt) prog w _ _ ?_);by_cases q:i=j
   ·subst q;rw[hit]
    wp_walk
    exact⟨_,rfl,h⟩
   ·rw[hno i hlt (by omega)]
    wp_walk
    exact⟨rfl,rfl,i+1,by omega,by congr 1;omega⟩
  case fin=>
   rintro⟨b1,b2⟩ s' ⟨hb,rfl,i,hi,hr⟩
   obtain⟨m,hm⟩:∃m,items.size - i=m+1:=⟨items.size - i - 1,by omega⟩;rw[hm,List.range'_succ]at hr;cases hr
  case h=>
   exact⟨rfl,rfl,0,Nat.zero_le _,by simp⟩
section
variable {prog:Program} {w:World} {A:Around} {E:Value->Shared->Prop} {s:Shared}
theorem q8E{h:Heap}{d:PyData}:∀(xs:List PyData) (vs:List Value) (as:List Addr),PyData.canLayAll0 xs=true->ReadsAll h vs xs as->vs.length=xs.length/\∀m (h1:m<vs.length) (h2:m<xs.length),PyData.eqv (readOf h vs[m]) d=PyData.eqv xs[m] d:=by
 intro xs vs as hc r;have e:=readsAll_map xs vs as hc r;have hl:vs.length=xs.length:=by rw[←e,List.length_map]
 refine⟨hl,λm h1 h2=>?_⟩
 congr 1
 subst e;rw[List.getElem_map]
theorem index_list_reads{c x:Value}{xs:List PyData}{d:PyData}{as bs:List Addr}{Q:Value->Shared->Prop}{j:Nat}(rc:Reads s.heap c (.list xs) as)(rx:Reads s.heap x d bs)(hxs:PyData.canLayAll0 xs=true)(hd:d.canLay0=true)
  (hu:A.units+1+min (PyData.depthAll xs) d.depth<cLine) (hj:j<xs.length) (hj63:(j:Int)<2^63 - 1) (hit:PyData.eqv xs[j] d=true) (hno:∀m (hm:m<xs.length),m<j->PyData.eqv xs[m] d=false) (h:Q (.int j s.toks) {s with toks:=s.toks+1}):wpAny (model prog w) A (call (.builtin "list.index") [c,x]) Q E s:=by
 cases rc with
 | list h1 h2 h3 h4=>
  rename_i l o vs n as';obtain⟨cls,dd,data,sl⟩:=o;simp only at h2 h3;subst h2 h3;obtain⟨hl,ha⟩:=q8E (d:=d) xs vs.toList _ hxs h4;have hl':vs.size=xs.length:=by rw[←hl];simp
  refine PySem.call_meets PySem.F.slot_list_index ⟨_,h1,rfl⟩ PySem.F.entry_list_index (PySem.F.args_list_index_2 _ _)
   (list_indexAt l vs _ dd sl x (λy=>PyData.eqv (readOf s.heap y) d) j (by omega) hj63 ?_ ?_) ⟨h1,items_eqAt h4 rx hxs hd hu,h⟩
  ·rw[←hit];exact ha j (by simpa using(by omega:j<vs.size)) hj
  ·intro m hm hlt;rw[←hno m (by omega) hlt];exact ha m (by simpa using hm) (by omega)
theorem index_tuple_reads{c x:Value}{xs:List PyData}{d:PyData}{as bs:List Addr}{Q:Value->Shared->Prop}{j:Nat}(rc:Reads s.heap c (.tuple xs) as)(rx:Reads s.heap x d bs)(hxs:PyData.canLayAll0 xs=true)(hd:d.canLay0=true)
  (hu:A.units+1+min (PyData.depthAll xs) d.depth<cLine) (hj:j<xs.length) (hit:PyData.eqv xs[j] d=true) (hno:∀m (hm:m<xs.length),m<j->PyData.eqv xs[m] d=false) (h:Q (.int j s.toks) {s with toks:=s.toks+1}):wpAny (model prog w) A (call (.builtin "tuple.index") [c,x]) Q E s:=by
 cases rc with
 | tuple h1 h2 h3 h4=>
  rename_i l o vs n;obtain⟨cls,dd,data,sl⟩:=o;simp only at h2 h3;subst h2 h3;obtain⟨hl,ha⟩:=q8E (d:=d) xs vs.toList _ hxs h4;have hl':vs.size=xs.length:=by rw[←hl];simp
  refine PySem.call_meets PySem.F.slot_tuple_index ⟨_,h1,rfl⟩ PySem.F.entry_tuple_index (PySem.F.args_tuple_index_2 _ _)
   (q5D l vs _ dd sl x (λy=>PyData.eqv (readOf s.heap y) d) j (by omega) ?_ ?_) ⟨h1,items_eqAt h4 rx hxs hd hu,h⟩
  ·rw[←hit];exact ha j (by simpa using(by omega:j<vs.size)) hj
  ·intro m hm hlt;rw[←hno m (by omega) hlt];exact ha m (by simpa using hm) (by omega)
end
end PySem.SeqAt
end
noncomputable section
namespace PySem
section
variable {prog:Program} {w:World} {A:Around} {E:Value->Shared->Prop} {s:Shared}
theorem q2J(a b:Int):Builtin.Range.rangeSize a b (-1)=if b<a then a - b else 0:=by
 unfold Builtin.Range.rangeSize;simp
theorem q8W{a b:Int}(ha : -(2^62)<=a)(ha':a<2^62)(hb : -(2^62)<=b)(hb':b<2^62):Builtin.Range.small a b (-1)=true:=by
 unfold Builtin.Range.small;rw[q2J];simp only[Builtin.Range.rangeFitsLong,Bool.and_eq_true,Bool.or_eq_true,decide_eq_true_eq,beq_iff_eq,show ¬((-1:Int)>0) by decide,if_false];split<;>omega
end
end PySem
namespace L2
open PySem PySem.Spec PyProof.Rows
variable {X:Cx} {tg:Expr}
def Itd(hi:Int)(n:Nat):It:=⟨λi _=>i<n,λi H x H'=>H'=H/\x=.int (hi - i),λi _=>n<=i⟩
theorem z0f{P:Program}{w:World}{K:PySem.W.Frag}{tg:Expr}(it:Addr)(hi:Int)(n:Nat):Turn P w K tg (Itd hi n) [it] it (λi h=>IsRangeIter h it (hi+(i:Nat)*(-1)) ((n:Int) - (i:Nat)) (-1)) where
 mem:=by simp
 obj:=λi h st b hb=>by
  have e:b=it:=by simpa using hb
  subst e;exact⟨_,st,λv z=>by
   have z':Data.fields _=Data.cell v:=z;cases z'⟩
 keep:=λi h h' st k=>k it (by simp) _ st
 item:=by
  intro X hP hw hK hc i pins s σ H E I hf st hg;subst hP hw hK;obtain⟨f0,f1,f2,f3,f4,f5⟩:=hf it (by simp);have W:=Walks.range (prog:=X.prog) (w:=X.w) (I.ok.hd hc) it hi (-1) n;refine W.item i s _ _ hg st λv h' tk hv st' kk=>?_
  obtain⟨t,rfl⟩:=hv;have I1:Inv X pins σ H {s with heap:=h',toks:=tk}:=I.turned (λb o hb e=>kk b o (by simpa using hb) e) f0 f1 f3 f4 f5;refine⟨_,rfl,z2Q (s:={s with heap:=h',toks:=tk}) (n:="range_iterator") st' rfl rfl (by decide) ⟨.int (hi - i),H,I1,⟨t,?_⟩,⟨rfl,rfl⟩,st',λb hb=>(hf b hb).1⟩⟩;rw[show hi+(i:Int)*(-1)=hi - i by omega]
 done:=by
  intro X hP hw hK hc i pins s σ H E I hf st hg;subst hP hw hK;obtain⟨f0,f1,f2,f3,f4,f5⟩:=hf it (by simp);exact wpAny_pyNext_range_end (I.ok.hd hc) st (by have:n<=i:=hg;omega) λh' eb=>⟨rfl,I.turned (t':=s.toks) (λb o hb e=>eb b o hb e) f0 f1 f3 f4 f5⟩
 self:=λ_ _ _ _ _ st h=>wpAny_pyIter_rangeiter st h
theorem z4C{pins:List (Addr×Obj)}{σ:St}{H:Hp}{s:Shared}{R:It->Hp->Prop}{E:Value->Shared->Prop}{lo hi:Int}{t u v:Tok}{tk:Nat}(I:Inv X pins σ H s)(h1 : -(2^62)<=lo)(h2:lo<2^62)(h3 : -(2^62)<=hi)(h4:hi<2^62)
  (q:R (Itd lo (lo - hi).toNat) H):wpAny (model X.prog X.w) X.A (pyIter (.ref s.heap.objs.size)) (PIE X pins σ tg R) E {s with heap:=s.heap.push {cls:=.type "range",data:=.fields #[.int lo t,.int hi u,.int (-1) v]},toks:=tk}:=by
 refine wpAny_pyIter_range (IsRange.new ..) (q8W h1 h2 h3 h4) ?_;have I1:Inv X pins σ H {s with heap:=s.heap.push {cls:=.type "range",data:=.fields #[.int lo t,.int hi u,.int (-1) v]},toks:=tk}:=I.kept λb o e=>Heap.get?_push_of_some _ e;refine⟨(s.heap.push {cls:=.type "range",data:=.fields #[.int lo t,.int hi u,.int (-1) v]}).objs.size,[(s.heap.push {cls:=.type "range",data:=.fields #[.int lo t,.int hi u,.int (-1) v]}).objs.size],_,_,H,rfl,
  I1.kept (t':=tk) λb o e=>Heap.get?_push_of_some _ e,z0f _ lo (lo - hi).toNat,?_,λb hb=>?_,q⟩
 ·have e1:lo+((0:Nat):Int)*(-1)=lo:=by simp
  have e2:(((lo - hi).toNat:Nat):Int) - ((0:Nat):Int)=Builtin.Range.rangeSize lo hi (-1):=by rw[q2J];split<;>omega
  show IsRangeIter _ _ (lo+((0:Nat):Int)*(-1)) ((((lo - hi).toNat:Nat):Int) - ((0:Nat):Int)) (-1);rw[e1,e2];exact Heap.get?_push_size _ rfl
 ·have e:b=(s.heap.push {cls:=.type "range",data:=.fields #[.int lo t,.int hi u,.int (-1) v]}).objs.size:=by simpa using hb
  subst e;exact I1.fpOk (Nat.le_refl _) (I1.hok.fresh (Nat.le_refl _))
def z9J(ta:TA):TI:=λσ H R=>ta σ H λvs H1=>∃i j:Int,vs=[.int i,.int j,.int (-1)]/\(-(2^62)<=i/\i<2^62 /\ -(2^62)<=j/\j<2^62)/\R (Itd i (i - j).toNat) H1
theorem noPl(a:Int):Builtin.divisionGoesByPylong a (-1)=false:=PyProof.noPylong_small (by omega)
theorem q9A{a b c:Expr}{ta:TA}{p pos:Pos}(hg:Gl X "range")(hm:X.mg "range" = none)(ha:PA X [a,b,c] ta)(hs:starEach [a,b,c] X.env=[(false,eval a X.env),(false,eval b X.env),(false,eval c X.env)])(hs2:starEach [b,c] X.env=[(false,eval b X.env),(false,eval c X.env)]) :
  PI X tg (.Call (.Name "range" p) [a,b,c] [] pos) (z9J ta):=by
 intro pins s σ H R I h;refine Call_ (q3J I hg hm boot_range (PyProof.Rows.callWith_type1 (thn (ha pos pins s σ H _ I h) λus s1 ⟨vs,H1,I1,r1,q1⟩=>?_) (by rw[hs,hs2]) (by rw[hs2];rfl)));obtain⟨i,j,e,⟨q1,q2,q3,q4⟩,q⟩:=q1;subst e;cases r1 with
 | cons r rr=>
  cases rr with
  | cons r' rr=>
   cases rr with
   | cons r'' rr=>
    cases rr;obtain⟨t,rfl⟩:=r;obtain⟨t',rfl⟩:=r';obtain⟨t'',rfl⟩:=r'';exact call_range_3 (by decide) (z4C I1 q1 q2 q3 q4 q) (Or.inl (noPl _))
end L2
end
noncomputable section
namespace L2
open PySem
inductive DKey where
 | i (n:Int) | s (x:Str) | t (l:List (Sum Int Str))
 deriving DecidableEq
inductive DV where
 | non | bl (b:Bool) | int (i:Int) | str (x:Str) | tup (ds:List DV) | lst (ds:List DV) | dct (ks:List DKey) (vs:List DV)
 | exc (c:Str) | fn (x:Str)
 | scr (ns:List Int)
inductive Cl where
 | weak | top | strong | fresh | ft
 deriving DecidableEq
inductive Re where
 | ok (d:DV) (c:Cl) | ex (c:Str)
inductive Rs where
 | ok (l:List (DV×Cl)) | ex (c:Str)
inductive Rt where
 | ok (b:Bool) | ex (c:Str)
inductive Sv where
 | no | val (d:DV) | own (d:DV) | ot (d:DV)
 | o2 (d:DV)
 | od (d:DV)
inductive Ou where
 | v (d:DV) (fr:Bool) | x (c:Str) | t (d:DV)
inductive Out where
 | nx (δ:List Sv) | rt (d:DV) (fr:Bool) | ex (c:Str) (δ:List Sv) | rtt (d:DV)
inductive Bi where
 | len | min | max | sum | any | sset | list | tuple
 deriving DecidableEq
inductive Mt where
 | bitLength | index | get
 deriving DecidableEq
inductive Tg where
 | one (i:Nat) | many (is:List Nat)
inductive ME where
 | var (i:Nat) | int (i:Int) | bl (b:Bool) | str (x:Str) | non | glb (x:Str)
 | bin (op:Operator) (a b:ME)   | not (a:ME)
 | cmp (op:CmpOp) (a b:ME) | chain (op op':CmpOp) (a b c:ME)
 | and (es:List ME) | or (es:List ME)
 | lst (es:List ME) | tup (es:List ME)  | dc0
 | ix (a b:ME) | sl (a lo hi:ME) | slf (a lo:ME) | slt (a hi:ME)
 | call (f:Nat) (es:List ME)   | bi (f:Bi) (es:List ME) | isi (a:ME) (ts:List Str)  | meth (m:Mt) (a:ME) (es:List ME)
 | comp (elt:ME) (tg:Tg) (it:ME) (fr:List (Option Nat)) | compi (elt:ME) (tg:Tg) (it c:ME) (fr:List (Option Nat))
 | idx (a b:ME)
 | rng (es:List ME) | enu (a:ME) | zp (a b:ME)
inductive MS where
 | set (i:Nat) (own:Bool) (e:ME)
 | app (i:Nat) (e:ME)  | seti (i:Nat) (k e:ME)
 | exp (e:ME) | ret (e:ME)  | iff (c:ME) (a b:List MS) | fo (tg:Tg) (it:ME) (body:List MS)
 | rse (c:Str) (e:ME)
 | frz (i:Nat)
structure FD where
 n:Nat
 np:Nat
 dfl:List DV:=[]
 kn:Option Str:=none
 body:List MS
def Re.thn(r:Option Re)(k:DV->Cl->Option Re):Option Re:=match r with
 | none=>none
 | some (.ex c)=>some (.ex c)
 | some (.ok d c)=>k d c
def Rs.thn(r:Option Rs)(k:List (DV×Cl)->Option Re):Option Re:=match r with
 | none=>none
 | some (.ex c)=>some (.ex c)
 | some (.ok l)=>k l
def Re.thnT(r:Option Re)(k:DV->Cl->Option Rt):Option Rt:=match r with
 | none=>none
 | some (.ex c)=>some (.ex c)
 | some (.ok d c)=>k d c
mutual
def DV.immut:DV->Bool
 | .non=>true | .bl _=>true | .int _=>true | .str _=>true | .exc _=>true | .fn _=>true | .scr _=>true
 | .tup ds=>DV.immuts ds
 | .lst _=>false
 | .dct _ vs=>DV.immuts vs
def DV.immuts:List DV->Bool
 | []=>true
 | d::r=>d.immut&&DV.immuts r
end
def stro(d:DV):Cl->Bool
 | .strong=>true | .fresh=>true | .ft=>true | _=>d.immut
def stros(l:List (DV×Cl)):Bool:=l.all λp=>stro p.1 p.2
def Cl.item:Cl->Cl
 | .weak=>.weak | _=>.strong
def Cl.anew:Cl->Cl->Cl
 | .weak,_=>.weak | _,.weak=>.weak | _,_=>.fresh
def mostLen:Nat:=1000000
mutual
def deq:DV->DV->Bool
 | .non,.non=>true
 | .bl a,.bl b=>a==b
 | .bl a,.int j=>(if a then 1 else 0)==j
 | .int i,.bl b=>i==(if b then 1 else 0)
 | .int i,.int j=>i==j
 | .str a,.str b=>decide (a=b)
 | .tup a,.tup b=>deqs a b
 | .lst a,.lst b=>deqs a b
 | _,_=>false
def deqs:List DV->List DV->Bool
 | [],[]=>true
 | a::r,b::s=>deq a b&&deqs r s
 | _,_=>false
end
mutual
def DV.plain:Nat->DV->Bool
 | _,.non=>true | _,.bl _=>true | _,.int _=>true
 | _,.str x=>x.cps.all (· < 0x110000)
 | 0,_=>false
 | n+1,.tup ds=>DV.plains n ds | n+1,.lst ds=>DV.plains n ds
 | _,_=>false
def DV.plains:Nat->List DV->Bool
 | _,[]=>true
 | n,d::r=>d.plain n&&DV.plains n r
end
def q1Z:DV->Option Bool
 | .non=>some false
 | .bl b=>some b
 | .int i=>some (i != 0)
 | .str x=>some (x.cps.size != 0)
 | .tup ds=>some (!ds.isEmpty)
 | .lst ds=>some (!ds.isEmpty)
 | _=>none
def q2m(n:Nat)(i:Int):Option Nat:=if 0<=i then(if i<n then some i.toNat else none)else if -(n:Int)<=i then some (i+n).toNat else none
def atD(ds:List DV)(i:Int):Option DV:=(q2m ds.length i).bind λj=>ds[j]?
def ixD(a b:DV):Option DV:=match a,b with
 | .scr ns,.int i=>((q2m ns.length i).bind λj=>ns[j]?).map DV.int
 | .lst ds,.int i=>atD ds i
 | .tup ds,.int i=>atD ds i
 | .str z,.int i=>(q2m z.cps.size i).bind λj=>(z.cps[j]?).map λc=>.str ⟨#[c]⟩
 | _,_=>none
def slIx(n d:Nat):Option Int->Nat
 | none=>d
 | some v=>if v<0 then(v+(n:Int)).toNat else min v.toNat n
def cutD(ds:List DV)(lo hi:Option Int):List DV:=(ds.drop (slIx ds.length 0 lo)).take (slIx ds.length ds.length hi - slIx ds.length 0 lo)
def slD(a:DV)(lo hi:Option Int):Option DV:=match a with
 | .scr ns=>some (.lst (cutD (ns.map DV.int) lo hi))
 | .lst ds=>some (.lst (cutD ds lo hi))
 | .tup ds=>if slIx ds.length 0 lo=0/\slIx ds.length ds.length hi=ds.length then none else some (.tup (cutD ds lo hi))
 | _=>none
def slCl(a:DV)(c:Cl):Cl:=match a with
 | .scr _=>.fresh
 | .lst _=>Cl.anew c c
 | _=>c.item
def q4R(i j:Int):Bool:=(decide (-(2^64)<i)&&decide (i<2^64))||(decide (-(2^64)<j)&&decide (j<2^64))||(decide (i.natAbs<2^2000)&&decide (j.natAbs<2^2000))
def binD(op:Operator)(a b:DV)(ca cb:Cl):Option Re:=match op,a,b with
 | .Add,.int i,.int j=>some (.ok (.int (i+j)) .strong)
 | .Sub,.int i,.int j=>some (.ok (.int (i - j)) .strong)
 | .Mult,.int i,.int j=>if q4R i j then some (.ok (.int (i*j)) .strong)else none
 | .Mod,.int i,.int j=>if 0<j then some (.ok (.int (i%j)) .strong)else none
 | .FloorDiv,.int i,.int j=>if 0<j/\j<2^200 then some (.ok (.int (i/j)) .strong)else none
 | .LShift,.int i,.int j=>if 0<=j/\j<=1000000/\i.natAbs<2^64 then some (.ok (.int (i*2^j.toNat)) .strong)else none
 | .RShift,.int i,.int j=>if 0<=j then some (.ok (.int (i/2^j.toNat)) .strong)else none
 | .BitAnd,.int i,.int j=>some (.ok (.int (Builtin.bitAnd i j)) .strong)
 | .BitOr,.int i,.int j=>some (.ok (.int (Builtin.bitOr i j)) .strong)
 | .BitXor,.int i,.int j=>some (.ok (.int (Builtin.bitXor i j)) .strong)
 | .Add,.lst x,.lst y=>if x.length+y.length<=mostLen then some (.ok (.lst (x++y)) (Cl.anew ca cb))else none
 | .Mult,.lst x,.int k=>if x.length*k.toNat<=mostLen /\ -(2^63)<=k/\k<2^63 then some (.ok (.lst (List.replicate k.toNat x).flatten) (Cl.anew ca ca))else none
 | _,_,_=>none
def cmpD(op:CmpOp)(a b:DV):Option Bool:=match op,a,b with
 | .Lt,.int i,.int j=>some (decide (i<j))
 | .LtE,.int i,.int j=>some (decide (i<=j))
 | .Gt,.int i,.int j=>some (decide (j<i))
 | .Eq,a,b=>if a.plain 60&&b.plain 60 then some (deq a b)else none
 | .NotEq,a,b=>if a.plain 60&&b.plain 60 then some (!deq a b)else none
 | .NotIn,a,.lst ds=>if a.plain 60&&DV.plains 60 ds then some (!ds.any λd=>deq d a)else none
 | _,_,_=>none
def ints?:List DV->Option (List Int)
 | []=>some []
 | .int i::r=>(ints? r).map (i :: ·)
 | _=>none
def bools?:List DV->Option (List Bool)
 | []=>some []
 | .bl i::r=>(bools? r).map (i :: ·)
 | _=>none
def minI:Int->List Int->Int
 | m,[]=>m
 | m,x::r=>minI (if x<m then x else m) r
def maxI:Int->List Int->Int
 | m,[]=>m
 | m,x::r=>maxI (if m<x then x else m) r
def insI(x:Int):List Int->List Int
 | []=>[x]
 | y::r=>if x<y then x::y::r else y::insI x r
def q3B:List Int->List Int
 | []=>[]
 | x::r=>insI x (q3B r)
def dk(σ:List Int)(k:Int):List Int:=if k∈σ then σ else σ++[k]
def q2O(i:Int):Int:=if i=0 then 0 else(i.natAbs.log2:Int)+1
def lenD:List (DV×Cl)->Option Re
 | [(.lst ds,_)]=>some (.ok (.int ds.length) .strong)
 | [(.tup ds,_)]=>some (.ok (.int ds.length) .strong)
 | [(.scr ns,_)]=>some (.ok (.int ns.length) .strong)
 | [(.str z,_)]=>some (.ok (.int z.length) .strong)
 | _=>none
def minD:List (DV×Cl)->Option Re
 | [(.int i,_),(.int j,_)]=>some (.ok (.int (if j<i then j else i)) .strong)
 | [(.lst ds,c)]=>match ints? ds with
  | some (n::r)=>some (.ok (.int (minI n r)) .strong)
  | _=>none
 | [(.tup ds,_)]=>match ints? ds with
  | some (n::r)=>some (.ok (.int (minI n r)) .strong)
  | _=>none
 | _=>none
def maxD:List (DV×Cl)->Option Re
 | [(.int i,_),(.int j,_)]=>some (.ok (.int (if j>i then j else i)) .strong)
 | [(.lst ds,_)]=>match ints? ds with
  | some (n::r)=>some (.ok (.int (maxI n r)) .strong)
  | _=>none
 | _=>none
def z2l:List (DV×Cl)->Option Re
 | [(.lst ds,_)]=>match ints? ds with
  | some ns=>if ns.length<4000/\(ns.foldl dk []).length<64 then some (.ok (.lst ((q3B (ns.foldl dk [])).map DV.int)) .fresh)else none
  | none=>none
 | _=>none
def sumD:List (DV×Cl)->Option Re
 | [(.lst ds,_)]=>(ints? ds).map λns=>.ok (.int ns.sum) .strong
 | _=>none
def anyD:List (DV×Cl)->Option Re
 | [(.lst ds,_)]=>(bools? ds).map λbs=>.ok (.bl (bs.any id)) .strong
 | _=>none
def q8T:List (DV×Cl)->Option Re
 | [(.scr ns,_)]=>some (.ok (.lst (ns.map DV.int)) .fresh)
 | [(.lst ds,c)]=>some (.ok (.lst ds) (Cl.anew c c))
 | [(.tup ds,c)]=>some (.ok (.lst ds) (Cl.anew c c))
 | _=>none
def q5h:List (DV×Cl)->Option Re
 | [(.lst ds,c)]=>some (.ok (.tup ds) c.item)
 | [(.tup ds,c)]=>some (.ok (.tup ds) c)
 | _=>none
def biD(f:Bi)(l:List (DV×Cl)):Option Re:=match f with
 | .len=>lenD l
 | .min=>minD l
 | .max=>maxD l
 | .list=>q8T l
 | .tuple=>q5h l
 | .sset=>z2l l
 | .sum=>sumD l
 | .any=>anyD l
def biOk:Bi->Bool
 | .len=>true | .min=>true | .max=>true | .list=>true | .tuple=>true | .sset=>true | .sum=>true | .any=>true
def mtD(m:Mt)(a:DV):Option Re:=match m,a with
 | .bitLength,.int i=>some (.ok (.int (q2O i)) .strong)
 | _,_=>none
structure Gs where
 dcs:List (Str×List (Str×Str)):=[]
 con:List (Str×DV)
 cls:List (Str×List Str)
 dfl:List (Nat×List DV):=[]
 kws:List (Nat×Str):=[]
 hun:Bool:=false
def q2P(G:Gs)(c c':Str):Bool:=c==c'||((G.cls.lookup c).getD []).contains c'
def tyOf:DV->List Str
 | .non=>["NoneType"]
 | .bl _=>["bool","int"]
 | .int _=>["int"]
 | .str _=>["str"]
 | .tup _=>["tuple"]
 | .lst _=>["list"]
 | .dct _ _=>["dict"]
 | _=>[]
def q2t:List Str:=["int","bool","str","list","tuple","dict"]
def isiD(G:Gs)(d:DV)(ts:List Str):Option Bool:=match d with
 | .scr _=>none
 | .exc _=>none
 | .fn _=>none
 | d=>match ts with
  | [t]=>if q2t.contains t then some ((tyOf d).contains t)else none
  | _=>none
def upTo(lo:Int)(n:Nat):List DV:=(List.range n).map λ(i:Nat)=>DV.int (lo+i)
def q5d(lo:Int)(n:Nat):List DV:=(List.range n).map λ(i:Nat)=>DV.int (lo - i)
def q1i(i:Int):Bool:=decide (-(2^62)<=i)&&decide (i<2^62)
def q3P(y:DV):List DV->Option Nat
 | []=>none
 | d::r=>if deq d y then some 0 else(q3P y r).map (· + 1)
def seqB:DV->Bool
 | .lst _=>true | .tup _=>true | _=>false
def idxD(x y:DV):Option DV:=match x with
 | .lst ds=>if y.plain 60&&DV.plains 60 ds&&decide (ds.length<=mostLen)then(q3P y ds).map λ(j:Nat)=>DV.int (j:Int)else none
 | .tup ds=>if y.plain 60&&DV.plains 60 ds&&decide (ds.length<=mostLen)then(q3P y ds).map λ(j:Nat)=>DV.int (j:Int)else none
 | _=>none
def rngD(l:List (DV×Cl)):Option (List DV):=match l with
 | [(.int j,_)]=>if q1i j&&decide (j<=mostLen)then some (upTo 0 j.toNat)else none
 | [(.int i,_),(.int j,_)]=>if q1i i&&q1i j&&decide (j - i<=mostLen)then some (upTo i (j - i).toNat)else none
 | [(.int i,_),(.int j,_),(.int k,_)]=>if q1i i&&q1i j&&decide (i - j<=mostLen)&&decide (k = -1)then some (q5d i (i - j).toNat)else none
 | _=>none
def enuD:Nat->List DV->List DV
 | _,[]=>[]
 | k,d::r=>.tup [.int k,d]::enuD (k+1) r
def zpD:List DV->List DV->List DV
 | a::r,b::s=>.tup [a,b]::zpD r s
 | _,_=>[]
def Cl.meet:Cl->Cl->Cl
 | .weak,_=>.weak | _,.weak=>.weak | .top,_=>.top | _,.top=>.top | _,_=>.strong
def z2S:DV->Option (Bool×List DV)
 | .lst ds=>some (false,ds)
 | .tup ds=>some (true,ds)
 | _=>none
def q6R(x:DV)(c:Cl):Option Re:=match z2S x with
 | some (_,xs)=>some (.ok (.lst (enuD 0 xs)) (Cl.meet c c))
 | _=>none
def zipD(x y:DV)(c c':Cl):Option Re:=match z2S x,z2S y with
 | some (_,xs),some (_,ys)=>some (.ok (.lst (zpD xs ys)) (Cl.meet c c'))
 | _,_=>none
def seqD:DV->Option (List DV)
 | .scr ns=>some (ns.map DV.int)
 | .lst ds=>some ds
 | .tup ds=>some ds
 | _=>none
def q4V(δ:List Sv):List Nat->List DV->Option (List Sv)
 | [],[]=>some δ
 | i::is,d::ds=>q4V (δ.set i (.val d)) is ds
 | _,_=>none
def Tg.bind(tg:Tg)(d:DV)(δ:List Sv):Option (List Sv):=match tg with
 | .one i=>some (δ.set i (.val d))
 | .many is=>match d with
  | .tup ds=>q4V δ is ds
  | _=>none
def Sv.plain:Sv->Sv
 | .ot _=>.no
 | .o2 _=>.no
 | s=>s
def q0Q(fr:List (Option Nat))(δ:List Sv):List Sv:=fr.map λo=>match o with
 | some i=>(δ.getD i .no).plain
 | none=>.no
inductive Rc where
 | skip | item (d:DV)
def q0K(g:DV->Option Rc):List DV->Option (List DV)
 | []=>some []
 | d::r=>match g d with
  | none=>none
  | some .skip=>q0K g r
  | some (.item x)=>match q0K g r with
   | none=>none
   | some xs=>some (x::xs)
def q1z(r:Option (List DV)):Option Re:=match r with
 | none=>none
 | some xs=>some (.ok (.lst xs) .fresh)
def Rc.of(r:Option Re):Option Rc:=match r with
 | some (.ok d c)=>if stro d c then some (.item d)else none
 | _=>none
def Rc.test(t:Option Rt)(r:Option Rc):Option Rc:=match t with
 | some (.ok true)=>r
 | some (.ok false)=>some .skip
 | _=>none
inductive Ri where
 | ok (ds:List DV) (c:Cl) | ex (c:Str)
def Ri.thn(r:Option Ri)(k:List DV->Cl->Option Re):Option Re:=match r with
 | none=>none
 | some (.ex c)=>some (.ex c)
 | some (.ok ds c)=>k ds c
def Re.thnI(r:Option Re)(k:DV->Cl->Option Ri):Option Ri:=match r with
 | none=>none
 | some (.ex c)=>some (.ex c)
 | some (.ok d c)=>k d c
def y0d(d:DV)(c:Cl):Option Ri:=(seqD d).map λds=>.ok ds c
def imL:DV->Bool
 | .lst ds=>DV.immuts ds
 | _=>false
def q3g(F:Nat->List DV->Option Ou)(f:Nat)(l:List (DV×Cl)):Option Re:=match F f (l.map (·.1))with
 | none=>none
 | some (.x c)=>some (.ex c)
 | some (.t d)=>some (.ok d (if l.all λp=>p.2 == .strong||p.2 == .fresh then(match d with | .lst _=>.fresh | _=>.ft)else .weak))
 | some (.v d fr)=>some (.ok d (if l.all λp=>p.2 == .strong||p.2 == .fresh then(if fr then .fresh else .strong)else if fr&&imL d then .fresh else .weak))
def andD(x:DV)(c:Cl)(r:Option Re):Option Re:=match q1Z x with
 | none=>none
 | some true=>r
 | some false=>some (.ok x c)
def orD(x:DV)(c:Cl)(r:Option Re):Option Re:=match q1Z x with
 | none=>none
 | some true=>some (.ok x c)
 | some false=>r
def tstD(r:Option Re):Option Rt:=Re.thnT r λx _=>(q1Z x).map Rt.ok
def q0F(r:Option Re):Option Ri:=Re.thnI r λx c=>y0d x c
mutual
def evE(G:Gs)(F:Nat->List DV->Option Ou):ME->List Sv->Option Re
 | .var i,δ=>match δ[i]? with
  | some (.val d)=>some (.ok d .strong)
  | some (.own d)=>some (.ok d .top)
  | some (.ot d)=>some (.ok d .weak)
  | some (.o2 d)=>some (.ok d .weak)
  | _=>none
 | .int i,_=>some (.ok (.int i) .strong)
 | .bl i,_=>some (.ok (.bl i) .strong)
 | .str i,_=>some (.ok (.str i) .strong)
 | .non,_=>some (.ok .non .strong)
 | .glb x,_=>(G.con.lookup x).map λd=>.ok d .strong
 | .bin op a b,δ=>Re.thn (evE G F a δ) λx cx=>Re.thn (evE G F b δ) λy cy=>binD op x y cx cy
 | .not a,δ=>Re.thn (evE G F a δ) λx _=>(q1Z x).map λk=>.ok (.bl (!k)) .strong
 | .cmp op a b,δ=>Re.thn (evE G F a δ) λx _=>Re.thn (evE G F b δ) λy _=>(cmpD op x y).map λk=>.ok (.bl k) .strong
 | .chain op op' a b c,δ=>Re.thn (evE G F a δ) λx _=>Re.thn (evE G F b δ) λy _=>match cmpD op x y with
  | none=>none
  | some false=>some (.ok (.bl false) .strong)
  | some true=>Re.thn (evE G F c δ) λz _=>(cmpD op' y z).map λk=>.ok (.bl k) .strong
 | .and es,δ=>q3M G F es δ
 | .or es,δ=>evOr G F es δ
 | .lst es,δ=>Rs.thn (evEs G F es δ) λl=>if l.length<=mostLen then some (.ok (.lst (l.map (·.1))) (if stros l then .fresh else .weak))else none
 | .tup es,δ=>Rs.thn (evEs G F es δ) λl=>if l.length<=mostLen then some (.ok (.tup (l.map (·.1))) (if stros l then .strong else .weak))else none
 | .dc0,_=>some (.ok (.dct [] []) .strong)
 | .ix a b,δ=>Re.thn (evE G F a δ) λx cx=>Re.thn (evE G F b δ) λy _=>(ixD x y).map λd=>.ok d cx.item
 | .sl a lo hi,δ=>Re.thn (evE G F a δ) λx cx=>Re.thn (evE G F lo δ) λl _=>match l with
  | .int l=>Re.thn (evE G F hi δ) λh _=>(match h with
   | .int h=>(slD x (some l) (some h)).map λd=>.ok d (slCl x cx)
   | _=>none)
  | _=>none
 | .slf a lo,δ=>Re.thn (evE G F a δ) λx cx=>Re.thn (evE G F lo δ) λl _=>match l with
  | .int l=>(slD x (some l) none).map λd=>.ok d (slCl x cx)
  | _=>none
 | .slt a hi,δ=>Re.thn (evE G F a δ) λx cx=>Re.thn (evE G F hi δ) λh _=>match h with
  | .int h=>(slD x none (some h)).map λd=>.ok d (slCl x cx)
  | _=>none
 | .call f es,δ=>Rs.thn (evEs G F es δ) λl=>q3g F f l
 | .bi f es,δ=>if biOk f then Rs.thn (evEs G F es δ) λl=>biD f l else none
 | .isi a ts,δ=>Re.thn (evE G F a δ) λx _=>(isiD G x ts).map λk=>.ok (.bl k) .strong
 | .meth m a _,δ=>if m=.bitLength then Re.thn (evE G F a δ) λx _=>mtD m x else none
 | .comp elt tg it fr,δ=>Ri.thn (q0F (evE G F it δ)) λds c=>if c=.weak\/mostLen<ds.length then none else q1z (q0K (λd=>(tg.bind d (q0Q fr δ)).bind λδ'=>Rc.of (evE G F elt δ')) ds)
 | .compi elt tg it cd fr,δ=>Ri.thn (q0F (evE G F it δ)) λds c=>if c=.weak\/mostLen<ds.length then none else q1z (q0K (λd=>(tg.bind d (q0Q fr δ)).bind λδ'=>Rc.test (tstD (evE G F cd δ')) (Rc.of (evE G F elt δ'))) ds)
 | .idx a b,δ=>Re.thn (evE G F a δ) λx _=>if seqB x then Re.thn (evE G F b δ) λy _=>(idxD x y).map λd=>.ok d .strong else none
 | .rng es,δ=>Rs.thn (evEs G F es δ) λl=>(rngD l).map λds=>.ok (.lst ds) .fresh
 | .zp a b,δ=>Re.thn (evE G F a δ) λx c=>Re.thn (evE G F b δ) λy c'=>zipD x y c c'
 | .enu a,δ=>Re.thn (evE G F a δ) λx c=>q6R x c
def evEs(G:Gs)(F:Nat->List DV->Option Ou):List ME->List Sv->Option Rs
 | [],_=>some (.ok [])
 | e::es,δ=>match evE G F e δ with
  | none=>none
  | some (.ex c)=>some (.ex c)
  | some (.ok d c)=>match evEs G F es δ with
   | none=>none
   | some (.ex c)=>some (.ex c)
   | some (.ok l)=>some (.ok ((d,c)::l))
def q3M(G:Gs)(F:Nat->List DV->Option Ou):List ME->List Sv->Option Re
 | [],_=>none
 | e::es,δ=>if es.isEmpty then evE G F e δ else Re.thn (evE G F e δ) λx c=>andD x c (q3M G F es δ)
def evOr(G:Gs)(F:Nat->List DV->Option Ou):List ME->List Sv->Option Re
 | [],_=>none
 | e::es,δ=>if es.isEmpty then evE G F e δ else Re.thn (evE G F e δ) λx c=>orD x c (evOr G F es δ)
end
def q5Q:Nat:=1000
def Re.thnS(δ:List Sv)(r:Option Re)(k:DV->Cl->Option Out):Option Out:=match r with
 | none=>none
 | some (.ex c)=>some (.ex c δ)
 | some (.ok d c)=>k d c
def Rt.thnS(δ:List Sv)(r:Option Rt)(k:Bool->Option Out):Option Out:=match r with
 | none=>none
 | some (.ex c)=>some (.ex c δ)
 | some (.ok b)=>k b
def Ri.thnS(δ:List Sv)(r:Option Ri)(k:List DV->Cl->Option Out):Option Out:=match r with
 | none=>none
 | some (.ex c)=>some (.ex c δ)
 | some (.ok ds c)=>k ds c
def q0N(tg:Tg)(body:List Sv->Option Out):List DV->List Sv->Option Out
 | [],δ=>some (.nx δ)
 | d::r,δ=>match tg.bind d δ with
  | none=>none
  | some δ1=>match body δ1 with
   | some (.nx δ2)=>q0N tg body r δ2
   | o=>o
def frD:DV->Cl->Bool
 | .lst _,.fresh=>true | .lst _,.top=>true
 | _,_=>false
def noOt(i:Nat)(δ:List Sv):Bool:=(List.range δ.length).all λj=>j==i||(match δ[j]? with | some (.ot _)=>false | some (.o2 _)=>false | some (.od _)=>false | _=>true)
def q4K(i:Nat)(δ:List Sv)(d:DV)(c:Cl):Option Out:=match c with
 | .fresh=>some (.nx (δ.set i (.own d)))
 | .ft=>if noOt i δ then some (.nx (δ.set i (.ot d)))else none
 | _=>none
def retD(d:DV)(c:Cl):Out:=match c with
 | .ft=>.rtt d
 | _=>.rt d (frD d c)
mutual
def evS(G:Gs)(F:Nat->List DV->Option Ou)(fu:Nat):MS->List Sv->Option Out
 | .set i own e,δ=>Re.thnS δ (evE G F e δ) λd c=>if own then q4K i δ d c else(if stro d c then some (.nx (δ.set i (.val d)))else none)
 | .app i e,δ=>match δ[i]? with
  | some (.own (.lst ds))=>Re.thnS δ (evE G F e δ) λd c=>if stro d c/\ds.length<mostLen then some (.nx (δ.set i (.own (.lst (ds++[d])))))else none
  | _=>none
 | .seti i k e,δ=>match δ[i]? with
  | some (.own (.lst ds))=>Re.thnS δ (evE G F e δ) λd c=>Re.thnS δ (evE G F k δ) λk _=>(match k with
   | .int k=>(match q2m ds.length k with
    | some j=>if stro d c then some (.nx (δ.set i (.own (.lst (ds.set j d)))))else none
    | none=>none)
   | _=>none)
  | _=>none
 | .exp e,δ=>Re.thnS δ (evE G F e δ) λ_ _=>some (.nx δ)
 | .ret e,δ=>Re.thnS δ (evE G F e δ) λd c=>some (retD d c)
 | .iff c a b,δ=>Rt.thnS δ (tstD (evE G F c δ)) λk=>if k then evSs G F fu a δ else evSs G F fu b δ
 | .fo tg it body,δ=>Ri.thnS δ (q0F (evE G F it δ)) λds c=>if c=.strong\/c=.fresh then q0N tg (λδ'=>evSs G F fu body δ') ds δ else none
 | .rse c e,δ=>if(G.cls.lookup c).isSome then Re.thnS δ (evE G F e δ) λ_ _=>some (.ex c δ)else none
 | .frz i,δ=>match δ[i]? with
  | some (.own d)=>some (.nx (δ.set i (.val d)))
  | _=>some (.nx δ)
def evSs(G:Gs)(F:Nat->List DV->Option Ou)(fu:Nat):List MS->List Sv->Option Out
 | [],δ=>some (.nx δ)
 | s::r,δ=>match evS G F fu s δ with
  | some (.nx δ')=>evSs G F fu r δ'
  | o=>o
end
def q0n(n:Nat)(ds:List DV):List Sv:=ds.map Sv.val++List.replicate (n - ds.length) .no
def Ou.of(o:Option Out):Option Ou:=match o with
 | some (.nx _)=>some (.v .non false)
 | some (.rt d fr)=>some (.v d fr)
 | some (.rtt d)=>some (.t d)
 | some (.ex c _)=>some (.x c)
 | none=>none
def q7o:Nat->DV->List DV->Option (DV×List DV)
 | 0,_,_=>none
 | k+1,d,l=>match d with
  | .tup [.str s,x]=>if decide (s = "end")&&d.plain 60&&DV.plains 59 l then(match l with
   | []=>some (d,[])
   | y::l'=>some (y,l'))else none
  | .tup [.str s,a,b,c,e]=>if decide (s ≠ "end")&&(s.cps.all (· < 0x110000))then(match q7o k c l with
   | none=>none
   | some (n,l1)=>match q7o k e l1 with
    | none=>none
    | some (y,l2)=>some (.tup [.str "ask",a,b,n,y],l2))else none
  | _=>none
def q8N(k:Nat)(f:Nat)(ds:List DV):Option Ou:=match ds with
 | [d,.lst l]=>if f=q5Q then(q7o k d l).map (λr=>.v r.1 false)else none
 | _=>none
def run(G:Gs)(T:List FD)(fu:Nat):Nat->Nat->List DV->Option Ou
 | 0,_,_=>none
 | k+1,f,ds=>match T[f]? with
  | none=>q8N (k+1) f ds
  | some fd=>if ds.length=fd.np then Ou.of (evSs G (run G T fu k) fu fd.body (q0n fd.n ds))else none
end L2
end
noncomputable section
namespace L2
open PySem
section
variable {G:Gs} {F:Nat->List DV->Option Ou} {fu:Nat} {δ:List Sv}
theorem q0S{d:DV}{c:Cl}{k:DV->Cl->Option Re}:Re.thn (some (.ok d c)) k=k d c:=rfl
theorem q3y{l:List (DV×Cl)}{k:List (DV×Cl)->Option Re}:Rs.thn (some (.ok l)) k=k l:=rfl
theorem q7t{ds:List DV}{c:Cl}{k:List DV->Cl->Option Re}:Ri.thn (some (.ok ds c)) k=k ds c:=rfl
theorem q9K{d:DV}{c:Cl}{k:DV->Cl->Option Out}:Re.thnS δ (some (.ok d c)) k=k d c:=rfl
theorem z7z{m:MS}{r:List MS}{δ':List Sv}(h:evS G F fu m δ=some (.nx δ')):evSs G F fu (m::r) δ=evSs G F fu r δ':=by
 rw[show evSs G F fu (m::r) δ=(match evS G F fu m δ with | some (.nx δ')=>evSs G F fu r δ' | o=>o)from rfl,h]
theorem z8p{m:MS}{r:List MS}{d:DV}{fr:Bool}(h:evS G F fu m δ=some (.rt d fr)):evSs G F fu (m::r) δ=some (.rt d fr):=by
 rw[show evSs G F fu (m::r) δ=(match evS G F fu m δ with | some (.nx δ')=>evSs G F fu r δ' | o=>o)from rfl,h]
theorem q0D{T:List FD}{k f:Nat}{ds:List DV}{fd:FD}(h:T[f]? = some fd)(hl:ds.length=fd.np):run G T fu (k+1) f ds=Ou.of (evSs G (run G T fu k) fu fd.body (q0n fd.n ds)):=by
 show(match T[f]? with | none=>q8N (k+1) f ds | some fd=>if ds.length=fd.np then Ou.of (evSs G (run G T fu k) fu fd.body (q0n fd.n ds))else none)=_;rw[h];exact if_pos hl
end
end L2
namespace L2
open PySem
theorem q3n{g:DV->Option Rc}{p:DV->Bool}:∀{ds:List DV},(∀d∈ds,g d=some (if p d then .item d else .skip))->q0K g ds=some (ds.filter p)
 | [],_=>rfl
 | d::r,h=>by
  have h0:=h d (List.mem_cons_self ..);have ih:=q3n (ds:=r) (λd hd=>h d (List.mem_cons_of_mem _ hd));unfold q0K;rw[h0];cases hp:p d with
  | false=>rw[List.filter_cons_of_neg (by rw[hp];exact Bool.false_ne_true)];exact ih
  | true=>
   rw[List.filter_cons_of_pos hp];show(match q0K g r with | none=>none | some xs=>some (d::xs))=_;rw[ih]
theorem z2v{lo:Int}{n:Nat}{d:DV}(h:d∈upTo lo n):∃j:Nat,j<n/\d=.int (lo+j):=by
 unfold upTo at h;rw[List.mem_map]at h;obtain⟨j,hj,rfl⟩:=h;exact⟨j,List.mem_range.mp hj,rfl⟩
end L2
namespace L2
open PySem
section
variable {G:Gs} {F:Nat->List DV->Option Ou} {fu:Nat} {δ δ':List Sv} {m:MS} {r a b body:List MS} {o:Option Out} {c it:ME} {d:DV} {fr:Bool} {tg:Tg} {ds:List DV} {cl:Cl}
theorem q1c(h:evSs G F fu r δ=some (.rt d fr)):Ou.of (evSs G F fu r δ)=some (.v d fr):=by rw[h];rfl
theorem z9I(h:evSs G F fu r δ=some (.nx δ')):Ou.of (evSs G F fu r δ)=some (.v .non false):=by rw[h];rfl
theorem q0m(h:evS G F fu m δ=some (.nx δ'))(h2:evSs G F fu r δ'=o):evSs G F fu (m::r) δ=o:=(z7z h).trans h2
theorem q1a(h:evS G F fu m δ=some (.rt d fr)):evSs G F fu (m::r) δ=some (.rt d fr):=z8p h
theorem q9a{bb:Bool}(hc:tstD (evE G F c δ)=some (.ok bb)):evS G F fu (.iff c a b) δ=if bb then evSs G F fu a δ else evSs G F fu b δ:=by
 show Rt.thnS δ (tstD (evE G F c δ)) (λk=>if k then evSs G F fu a δ else evSs G F fu b δ)=_;rw[hc];rfl
theorem q5p(hc:tstD (evE G F c δ)=some (.ok true))(h:evSs G F fu a δ=some (.nx δ'))(h2:evSs G F fu r δ'=o):evSs G F fu (.iff c a b::r) δ=o:=q0m ((q9a hc).trans h) h2
theorem z7y(hc:tstD (evE G F c δ)=some (.ok false))(h:evSs G F fu b δ=some (.nx δ'))(h2:evSs G F fu r δ'=o):evSs G F fu (.iff c a b::r) δ=o:=q0m ((q9a hc).trans h) h2
theorem z1O(hc:tstD (evE G F c δ)=some (.ok true))(h:evSs G F fu a δ=some (.rt d fr)):evSs G F fu (.iff c a b::r) δ=some (.rt d fr):=q1a ((q9a hc).trans h)
theorem q1C(hc:tstD (evE G F c δ)=some (.ok false))(h2:evSs G F fu r δ=o):evSs G F fu (.iff c a []::r) δ=o:=z7y hc rfl h2
theorem q3N(hw:q0F (evE G F it δ)=some (.ok ds cl))(hc:cl=.strong\/cl=.fresh)(h:q0N tg (λδ'=>evSs G F fu body δ') ds δ=some (.nx δ'))(h2:evSs G F fu r δ'=o):evSs G F fu (.fo tg it body::r) δ=o:=by
 refine q0m ?_ h2;show Ri.thnS δ (q0F (evE G F it δ)) (λds c=>if c=.strong\/c=.fresh then q0N tg (λδ'=>evSs G F fu body δ') ds δ else none)=_;rw[hw];show(if cl=.strong\/cl=.fresh then q0N tg (λδ'=>evSs G F fu body δ') ds δ else none)=_;rw[if_pos hc];exact h
theorem q0p{i:Nat}{e:ME}(h:evE G F e δ=some (.ok d cl))(hs:stro d cl=true):evS G F fu (.set i false e) δ=some (.nx (δ.set i (.val d))):=by
 show Re.thnS δ (evE G F e δ) (λd c=>if false then q4K i δ d c else(if stro d c then some (.nx (δ.set i (.val d)))else none))=_;rw[h];show(if stro d cl then some (Out.nx (δ.set i (.val d)))else none)=_;rw[if_pos hs]
theorem q3p{i:Nat}{e:ME}(h:evE G F e δ=some (.ok d .fresh)):evS G F fu (.set i true e) δ=some (.nx (δ.set i (.own d))):=by
 show Re.thnS δ (evE G F e δ) (λd c=>if true then q4K i δ d c else(if stro d c then some (.nx (δ.set i (.val d)))else none))=_;rw[h];rfl
theorem q0J{e:ME}(h:evE G F e δ=some (.ok d cl))(hc:cl ≠ .ft:=by first | decide | (intro z;cases z)):evS G F fu (.ret e) δ=some (.rt d (frD d cl)):=by
 show Re.thnS δ (evE G F e δ) (λd c=>some (retD d c))=_;rw[h];show some (retD d cl)=_;cases cl<;>first | rfl | exact absurd rfl hc
theorem z3L{e:ME}(h:evE G F e δ=some (.ok d cl)):evS G F fu (.exp e) δ=some (.nx δ):=by
 show Re.thnS δ (evE G F e δ) (λ_ _=>some (.nx δ))=_;rw[h];rfl
theorem q0e{f:Nat}{es:List ME}{l:List (DV×Cl)}(ha:evEs G F es δ=some (.ok l))(hs:(l.all λp=>p.2 == .strong||p.2 == .fresh)=true)(h:F f (l.map (·.1))=some (.v d fr)):evE G F (.call f es) δ=some (.ok d (if fr then .fresh else .strong)):=by
 show Rs.thn (evEs G F es δ) (λl=>q3g F f l)=_;rw[ha];show q3g F f l=_;unfold q3g;rw[h,hs];rfl
theorem z2M{f:Nat}{es:List ME}{l:List (DV×Cl)}(ha:evEs G F es δ=some (.ok l))(hs:(l.all λp=>p.2 == .strong||p.2 == .fresh)=false)(h:F f (l.map (·.1))=some (.v d fr))(hf:(fr&&imL d)=false:=by rfl):evE G F (.call f es) δ=some (.ok d .weak):=by
 show Rs.thn (evEs G F es δ) (λl=>q3g F f l)=_;rw[ha];show q3g F f l=_;unfold q3g;rw[h,hs];show some (Re.ok d (if fr&&imL d then .fresh else .weak))=_;rw[hf];rfl
theorem z2V{f:Nat}{es:List ME}{l:List (DV×Cl)}{ds:List DV}(ha:evEs G F es δ=some (.ok l))(h:F f (l.map (·.1))=some (.v (.lst ds) true))(hf:DV.immuts ds=true):evE G F (.call f es) δ=some (.ok (.lst ds) .fresh):=by
 show Rs.thn (evEs G F es δ) (λl=>q3g F f l)=_;rw[ha];show q3g F f l=_;unfold q3g;rw[h];show some (Re.ok (.lst ds) (if(l.all λp=>p.2 == .strong||p.2 == .fresh)then .fresh else if DV.immuts ds then .fresh else .weak))=_;rw[hf];cases(l.all λp=>p.2 == .strong||p.2 == .fresh)<;>rfl
theorem q0G{e:ME}{x:Bool}(h:evE G F e δ=some (.ok (.bl x) cl)):tstD (evE G F e δ)=some (.ok x):=by rw[h];rfl
theorem z1A{e:ME}{x:Bool}(h:evE G F e δ=some (.ok (.bl x) cl)):evE G F (.not e) δ=some (.ok (.bl (!x)) .strong):=by
 show Re.thn (evE G F e δ) (λx _=>(q1Z x).map λk=>.ok (.bl (!k)) .strong)=_;rw[h];rfl
end
end L2
namespace L2
open PySem
section
variable {G:Gs} {F:Nat->List DV->Option Ou} {fu:Nat} {δ δ':List Sv} {a b:ME} {x y:DV} {cx cy:Cl}
theorem q1o{op:Operator}{r:Option Re}(ha:evE G F a δ=some (.ok x cx))(hb:evE G F b δ=some (.ok y cy))(h:binD op x y cx cy=r):evE G F (.bin op a b) δ=r:=by
 show Re.thn (evE G F a δ) (λx cx=>Re.thn (evE G F b δ) λy cy=>binD op x y cx cy)=_;rw[ha,q0S,hb,q0S,h]
theorem q1W{op:CmpOp}{t:Bool}(ha:evE G F a δ=some (.ok x cx))(hb:evE G F b δ=some (.ok y cy))(h:cmpD op x y=some t):evE G F (.cmp op a b) δ=some (.ok (.bl t) .strong):=by
 show Re.thn (evE G F a δ) (λx _=>Re.thn (evE G F b δ) λy _=>(cmpD op x y).map λk=>.ok (.bl k) .strong)=_;rw[ha,q0S,hb,q0S,h];rfl
theorem q0V{d:DV}(ha:evE G F a δ=some (.ok x cx))(hb:evE G F b δ=some (.ok y cy))(h:ixD x y=some d):evE G F (.ix a b) δ=some (.ok d cx.item):=by
 show Re.thn (evE G F a δ) (λx cx=>Re.thn (evE G F b δ) λy _=>(ixD x y).map λd=>.ok d cx.item)=_;rw[ha,q0S,hb,q0S,h];rfl
theorem q3T{t:Bool}(ha:evE G F a δ=some (.ok (.bl false) cx)):evE G F (.and [a,b]) δ=some (.ok (.bl false) cx):=by
 show Re.thn (evE G F a δ) (λx c=>andD x c (evE G F b δ))=_;rw[ha];rfl
theorem q3X{o:Option Re}(ha:evE G F a δ=some (.ok (.bl true) cx))(hb:evE G F b δ=o):evE G F (.and [a,b]) δ=o:=by
 show Re.thn (evE G F a δ) (λx c=>andD x c (evE G F b δ))=_;rw[ha];exact hb
theorem q3z{o:Option Re}(ha:evE G F a δ=some (.ok (.bl false) cx))(hb:evE G F b δ=o):evE G F (.or [a,b]) δ=o:=by
 show Re.thn (evE G F a δ) (λx c=>orD x c (evE G F b δ))=_;rw[ha];exact hb
theorem q0d:evEs G F [] δ=some (.ok []):=rfl
theorem q0a{es:List ME}{l:List (DV×Cl)}(ha:evE G F a δ=some (.ok x cx))(h:evEs G F es δ=some (.ok l)):evEs G F (a::es) δ=some (.ok ((x,cx)::l)):=by
 unfold evEs;rw[ha,h]
end
end L2
namespace L2
open PySem
section
variable {G:Gs} {F:Nat->List DV->Option Ou} {fu:Nat} {δ δ':List Sv} {a b c e:ME} {x y d:DV} {cx cy cl:Cl} {i:Nat} {ds:List DV}
theorem q7S(h0:δ[i]? = some (.own (.lst ds)))(h:evE G F e δ=some (.ok d cl))(hs:stro d cl=true)(hl:ds.length<mostLen):evS G F fu (.app i e) δ=some (.nx (δ.set i (.own (.lst (ds++[d]))))):=by
 unfold evS;rw[h0];show Re.thnS δ (evE G F e δ) (λd c=>if stro d c/\ds.length<mostLen then some (.nx (δ.set i (.own (.lst (ds++[d])))))else none)=_;rw[h];exact if_pos ⟨hs,hl⟩
theorem q7y{k:ME}{n:Int}{j:Nat}(h0:δ[i]? = some (.own (.lst ds)))(h:evE G F e δ=some (.ok d cl))(hk:evE G F k δ=some (.ok (.int n) cx))(hs:stro d cl=true)(hj:q2m ds.length n=some j):evS G F fu (.seti i k e) δ=some (.nx (δ.set i (.own (.lst (ds.set j d))))):=by
 unfold evS;rw[h0];show Re.thnS δ (evE G F e δ) (λd c=>Re.thnS δ (evE G F k δ) λk _=>(match k with | .int k=>(match q2m ds.length k with | some j=>if stro d c then some (.nx (δ.set i (.own (.lst (ds.set j d)))))else none | none=>none) | _=>none))=_;rw[h,q9K,hk,q9K];show(match q2m ds.length n with | some j=>if stro d cl then some (Out.nx (δ.set i (.own (.lst (ds.set j d)))))else none | none=>none)=_;rw[hj];exact if_pos hs
end
end L2
namespace L2
open PySem
section
variable {G:Gs} {F:Nat->List DV->Option Ou} {fu:Nat} {δ δ':List Sv} {a b c e:ME} {x y d:DV} {cx cy cl:Cl} {i:Nat} {ds:List DV}
theorem q1w{I:Nat->List Sv->Prop}{body:List Sv->Option Out}:∀(n:Nat) (lo:Int) {δ:List Sv},(∀j<n,∀δ,I j δ->∃δ2,body (δ.set i (.val (.int (lo+j))))=some (.nx δ2)/\I (j+1) δ2)->I 0 δ->∃δ',q0N (.one i) body (upTo lo n) δ=some (.nx δ')/\I n δ'
 | 0,_,δ,_,i0=>⟨δ,rfl,i0⟩
 | n+1,lo,δ,h,i0=>by
  have e:upTo lo (n+1)=.int lo::upTo (lo+1) n:=by
   unfold upTo;rw[List.range_succ_eq_map,List.map_cons,List.map_map]
   congr 1
   ·congr 1;omega
   ·apply List.map_congr_left;intro a _;show DV.int _=DV.int _
    congr 1
    push_cast
    omega
  obtain⟨δ2,h0,i1⟩:=h 0 (by omega) δ i0;rw[show lo+((0:Nat):Int)=lo by omega]at h0;obtain⟨δ',h1,i2⟩:=q1w (I:=λj=>I (j+1)) n (lo+1) (δ:=δ2) (λj hj δ q=>by
   obtain⟨δ3,q1,q2⟩:=h (j+1) (by omega) δ q;refine⟨δ3,?_,q2⟩;rw[show lo+1+((j:Nat):Int)=lo+((j+1:Nat):Int) by push_cast;omega];exact q1) i1
  refine⟨δ',?_,i2⟩;rw[e];show(match body (δ.set i (.val (.int lo)))with | some (.nx δ2)=>q0N (.one i) body (upTo (lo+1) n) δ2 | o=>o)=_;rw[h0];exact h1
theorem z2F{elt it cd:ME}{tg:Tg}{fr:List (Option Nat)}{p:DV->Bool}(hw:q0F (evE G F it δ)=some (.ok ds cl))(hc:cl ≠ .weak)(hl:ds.length<=mostLen)
  (h:∀d∈ds,∃δ',tg.bind d (q0Q fr δ)=some δ'/\tstD (evE G F cd δ')=some (.ok (p d))/\evE G F elt δ'=some (.ok d .strong)):evE G F (.compi elt tg it cd fr) δ=some (.ok (.lst (ds.filter p)) .fresh):=by
 show Ri.thn (q0F (evE G F it δ)) (λds c=>if c=.weak\/mostLen<ds.length then none else q1z (q0K (λd=>(tg.bind d (q0Q fr δ)).bind λδ'=>Rc.test (tstD (evE G F cd δ')) (Rc.of (evE G F elt δ'))) ds))=_;rw[hw,q7t,if_neg (by rintro(z | z);exact hc z;omega),q3n (p:=p) (λd hd=>?_)]
 ·rfl
 ·obtain⟨δ',e1,e2,e3⟩:=h d hd;rw[e1,Option.bind_some,e2,e3];cases p d<;>rfl
end
end L2
namespace L2
open PySem
section
variable {G:Gs} {F:Nat->List DV->Option Ou} {fu:Nat} {δ δ':List Sv} {r body:List MS} {it:ME} {cl:Cl} {ds:List DV} {tg:Tg} {o:Option Out}
end
end L2
namespace L2
open PySem
section
variable {G:Gs} {F:Nat->List DV->Option Ou} {fu:Nat} {δ δ':List Sv} {a b:ME} {i j:Int} {cx cy:Cl}
theorem q0c:evE G F (.int i) δ=some (.ok (.int i) .strong):=rfl
theorem q0b{n:Nat}{d:DV}(h:δ[n]? = some (.val d)):evE G F (.var n) δ=some (.ok d .strong):=by unfold evE;rw[h]
theorem q1e{n:Nat}{d:DV}(h:δ[n]? = some (.own d)):evE G F (.var n) δ=some (.ok d .top):=by unfold evE;rw[h]
theorem q2v(ha:evE G F a δ=some (.ok (.int i) cx))(hb:evE G F b δ=some (.ok (.int j) cy)):evE G F (.bin .Add a b) δ=some (.ok (.int (i+j)) .strong):=q1o ha hb rfl
theorem q7E(ha:evE G F a δ=some (.ok (.int i) cx))(hb:evE G F b δ=some (.ok (.int j) cy)):evE G F (.bin .Sub a b) δ=some (.ok (.int (i - j)) .strong):=q1o ha hb rfl
theorem q3s(ha:evE G F a δ=some (.ok (.int i) cx))(hb:evE G F b δ=some (.ok (.int j) cy))(h:q4R i j=true):evE G F (.bin .Mult a b) δ=some (.ok (.int (i*j)) .strong):=q1o ha hb (if_pos h)
theorem q1N(ha:evE G F a δ=some (.ok (.int i) cx))(hb:evE G F b δ=some (.ok (.int j) cy))(h:0<j):evE G F (.bin .Mod a b) δ=some (.ok (.int (i%j)) .strong):=q1o ha hb (if_pos h)
theorem z6q(ha:evE G F a δ=some (.ok (.int i) cx))(hb:evE G F b δ=some (.ok (.int j) cy))(h:0<j/\j<1073741824):evE G F (.bin .FloorDiv a b) δ=some (.ok (.int (i/j)) .strong):=q1o ha hb (if_pos ⟨h.1,Int.lt_trans h.2 (by decide)⟩)
theorem b_eq(ha:evE G F a δ=some (.ok (.int i) cx))(hb:evE G F b δ=some (.ok (.int j) cy)):evE G F (.cmp .Eq a b) δ=some (.ok (.bl (i==j)) .strong):=q1W ha hb rfl
theorem b_lt(ha:evE G F a δ=some (.ok (.int i) cx))(hb:evE G F b δ=some (.ok (.int j) cy)):evE G F (.cmp .Lt a b) δ=some (.ok (.bl (decide (i<j))) .strong):=q1W ha hb rfl
theorem b_gt(ha:evE G F a δ=some (.ok (.int i) cx))(hb:evE G F b δ=some (.ok (.int j) cy)):evE G F (.cmp .Gt a b) δ=some (.ok (.bl (decide (j<i))) .strong):=q1W ha hb rfl
end
end L2
namespace L2
open PySem
section
variable {G:Gs} {F:Nat->List DV->Option Ou} {fu:Nat} {δ δ':List Sv} {es:List ME} {l:List (DV×Cl)}
theorem q8p(h:evEs G F es δ=some (.ok l))(hl:l.length<=mostLen)(hs:stros l=true):evE G F (.tup es) δ=some (.ok (.tup (l.map (·.1))) .strong):=by
 show Rs.thn (evEs G F es δ) (λl=>if l.length<=mostLen then some (.ok (.tup (l.map (·.1))) (if stros l then .strong else .weak))else none)=_;rw[h,q3y,if_pos hl,hs];rfl
end
end L2
namespace L2
open PySem
theorem q2u{tg:Tg}{body:List Sv->Option Out}:∀{ds es:List DV} {δ δ':List Sv},q0N tg body ds δ=some (.nx δ')->q0N tg body (ds++es) δ=q0N tg body es δ'
 | [],es,δ,δ',h=>by cases h;rfl
 | d::r,es,δ,δ',h=>by
  show(match tg.bind d δ with | none=>none | some δ1=>(match body δ1 with | some (.nx δ2)=>q0N tg body (r++es) δ2 | o=>o))=_;have h':(match tg.bind d δ with | none=>none | some δ1=>(match body δ1 with | some (.nx δ2)=>q0N tg body r δ2 | o=>o))=some (.nx δ'):=h;cases e1:tg.bind d δ with
  | none=>rw[e1]at h';cases h'
  | some δ1=>
   rw[e1]at h';have h'':(match body δ1 with | some (.nx δ2)=>q0N tg body r δ2 | o=>o)=some (.nx δ'):=h';show(match body δ1 with | some (.nx δ2)=>q0N tg body (r++es) δ2 | o=>o)=_;cases e2:body δ1 with
   | none=>rw[e2]at h'';cases h''
   | some o=>
    rw[e2]at h'';cases o with
    | nx δ2=>exact q2u h''
    | rt d fr=>cases h''
    | ex c δ2=>cases h''
    | rtt d=>cases h''
end L2
namespace L2
open PySem
theorem q5k{tg:Tg}{body:List Sv->Option Out}{d:DV}{δ δ1 δ2:List Sv}(h1:tg.bind d δ=some δ1)(h2:body δ1=some (.nx δ2)):q0N tg body [d] δ=some (.nx δ2):=by
 unfold q0N;rw[h1];simp only[h2];rfl
end L2
end
noncomputable section
namespace L2
open PySem
def Rise(xs:Array Nat):Prop:=∀(i k x y:Nat),i<k->xs[i]? = some x->xs[k]? = some y->x<y
theorem q8A{xs:Array Nat}{j:Nat}(hr:Rise xs):∀(fuel lo hi:Nat),lo<=hi->hi<=xs.size->hi - lo<=fuel ->
  (∀i x,i<lo->xs[i]? = some x->x<j)->(∀i x,hi<=i->xs[i]? = some x->j<=x) ->
  (∀i x,i<SetTable.below.go xs j fuel lo hi->xs[i]? = some x->x<j)/\(∀i x,SetTable.below.go xs j fuel lo hi<=i->xs[i]? = some x->j<=x):=by
 intro fuel
 induction fuel with
 | zero=>
  intro lo hi h1 h2 h3 h4 h5;have:lo=hi:=by omega
  subst this;exact⟨h4,h5⟩
 | succ n ih=>
  intro lo hi h1 h2 h3 h4 h5;unfold SetTable.below.go;by_cases hlt:lo<hi
  ·rw[if_pos hlt];have hm:(lo+hi)/2<hi:=by omega
   have hm2:lo<=(lo+hi)/2:=by omega
   have hms:(lo+hi)/2<xs.size:=by omega
   have hg:xs[(lo+hi)/2]? = some xs[(lo+hi)/2]:=Array.getElem?_eq_getElem hms;have hgd:xs.getD ((lo+hi)/2) j=xs[(lo+hi)/2]:=(by rw[Array.getD_eq_getD_getElem?,hg];rfl);dsimp only;rw[hgd];by_cases hc:xs[(lo+hi)/2]<j
   ·rw[if_pos hc];refine ih _ _ (by omega) h2 (by omega) (λi x hi' hx=>?_) h5;rcases Nat.lt_or_ge i ((lo+hi)/2)with q | q
    ·exact Nat.lt_trans (hr i _ x _ q hx hg) hc
    ·have e:i=(lo+hi)/2:=by omega
     subst e;rw[hg]at hx;cases hx;exact hc
   ·rw[if_neg hc];refine ih _ _ hm2 (by omega) (by omega) h4 λi x hi' hx=>?_
    rcases Nat.lt_or_ge ((lo+hi)/2) i with q | q
    ·exact Nat.le_trans (Nat.le_of_not_lt hc) (Nat.le_of_lt (hr _ i _ x q hg hx))
    ·have e:i=(lo+hi)/2:=by omega
     subst e;rw[hg]at hx;cases hx;exact Nat.le_of_not_lt hc
  ·rw[if_neg hlt];have:lo=hi:=by omega
   subst this;exact⟨h4,h5⟩
theorem q5H{xs:Array Nat}(hr:Rise xs){j i x:Nat}(h:i<SetTable.below xs j)(hx:xs[i]? = some x):x<j:=
 (q8A (j:=j) hr xs.size 0 xs.size (Nat.zero_le _) (Nat.le_refl _) (by omega) (λi x h=>by omega) λi x h hx=>by
  rw[Array.getElem?_eq_none h]at hx;cases hx).1 i x h hx
theorem q4d{xs:Array Nat}(hr:Rise xs){j i x:Nat}(h:SetTable.below xs j<=i)(hx:xs[i]? = some x):j<=x:=
 (q8A (j:=j) hr xs.size 0 xs.size (Nat.zero_le _) (Nat.le_refl _) (by omega) (λi x h=>by omega) λi x h hx=>by
  rw[Array.getElem?_eq_none h]at hx;cases hx).2 i x h hx
theorem q7C{xs:Array Nat}{j:Nat}:∀(fuel lo hi:Nat),lo<=hi->SetTable.below.go xs j fuel lo hi<=hi:=by
 intro fuel
 induction fuel with
 | zero=>intro lo hi h;exact h
 | succ n ih=>
  intro lo hi h;unfold SetTable.below.go;dsimp only;split
  ·split
   ·exact ih _ _ (by omega)
   ·exact Nat.le_trans (ih _ _ (by omega)) (by omega)
  ·exact h
theorem q8H{xs:Array Nat}{j:Nat}:SetTable.below xs j<=xs.size:=q7C _ _ _ (Nat.zero_le _)
theorem q8P{xs:Array Nat}(hr:Rise xs){i x:Nat}(hx:xs[i]? = some x):SetTable.below xs (x+1)=i+1:=by
 have hi:i<xs.size:=by
  rcases Nat.lt_or_ge i xs.size with h | h
  ·exact h
  ·rw[Array.getElem?_eq_none h]at hx;cases hx
 rcases Nat.lt_trichotomy (SetTable.below xs (x+1)) (i+1)with h | h | h
 ·have:=q4d hr (j:=x+1) (Nat.le_of_lt_succ h) hx;omega
 ·exact h
 ·have h2:SetTable.below xs (x+1)<=xs.size:=q8H;have h3:i+1<xs.size:=by omega
  have hy:xs[i+1]? = some xs[i+1]:=Array.getElem?_eq_getElem h3;have a:=q5H hr (j:=x+1) h hy;have b:=hr i (i+1) x _ (Nat.lt_succ_self _) hx hy;omega
theorem q8S{xs:Array Nat}(hr:Rise xs):SetTable.below xs 0=0:=by
 rcases Nat.eq_zero_or_pos (SetTable.below xs 0)with h | h
 ·exact h
 ·have h2:SetTable.below xs 0<=xs.size:=q8H;have h3:0<xs.size:=by omega
  have hy:xs[0]? = some xs[0]:=Array.getElem?_eq_getElem h3;have a:=q5H hr (j:=0) h hy;omega
theorem Rise.empty:Rise #[]:=λi k x y _ hx=>by simp at hx
theorem Rise.range(n:Nat):Rise (Array.range n):=λi k x y h hx hy=>by
 rw[Array.getElem?_range]at hx hy;split at hx
 ·split at hy
  ·cases hx;cases hy;exact h
  ·cases hy
 ·cases hx
theorem q6Q{l:List Nat}(h:l.Pairwise (· < ·)):Rise l.toArray:=λi k x y hik hx hy=>by
 have hx':l[i]? = some x:=by simpa using hx
 have hy':l[k]? = some y:=by simpa using hy
 obtain⟨hi,ei⟩:=List.getElem?_eq_some_iff.mp hx';obtain⟨hk,ek⟩:=List.getElem?_eq_some_iff.mp hy';rw[←ei,←ek];exact List.pairwise_iff_getElem.mp h i k hi hk hik
theorem z5F{xs:Array Nat}(h:Rise xs):xs.toList.Pairwise (· < ·):=by
 refine List.pairwise_iff_getElem.mpr λi k hi hk hik=>?_;exact h i k _ _ hik (by rw[←Array.getElem?_toList];exact List.getElem?_eq_getElem hi) (by rw[←Array.getElem?_toList];exact List.getElem?_eq_getElem hk)
structure Tab(t:SetTable)(b:Bool):Prop where
 rise:Rise t.place
 dum:t.dummies = #[]
 led:t.led=b
theorem Tab.fresh(b:Bool):Tab (SetTable.fresh 0 0 b) b:=⟨Rise.empty,rfl,rfl⟩
theorem Tab.standIn{t:SetTable}{b:Bool}(h:Tab t b)(n:Nat):Tab (t.standIn n) b:=⟨Rise.range n,rfl,h.led⟩
theorem q6J(j:Nat):SetTable.has #[] j=false:=by
 unfold SetTable.has;simp
theorem z2n{t:SetTable}{b:Bool}(h:Tab t b)(f:Nat->Int)(z:Int):∀(fuel:Nat) (p:SetTable.Probe) (j:Nat) (d:Option Nat),p.dummy=none->SetTable.probe.go t f z fuel p=some (.empty j d)->d=none/\t.slot j=.empty:=by
 intro fuel
 induction fuel with
 | zero=>intro p j d hp e;cases e
 | succ n ih=>
  intro p j d hp e;unfold SetTable.probe.go at e;cases hs:t.slot p.j with
  | empty=>rw[hs]at e;cases e;exact⟨hp,hs⟩
  | dummy=>
   unfold SetTable.slot at hs;rw[h.dum,q6J]at hs;dsimp only at hs;split at hs
   ·cases hs
   ·cases hs
  | live i=>
   rw[hs]at e;dsimp only at e;split at e
   ·cases e
   ·refine ih _ j d ?_ e;unfold SetTable.advance;split
    ·exact hp
    ·exact hp
theorem q4Q{t:SetTable}{b:Bool}(h:Tab t b){z:Int}{j:Nat}{w:Bool}(e:t.freeSlot z=some (j,w)):t.slot j=.empty:=by
 unfold SetTable.freeSlot at e;split at e
 ·rename_i j' d hp;obtain⟨hd,hs⟩:=z2n h _ _ _ _ _ _ rfl hp;subst hd;cases e;exact hs
 ·cases e
theorem Tab.put{t:SetTable}{b:Bool}(h:Tab t b){j:Nat}(hs:t.slot j=.empty):Tab (t.put j).1 b:=by
 have hn:t.place[SetTable.below t.place j]? ≠ some j:=λz=>by unfold SetTable.slot at hs;dsimp only at hs;rw[z]at hs;simp at hs
 refine⟨?_,?_,h.led⟩
 ·show Rise (SetTable.insertAt t.place (SetTable.below t.place j) j);have e:(SetTable.insertAt t.place (SetTable.below t.place j) j).toList=_:=SetTable.toList_insertAt _ _ _;have pw:=z5F h.rise;have:(SetTable.insertAt t.place (SetTable.below t.place j) j).toList.Pairwise (· < ·):=by
   rw[e,List.pairwise_append];refine⟨pw.sublist (List.take_sublist _ _),List.pairwise_cons.mpr ⟨λy hy=>?_,pw.sublist (List.drop_sublist _ _)⟩,λx hx y hy=>?_⟩
   ·obtain⟨i,hi⟩:=List.mem_iff_getElem?.mp hy;rw[List.getElem?_drop,Array.getElem?_toList]at hi;rcases Nat.lt_or_eq_of_le (q4d h.rise (j:=j) (Nat.le_add_right _ _) hi)with q | q
    ·exact q
    ·exfalso;subst q;rcases Nat.eq_zero_or_pos i with z | z
     ·subst z;exact hn hi
     ·have hb:SetTable.below t.place j<t.place.size:=by
       rcases Nat.lt_or_ge (SetTable.below t.place j+i) t.place.size with q | q
       ·omega
       ·rw[Array.getElem?_eq_none q]at hi;cases hi
      have hg:t.place[SetTable.below t.place j]? = some t.place[SetTable.below t.place j]:=Array.getElem?_eq_getElem hb;have a:=q4d h.rise (j:=j) (Nat.le_refl _) hg;have c:=h.rise _ _ _ _ (show SetTable.below t.place j<SetTable.below t.place j+i by omega) hg hi;omega
   ·have hx':x<j:=by
     obtain⟨i,hi⟩:=List.mem_iff_getElem?.mp hx;rw[List.getElem?_take]at hi;split at hi
     ·rw[Array.getElem?_toList]at hi;exact q5H h.rise (by assumption) hi
     ·cases hi
    rcases List.mem_cons.mp hy with q | q
    ·rw[q];exact hx'
    ·obtain⟨i,hi⟩:=List.mem_iff_getElem?.mp q;rw[List.getElem?_drop,Array.getElem?_toList]at hi;exact Nat.lt_of_lt_of_le hx' (q4d h.rise (j:=j) (Nat.le_add_right _ _) hi)
  have r:=q6Q this
  rwa [Array.toArray_toList]at r
 ·show(if SetTable.has t.dummies j then _ else t.dummies) = #[];rw[h.dum,q6J];rfl
theorem Tab.orStandIn{t:SetTable}{b:Bool}(h:Tab t b)(n:Nat):Tab (t.orStandIn n) b:=by
 unfold SetTable.orStandIn;split
 ·exact h
 ·exact h.standIn n
theorem Tab.layNew{t:SetTable}{b:Bool}(h:Tab t b)(es:Array (Int×Value))(z:Int)(x:Value):Tab (layNew t es z x).2.1 b:=by
 unfold PySem.layNew;split
 ·rename_i j w e;exact(h.put (q4Q h e)).orStandIn _
 ·exact h.standIn _
theorem q1h{f:Nat->Option Nat}:∀{l:List Nat},l.Pairwise (· < ·)->((l.filterMap λj=>(f j).map (j,·)).map (·.1)).Pairwise (· < ·)
 | [],_=>.nil
 | a::l,h=>by
  obtain⟨h1,h2⟩:=List.pairwise_cons.mp h;have ih:=q1h (f:=f) h2;rw[List.filterMap_cons];cases e:f a with
  | none=>exact ih
  | some c=>
   refine List.pairwise_cons.mpr ⟨λy hy=>?_,ih⟩;obtain⟨p,hp,rfl⟩:=List.mem_map.mp hy;obtain⟨j,hj,e2⟩:=List.mem_filterMap.mp hp;cases e3:f j with
   | none=>rw[e3]at e2;cases e2
   | some c2=>rw[e3]at e2;cases e2;exact h1 j hj
theorem Tab.relayAll{t:SetTable}{b:Bool}(h:Tab t b)(es:Array (Int×Value))(n:Nat):Tab (relayAll t es n).2.1 b:=by
 unfold PySem.relayAll;split
 ·rename_i t' order e;dsimp only;split
  ·show Tab t' b;unfold SetTable.relaid SetTable.laid at e;cases hl:SetTable.layClean (SetTable.sizeAbove n - 1) (es.map (·.1))with
   | none=>rw[hl]at e;cases e
   | some owner=>
    rw[hl]at e;cases e;exact⟨q6Q (q1h (List.pairwise_lt_range)),rfl,h.led⟩
  ·exact h.standIn _
 ·exact h.standIn _
theorem q3D{α:Type}{x:α}:∀{l:List α} {i:Nat} (h:i<l.length),l[i]=x->(x::l.eraseIdx i).Perm l
 | [],i,h,_=>by cases h
 | a::l,0,_,e=>by have e:a=x:=e;subst e;exact .rfl
 | a::l,i+1,h,e=>by rw[List.eraseIdx_cons_succ];exact(List.Perm.swap a x _).trans (List.Perm.cons a (q3D (l:=l) (i:=i) (by simpa using h) (by simpa using e)))
theorem q6B{α:Type}(next:Nat->Nat):∀(fuel k:Nat) (left:List α) (out:Array α),left.length<=fuel->(pickOrder.go next fuel k left out).toList.Perm (out.toList++left):=by
 intro fuel
 induction fuel with
 | zero=>
  intro k left out h;have:left=[]:=List.length_eq_zero_iff.mp (by omega);subst this;unfold pickOrder.go;rw[List.append_nil]
 | succ n ih=>
  intro k left out h;unfold pickOrder.go;cases e:left[next k%left.length]? with
  | none=>
   dsimp only;have:left=[]:=by
    cases left with
    | nil=>rfl
    | cons a r=>
     have hlt:next k%(a::r).length<(a::r).length:=Nat.mod_lt _ (by simp);rw[List.getElem?_eq_getElem hlt]at e;cases e
   subst this;rw[List.append_nil]
  | some x=>
   dsimp only;obtain⟨hlt,hx⟩:=List.getElem?_eq_some_iff.mp e;have hle:(left.eraseIdx (next k%left.length)).length<=n:=(by rw[List.length_eraseIdx,if_pos hlt];omega);refine(ih _ _ _ hle).trans ?_;rw[Array.toList_push,List.append_assoc];refine List.Perm.append_left _ ?_;exact q3D hlt hx
theorem q2M{α:Type}(next:Nat->Nat)(xs:Array α):(pickOrder next xs).toList.Perm xs.toList:=by
 unfold pickOrder;exact(q6B next xs.size 0 xs.toList #[] (by simp)).trans (by simp)
end L2
end
noncomputable section
namespace L2
open PySem
def q3w:Value->Int
 | .int n _=>n
 | _=>0
def q0E(w:World):Bool:=w.params.followText "set-order"
def SetI(prog:Program)(w:World)(h:Heap)(a:Addr)(ks:List Int):Prop:=
 ∃o es ep t,h.get? a=some o/\o.ExactSet/\o.data=.set es ep t/\ElemsOf (intKind prog w) es.toList/\(es.toList.map λe=>q3w e.2).Perm ks/\es.size<scanBound/\t.fits es.size=true/\Tab t (!q0E w)
section
variable {prog:Program} {w:World} {A:Around} {E:Value->Shared->Prop} {s:Shared} {a:Addr} {ks:List Int}
theorem q7L{es:List (Int×Value)}(h:ElemsOf (intKind prog w) es){e:Int×Value}(he:e∈es):∃t,e.2=.int (q3w e.2) t:=by
 obtain⟨⟨k,hk,_⟩,_⟩:=h e he;obtain⟨t,q⟩:=Value.isInt_shape hk;exact⟨t,by rw[q];rfl⟩
theorem z0q{es:List (Int×Value)}(h:ElemsOf (intKind prog w) es){e:Int×Value}(he:e∈es)(k:Int):(intKind prog w).is k e.2=true↔q3w e.2=k:=by
 obtain⟨t,q⟩:=q7L h he;rw[q];show Value.isInt k (.int (q3w e.2) t)=true↔_;simp[Value.isInt,q3w]
theorem SetI.at{h h':Heap}(x:SetI prog w h a ks)(k:∀o,h.get? a=some o->h'.get? a=some o):SetI prog w h' a ks:=by
 obtain⟨o,es,ep,t,ho,r⟩:=x;exact⟨o,es,ep,t,k o ho,r⟩
theorem z3s{h:Heap}{o:Obj}{es es':Array (Int×Value)}{ep:Nat}{t t':SetTable}(ho:h.get? a=some o)(hd:o.data=.set es ep t) :
  (h.update a (Obj.putSet es' t')).get? a=some {o with data:=.set es' (ep+1) t'}:=by
 have q:=Heap.get?_update_self (Obj.putSet es' t') ho (by rw[putSet_of es' t' hd];rfl)
 rwa [putSet_of es' t' hd]at q
theorem z4B{k:Int}{tk:Tok}{Q:Option Bool->Shared->Prop}{o:Obj}{es:Array (Int×Value)}{ep:Nat}{t:SetTable}(ho:s.heap.get? a=some o)(hx:o.ExactSet)(hd:o.data=.set es ep t)
  (hel:ElemsOf (intKind prog w) es.toList) (hp:(es.toList.map λe=>q3w e.2).Perm ks) (hb:es.size+1<scanBound) (ht:Tab t (!q0E w))
  {es1:Array (Int×Value)} {t1:SetTable} (p1:es1.toList.Perm (es.toList++[(hashInt k,Value.int k tk)])) (f1:t1.fits es1.size=true) (g1:Tab t1 (!q0E w)) (wd:Bool) {g:Bool->Sem Unit}
  (hg:∀(b:Bool) (s₁:Shared) (Q':Unit->Shared->Prop),Q' () s₁->wpAny (model prog w) A (g b) Q' E s₁)
  (h:∀h',Heap.SameBut a s.heap h'->SetI prog w h' a (ks++[k])->Q (some true) {s with heap:=h'}) :
  wpAny (model prog w) A (do
   storeSet a es1 t1
   if(!wd&&t1.tooFull)=true then do
    g (relayAll t1 es1 (SetTable.grown es1.size)).2.2
    storeSet a (relayAll t1 es1 (SetTable.grown es1.size)).1 (relayAll t1 es1 (SetTable.grown es1.size)).2.1
    pure (some true)
   else pure (some true)) Q E s:=by
 have z1:es1.size=es.size+1:=(by have:=p1.length_eq;rw[List.length_append,Array.length_toList,Array.length_toList]at this;exact this);have e1:ElemsOf (intKind prog w) es1.toList:=(hel.push (intKind_is prog w k tk) rfl).perm p1;have m1:(es1.toList.map λe=>q3w e.2).Perm (ks++[k]):=(by refine(p1.map _).trans ?_;rw[List.map_append];exact hp.append_right _);have b1:es1.size<scanBound:=by omega
 refine wpAny_bind (wpAny_storeSet_of ho hd ?_ (fits_of_scanBound b1));have o1:=z3s (es':=es1) (t':=t1) ho hd;have sb:=Heap.SameBut.update s.heap a (Obj.putSet es1 t1);split
 ·have p2:=relayAll_perm t1 es1 (SetTable.grown es1.size);have f2:=relayAll_fits t1 es1 (SetTable.grown es1.size);have g2:=g1.relayAll es1 (SetTable.grown es1.size);generalize relayAll t1 es1 (SetTable.grown es1.size)=R at p2 f2 g2 ⊢;have z2:R.1.size=es1.size:=by
   have:=p2.length_eq
   rwa [Array.length_toList,Array.length_toList]at this
  have b2:R.1.size<scanBound:=by omega
  refine wpAny_bind (hg _ _ _ ?_);refine wpAny_bind (wpAny_storeSet_of o1 rfl ?_ (fits_of_scanBound b2));refine wpAny_pure (h _ (sb.trans (Heap.SameBut.update _ a _)) ?_);exact⟨_,R.1,_,R.2.1,z3s o1 rfl,hx,rfl,e1.perm p2,(p2.map _).trans m1,b2,f2,g2⟩
 ·refine wpAny_pure (h _ sb ?_);exact⟨_,es1,_,t1,o1,hx,rfl,e1,m1,b1,f1,g1⟩
theorem z7I{k:Int}{tk:Tok}{Q:Bool->Shared->Prop}(hS:SetI prog w s.heap a ks)(hr:ks.length+1<scanBound)
  (h:∀h' b,Heap.SameBut a s.heap h'->SetI prog w h' a (dk ks k)->Q b {s with heap:=h'}) :
  wpAny (model prog w) A (setAddHashed a (.int k tk) (hashInt k)) Q E s:=by
 obtain⟨o,es,ep,t,ho,hx,hd,hel,hp,hb,hf,ht⟩:=id hS;have hz:es.size=ks.length:=by
  have:=hp.length_eq
  rwa [List.length_map,Array.length_toList]at this
 have hq:∀(b:Bool) (s₁:Shared) (Q':Unit->Shared->Prop),Q' () s₁->wpAny (model prog w) A (match b with | true=>rule "set.scan.the-table-gave-way" | false=>pure ()) Q' E s₁:=λb s₁ Q' q=>by
  cases b with
  | true=>exact wpAny_rule q
  | false=>exact wpAny_pure q
 unfold setAddHashed setAddHashedIn;refine wpAny_holding (wpAny_bind (wpAny_setState_of ho hd hf ?_));dsimp only;rw[byScan_of (knd:=intKind prog w) (x:=.int k tk) rfl hb hel,if_pos rfl];unfold setAddByScan;refine wpAny_bind (wpAny_bind (wpAny_rule (wpAny_bind ?_)));refine wpAny_setScan_of (knd:=intKind prog w) (intKind_is prog w k tk) ho hd hf hel ?_;cases hi:es.toList.findIdx? (λe=>(intKind prog w).is k e.2)with
 | some j=>
  obtain⟨hj,hk,_⟩:=List.findIdx?_eq_some_iff_getElem.mp hi;have hm:k∈ks:=hp.mem_iff.mp (List.mem_map.mpr ⟨es.toList[j],List.getElem_mem hj,(z0q hel (List.getElem_mem hj) k).mp hk⟩);have hd':dk ks k=ks:=by unfold dk;rw[if_pos hm]
  refine wpAny_pure (wpAny_pure ?_);have:=h s.heap false (Heap.SameBut.refl a s.heap) (by rw[hd'];exact hS);exact this
 | none=>
  have hm:k∉ks:=λz=>by obtain⟨e,he,q⟩:=List.mem_map.mp (hp.mem_iff.mpr z);have:=List.findIdx?_eq_none_iff.mp hi e he;rw[(z0q hel he k).mpr q]at this;cases this
  have hd':dk ks k=ks++[k]:=(by unfold dk;rw[if_neg hm]);rw[hd']at h;dsimp only;have p1:=layNew_perm t es (hashInt k) (.int k tk);have f1:=layNew_fits t es (hashInt k) (.int k tk);have g1:=ht.layNew es (hashInt k) (.int k tk);show wpAny _ _ _ _ _ _
  change wpAny (model prog w) A (match layNew t es (hashInt k) (.int k tk)with | (es,t,wasDummy,gave)=>_) _ _ _
  generalize layNew t es (hashInt k) (.int k tk)=L at p1 f1 g1 ⊢;obtain⟨es1,t1,wd,gv⟩:=L;rw[Array.toList_push]at p1;dsimp only at p1 f1 g1 ⊢;refine wpAny_bind (hq gv _ _ ?_);have fin:∀t2:SetTable,t2.fits es1.size=true->Tab t2 (!q0E w)->wpAny (model prog w) A (do
   storeSet a es1 t2
   if(!wd&&t2.tooFull)=true then do
    (λb:Bool=>match b with | true=>rule "set.scan.the-table-gave-way" | false=>pure ()) (relayAll t2 es1 (SetTable.grown es1.size)).2.2
    storeSet a (relayAll t2 es1 (SetTable.grown es1.size)).1 (relayAll t2 es1 (SetTable.grown es1.size)).2.1
    pure (some true)
   else pure (some true)) (λr s'=>wpAny (model prog w) A (match r with | some added=>pure added | none=>setAddHashedIn a (.int k tk) (hashInt k) 99999) Q E s') E s:=λt2 f2 g2=>
   z4B (k:=k) (tk:=tk) ho hx hd hel hp (by omega) ht p1 f2 g2 wd hq λh' sb S'=>wpAny_pure (h h' true sb S')
  split
  ·refine wpAny_bind ?_;rw[hashByValue_scannable 8 (x:=.int k tk) rfl];refine wpAny_pure ?_;exact fin t1 f1 g1
  ·refine wpAny_bind (wpAny_pure ?_);exact fin t1 f1 g1
end
end L2
end
noncomputable section
namespace L2
open PySem PySem.Spec PyProof.Rows
def fm(val:Nat->Int)(i:Nat):List Int:=((List.range i).map val).foldl dk []
theorem q9N(val:Nat->Int)(i:Nat):fm val (i+1)=dk (fm val i) (val i):=by
 unfold fm;rw[List.range_succ,List.map_append,List.foldl_append];rfl
theorem q8B(σ:List Int)(k:Int):(dk σ k).length<=σ.length+1:=by
 unfold dk;split
 ·exact Nat.le_succ _
 ·rw[List.length_append];exact Nat.le_refl _
theorem z3w(val:Nat->Int):∀i,(fm val i).length<=i
 | 0=>Nat.le_refl _
 | i+1=>by rw[q9N];exact Nat.le_trans (q8B _ _) (Nat.succ_le_succ (z3w val i))
section
variable {prog:Program} {w:World} {A:Around} {R:Result->Shared->Prop} {I:Addr} {fp wr:List Addr} {G:Array GenState->Array GenState->Prop} {n:Nat} {P:Nat->Value->Prop} {St:Nat->Shared->Prop}
theorem SetI.moved{s s':Shared}{S:Addr}{ks:List Int}(x:SetI prog w s.heap S ks)(hm:Moved wr G s s')(hS:S∉wr):SetI prog w s'.heap S ks:=x.at λo e=>hm.heap S o hS e
theorem z1f(W:WalksS prog w A.in1 I fp wr G n P St)(S:Addr)(hSf:S∉fp)(val:Nat->Int)(hval:∀i v,P i v->∃t,v=.int (val i) t)(hb:n+1<scanBound) :
  ∀(k i:Nat) (s:Shared),i+k=n->St i s->SetI prog w s.heap S (fm val i) ->
   (∀s',Moved (S::wr) G s s'->SetI prog w s'.heap S (fm val n)->R (.ok (.ret .none)) s')->codeAny (model prog w) A (.builtin "set.update.loop" ⟨[.ref S,.ref I],[]⟩) R s:=by
 have hw:S∉wr:=λz=>hSf (W.sub S z);have up:∀b∈wr,b∈S::wr:=λb z=>List.mem_cons_of_mem S z;intro k
 induction k with
 | zero=>
  intro i s e st hs hR;have e:i=n:=e;subst e;refine codeAny_builtin F.entry_set_update_loop ?_;rw[Around.under_plainId F.plain_set_update_loop];show wpAny (model prog w) A.in1 (pyNext (.ref I) >>= _) _ _ s;refine wpAny_bind (W.done s _ _ st λs' hm=>?_);show wpAny (model prog w) A.in1 (ret Value.none) _ _ s';exact wpAny_pure (hR s' (hm.mono up) (hs.moved hm hw))
 | succ k ih=>
  intro i s e st hs hR;have hi:i<n:=by omega
  refine codeAny_builtin F.entry_set_update_loop ?_;rw[Around.under_plainId F.plain_set_update_loop];show wpAny (model prog w) A.in1 (pyNext (.ref I) >>= _) _ _ s;refine wpAny_bind (W.item i s _ _ hi st λv s' hP st' hm=>?_);obtain⟨t,hv⟩:=hval i v hP;subst hv;have hs':=hs.moved hm hw;show wpAny (model prog w) A.in1 (holding [Value.int (val i) t] (setAdd S (.int (val i) t)) >>= _) _ _ s';refine wpAny_bind (wpAny_holding ?_);unfold setAdd;refine wpAny_holding (wpAny_bind ((intKind prog w).pyHash (k:=val i) (intKind_is prog w (val i) t) ?_));have hl:=z3w val i;refine z7I (s:={s' with toks:=s'.toks+1}) (k:=val i) (tk:=t) hs' (by omega) λh' b sb S'=>?_;have hkeep:∀b o,b≠S->s'.heap.get? b=some o->h'.get? b=some o:=λb o hb e=>by rw[sb.2 b hb];exact e
  refine wpAny_pure ⟨plainId_quiet F.plain_set_update_loop _,ih (i+1) _ (by omega) (W.frame (i+1) s' h' _ st' (Nat.le_succ _) λb hb o e=>hkeep b o (λz=>hSf (z▸hb)) e) (by rw[q9N];exact S') λs2 hm2 S2=>?_⟩;refine hR s2 (Moved.trans W.gtrans ((hm.mono up).then_heap (Nat.le_succ _) λb o hb e=>hkeep b o (λz=>hb (z▸List.mem_cons_self)) e) hm2) S2
end
def set0(w:World):Obj:={cls:=.type "set",dict:=none,data:=.set #[] 0 (.fresh 0 0 (!q0E w))}
section
variable {prog:Program} {w:World} {A:Around} {E:Value->Shared->Prop} {s:Shared}
theorem z6f{h:Heap}{a:Addr}(e:h.get? a=some (set0 w)):SetI prog w h a []:=
 ⟨_,#[],0,_,e,⟨rfl,rfl,rfl⟩,rfl,λ_ z=>by simp at z,by simp,by decide,by rfl,Tab.fresh _⟩
theorem q6r(v:Value){Q:Value->Shared->Prop}(h:Q (.ref s.heap.objs.size) {s with heap:=s.heap.push (set0 w)}) :
  codeAny (model prog w) A (.call (.builtin "set.__new__") ⟨[.type "set",v],[]⟩) (wants Q E) s:=by
 refine codeAny_of_tree ?_;show wpAny (model prog w) A.in1 (do checkBuiltinCall "set.__new__" ⟨[.type "set",v],[]⟩;again (.builtin "set.__new__" ⟨[.type "set",v],[]⟩)) _ _ s;refine wpAny_bind (wpAny_of_eq (F.newCall_set_1 v) ?_);refine wpAny_pure ⟨plainId_quiet F.plain_set_new _,codeAny_builtin F.entry_set_new ?_⟩;rw[Around.under_plainId F.plain_set_new];unfold Builtin.«set.__new__» Builtin.Frozenset.newClass;have q:=sub_set_self;obtain⟨h0,g0,d0,t0,o0⟩:=s;dsimp only
 wp_walk
 refine wpAny_askSetting (wpAny_pure ?_);dsimp only;simp only[newObj];exact wpAny_bind (wpAny_alloc (wpAny_pure (wpAny_pure h)))
theorem z6Z{l:Addr}{items:Array Value}{ns:List Int}{Q:Value->Shared->Prop}(hh:A.handled=none)(hl:s.heap.IsList l items)(hi:IntsAre items.toList ns)(hb:items.size+1<scanBound)
  (h:∀h' tk,SetI prog w h' s.heap.objs.size (fm (λi=>ns.getD i 0) items.size)->(∀b o,s.heap.get? b=some o->h'.get? b=some o)->Q (.ref s.heap.objs.size) {s with heap:=h',toks:=tk}) :
  wpAny (model prog w) A (call (.type "set") [.ref l]) Q E s:=by
 have m0:=F.called_set.mro;obtain⟨c0,r0,m1⟩:=m0;have m2:=F.called_set.made;have m3:=F.called_set.sub;have m4:=F.called_set.notType;have m5:=F.called_set.canCreate;have m6:=F.typeCall_set_1 (.ref l);refine wpAny_call (codeAny_of_tree ?_);show wpAny (model prog w) _ (callAny (.type "set") _) _ _ _;refine wpAny_pure ⟨Code.quiet_builtin _ (by decide +kernel),codeAny_builtin F.entry_type_call ?_⟩;rw[Around.under_plain (weight_type_call_type "set" [.ref l] []) rfl]
 repeat (any_goals (first | assumption | wp_step))
 refine codeAny_mono (q6r (.ref l) (E:=E) (Q:=λv s1=>v=.ref s.heap.objs.size/\s1 = {s with heap:=s.heap.push (set0 w)}) ⟨rfl,rfl⟩) λr s1 q=>?_;cases r with
 | error e=>exact q
 | ok f=>
  cases f with
  | ret v=>
   obtain⟨e1,e2⟩:=q;subst e1;subst e2;have g0:(s.heap.push (set0 w)).get? s.heap.objs.size=some (set0 w):=Heap.get?_push_size _ rfl;have ty:Shared.TypeIs {s with heap:=s.heap.push (set0 w)} (.ref s.heap.objs.size) "set":=⟨_,g0,rfl⟩;have n1:=F.called_set.init.lookup;have n2:=F.called_set.init.bind (.ref s.heap.objs.size)
   repeat (any_goals (first | assumption | wp_step))
   refine codeAny_mono (codeAny_call_builtin (R:=wants (λv s2=>v=.none/\∃h' tk,s2 = {s with heap:=h',toks:=tk} /\ SetI prog w h' s.heap.objs.size (fm (λi=>ns.getD i 0) items.size) /\
     ∀b o,s.heap.get? b=some o->h'.get? b=some o) E) F.called_set.init.plain F.entry_set_init (check_set_init_1 ty ?_)) λr2 s2 q2=>?_
   ·obtain⟨⟨k1,k2,k3,k4⟩,kl,kc,kn,kd⟩:=hl;dsimp only at kc kd;subst kc;subst kd;have kl':(s.heap.push (set0 w)).get? l=some {cls:=.type "list",dict:=k2,data:=.seq items kn,slots:=k4}:=Heap.get?_push_of_some _ kl;have il:(s.heap.push (set0 w)).IsList l items:=⟨_,kl',rfl,kn,rfl⟩;have p1:=F.sub_list_set;have p2:=F.sub_list_frozenset;have p3:(Value.type "list" == Value.type "dict")=false:=by decide
    unfold Builtin.«set.__init__» noKeywords Builtin.Frozenset.updateFrom;generalize hP:pyIter=PI
    wp_walk
    subst hP;refine wpAny_pyIter_list il (wpAny_bind (wpAny_runValue ?_));have l0:l<s.heap.objs.size:=Heap.lt_size kl;have z1:(s.heap.push (set0 w)).objs.size=s.heap.objs.size+1:=Heap.size_push _ _;have a1:l≠(s.heap.push (set0 w)).objs.size:=by rw[z1];exact Nat.ne_of_lt (Nat.lt_succ_of_lt l0)
    have a2:s.heap.objs.size∉[(s.heap.push (set0 w)).objs.size,l]:=by
     rw[z1];intro z;rcases List.mem_cons.mp z with z | z
     ·exact absurd z (Nat.ne_of_lt (Nat.lt_succ_self _))
     ·exact absurd (List.mem_singleton.mp z) (Nat.ne_of_gt l0)
    refine z1f ((Walks.list (by show A.handled=none;exact hh) _ l a1 items).toS) s.heap.objs.size a2 (λi=>ns.getD i 0) (λi v e=>IntsAre.int_at hi i v (by rw[Array.getElem?_toList];exact e)) hb
     items.size 0 _ (Nat.zero_add _) ⟨⟨_,Heap.get?_push_size _ rfl,rfl,rfl⟩,il.push _⟩ (z6f (Heap.get?_push_of_some _ g0)) λs3 hm S3=>?_
    obtain⟨h3,g3,d3,t3,o3⟩:=s3;have b1:g3=s.gens:=hm.gens;have b2:d3=s.drawn:=hm.drawn;have b3:o3=s.os:=hm.os;subst b1;subst b2;subst b3;show wpAny (model prog w) _ _ _ _ _;refine wpAny_pure ?_;show wpAny (model prog w) _ (ret Value.none) _ _ _;refine wpAny_pure ⟨rfl,h3,t3,rfl,S3,λb o e=>?_⟩;have b4:=Heap.lt_size e;refine hm.heap b o (λz=>?_) (Heap.get?_push_of_some _ (Heap.get?_push_of_some _ e));rcases List.mem_cons.mp z with z | z
    ·exact absurd z (Nat.ne_of_lt b4)
    ·have:=List.mem_singleton.mp z;rw[z1]at this;exact absurd this (Nat.ne_of_lt (Nat.lt_succ_of_lt b4))
   ·cases r2 with
    | error e=>exact q2
    | ok f2=>
     cases f2 with
     | ret v2=>
      obtain⟨c1,h',tk,c2,c3,c4⟩:=q2;subst c1;subst c2
      repeat (any_goals (first | assumption | wp_step))
      exact h h' tk c3 c4
     | _=>exact q2.elim
  | _=>exact q.elim
end
end L2
end
noncomputable section
namespace L2
open PySem PyProof.Rows
def q1b(h:Heap)(I a:Addr)(f:Value)(i n ep:Nat):Prop:=∃o,h.get? I=some o/\o.cls=.type "set_iterator" /\ o.data=.fields #[f,.int i 0,.ref a,.int n 0,.int ep 0]
def q2I(h:Heap)(a:Addr)(es:Array (Int×Value))(ep:Nat)(t:SetTable):Prop:=∃o,h.get? a=some o/\o.ExactSet/\o.data=.set es ep t
theorem q1b.typeIs{s:Shared}{I a:Addr}{f:Value}{i n ep:Nat}(x:q1b s.heap I a f i n ep):s.TypeIs (.ref I) "set_iterator":=let ⟨o,e,c,_⟩:=x;⟨o,e,c⟩
theorem q1b.at{h h':Heap}{I a:Addr}{f:Value}{i n ep:Nat}(x:q1b h I a f i n ep)(k:∀o,h.get? I=some o->h'.get? I=some o):q1b h' I a f i n ep:=let ⟨o,e,c⟩:=x;⟨o,k o e,c⟩
theorem q2I.at{h h':Heap}{a:Addr}{es:Array (Int×Value)}{ep:Nat}{t:SetTable}(x:q2I h a es ep t)(k:∀o,h.get? a=some o->h'.get? a=some o):q2I h' a es ep t:=let ⟨o,e,c⟩:=x;⟨o,k o e,c⟩
theorem q2I.typeIs{s:Shared}{a:Addr}{es:Array (Int×Value)}{ep:Nat}{t:SetTable}(x:q2I s.heap a es ep t):s.TypeIs (.ref a) "set":=let ⟨o,e,c,_⟩:=x;⟨o,e,c.1⟩
theorem q1A:Slot "set_iterator" "__next__" "set_iterator.__next__":=
 .of (owner:="set_iterator") (n:="__next__") (by rw[typeLookup_type,builtinLookup_eq_fast];kernel_rfl) (by decide +kernel) (by decide +kernel) (by decide +kernel)
  (by first | exact .inl (by decide +kernel) | exact .inr (by decide +kernel)) (by rw[isSubtype_type];kernel_rfl)
theorem q3S:entryFor table "set_iterator.__next__" = some Builtin.«set_iterator.__next__»:=entryFor_of_tree (by kernel_rfl)
theorem q5E(v:Value):argsOk "set_iterator.__next__" ⟨[v],[]⟩:=by unfold argsOk;kernel_rfl
theorem z3a:entryFor table "set.__iter__" = some Builtin.«frozenset.__iter__»:=entryFor_alias (id':="frozenset.__iter__") (by kernel_rfl) rfl (by decide +kernel) (by kernel_rfl)
section
variable {prog:Program} {w:World} {A:Around} {E:Value->Shared->Prop} {s:Shared} {I a:Addr} {es:Array (Int×Value)} {ep:Nat} {t:SetTable} {Q:Option Value->Shared->Prop}
theorem q6F{h:Heap}{o:Obj}{f:Value}{i:Nat}{n:Nat}(e:h.get? I=some o)(c:o.cls=.type "set_iterator")(d:o.data=.fields #[f,.int i 0,.ref a,.int n 0,.int ep 0]) :
  q1b (h.update I (Obj.mapFields (·.setIfInBounds 1 (rawInt ((i:Int)+1))))) I a f (i+1) n ep:=by
 refine⟨_,Heap.get?_update_self _ e (Obj.isFreed_of_fields (Obj.data_mapFields d _)),(Obj.cls_mapFields ..).trans c,?_⟩;rw[Obj.data_mapFields d];simp[rawInt]
theorem q8c{h:Heap}{o:Obj}{f:Value}(g:Value){i:Nat}{n:Nat}(e:h.get? I=some o)(c:o.cls=.type "set_iterator")(d:o.data=.fields #[f,.int i 0,.ref a,.int n 0,.int ep 0]) :
  q1b (h.update I (Obj.mapFields (·.setIfInBounds 0 g))) I a g i n ep:=by
 refine⟨_,Heap.get?_update_self _ e (Obj.isFreed_of_fields (Obj.data_mapFields d _)),(Obj.cls_mapFields ..).trans c,?_⟩;rw[Obj.data_mapFields d];simp
theorem q8j{slot i j:Nat}{x:Value}(hI:q1b s.heap I a (.int slot 0) i es.size ep)(hS:q2I s.heap a es ep t)(hf:t.fits es.size=true)
  (hn:∀(A:Around) (E':Value->Shared->Prop) (Q':Option (Value×Nat)->Shared->Prop),Q' (some (x,j)) s->wpAny (model prog w) A (setNext a slot i ep) Q' E' s)
  (hQ:∀h',q1b h' I a (.int j 0) (i+1) es.size ep->Heap.SameBut I s.heap h'->Q (some x) {s with heap:=h'}):wpAny (model prog w) A (pyNext (.ref I)) Q E s:=by
 obtain⟨o,ho,hc,hd⟩:=id hI;obtain⟨p,hp,hx,hq⟩:=id hS;unfold pyNext;refine wpAny_bind (wpAny_attempt (wpAny_callSpecial?_slot (name:=Str.ofString "__next__") hI.typeIs q1A (wpAny_call_entry q1A hI.typeIs q3S ?_ (q5E _))));unfold Builtin.«set_iterator.__next__»;refine wpAny_bind (wpAny_pure ?_);dsimp only;refine wpAny_bind (wpAny_fieldsOf ho hd ?_);dsimp only;refine wpAny_bind (wpAny_setEntries_of hp hq hf ?_);rw[show(((es.size:Nat):Int) != ((es.size:Nat):Int))=false by simp,if_neg Bool.false_ne_true];simp only[Int.toNat_natCast];refine wpAny_bind (hn _ _ _ ?_);dsimp only;refine wpAny_bind (wpAny_setField ho hd (by simp) ?_);have I1:=q8c (ep:=ep) (rawInt j) ho hc hd;obtain⟨o1,ho1,hc1,hd1⟩:=id I1;refine wpAny_bind (wpAny_setField ho1 hd1 (by simp) (wpAny_pure ⟨x,rfl,wpAny_pure (hQ _ (q6F ho1 hc1 hd1) ?_)⟩));exact(Heap.SameBut.update ..).trans (Heap.SameBut.update ..)
theorem z0A{slot i:Nat}(hh:A.handled=none)(hI:q1b s.heap I a (.int slot 0) i es.size ep)(hS:q2I s.heap a es ep t)(hf:t.fits es.size=true)
  (hn:∀(A:Around) (E':Value->Shared->Prop) (Q':Option (Value×Nat)->Shared->Prop),Q' none s->wpAny (model prog w) A (setNext a slot i ep) Q' E' s)
  (hQ:∀h',Heap.ExtBut I s.heap h'->Q none {s with heap:=h'}):wpAny (model prog w) A (pyNext (.ref I)) Q E s:=by
 obtain⟨o,ho,hc,hd⟩:=id hI;obtain⟨p,hp,hx,hq⟩:=id hS;unfold pyNext;refine wpAny_bind (wpAny_attempt (wpAny_callSpecial?_slot (name:=Str.ofString "__next__") hI.typeIs q1A (wpAny_call_entry q1A hI.typeIs q3S ?_ (q5E _))));unfold Builtin.«set_iterator.__next__»;refine wpAny_bind (wpAny_pure ?_);dsimp only;refine wpAny_bind (wpAny_fieldsOf ho hd ?_);dsimp only;refine wpAny_bind (wpAny_setEntries_of hp hq hf ?_);rw[show(((es.size:Nat):Int) != ((es.size:Nat):Int))=false by simp,if_neg Bool.false_ne_true];simp only[Int.toNat_natCast];refine wpAny_bind (hn _ _ _ ?_);dsimp only;refine wpAny_bind (wpAny_setField ho hd (by simp) ?_);refine wpAny_bind ?_;simp only[newExc,newTuple];refine wpAny_bind (wpAny_newObj_type ?_ (by size_fits));refine wpAny_bind (m:=firstArgMember _ _) (wpAny_of_eq (a:=Value.none) (by first | rfl | (simp only[firstArgMember];rfl)) ?_);refine wpAny_newObj_type ?_ (by size_fits);simp only[raiseNew];refine wpAny_bind (wpAny_handled ?_);rw[show A.in1.handled=none from hh];refine wpAny_bind (wpAny_pure (wpAny_throw ?_));refine wpAny_bind (wpAny_isInstance (T:="StopIteration") (b:=true) ⟨_,Heap.get?_push_size _ rfl,rfl⟩ isSubtype_stop ?_);exact wpAny_pure (hQ _ (((Heap.SameBut.update ..).extBut.push _).push _))
theorem z2A{q:Addr}{ps:Array Value}{i k:Nat}{x:Value}{z:Int}(hI:q1b s.heap I a (.ref q) i es.size ep)(hS:q2I s.heap a es ep t)(hf:t.fits es.size=true)(ht:IsTup s.heap q ps)(hk:ps[i]? = some (.int k 0))(hx:es[k]? = some (z,x))
  (hQ:∀h',q1b h' I a (.ref q) (i+1) es.size ep->Heap.SameBut I s.heap h'->Q (some x) {s with heap:=h'}):wpAny (model prog w) A (pyNext (.ref I)) Q E s:=by
 obtain⟨o,ho,hc,hd⟩:=id hI;obtain⟨p,hp,hxx,hq⟩:=id hS;unfold pyNext;refine wpAny_bind (wpAny_attempt (wpAny_callSpecial?_slot (name:=Str.ofString "__next__") hI.typeIs q1A (wpAny_call_entry q1A hI.typeIs q3S ?_ (q5E _))));unfold Builtin.«set_iterator.__next__»;refine wpAny_bind (wpAny_pure ?_);dsimp only;refine wpAny_bind (wpAny_fieldsOf ho hd ?_);dsimp only;refine wpAny_bind (wpAny_setEntries_of hp hq hf ?_);rw[show(((es.size:Nat):Int) != ((es.size:Nat):Int))=false by simp,if_neg Bool.false_ne_true];simp only[Int.toNat_natCast];obtain⟨oq,hoq,hcq,nq,hdq⟩:=ht;refine wpAny_bind (wpAny_seqItems hoq hdq ?_);dsimp only;rw[hk];dsimp only;unfold setNextDrawn;simp only[Int.toNat_natCast];refine wpAny_bind (wpAny_bind (wpAny_setState_of hp hq hf ?_));dsimp only;rw[show(ep != ep)=false by simp,if_neg Bool.false_ne_true];rw[hx];refine wpAny_pure ?_;refine wpAny_bind (wpAny_setField ho hd (by simp) (wpAny_pure ⟨x,rfl,wpAny_pure (hQ _ (q6F ho hc hd) (Heap.SameBut.update ..))⟩))
theorem z5H{q:Addr}{ps:Array Value}{i:Nat}(hh:A.handled=none)(hI:q1b s.heap I a (.ref q) i es.size ep)(hS:q2I s.heap a es ep t)(hf:t.fits es.size=true)(ht:IsTup s.heap q ps)(hk:ps[i]? = none)
  (hQ:∀h',Heap.ExtBut I s.heap h'->Q none {s with heap:=h'}):wpAny (model prog w) A (pyNext (.ref I)) Q E s:=by
 obtain⟨o,ho,hc,hd⟩:=id hI;obtain⟨p,hp,hx,hq⟩:=id hS;unfold pyNext;refine wpAny_bind (wpAny_attempt (wpAny_callSpecial?_slot (name:=Str.ofString "__next__") hI.typeIs q1A (wpAny_call_entry q1A hI.typeIs q3S ?_ (q5E _))));unfold Builtin.«set_iterator.__next__»;refine wpAny_bind (wpAny_pure ?_);dsimp only;refine wpAny_bind (wpAny_fieldsOf ho hd ?_);dsimp only;refine wpAny_bind (wpAny_setEntries_of hp hq hf ?_);rw[show(((es.size:Nat):Int) != ((es.size:Nat):Int))=false by simp,if_neg Bool.false_ne_true];simp only[Int.toNat_natCast];obtain⟨oq,hoq,hcq,nq,hdq⟩:=ht;refine wpAny_bind (wpAny_seqItems hoq hdq ?_);dsimp only;rw[hk];dsimp only;refine wpAny_bind (wpAny_setField ho hd (by simp) ?_);obtain⟨o1,ho1,hc1,hd1⟩:=q8c (ep:=ep) (rawInt 0) ho hc hd;refine wpAny_bind (wpAny_setField ho1 hd1 (by simp) ?_);refine wpAny_bind ?_;simp only[newExc,newTuple];refine wpAny_bind (wpAny_newObj_type ?_ (by size_fits));refine wpAny_bind (m:=firstArgMember _ _) (wpAny_of_eq (a:=Value.none) (by first | rfl | (simp only[firstArgMember];rfl)) ?_);refine wpAny_newObj_type ?_ (by size_fits);simp only[raiseNew];refine wpAny_bind (wpAny_handled ?_);rw[show A.in1.handled=none from hh];refine wpAny_bind (wpAny_pure (wpAny_throw ?_));refine wpAny_bind (wpAny_isInstance (T:="StopIteration") (b:=true) ⟨_,Heap.get?_push_size _ rfl,rfl⟩ isSubtype_stop ?_);exact wpAny_pure (hQ _ ((((Heap.SameBut.update ..).trans (Heap.SameBut.update ..)).extBut.push _).push _))
end
end L2
end
noncomputable section
namespace L2
open PySem PyProof.Rows
section
variable {prog:Program} {w:World} {A:Around} {E:Value->Shared->Prop} {s:Shared} {I a:Addr} {es:Array (Int×Value)} {ep:Nat} {t:SetTable}
theorem q9Z{slot i:Nat}{Q:Option (Value×Nat)->Shared->Prop}(ho:q0E w=true)(hS:q2I s.heap a es ep t)(hf:t.fits es.size=true)
  (h:Q (((pickOrder (w.params.setOrder a ep) es)[i]?).map λe=>(e.2,slot)) s):wpAny (model prog w) A (setNext a slot i ep) Q E s:=by
 obtain⟨p,hp,hx,hq⟩:=id hS;unfold setNext;refine wpAny_bind (wpAny_setState_of hp hq hf ?_);dsimp only;unfold setsByText;refine wpAny_bind (wpAny_bind (wpAny_askSetting (wpAny_pure ?_)));show wpAny (model prog w) A (if q0E w=true then _ else _) Q E s;rw[if_pos ho];rw[show(ep != ep)=false by simp,if_neg Bool.false_ne_true];refine wpAny_bind ?_;unfold setWalk;refine wpAny_bind (wpAny_setState_of hp hq hf ?_);dsimp only;unfold setsByText;refine wpAny_bind (wpAny_bind (wpAny_askSetting (wpAny_pure ?_)));show wpAny (model prog w) A (if q0E w=true then _ else _) _ E s;rw[if_pos ho];exact wpAny_bind (wpAny_askSetting (wpAny_pure (wpAny_pure h)))
theorem z3B{slot i:Nat}{Q:Option (Value×Nat)->Shared->Prop}(ho:q0E w=false)(hd:(!t.plain&&decide (es.size>1))=false)(hl:t.led=true)(hS:q2I s.heap a es ep t)(hf:t.fits es.size=true)
  (h:Q (match es[SetTable.below t.place slot]?,t.place[SetTable.below t.place slot]? with | some (_,x),some j=>some (x,j+1) | _,_=>none) s):wpAny (model prog w) A (setNext a slot i ep) Q E s:=by
 obtain⟨p,hp,hx,hq⟩:=id hS;unfold setNext;refine wpAny_bind (wpAny_setState_of hp hq hf ?_);dsimp only;unfold setsByText;refine wpAny_bind (wpAny_bind (wpAny_askSetting (wpAny_pure ?_)));show wpAny (model prog w) A (if q0E w=true then _ else _) Q E s;rw[if_neg (by rw[ho];exact Bool.false_ne_true)];show wpAny (model prog w) A (if(!t.plain&&decide (es.size>1))=true then _ else _) Q E s;rw[hd,if_neg Bool.false_ne_true];refine wpAny_bind ?_;show wpAny (model prog w) A (if(!t.led && !es.isEmpty)=true then _ else _) _ E s;rw[hl];exact wpAny_pure (wpAny_pure h)
theorem z6i{α:Type}{Q:List α->Shared->Prop}:∀(n:Nat) (xs:List α) (s:Shared),xs.length=n->(∀l d,l.Perm xs->Q l {s with drawn:=d})->wpAny (model prog w) A (drawOrder n xs) Q E s:=by
 intro n
 induction n generalizing Q with
 | zero=>
  intro xs s hl h;have:xs=[]:=List.length_eq_zero_iff.mp hl;subst this;exact wpAny_pure (h [] s.drawn .rfl)
 | succ n ih=>
  intro xs s hl h;cases xs with
  | nil=>cases hl
  | cons y r=>
   show wpAny (model prog w) A (choose .order (y::r).length >>= _) Q E s;have key:∀i,i<(y::r).length->wpAny (model prog w) A (match(y::r)[i]? with
     | some x=>do return x::(←drawOrder n ((y::r).eraseIdx i))
     | none=>unsupported "internal:drawOrder") Q E {s with drawn:=s.drawn.bump .order}:=λi hi=>by
    have hg:(y::r)[i]? = some (y::r)[i]:=List.getElem?_eq_getElem hi;rw[hg];refine wpAny_bind (ih _ _ (by rw[List.length_eraseIdx,if_pos hi];omega) λl d p=>wpAny_pure (h _ d ?_));exact(List.Perm.cons _ p).trans (q3D hi rfl)
   refine wpAny_bind λΓ p hΓ=>⟨by simp,?_⟩;exact key _ (Nat.mod_lt _ (by simp))
def q7f(f:Value)(a:Addr)(n ep:Nat):Obj:={cls:=.type "set_iterator",data:=.fields #[f,.int 0 0,.ref a,.int n 0,.int ep 0]}
def z0W(l:List Nat):Obj:={cls:=.type "tuple",data:=.seq (l.map λ(i:Nat)=>Value.int i 0).toArray}
theorem q5N{h:Heap}{f:Value}{n:Nat}:q1b (h.push (q7f f a n ep)) h.objs.size a f 0 n ep:=⟨_,Heap.get?_push_size _ rfl,rfl,rfl⟩
theorem z2I{Q:Value->Shared->Prop}(hS:q2I s.heap a es ep t)(hf:t.fits es.size=true)(hb:es.size<=sizeLine)
  (h1:(!q0E w&&(!t.plain&&decide (es.size>1)))=false->Q (.ref s.heap.objs.size) {s with heap:=s.heap.push (q7f (.int 0 0) a es.size ep)})
  (h2:∀l d,q0E w=false->l.Perm (List.range es.size)->Q (.ref (s.heap.objs.size+1)) {s with heap:=(s.heap.push (z0W l)).push (q7f (.ref s.heap.objs.size) a es.size ep),drawn:=d}) :
  wpAny (model prog w) A (pyIter (.ref a)) Q E s:=by
 obtain⟨p,hp,hx,hq⟩:=id hS;refine wpAny_pyIter_slot hS.typeIs F.slot_set_iter (wpAny_call_entry F.slot_set_iter hS.typeIs z3a ?_ (F.args_set_iter_1 _));unfold Builtin.«frozenset.__iter__» Builtin.Frozenset.slot0 slotArgs;simp only[List.isEmpty_nil,Bool.not_true,Bool.false_eq_true,↓reduceIte,bind_assoc,List.length_nil,bne_self_eq_false];unfold Builtin.Frozenset.addrOf Builtin.Frozenset.sizeOf;refine wpAny_bind (wpAny_pure ?_)
 try dsimp only
 refine wpAny_bind (wpAny_pure ?_);refine wpAny_bind (wpAny_bind (wpAny_setEntries_of hp hq hf (wpAny_pure ?_)));unfold setDrawn;refine wpAny_bind (wpAny_bind (wpAny_setState_of hp hq hf ?_));dsimp only;unfold setsByText;refine wpAny_bind (wpAny_bind (wpAny_askSetting (wpAny_pure (wpAny_pure ?_))));show wpAny (model prog w) _ (if(!q0E w&&(!t.plain&&decide (es.size>1)))=true then _ else _) _ _ _;by_cases hc:(!q0E w&&(!t.plain&&decide (es.size>1)))=true
 ·rw[if_pos hc];have ho:q0E w=false:=by
   cases e:q0E w with
   | false=>rfl
   | true=>rw[e]at hc;cases hc
  refine wpAny_bind (z6i es.size (List.range es.size) s (List.length_range) λl d pl=>?_);have hl:l.length=es.size:=by rw[pl.length_eq,List.length_range]
  unfold newTuple;refine wpAny_bind (wpAny_newObj_type ?_ (by show(l.map _).toArray.size<=_;simp;omega));have hp':(s.heap.push {cls:=.type "tuple",data:=.seq (l.map λ(i:Nat)=>rawInt i).toArray}).get? a=some p:=Heap.get?_push_of_some _ hp;refine wpAny_bind (wpAny_setEpoch_of hp' hq hf ?_);refine wpAny_bind (wpAny_newObj_type (wpAny_pure ⟨_,rfl,"set_iterator",_,⟨_,Heap.get?_push_size _ rfl,rfl⟩,q1A.lookup,?_⟩));have z:(s.heap.push {cls:=.type "tuple",data:=.seq (l.map λ(i:Nat)=>rawInt i).toArray}).objs.size=s.heap.objs.size+1:=Heap.size_push _ _;have:=h2 l d ho pl;rw[←z]at this;exact this
 ·rw[if_neg hc];refine wpAny_bind (wpAny_pure ?_);refine wpAny_bind (wpAny_setEpoch_of hp hq hf ?_);refine wpAny_bind (wpAny_newObj_type (wpAny_pure ⟨_,rfl,"set_iterator",_,⟨_,Heap.get?_push_size _ rfl,rfl⟩,q1A.lookup,?_⟩));exact h1 (by simpa using hc)
end
section
variable {prog:Program} {w:World} {A:Around} {E:Value->Shared->Prop} {s:Shared} {I a:Addr} {es:Array (Int×Value)} {ep:Nat} {t:SetTable}
abbrev Nx(prog:Program)(w:World)(I:Addr)(fp:List Addr)(n:Nat)(ws:List Value)(St:Nat->Heap->Prop):Prop:=
 ∀A:Around,A.handled=none->WalksS prog w A I fp [I] (λa b=>b=a) n (λi v=>ws[i]? = some v) (λi s=>St i s.heap)
theorem z6B {fp : List Addr} {n : Nat} {ws : List Value} {St : Nat -> Heap -> Prop} (hI : I ∈ fp) (hz : ws.length = n)
    (fr : ∀ i h h', St i h -> (∀ b ∈ fp, ∀ o, h.get? b = some o -> h'.get? b = some o) -> St i h')
    (it : ∀ (A : Around) (E : Value -> Shared -> Prop) (Q : Option Value -> Shared -> Prop) (s : Shared) i v, A.handled = none -> ws[i]? = some v -> St i s.heap -> (∀ h', St (i + 1) h' -> Heap.SameBut I s.heap h' -> Q (some v) { s with heap := h' }) -> wpAny (model prog w) A (pyNext (.ref I)) Q E s)
    (dn : ∀ (A : Around) (E : Value -> Shared -> Prop) (Q : Option Value -> Shared -> Prop) (s : Shared), A.handled = none -> St n s.heap -> (∀ h', Heap.ExtBut I s.heap h' -> Q none { s with heap := h' }) -> wpAny (model prog w) A (pyNext (.ref I)) Q E s)
    (sf : ∀ (A : Around) (E : Value -> Shared -> Prop) (Q : Value -> Shared -> Prop) (s : Shared) i, St i s.heap -> Q (.ref I) s -> wpAny (model prog w) A (pyIter (.ref I)) Q E s) : Nx prog w I fp n ws St := λ A hh =>
  { sub := λ b hb => by rw [List.mem_singleton.mp hb]; exact hI
    grefl := λ _ => rfl
    gtrans := λ _ _ _ h1 h2 => h2.trans h1
    frame := λ i s h' tk st _ k => fr i s.heap h' st k
    item := λ i s Q E hi st hQ => by have hg : ws[i]? = some ws[i] := List.getElem?_eq_getElem (by omega);exact it A E Q s i _ hh hg st λ h' st' sb => hQ _ _ hg st' ⟨λ b o hb e => sb.extBut b o (λ z => hb (List.mem_singleton.mpr z)) e, rfl, rfl, rfl, Nat.le_refl _⟩
    done := λ s Q E st hQ => dn A E Q s hh st λ h' eb => hQ _ ⟨λ b o hb e => eb b o (λ z => hb (List.mem_singleton.mpr z)) e, rfl, rfl, rfl, Nat.le_refl _⟩
    self := λ i s Q E st hQ => sf A E Q s i st hQ }
theorem q5U{h h':Heap}{b:Addr}(sb:Heap.SameBut I h h')(hb:b≠I):∀o,h.get? b=some o->h'.get? b=some o:=λo e=>sb.extBut b o hb e
theorem q8v:Slot "set_iterator" "__iter__" "set_iterator.__iter__":=
 .of (owner:="set_iterator") (n:="__iter__") (by rw[typeLookup_type,builtinLookup_eq_fast];kernel_rfl) (by decide +kernel) (by decide +kernel) (by decide +kernel)
  (by first | exact .inl (by decide +kernel) | exact .inr (by decide +kernel)) (by rw[isSubtype_type];kernel_rfl)
theorem z0Z:entryFor table "set_iterator.__iter__" = some Builtin.«dict_keyiterator.__iter__»:=entryFor_alias (id':="dict_keyiterator.__iter__") (by kernel_rfl) rfl (by decide +kernel) (by kernel_rfl)
theorem z2C(v:Value):argsOk "set_iterator.__iter__" ⟨[v],[]⟩:=by unfold argsOk;kernel_rfl
theorem q7i{f:Value}{i n:Nat}{Q:Value->Shared->Prop}(hI:q1b s.heap I a f i n ep)(h:Q (.ref I) s):wpAny (model prog w) A (pyIter (.ref I)) Q E s:=by
 refine wpAny_pyIter_slot hI.typeIs q8v (wpAny_call_entry q8v hI.typeIs z0Z ?_ (z2C _));show wpAny (model prog w) _ (ret (.ref I)) _ _ s;exact wpAny_pure ⟨_,rfl,"set_iterator",_,hI.typeIs,q1A.lookup,h⟩
theorem z0z(ho:q0E w=true)(hf:t.fits es.size=true)(hne:a≠I) :
  Nx prog w I [I,a] es.size ((pickOrder (w.params.setOrder a ep) es).toList.map (·.2)) (λi h=>q1b h I a (.int (0:Nat) 0) i es.size ep/\q2I h a es ep t):=by
 have hz:(pickOrder (w.params.setOrder a ep) es).size=es.size:=by
  have:=(q2M (w.params.setOrder a ep) es).length_eq
  rwa [Array.length_toList,Array.length_toList]at this
 refine z6B (by simp) (by rw[List.length_map,Array.length_toList,hz]) (λi h h' st k=>⟨st.1.at (k I (by simp)),st.2.at (k a (by simp))⟩) (λA E Q s i v hh hv st hQ=>?_) (λA E Q s hh st hQ=>?_) λA E Q s i st h=>q7i st.1 h
 ·obtain⟨e,he,hev⟩:∃e,(pickOrder (w.params.setOrder a ep) es)[i]? = some e/\e.2=v:=by
   rw[List.getElem?_map,Array.getElem?_toList]at hv;cases q:(pickOrder (w.params.setOrder a ep) es)[i]? with
   | none=>rw[q]at hv;cases hv
   | some e=>rw[q]at hv;cases hv;exact⟨e,rfl,rfl⟩
  refine q8j (slot:=0) (j:=0) (x:=v) st.1 st.2 hf (λA E' Q' q=>q9Z ho st.2 hf (by rw[he,Option.map_some,hev];exact q)) λh' st' sb=>?_;exact hQ h' ⟨st',st.2.at (q5U sb hne)⟩ sb
 ·refine z0A (slot:=0) hh st.1 st.2 hf (λA E' Q' q=>q9Z ho st.2 hf (by rw[Array.getElem?_eq_none (by omega)];exact q)) hQ
def slotAt(t:SetTable):Nat->Nat
 | 0=>0
 | i+1=>t.place.getD i 0+1
theorem q3L(ht:Rise t.place):∀{i:Nat},i<=t.place.size->SetTable.below t.place (slotAt t i)=i
 | 0,_=>q8S ht
 | i+1,h=>by have hg:t.place[i]? = some t.place[i]:=Array.getElem?_eq_getElem (by omega);show SetTable.below t.place (t.place.getD i 0+1)=i+1;rw[Array.getD_eq_getD_getElem?,hg];exact q8P ht hg
theorem z2g(ho:q0E w=false)(hd:(!t.plain&&decide (es.size>1))=false)(ht:Tab t (!q0E w))(hf:t.fits es.size=true)(hne:a≠I) :
  Nx prog w I [I,a] es.size (es.toList.map (·.2)) (λi h=>q1b h I a (.int (slotAt t i:Nat) 0) i es.size ep/\q2I h a es ep t/\i<=es.size):=by
 have hl:t.led=true:=by rw[ht.led,ho];rfl
 have hz:t.place.size=es.size:=(by unfold SetTable.fits at hf;rw[Bool.and_eq_true]at hf;exact beq_iff_eq.mp hf.1);refine z6B (by simp) (by rw[List.length_map,Array.length_toList]) (λi h h' st k=>⟨st.1.at (k I (by simp)),st.2.1.at (k a (by simp)),st.2.2⟩) (λA E Q s i v hh hv st hQ=>?_) (λA E Q s hh st hQ=>?_) λA E Q s i st h=>q7i st.1 h
 ·obtain⟨z,he⟩:∃z,es[i]? = some (z,v):=by
   rw[List.getElem?_map,Array.getElem?_toList]at hv;cases q:es[i]? with
   | none=>rw[q]at hv;cases hv
   | some e=>rw[q]at hv;cases hv;exact⟨e.1,rfl⟩
  have hi:i<es.size:=by
   rcases Nat.lt_or_ge i es.size with h | h
   ·exact h
   ·rw[Array.getElem?_eq_none h]at he;cases he
  have hg:t.place[i]? = some t.place[i]:=Array.getElem?_eq_getElem (by omega);have hb:=q3L ht.rise (i:=i) (by omega);have hj:slotAt t (i+1)=t.place[i]+1:=(by show t.place.getD i 0+1=_;rw[Array.getD_eq_getD_getElem?,hg];rfl);refine q8j (slot:=slotAt t i) (j:=slotAt t (i+1)) (x:=v) st.1 st.2.1 hf (λA E' Q' q=>z3B ho hd hl st.2.1 hf (by rw[hb,he,hg];rw[hj]at q;exact q)) λh' st' sb=>?_;exact hQ h' ⟨st',st.2.1.at (q5U sb hne),hi⟩ sb
 ·have hb:=q3L ht.rise (i:=es.size) (by omega);refine z0A (slot:=slotAt t es.size) hh st.1 st.2.1 hf (λA E' Q' q=>z3B ho hd hl st.2.1 hf (by rw[hb,Array.getElem?_eq_none (Nat.le_refl _)];exact q)) hQ
theorem q9e{q:Addr}{l:List Nat}(hp:l.Perm (List.range es.size))(hf:t.fits es.size=true)(hne:a≠I)(hq:q≠I) :
  Nx prog w I [I,a,q] es.size (l.map λi=>(es.getD i (0,.none)).2) (λi h=>q1b h I a (.ref q) i es.size ep/\q2I h a es ep t/\IsTup h q (l.map λ(i:Nat)=>Value.int i 0).toArray):=by
 have hl:l.length=es.size:=by rw[hp.length_eq,List.length_range]
 refine z6B (by simp) (by rw[List.length_map,hl]) (λi h h' st k=>⟨st.1.at (k I (by simp)),st.2.1.at (k a (by simp)),let ⟨o,e,r⟩:=st.2.2;⟨o,k q (by simp) o e,r⟩⟩) (λA E Q s i v hh hv st hQ=>?_) (λA E Q s hh st hQ=>?_) λA E Q s i st h=>q7i st.1 h
 ·obtain⟨k,hk,hkv⟩:∃k,l[i]? = some k/\(es.getD k (0,.none)).2=v:=by
   rw[List.getElem?_map]at hv;cases q:l[i]? with
   | none=>rw[q]at hv;cases hv
   | some k=>rw[q]at hv;cases hv;exact⟨k,rfl,rfl⟩
  have hks:k<es.size:=(by have:=hp.mem_iff.mp (List.mem_iff_getElem?.mpr ⟨i,hk⟩);exact List.mem_range.mp this);have he:es[k]? = some es[k]:=Array.getElem?_eq_getElem hks;have hv2:es[k].2=v:=(by rw[←hkv,Array.getD_eq_getD_getElem?,he];rfl);refine z2A (k:=k) (z:=es[k].1) (x:=v) st.1 st.2.1 hf st.2.2 (by rw[←Array.getElem?_toList,List.toList_toArray,List.getElem?_map,hk];rfl) (by rw[he,←hv2]) λh' st' sb=>?_;exact hQ h' ⟨st',st.2.1.at (q5U sb hne),let ⟨o,e,r⟩:=st.2.2;⟨o,q5U sb hq o e,r⟩⟩ sb
 ·refine z5H hh st.1 st.2.1 hf st.2.2 (Array.getElem?_eq_none (by rw[List.size_toArray,List.length_map];omega)) hQ
end
end L2
end
noncomputable section
namespace L2
open PySem PyProof.Rows
section
variable {prog:Program} {w:World} {A:Around} {E:Value->Shared->Prop} {s:Shared} {I a:Addr} {es:Array (Int×Value)} {ep:Nat} {t:SetTable} {ks:List Int}
theorem z3d(hT:s.TypeIs (.ref a) "set"){Q:Bool->Shared->Prop}(h:Q false s):wpAny (model prog w) A (Builtin.List.listLengthHint (.ref a)) Q E s:=by
 unfold Builtin.List.listLengthHint;refine wpAny_bind (wpAny_specialOf hT F.slot_set_len.lookup ?_);generalize hid:("set.__len__" : String)=id0
 wp_delta
 rw[show splitId id0=some ("set","__len__")from by subst hid;decide +kernel];subst hid;refine wpAny_bind (wpAny_isInstance (T:="set") (b:=true) hT (by rw[isSubtype_type];kernel_rfl) ?_);refine wpAny_ite_split (λz=>absurd z (by decide)) λ_=>?_
 refine wpAny_ite_split (λ_=>?_) λz=>absurd (by decide +kernel) z;exact wpAny_bind (wpAny_typeOf hT (wpAny_pure h))
theorem q8q{S:Addr}{fp:List Addr}{n c0:Nat}{ws:List Value}{St:Nat->Heap->Prop}{c:Bool->Bool}{s1:Shared}{res:Value}{R:Result->Shared->Prop}{EE:Value->Shared->Prop}(W:Nx prog w I fp n ws St)(hh:A.handled=none)(hn:n<=sizeLine)(hSf:S∉fp)
  (hT:s1.TypeIs (.ref a) "set") (st:St 0 s1.heap) (hS:s1.heap.get? S=some {cls:=.type "list",data:=.seq #[] c0})
  (hR:∀h' tk acc c',(∀b o,b≠S->b≠I->s1.heap.get? b=some o->h'.get? b=some o)->h'.get? S=some {cls:=.type "list",dict:=none,data:=.seq acc c',slots:=#[]} -> acc.toList=ws->R (.ok (.ret res)) {s1 with heap:=h',toks:=tk}) (hw:ws.length=n) :
  wpAny (model prog w) A.in1 (do
   let room ←holding [Value.ref I] (Builtin.List.listLengthHint (.ref a))
   if c room=true then do
    rule "list.extend.makes-room"
    Builtin.List.listTouch (.ref S)
    again (.builtin "list.extend.loop" ⟨[.ref S,.ref I,res],[]⟩)
   else again (.builtin "list.extend.loop" ⟨[.ref S,.ref I,res],[]⟩))
   (λfin s'=>match fin with | .done f=>R (.ok f) s' | .again c'=>c'.quiet=true/\codeAny (model prog w) A c' R s') EE s1:=by
 have loop:∀(h:Heap) (c1 tk:Nat),St 0 h->(∀b o,b≠S->s1.heap.get? b=some o->h.get? b=some o)->h.get? S=some {cls:=.type "list",data:=.seq #[] c1} ->
   codeAny (model prog w) A (.builtin "list.extend.loop" ⟨[.ref S,.ref I,res],[]⟩) R {s1 with heap:=h,toks:=tk}:=λh c1 tk st1 k e=>by
  refine codeAny_extend_loopS (W A.in1 hh) hn S hSf res n 0 _ #[] c1 rfl (Nat.zero_le _) st1 e (ItemsOf.nil _) λs' acc c' hm e' ac=>?_;have b1:s' = {s1 with heap:=s'.heap,toks:=s'.toks}:=by have q1:s'.gens=s1.gens:=hm.gens;have q2:s'.drawn=s1.drawn:=hm.drawn;have q3:s'.os=s1.os:=hm.os;obtain⟨h',g',d',t',o'⟩:=s';dsimp only at q1 q2 q3;subst q1;subst q2;subst q3;rfl
  rw[b1];refine hR s'.heap s'.toks acc c' (λb o hb hi q=>hm.heap b o (λz=>?_) (k b o hb q)) e' ?_
  ·rcases List.mem_cons.mp z with z | z
   ·exact hb z
   ·exact hi (List.mem_singleton.mp z)
  ·refine List.ext_getElem? λj=>?_;by_cases hj:j<n
   ·have hj':j<acc.size:=by rw[ac.1];exact hj
    have q1:acc[j]? = some acc[j]:=Array.getElem?_eq_getElem hj';rw[Array.getElem?_toList,q1];exact(ac.2 j _ q1).symm
   ·rw[List.getElem?_eq_none (by rw[Array.length_toList,ac.1];omega),List.getElem?_eq_none (by omega)]
 refine wpAny_bind (wpAny_holding (z3d hT ?_));refine wpAny_ite_split (λ_=>?_) λ_=>wpAny_pure ⟨plainId_quiet F.plain_extend_loop _,loop s1.heap c0 s1.toks st (λb o _ e=>e) hS⟩;refine wpAny_bind (wpAny_rule (wpAny_bind ?_));show wpAny (model prog w) A.in1 (updateSeq S (·.push .none) >>= λ_=>updateSeq S (·.pop)) _ _ _;refine wpAny_bind (wpAny_updateSeq hS rfl ?_);have e2:=Heap.get?_update_self (Obj.mapSeq (·.push Value.none)) hS rfl;refine wpAny_updateSeq (hz:=by seq_fits) e2 rfl ?_;have e3:=Heap.get?_update_self (Obj.mapSeq (·.pop)) e2 rfl;have oth:∀b o,b≠S->s1.heap.get? b=some o->((s1.heap.update S (Obj.mapSeq (·.push Value.none))).update S (Obj.mapSeq (·.pop))).get? b=some o:=λb o hb e=>
  (Heap.get?_update_other _ _ (Ne.symm hb)).trans ((Heap.get?_update_other _ _ (Ne.symm hb)).trans e)
 refine wpAny_pure ⟨plainId_quiet F.plain_extend_loop _,loop _ _ s1.toks ?_ oth e3⟩;exact(W A.in1 hh).frame 0 s1 _ s1.toks st (Nat.le_refl _) λb hb o e=>oth b o (λz=>hSf (z▸hb)) e
def EndC(s:Shared)(a:Addr)(ws:List Value)(I:Addr)(d:Drawn)(r:Result)(s':Shared):Prop:=
 ∃h' tk acc c',r=.ok (.ret (.ref s.heap.objs.size))/\s' = {s with heap:=h',toks:=tk,drawn:=d} /\ h'.get? s.heap.objs.size=some {cls:=.type "list",dict:=none,data:=.seq acc c',slots:=#[]} /\ acc.toList=ws /\
  ∀b o,b≠s.heap.objs.size->b≠I->s.heap.get? b=some o->h'.get? b=some o
theorem q7x{Q:List Value->Shared->Prop}(hh:A.handled=none)(hS:SetI prog w s.heap a ks)
  (h:∀vs h' tk d,IntsAre vs (vs.map q3w)->(vs.map q3w).Perm ks->(∀b o,s.heap.get? b=some o->h'.get? b=some o)->s.heap.objs.size<h'.objs.size->Q vs {s with heap:=h',toks:=tk,drawn:=d}):wpAny (model prog w) A (collect (.ref a)) Q E s:=by
 obtain⟨o,es,ep,t,ho,hx,hd,hel,hp,hb,hf,ht⟩:=id hS;have hz:es.size<=sizeLine:=fits_of_scanBound hb;have hInts:∀vs:List Value,vs.Perm (es.toList.map (·.2))->IntsAre vs (vs.map q3w)/\(vs.map q3w).Perm ks:=λvs p=>by
  refine⟨?_,(p.map _).trans (by rw[List.map_map];exact hp)⟩;have all:∀v∈vs,∃tk,v=.int (q3w v) tk:=λv hv=>by obtain⟨e,he,q⟩:=List.mem_map.mp (p.mem_iff.mp hv);obtain⟨tk,e2⟩:=q7L hel he;exact⟨tk,by rw[←q];exact e2⟩
  clear p
  induction vs with
  | nil=>exact .nil
  | cons v r ih=>
   obtain⟨tk,e⟩:=all v (List.mem_cons_self ..);rw[List.map_cons];have q:=ih λu hu=>all u (List.mem_cons_of_mem _ hu)
   generalize hn:q3w v=n at e;subst e;exact .cons n tk q
 have hat:a<s.heap.objs.size:=Heap.lt_size ho;unfold collect;refine wpAny_bind (wpAny_runValue (codeAny_builtin F.entry_proto_collect ?_));rw[Around.under_plainId F.plain_proto_collect];show wpAny (model prog w) A.in1 (newList [] >>= λl=>again (.builtin "list.__iadd__" ⟨[l,.ref a],[]⟩)) _ _ s;refine wpAny_bind (wpAny_newObj_type ?_);refine wpAny_pure ⟨plainId_quiet F.plain_list_iadd _,codeAny_builtin F.entry_list_iadd ?_⟩;rw[Around.under_plainId F.plain_list_iadd];have hS1:(s.heap.push {cls:=.type "list",data:=.seq ([]:List Value).toArray}).get? s.heap.objs.size=some {cls:=.type "list",data:=.seq ([]:List Value).toArray}:=Heap.get?_push_size _ rfl;have hA1:q2I (s.heap.push {cls:=.type "list",data:=.seq ([]:List Value).toArray}) a es ep t:=⟨o,Heap.get?_push_of_some _ ho,hx,hd⟩;show wpAny (model prog w) A.in1 (Builtin.List.listExtendWith (.ref s.heap.objs.size) (.ref a) (.ref s.heap.objs.size)) _ _ _;unfold Builtin.List.listExtendWith;refine wpAny_bind (wpAny_typeOf (T:="set") ⟨o,Heap.get?_push_of_some _ ho,hx.1⟩ ?_);have h1:Builtin.List.listSameRef (.ref s.heap.objs.size) (.ref a)=false:=(by unfold Builtin.List.listSameRef;exact beq_eq_false_iff_ne.mpr (Nat.ne_of_gt hat));have h2:(Value.type "set" == Value.type "list")=false:=by decide
 have h3:(Value.type "set" == Value.type "tuple")=false:=by decide
 simp only[h1,h2,h3,Bool.or_false,Bool.false_eq_true,if_false];refine wpAny_bind (z2I (t:=t) hA1 hf hz ?_ ?_)
 ·intro hnd;have hne:a≠(s.heap.push {cls:=.type "list",data:=.seq ([]:List Value).toArray}).objs.size:=by rw[Heap.size_push];exact Nat.ne_of_lt (Nat.lt_succ_of_lt hat)
  have hSf:s.heap.objs.size∉[(s.heap.push {cls:=.type "list",data:=.seq ([]:List Value).toArray}).objs.size,a]:=λz=>by
   rw[Heap.size_push]at z;rcases List.mem_cons.mp z with z | z
   ·exact absurd z (Nat.ne_of_lt (Nat.lt_succ_self _))
   ·exact absurd (List.mem_singleton.mp z) (Nat.ne_of_gt hat)
  obtain⟨ws,St,p,W,st⟩:∃ws St,ws.Perm (es.toList.map (·.2))/\Nx prog w (s.heap.push {cls:=.type "list",data:=.seq ([]:List Value).toArray}).objs.size [(s.heap.push {cls:=.type "list",data:=.seq ([]:List Value).toArray}).objs.size,a] es.size ws St /\
    St 0 ((s.heap.push {cls:=.type "list",data:=.seq ([]:List Value).toArray}).push (q7f (.int 0 0) a es.size ep)):=by
   by_cases hot:q0E w=true
   ·exact⟨_,_,(q2M _ es).map _,z0z (t:=t) (ep:=ep) hot hf hne,q5N,hA1.at λ_=>Heap.get?_push_of_some _⟩
   ·have hot:q0E w=false:=by simpa using hot
    rw[hot]at hnd;exact⟨_,_,.rfl,z2g (ep:=ep) hot (by simpa using hnd) ht hf hne,q5N,hA1.at λ_=>Heap.get?_push_of_some _,Nat.zero_le _⟩
  refine wpAny_mono (q8q (A:=A) (a:=a) (c0:=0) (s1:={s with heap:=(s.heap.push {cls:=.type "list",data:=.seq ([]:List Value).toArray}).push (q7f (.int 0 0) a es.size ep)}) (R:=EndC s a ws (s.heap.push {cls:=.type "list",data:=.seq ([]:List Value).toArray}).objs.size s.drawn)
   W hh hz hSf ⟨o,Heap.get?_push_of_some _ (Heap.get?_push_of_some _ ho),hx.1⟩ st (Heap.get?_push_of_some _ hS1) (λh' tk acc c' k e ea=>⟨h',tk,acc,c',rfl,rfl,e,ea,λb u h1 h2 q=>k b u h1 h2 (Heap.get?_push_of_some _ (Heap.get?_push_of_some _ q))⟩) (by rw[p.length_eq,List.length_map,Array.length_toList])) ?_ λ_ _ e=>e
  have tail:∀r s',EndC s a ws (s.heap.push {cls:=.type "list",data:=.seq ([]:List Value).toArray}).objs.size s.drawn r s'->∃h' tk acc c',r=.ok (.ret (.ref s.heap.objs.size))/\s' = {s with heap:=h',toks:=tk} /\ h'.get? s.heap.objs.size=some {cls:=.type "list",dict:=none,data:=.seq acc c',slots:=#[]} /\ Q acc.toList s':=λr s' ⟨h',tk,acc,c',e1,e2,e,ea,k⟩=>by obtain⟨q1,q2⟩:=hInts ws p;refine⟨h',tk,acc,c',e1,e2,e,?_⟩;rw[ea,e2];refine h ws h' tk s.drawn q1 q2 (λb u q=>k b u (Nat.ne_of_lt (Heap.lt_size q)) ?_ q) (Heap.lt_size e);rw[Heap.size_push];exact Nat.ne_of_lt (Nat.lt_succ_of_lt (Heap.lt_size q))
  intro fin s' hf';cases fin with
  | done f=>
   obtain⟨h',tk,acc,c',e1,e2,e,hq⟩:=tail _ _ hf';cases e1;subst e2;exact wpAny_bind (wpAny_load e (wpAny_pure hq))
  | again c'=>
   refine⟨hf'.1,codeAny_mono hf'.2 λr s' hr=>?_⟩;obtain⟨h',tk,acc,c',e1,e2,e,hq⟩:=tail _ _ hr;subst e1;subst e2;exact wpAny_bind (wpAny_load e (wpAny_pure hq))
 ·intro l d hot pl;have z1:(s.heap.push {cls:=.type "list",data:=.seq ([]:List Value).toArray}).objs.size=s.heap.objs.size+1:=Heap.size_push _ _;have hl:l.length=es.size:=by rw[pl.length_eq,List.length_range]
  have p:(l.map λi=>(es.getD i (0,.none)).2).Perm (es.toList.map (·.2)):=by
   refine(pl.map _).trans (List.Perm.of_eq ?_);refine List.ext_getElem? λj=>?_;have e1:es.toList[j]? = es[j]?:=Array.getElem?_toList;rw[List.getElem?_map,List.getElem?_map,e1];by_cases hj:j<es.size
   ·rw[List.getElem?_range hj,Option.map_some,Array.getD_eq_getD_getElem?,Array.getElem?_eq_getElem hj];rfl
   ·have e2:(List.range es.size)[j]? = none:=List.getElem?_eq_none (by rw[List.length_range];omega);rw[e2,Array.getElem?_eq_none (by omega)];rfl
  have hne:a≠(s.heap.push {cls:=.type "list",data:=.seq ([]:List Value).toArray}).objs.size+1:=by rw[z1];exact Nat.ne_of_lt (Nat.lt_succ_of_lt (Nat.lt_succ_of_lt hat))
  have hqe:(s.heap.push {cls:=.type "list",data:=.seq ([]:List Value).toArray}).objs.size≠(s.heap.push {cls:=.type "list",data:=.seq ([]:List Value).toArray}).objs.size+1:=Nat.ne_of_lt (Nat.lt_succ_self _);have hSf:s.heap.objs.size∉[(s.heap.push {cls:=.type "list",data:=.seq ([]:List Value).toArray}).objs.size+1,a,(s.heap.push {cls:=.type "list",data:=.seq ([]:List Value).toArray}).objs.size]:=λz=>by
   rw[z1]at z;rcases List.mem_cons.mp z with z | z
   ·exact absurd z (Nat.ne_of_lt (Nat.lt_succ_of_lt (Nat.lt_succ_self _)))
   ·rcases List.mem_cons.mp z with z | z
    ·exact absurd z (Nat.ne_of_gt hat)
    ·exact absurd (List.mem_singleton.mp z) (Nat.ne_of_lt (Nat.lt_succ_self _))
  have W:=q9e (prog:=prog) (w:=w) (ep:=ep) (t:=t) pl hf hne hqe;have hI:q1b (((s.heap.push {cls:=.type "list",data:=.seq ([]:List Value).toArray}).push (z0W l)).push (q7f (.ref (s.heap.push {cls:=.type "list",data:=.seq ([]:List Value).toArray}).objs.size) a es.size ep))
    ((s.heap.push {cls:=.type "list",data:=.seq ([]:List Value).toArray}).objs.size+1) a (.ref (s.heap.push {cls:=.type "list",data:=.seq ([]:List Value).toArray}).objs.size) 0 es.size ep:=by
   have:=q5N (a:=a) (ep:=ep) (h:=(s.heap.push {cls:=.type "list",data:=.seq ([]:List Value).toArray}).push (z0W l)) (f:=.ref (s.heap.push {cls:=.type "list",data:=.seq ([]:List Value).toArray}).objs.size) (n:=es.size);have z2:((s.heap.push {cls:=.type "list",data:=.seq ([]:List Value).toArray}).push (z0W l)).objs.size=(s.heap.push {cls:=.type "list",data:=.seq ([]:List Value).toArray}).objs.size+1:=Heap.size_push _ _;rw[z2]at this;exact this
  refine wpAny_mono (q8q (A:=A) (a:=a) (c0:=0) (s1:={s with heap:=((s.heap.push {cls:=.type "list",data:=.seq ([]:List Value).toArray}).push (z0W l)).push (q7f (.ref (s.heap.push {cls:=.type "list",data:=.seq ([]:List Value).toArray}).objs.size) a es.size ep),drawn:=d}) (R:=EndC s a (l.map λi=>(es.getD i (0,.none)).2) ((s.heap.push {cls:=.type "list",data:=.seq ([]:List Value).toArray}).objs.size+1) d)
   W hh hz hSf ⟨o,Heap.get?_push_of_some _ (Heap.get?_push_of_some _ (Heap.get?_push_of_some _ ho)),hx.1⟩ ⟨hI,hA1.at λ_ e=>Heap.get?_push_of_some _ (Heap.get?_push_of_some _ e),⟨_,Heap.get?_push_of_some _ (Heap.get?_push_size _ rfl),rfl,_,rfl⟩⟩ (Heap.get?_push_of_some _ (Heap.get?_push_of_some _ hS1)) (λh' tk acc c' k e ea=>⟨h',tk,acc,c',rfl,rfl,e,ea,λb u h1 h2 q=>k b u h1 h2 (Heap.get?_push_of_some _ (Heap.get?_push_of_some _ (Heap.get?_push_of_some _ q)))⟩) (by rw[p.length_eq,List.length_map,Array.length_toList])) ?_ λ_ _ e=>e
  have tail:∀r s',EndC s a (l.map λi=>(es.getD i (0,.none)).2) ((s.heap.push {cls:=.type "list",data:=.seq ([]:List Value).toArray}).objs.size+1) d r s'->∃h' tk acc c',r=.ok (.ret (.ref s.heap.objs.size))/\s' = {s with heap:=h',toks:=tk,drawn:=d} /\ h'.get? s.heap.objs.size=some {cls:=.type "list",dict:=none,data:=.seq acc c',slots:=#[]} /\ Q acc.toList s':=λr s' ⟨h',tk,acc,c',e1,e2,e,ea,k⟩=>by obtain⟨q1,q2⟩:=hInts _ p;refine⟨h',tk,acc,c',e1,e2,e,?_⟩;rw[ea,e2];refine h _ h' tk d q1 q2 (λb u q=>k b u (Nat.ne_of_lt (Heap.lt_size q)) ?_ q) (Heap.lt_size e);rw[z1];exact Nat.ne_of_lt (Nat.lt_succ_of_lt (Nat.lt_succ_of_lt (Heap.lt_size q)))
  intro fin s' hf';cases fin with
  | done f=>
   obtain⟨h',tk,acc,c',e1,e2,e,hq⟩:=tail _ _ hf';cases e1;subst e2;exact wpAny_bind (wpAny_load e (wpAny_pure hq))
  | again c'=>
   refine⟨hf'.1,codeAny_mono hf'.2 λr s' hr=>?_⟩;obtain⟨h',tk,acc,c',e1,e2,e,hq⟩:=tail _ _ hr;subst e1;subst e2;exact wpAny_bind (wpAny_load e (wpAny_pure hq))
theorem q9b{Q:Value->Shared->Prop}(hh:A.handled=none)(hS:SetI prog w s.heap a ks)(h64:ks.length<64)
  (h:∀h' tk d p vs ns e,(∀b o,s.heap.get? b=some o->h'.get? b=some o)->s.heap.objs.size<=p->h'.get? p=some (seqObj "list" vs e)->IntsAre vs.toList ns->ns.Perm ks->ns.Pairwise (· <= ·)->Q (.ref p) {s with heap:=h',toks:=tk,drawn:=d}) :
  wpAny (model prog w) A (call (.builtin "sorted") [.ref a]) Q E s:=by
 refine Calls.call_function_entry kind_sorted plain_sorted entry_sorted (args_sorted1 _) ?_
 unfold Builtin.«sorted»;refine wpAny_bind (m:=checkCount "sorted" 1 1 _) (wpAny_pure ?_);refine wpAny_bind (q7x (by exact hh) hS λvs h1 tk d i1 p1 k1 z1=>?_);have hl:vs.length<64:=by have:=p1.length_eq;rw[List.length_map]at this;omega
 refine wpAny_bind (wpAny_newList ?_ (by rw[sizeLine_eq];omega));have hL:(h1.push (seqObj "list" vs.toArray 0)).get? h1.objs.size=some (seqObj "list" vs.toArray 0):=Heap.get?_push_size _ rfl;refine wpAny_bind (wpAny_holding (wpAny_call_entry slot_list_sort ⟨_,hL,rfl⟩ entry_list_sort (list_sort_tree hL i1 hl λout ns q1 q2 q3=>⟨_,rfl,?_⟩) (args_list_sort _)));refine wpAny_pure ⟨_,rfl,?_⟩;obtain⟨e,he⟩:=sortedHeap_at (out:=out) hL;refine h _ tk d _ out ns e (λb o q=>?_) (Nat.le_of_lt z1) he q1 (q2.trans p1) q3;have hb:=Heap.lt_size (k1 b o q);rw[sortedHeap_old (Nat.ne_of_lt hb) (by rw[size_push'];exact Nat.lt_succ_of_lt hb)];exact Heap.get?_push_of_some _ (k1 b o q)
end
end L2
end
noncomputable section
namespace L2
open PySem PySem.Spec PyProof.Rows
section
variable {prog:Program} {w:World} {A:Around} {E:Value->Shared->Prop} {s:Shared}
theorem z5l{l:List Int}{i:Nat}(h:i<l.length):l.getD i 0∈l:=by
 rw[List.getD_eq_getElem?_getD,List.getElem?_eq_getElem h];exact List.getElem_mem h
theorem minL{l:Addr}{vs:List Value}{ns:List Int}{Q:Value->Shared->Prop}(hh:A.handled=none)(hl:s.heap.IsList l vs.toArray)(hi:IntsAre vs ns)(hz:ns≠[])
  (h:∀h' M (t:Tok) tk,(∀b o,s.heap.get? b=some o->h'.get? b=some o)->M∈ns->(∀a∈ns,M<=a)->Q (.int M t) {s with heap:=h',toks:=tk}):wpAny (model prog w) A (call (.builtin "min") [.ref l]) Q E s:=by
 obtain⟨ys,e⟩:=hi.allInts.items;have en:ns=ys.toList.map (·.1):=by rw[←hi.numsOf,←nums_intItems,←e]
 have zy:0<ys.size:=by
  have q:0<ns.length:=List.length_pos_iff.mpr hz
  rwa [en,List.length_map,Array.length_toList]at q
 rw[e]at hl;refine min_intList hh hl zy λv h1 tk q k=>?_
 obtain⟨t,ev⟩:=intItems_at q;subst ev;obtain⟨g1,g2⟩:=argBest_lt (numAt ys) (ys.size - 1);refine h h1 _ t tk k ?_ λa ha=>?_
 ·rw[en,numAt_eq];exact z5l (by rw[List.length_map,Array.length_toList];omega)
 ·rw[en]at ha;obtain⟨j,hj,ej⟩:=mem_getD ha;subst ej;rw[List.length_map,Array.length_toList]at hj;rw[←numAt_eq];exact g2 j (by omega)
theorem maxL{l:Addr}{vs:List Value}{ns:List Int}{Q:Value->Shared->Prop}(hh:A.handled=none)(hl:s.heap.IsList l vs.toArray)(hi:IntsAre vs ns)(hz:ns≠[])
  (h:∀h' M (t:Tok) tk,(∀b o,s.heap.get? b=some o->h'.get? b=some o)->M∈ns->(∀a∈ns,a<=M)->Q (.int M t) {s with heap:=h',toks:=tk}):wpAny (model prog w) A (call (.builtin "max") [.ref l]) Q E s:=by
 obtain⟨ys,e⟩:=hi.allInts.items;have en:ns=ys.toList.map (·.1):=by rw[←hi.numsOf,←nums_intItems,←e]
 have zy:0<ys.size:=by
  have q:0<ns.length:=List.length_pos_iff.mpr hz
  rwa [en,List.length_map,Array.length_toList]at q
 rw[e]at hl;refine max_intList hh hl zy λv h1 tk q k=>?_
 obtain⟨t,ev⟩:=intItems_at q;subst ev;obtain⟨g1,g2⟩:=argBest_gt (numAt ys) (ys.size - 1);refine h h1 _ t tk k ?_ λa ha=>?_
 ·rw[en,numAt_eq];exact z5l (by rw[List.length_map,Array.length_toList];omega)
 ·rw[en]at ha;obtain⟨j,hj,ej⟩:=mem_getD ha;subst ej;rw[List.length_map,Array.length_toList]at hj;rw[←numAt_eq];exact g2 j (by omega)
end
section
variable {X:Cx} {pos:Pos}
theorem q8K:∀{ns:List Int} {us:List Value},Vals (ns.map V.int) us->IntsAre us ns
 | [],us,h=>by cases h;exact .nil
 | n::ns,us,h=>by
  cases h with
  | cons r t=>
   obtain⟨tk,rfl⟩:=r;exact .cons n tk (q8K t)
theorem z8t:∀{ns:List Int} {us:List Value},IntsAre us ns->Vals (ns.map V.int) us
 | _,_,.nil=>.nil
 | _,_,.cons n t h=>.cons ⟨t,rfl⟩ (z8t h)
theorem z1Q(hc:X.calm=true):q1p X (.builtin "min") (λxs H Q=>∃(a:Addr) (ns:List Int),xs=[.ref a]/\SqL X.K H a (ns.map V.int)/\ns≠[]/\∀M,M∈ns->(∀x∈ns,M<=x)->Q (.int M) H):=by
 intro pins s σ H xs us Q I r h;obtain⟨a,ns,rfl,hq,hz,q⟩:=h;obtain⟨u,rfl,r1⟩:=q4e r;cases r1;obtain⟨its,rv,pl,_⟩:=I.list hq;exact minL (I.ok.hd hc) pl.isList (q8K rv) hz λh' M t tk k m1 m2=>⟨.int M,H,I.kept k,⟨t,rfl⟩,q M m1 m2⟩
theorem z0m(hc:X.calm=true):q1p X (.builtin "max") (λxs H Q=>∃(a:Addr) (ns:List Int),xs=[.ref a]/\SqL X.K H a (ns.map V.int)/\ns≠[]/\∀M,M∈ns->(∀x∈ns,x<=M)->Q (.int M) H):=by
 intro pins s σ H xs us Q I r h;obtain⟨a,ns,rfl,hq,hz,q⟩:=h;obtain⟨u,rfl,r1⟩:=q4e r;cases r1;obtain⟨its,rv,pl,_⟩:=I.list hq;exact maxL (I.ok.hd hc) pl.isList (q8K rv) hz λh' M t tk k m1 m2=>⟨.int M,H,I.kept k,⟨t,rfl⟩,q M m1 m2⟩
def setO(P:Program)(w:World)(a:Addr)(ks:List Int):HO:=.ext λh=>SetI P w h a ks
theorem z5q{P:Program}{w:World}{H:Hp}{h:Heap}{a:Addr}{ks:List Int}(x:SetI P w h a ks):q1Q P w H h a (setO P w a ks):=
 ⟨x,let ⟨o,_,_,_,e,_⟩:=x;⟨o,e⟩,λh1 h2 q k=>q.at k⟩
theorem z5J(ns:List Int):fm (λi=>ns.getD i 0) ns.length=ns.foldl dk []:=by
 unfold fm
 congr 1
 refine List.ext_getElem? λj=>?_;rw[List.getElem?_map];by_cases hj:j<ns.length
 ·rw[List.getElem?_range hj,Option.map_some,List.getD_eq_getElem?_getD,List.getElem?_eq_getElem hj];rfl
 ·rw[List.getElem?_eq_none (by rw[List.length_range];omega),List.getElem?_eq_none (by omega)];rfl
theorem q9E(hc:X.calm=true):q1p X (.type "set") (λxs H Q=>∃(a:Addr) (ns:List Int),xs=[.ref a]/\SqL X.K H a (ns.map V.int)/\ns.length<4000/\∀p,H p=none->Q (.ref p) (upd H p (setO X.prog X.w p (ns.foldl dk [])))):=by
 intro pins s σ H xs us Q I r h;obtain⟨a,ns,rfl,hq,hz,q⟩:=h;obtain⟨u,rfl,r1⟩:=q4e r;cases r1;obtain⟨its,rv,pl,_⟩:=I.list hq;have hi:=q8K rv;have hl:its.length=ns.length:=by rw[←rv.length,List.length_map]
 refine z6Z (I.ok.hd hc) pl.isList hi (by rw[List.size_toArray,hl];show _<4096;omega) λh' tk S k=>?_;have hz2:its.toArray.size=ns.length:=by rw[List.size_toArray,hl]
 rw[hz2,z5J]at S;exact⟨.ref s.heap.objs.size,_,I.laid k (Nat.le_refl _) (z5q S),rfl,q _ I.fresh⟩
theorem q9r(hc:X.calm=true):q1p X (.builtin "sorted") (λxs H Q=>∃(p:Addr) (ks:List Int),xs=[.ref p]/\H p=some (setO X.prog X.w p ks)/\ks.length<64/\∀(q:Addr) (ms:List Int),H q=none->ms.Perm ks->ms.Pairwise (· <= ·)->Q (.ref q) (upd H q (.lst (ms.map V.int)))):=by
 intro pins s σ H xs us Q I r h;obtain⟨p,ks,rfl,hH,hz,q⟩:=h;obtain⟨u,rfl,r1⟩:=q4e r;cases r1;have S:SetI X.prog X.w s.heap p ks:=(I.hok p _ hH).1;refine q9b (I.ok.hd hc) S hz λh' tk d p' vs ns e k hp he hi hpm hpw=>?_
 have hv:=z8t hi;have hl:ns.length<=sizeLine:=(by rw[hpm.length_eq,sizeLine_eq];omega);have ok:q1Q X.prog X.w (upd H p' (.lst (ns.map V.int))) h' p' (.lst (ns.map V.int)):=⟨by rw[List.length_map];exact hl,vs.toList,e,hv,by rw[Array.toArray_toList];exact he⟩;have I1:=I.laid (t':=tk) k hp ok;refine⟨.ref p',_,?_,rfl,q p' ns (I.hok.fresh hp) hpm hpw⟩;exact⟨I1.ok,I1.os,I1.bare,I1.base,I1.loc,I1.cell,I1.free,I1.freeC,I1.pin,I1.hok,I1.len⟩
end
end L2
end
noncomputable section
namespace L2
open PySem PySem.Spec PySem.Calls PyProof.Rows PySem.W
section
variable {prog:Program} {w:World} {A:Around} {E:Value->Shared->Prop} {s:Shared}
theorem q6X{t:Addr}{xs:Array (Int×Tok)}{Q:Value->Shared->Prop}(hh:A.handled=none)(ht:s.heap.IsTuple t (intItems xs))(hne:0<xs.size)
  (h:∀v h' tk,(intItems xs)[argBest (λi j=>decide (numAt xs i<numAt xs j)) (xs.size - 1)]? = some v->(∀b o,s.heap.get? b=some o->h'.get? b=some o)->Q v {s with heap:=h',toks:=tk}) :
  wpAny (model prog w) A (call (.builtin "min") [.ref t]) Q E s:=by
 obtain⟨o,ho,hc,n,hd⟩:=id ht;have hlt:t<s.heap.objs.size:=Heap.lt_size ho;refine call_min_walk (wpAny_pyIter_tuple ht ?_);refine⟨_,_,_,_,_,_,_,rfl,Walks.tuple (A:=A.in1) hh _ t (Nat.ne_of_lt hlt) (intItems xs),⟨⟨_,Heap.get?_push_size _ rfl,rfl,rfl⟩,ht.push _⟩,λb hb=>?_,by simpa[intItems]using hne,CmpOf.ints_lt (numAt xs) (λ_ _=>intItems_at),λv h' tk hP hk=>?_⟩
 ·show b<(s.heap.push _).objs.size;rw[Heap.size_push];rcases List.mem_cons.mp hb with rfl | hb
  ·exact Nat.lt_succ_self _
  ·rcases List.mem_cons.mp hb with rfl | hb
   ·exact Nat.lt_succ_of_lt hlt
   ·cases hb
 ·refine h v h' tk (by simpa[intItems]using hP) λb o e=>hk b o (λhm=>?_) (Heap.get?_push_of_some _ e);rcases List.mem_cons.mp hm with e1 | hm
  ·exact absurd (e1▸Heap.lt_size e) (Nat.lt_irrefl _)
  ·cases hm
end
section
variable {prog:Program} {w:World} {A:Around} {E:Value->Shared->Prop} {s:Shared}
end
end L2
end
noncomputable section
namespace L2
open PySem PySem.Spec PyProof.Rows
section
variable {prog:Program} {w:World} {A:Around} {E:Value->Shared->Prop} {s:Shared}
theorem minT{l:Addr}{vs:List Value}{ns:List Int}{Q:Value->Shared->Prop}(hh:A.handled=none)(hl:s.heap.IsTuple l vs.toArray)(hi:IntsAre vs ns)(hz:ns≠[])
  (h:∀h' M (t:Tok) tk,(∀b o,s.heap.get? b=some o->h'.get? b=some o)->M∈ns->(∀a∈ns,M<=a)->Q (.int M t) {s with heap:=h',toks:=tk}):wpAny (model prog w) A (call (.builtin "min") [.ref l]) Q E s:=by
 obtain⟨ys,e⟩:=hi.allInts.items;have en:ns=ys.toList.map (·.1):=by rw[←hi.numsOf,←nums_intItems,←e]
 have zy:0<ys.size:=by
  have q:0<ns.length:=List.length_pos_iff.mpr hz
  rwa [en,List.length_map,Array.length_toList]at q
 rw[e]at hl;refine q6X hh hl zy λv h1 tk q k=>?_
 obtain⟨t,ev⟩:=intItems_at q;subst ev;obtain⟨g1,g2⟩:=argBest_lt (numAt ys) (ys.size - 1);refine h h1 _ t tk k ?_ λa ha=>?_
 ·rw[en,numAt_eq];exact z5l (by rw[List.length_map,Array.length_toList];omega)
 ·rw[en]at ha;obtain⟨j,hj,ej⟩:=mem_getD ha;subst ej;rw[List.length_map,Array.length_toList]at hj;rw[←numAt_eq];exact g2 j (by omega)
end
section
variable {X:Cx}
theorem z0I(hc:X.calm=true):q1p X (.builtin "min") (λxs H Q=>∃(a:Addr) (ns:List Int),xs=[.ref a]/\SqT X.K H a (ns.map V.int)/\ns≠[]/\∀M,M∈ns->(∀x∈ns,M<=x)->Q (.int M) H):=by
 intro pins s σ H xs us Q I r h;obtain⟨a,ns,rfl,hq,hz,q⟩:=h;obtain⟨u,rfl,r1⟩:=q4e r;cases r1;obtain⟨its,rv,pl,_⟩:=I.tuple hq;exact minT (I.ok.hd hc) pl (q8K rv) hz λh' M t tk k m1 m2=>⟨.int M,H,I.kept k,⟨t,rfl⟩,q M m1 m2⟩
end
end L2
end
noncomputable section
namespace L2
open PySem PySem.Spec PyProof.Rows
section
variable {prog:Program} {w:World} {A:Around} {E:Value->Shared->Prop} {s:Shared}
theorem z2W{items:Array Value}{bs:List Bool}(e:items.toList=bs.map Value.bool):TruthOf prog w A (λi v=>items[i]? = some v) (λi=>bs.getD i false):=by
 intro i v s Q E hP hQ;have h1:(bs.map Value.bool)[i]? = some v:=by rw[←e,Array.getElem?_toList];exact hP
 rw[List.getElem?_map]at h1;obtain⟨b,h2,rfl⟩:=Option.map_eq_some_iff.mp h1;have hQ':Q (bs.getD i false) s:=hQ;rw[List.getD_eq_getElem?_getD,h2]at hQ';exact PySem.wpAny_truthy_bool hQ'
theorem z1K(bs:List Bool):(List.range bs.length).any (λi=>bs.getD i false)=bs.any id:=by
 rw[Bool.eq_iff_iff,List.any_eq_true,List.any_eq_true];constructor
 ·rintro⟨i,hi,h⟩
  have hi:=List.mem_range.mp hi;rw[List.getD_eq_getElem?_getD,List.getElem?_eq_getElem hi]at h;exact⟨_,List.getElem_mem hi,h⟩
 ·rintro⟨x,hx,h⟩
  obtain⟨i,hi,rfl⟩:=List.getElem_of_mem hx;refine⟨i,List.mem_range.mpr hi,?_⟩;rw[List.getD_eq_getElem?_getD,List.getElem?_eq_getElem hi];exact h
theorem anyL{l:Addr}{items:Array Value}{bs:List Bool}{Q:Value->Shared->Prop}(hh:A.handled=none)(hl:s.heap.IsList l items)(e:items.toList=bs.map Value.bool)
  (h:∀h' tk,(∀b o,s.heap.get? b=some o->h'.get? b=some o)->Q (.bool (bs.any id)) {s with heap:=h',toks:=tk}):wpAny (model prog w) A (call (.builtin "any") [.ref l]) Q E s:=by
 have hlt:l<s.heap.objs.size:=by obtain⟨_,e,_⟩:=hl;exact Heap.lt_size e
 have hn:items.size=bs.length:=by rw[←Array.length_toList,e,List.length_map]
 refine call_any_walk (wpAny_pyIter_list hl ⟨_,_,_,_,_,_,λi=>bs.getD i false,rfl,Walks.list (A:=A.in1) hh s.heap.objs.size l (Nat.ne_of_lt hlt) items,⟨⟨_,Heap.get?_push_size _ rfl,rfl,rfl⟩,hl.push _⟩,z2W e,λh' tk hk=>?_⟩);rw[hn,z1K];exact h h' tk λb o eb=>hk b o (by simp;exact Nat.ne_of_lt (Heap.lt_size eb)) (Heap.get?_push_of_some _ eb)
theorem sumL{l:Addr}{vs:List Value}{ns:List Int}{Q:Value->Shared->Prop}(hh:A.handled=none)(hl:s.heap.IsList l vs.toArray)(hi:IntsAre vs ns)
  (h:∀h' tk t,(∀b o,s.heap.get? b=some o->h'.get? b=some o)->Q (.int ns.sum t) {s with heap:=h',toks:=tk}):wpAny (model prog w) A (call (.builtin "sum") [.ref l]) Q E s:=by
 obtain⟨ys,e⟩:=hi.allInts.items;have en:ns=ys.toList.map (·.1):=by rw[←hi.numsOf,←nums_intItems,←e]
 rw[e]at hl;refine sum_intListG hh hl λh' tk t' hk=>?_
 have:=h h' tk t' hk;rw[preSum_eq,List.take_of_length_le (by simp)];rw[en]at this;exact this
end
section
variable {X:Cx}
theorem z8G:∀{bs:List Bool} {us:List Value},Vals (bs.map V.bl) us->us=bs.map Value.bool
 | [],_,h=>by cases h;rfl
 | b::bs,_,h=>by
  cases h with
  | cons r t=>
   rw[z8G t];cases(show _=Value.bool b from r);rfl
theorem q9J(hc:X.calm=true):q1p X (.builtin "any") (λxs H Q=>∃(a:Addr) (bs:List Bool),xs=[.ref a]/\SqL X.K H a (bs.map V.bl)/\Q (.bl (bs.any id)) H):=by
 intro pins s σ H xs us Q I r h;obtain⟨a,bs,rfl,hq,q⟩:=h;obtain⟨u,rfl,r1⟩:=q4e r;cases r1;obtain⟨its,rv,pl,_⟩:=I.list hq;exact anyL (I.ok.hd hc) pl.isList (by simpa using z8G rv) λh' tk k=>⟨.bl _,H,I.kept k,rfl,q⟩
theorem z1k(hc:X.calm=true):q1p X (.builtin "sum") (λxs H Q=>∃(a:Addr) (ns:List Int),xs=[.ref a]/\SqL X.K H a (ns.map V.int)/\Q (.int ns.sum) H):=by
 intro pins s σ H xs us Q I r h;obtain⟨a,ns,rfl,hq,q⟩:=h;obtain⟨u,rfl,r1⟩:=q4e r;cases r1;obtain⟨its,rv,pl,_⟩:=I.list hq;exact sumL (I.ok.hd hc) pl.isList (q8K rv) λh' tk t k=>⟨.int _,H,I.kept k,⟨t,rfl⟩,q⟩
end
end L2
end
noncomputable section
namespace L2
open PySem
structure Sg where
 N:List Str
 sc:List (Str×NameKind)
 fn:List Str
 bl:List Str
 cl:List Str
 top:Bool
 lp:Bool
def q0Z:Expr->Option Str | .Name x _=>some x | _=>none
def q2Y:Expr->Option Const | .Constant c _ _=>some c | _=>none
def z2e:Expr->Option (Expr×Operator×Expr) | .BinOp a o b _=>some (a,o,b) | _=>none
def asUn:Expr->Option (UnaryOp×Expr) | .UnaryOp o a _=>some (o,a) | _=>none
def z2G:Expr->Option (Expr×List CmpOp×List Expr) | .Compare a o b _=>some (a,o,b) | _=>none
def q8G:Expr->Option (BoolOp×List Expr) | .BoolOp o es _=>some (o,es) | _=>none
def z1T:Expr->Option (List Expr) | .List es _=>some es | _=>none
def q3m:Expr->Option (List Expr) | .Tuple es _ _=>some es | _=>none
def q7s:Expr->Option (Expr×Expr) | .Subscript a b _=>some (a,b) | _=>none
def q4z:Expr->Option (Option Expr×Option Expr×Option Expr) | .Slice a b c _=>some (a,b,c) | _=>none
def q1E:Expr->Option (Expr×List Expr×List Keyword×Pos) | .Call f as ks p=>some (f,as,ks,p) | _=>none
def q4U:Expr->Option (Expr×Str×Pos) | .Attribute a n p=>some (a,n,p) | _=>none
def z0Q:Expr->Option (Expr×List Comprehension×Scope) | .ListComp e gs sc _=>some (e,gs,sc) | _=>none
def q0l:Expr->Bool | .Starred _ _=>true | _=>false
def q5v:Expr->Bool | .Slice _ _ _ _=>true | _=>false
def q2H:Expr->Bool | .Set _ _ _=>true | _=>false
def q5q:Expr->Bool | .ListComp _ _ _ _=>true | .SetComp _ _ _ _=>true | .DictComp _ _ _ _ _=>true | _=>false
theorem q0C{e:Expr}{x:Str}(h:q0Z e=some x):∃p,e=.Name x p:=by
 cases e<;>simp[q0Z]at h;subst h;exact⟨_,rfl⟩
theorem q5n{e:Expr}{x:Const}(h:q2Y e=some x):∃k p,e=.Constant x k p:=by
 cases e<;>simp[q2Y]at h;subst h;exact⟨_,_,rfl⟩
theorem q5J{e a b:Expr}{o:Operator}(h:z2e e=some (a,o,b)):∃p,e=.BinOp a o b p:=by
 cases e<;>simp[z2e]at h;obtain⟨rfl,rfl,rfl⟩:=h;exact⟨_,rfl⟩
theorem z1x{e a:Expr}{o:UnaryOp}(h:asUn e=some (o,a)):∃p,e=.UnaryOp o a p:=by
 cases e<;>simp[asUn]at h;obtain⟨rfl,rfl⟩:=h;exact⟨_,rfl⟩
theorem q3W{e a:Expr}{os:List CmpOp}{bs:List Expr}(h:z2G e=some (a,os,bs)):∃p,e=.Compare a os bs p:=by
 cases e<;>simp[z2G]at h;obtain⟨rfl,rfl,rfl⟩:=h;exact⟨_,rfl⟩
theorem q3i{e:Expr}{o:BoolOp}{es:List Expr}(h:q8G e=some (o,es)):∃p,e=.BoolOp o es p:=by
 cases e<;>simp[q8G]at h;obtain⟨rfl,rfl⟩:=h;exact⟨_,rfl⟩
theorem q6f{e:Expr}{es:List Expr}(h:z1T e=some es):∃p,e=.List es p:=by
 cases e<;>simp[z1T]at h;subst h;exact⟨_,rfl⟩
theorem q2Z{e:Expr}{es:List Expr}(h:q3m e=some es):∃k p,e=.Tuple es k p:=by
 cases e<;>simp[q3m]at h;subst h;exact⟨_,_,rfl⟩
theorem q1s{e a b:Expr}(h:q7s e=some (a,b)):∃p,e=.Subscript a b p:=by
 cases e<;>simp[q7s]at h;obtain⟨rfl,rfl⟩:=h;exact⟨_,rfl⟩
theorem q3A{e:Expr}{a b c:Option Expr}(h:q4z e=some (a,b,c)):∃p,e=.Slice a b c p:=by
 cases e<;>simp[q4z]at h;obtain⟨rfl,rfl,rfl⟩:=h;exact⟨_,rfl⟩
theorem q0y{e f:Expr}{as:List Expr}{ks:List Keyword}{p:Pos}(h:q1E e=some (f,as,ks,p)):e=.Call f as ks p:=by
 cases e<;>simp[q1E]at h;obtain⟨rfl,rfl,rfl,rfl⟩:=h;rfl
theorem q4h{e a:Expr}{n:Str}{p:Pos}(h:q4U e=some (a,n,p)):e=.Attribute a n p:=by
 cases e<;>simp[q4U]at h;obtain⟨rfl,rfl,rfl⟩:=h;rfl
theorem z1S{e x:Expr}{gs:List Comprehension}{sc:Scope}(h:z0Q e=some (x,gs,sc)):∃p,e=.ListComp x gs sc p:=by
 cases e<;>simp[z0Q]at h;obtain⟨rfl,rfl,rfl⟩:=h;exact⟨_,rfl⟩
def visB(sg:Sg)(x:Str):Bool:=sg.sc.lookup x==some .local||sg.sc.lookup x==some .cell||sg.sc.lookup x==some .free
def gloB(sg:Sg)(x:Str):Bool:=sg.sc.lookup x==some .globalImplicit
def locB(sg:Sg)(x:Str):Bool:=sg.sc.lookup x==some .local||sg.sc.lookup x==some .cell
def q7w(sg:Sg)(i:Nat)(x:Str):Bool:=sg.N[i]? == some x&&visB sg x&&x != "__debug__" && x != "__classdict__"
def bltB(sg:Sg)(x:Str)(f:Expr):Bool:=q0Z f==some x&&gloB sg x&&sg.bl.contains x
def z6O:Bi->Str
 | .len=>"len" | .min=>"min" | .max=>"max" | .sum=>"sum" | .any=>"any" | .sset=>"sorted" | .list=>"list" | .tuple=>"tuple"
def z3V:Mt->Str
 | .bitLength=>"bit_length" | .index=>"index" | .get=>"get"
structure CParts where
 elt:Expr
 tg:Expr
 it:Expr
 ifs:List Expr
 sc:Scope
def q5m(e:Expr):Option CParts:=match z0Q e with
 | some (elt,[⟨tg,it,ifs,a⟩],sc)=>if a=0 then some ⟨elt,tg,it,ifs,sc⟩else none
 | _=>none
theorem q4i{e:Expr}{c:CParts}(h:q5m e=some c):∃p,e=.ListComp c.elt [⟨c.tg,c.it,c.ifs,0⟩] c.sc p:=by
 unfold q5m at h;split at h
 ·rename_i elt tg it ifs a sc q;split at h
  ·rename_i ha;cases h;subst ha;exact z1S q
  ·cases h
 ·cases h
def q1r(sg:Sg)(tn:List Str)(fr:List (Option Nat)):List Str:=tn++(fr.drop tn.length).map λo=>match o with | some i=>sg.N.getD i "" | none=>""
def z1L:Tg->Expr->Option (List Str)
 | .one _,e=>(q0Z e).map λx=>[x]
 | .many is,e=>match q3m e with
  | some es=>if es.length=is.length then es.mapM q0Z else none
  | none=>none
def tgOk(sg:Sg):Tg->Expr->Bool
 | .one i,e=>match q0Z e with
  | some x=>sg.N[i]? == some x&&locB sg x
  | none=>false
 | .many is,e=>match q3m e with
  | some es=>es.length==is.length&&2<=es.length&&(is.zip es).all λp=>match q0Z p.2 with
   | some x=>sg.N[p.1]? == some x&&locB sg x
   | none=>false
  | none=>false
def q4E:List Str->Bool
 | []=>true
 | x::r=>!r.contains x&&q4E r
def q2R:Tg->List Nat
 | .one i=>[i]
 | .many is=>is
def q2W(sg:Sg)(N':List Str)(fr:List (Option Nat))(sc:Scope)(tg:Tg):Bool:=(q2R tg).all (λi=>fr[i]? == some none) &&
 sc.kind == .function&&q4E N'&&q4E (sc.names.map (·.1))&&fr.length==N'.length &&
 (fr.zip N').all (λp=>match p.1 with | some i=>sg.N[i]? == some p.2&&sc.names.contains (p.2,.free) | none=>true) &&
 sc.names.all λy=>if y.2 == .free then sg.sc.lookup y.1==some .cell||sg.sc.lookup y.1==some .free else true
def z1v:ME->Bool
 | .comp _ _ _ _=>true
 | .compi _ _ _ _ _=>true
 | _=>false
def isZp:ME->Bool
 | .zp _ _=>true
 | .enu _=>true
 | _=>false
mutual
def corE(sg:Sg)(w:Bool):ME->Expr->Bool
 | .var i,e=>match q0Z e with | some x=>q7w sg i x | none=>false
 | .int i,e=>q2Y e==some (.int i)
 | .bl i,e=>q2Y e==some (.bool i)
 | .str x,e=>q2Y e==some (.str x)&&decide (x.length<=1000)
 | .non,e=>q2Y e==some .none
 | .glb x,e=>q0Z e==some x&&gloB sg x&&x != "__debug__"
 | .bin op a b,e=>match z2e e with | some (ea,o,eb)=>o==op&&corE sg false a ea&&corE sg false b eb | none=>false
 | .not a,e=>match asUn e with | some (o,ea)=>o == .Not&&corE sg false a ea | none=>false
 | .cmp op a b,e=>match z2G e with | some (ea,[o],[eb])=>o==op&&corE sg false a ea&&corE sg false b eb && !q2H eb | _=>false
 | .chain op op' a b c,e=>match z2G e with | some (ea,[o,o'],[eb,ec])=>o==op&&o'==op'&&corE sg false a ea&&corE sg false b eb&&corE sg false c ec && !q2H ec | _=>false
 | .and ms,e=>match q8G e with | some (o,es)=>o == .And&&q0W sg ms es | none=>false
 | .or ms,e=>match q8G e with | some (o,es)=>o == .Or&&q0W sg ms es | none=>false
 | .lst ms,e=>match z1T e with | some es=>q0W sg ms es | none=>false
 | .tup ms,e=>match q3m e with | some es=>q0W sg ms es | none=>false
 | .dc0,e=>match e with | .Dict [] [] _=>true | _=>false
 | .ix a b,e=>match q7s e with | some (ea,eb)=>corE sg false a ea&&corE sg false b eb && !q5v eb | none=>false
 | .sl a lo hi,e=>match q7s e with
  | some (ea,es)=>(match q4z es with | some (some el,some eh,none)=>corE sg false a ea&&corE sg false lo el&&corE sg false hi eh | _=>false)
  | none=>false
 | .slf a lo,e=>match q7s e with
  | some (ea,es)=>(match q4z es with | some (some el,none,none)=>corE sg false a ea&&corE sg false lo el | _=>false)
  | none=>false
 | .slt a hi,e=>match q7s e with
  | some (ea,es)=>(match q4z es with | some (none,some eh,none)=>corE sg false a ea&&corE sg false hi eh | _=>false)
  | none=>false
 | .call f ms,e=>match q1E e with
  | some (ef,es,[],_)=>(match q0Z ef with | some x=>sg.fn[f]? == some x&&gloB sg x&&x != "__debug__" | none=>false) && !es.isEmpty&&q0W sg ms es
  | _=>false
 | .bi f ms,e=>match q1E e with
  | some (ef,es,[],_)=>bltB sg (z6O f) ef && !es.isEmpty&&(match f with
   | .sset=>(match es with
    | [e1]=>(match q1E e1 with
     | some (ef',es',[],_)=>bltB sg "set" ef'&&es'.length==1&&q0W sg ms es'
     | _=>false)
    | _=>false)
   | _=>q0W sg ms es)
  | _=>false
 | .isi a ts,e=>match q1E e with
  | some (ef,[ea,et],[],_)=>bltB sg "isinstance" ef&&corE sg false a ea && !q0l ea && !q0l et&&(match ts with
   | [t]=>q0Z et==some t&&gloB sg t&&sg.bl.contains t&&q2t.contains t
   | _=>false)
  | _=>false
 | .meth m a ms,e=>match q1E e with
  | some (ef,[],[],pos)=>(match q4U ef with
   | some (ea,n,apos)=>n==z3V m&&corE sg false a ea&&((q0Z ea).isSome||(z2e ea).isSome)&&apos.endLine==pos.line&&ms.isEmpty
   | none=>false)
  | _=>false
 | .comp elt tg it fr,e=>match q5m e with
  | some c=>c.ifs.isEmpty&&(corE sg true it c.it&&(!isZp it||(q3m c.tg).isSome)) && !q2H c.it&&(match z1L tg c.tg with
   | some tn=>q2W sg (q1r sg tn fr) fr c.sc tg&&tgOk ⟨q1r sg tn fr,c.sc.names,sg.fn,sg.bl,sg.cl,false,true⟩ tg c.tg&&corE ⟨q1r sg tn fr,c.sc.names,sg.fn,sg.bl,sg.cl,false,true⟩ false elt c.elt
   | none=>false)
  | none=>false
 | .compi elt tg it cd fr,e=>match q5m e with
  | some c=>(corE sg true it c.it&&(!isZp it||(q3m c.tg).isSome)) && !q2H c.it&&(match z1L tg c.tg,c.ifs with
   | some tn,[ec]=>q2W sg (q1r sg tn fr) fr c.sc tg&&tgOk ⟨q1r sg tn fr,c.sc.names,sg.fn,sg.bl,sg.cl,false,true⟩ tg c.tg&&corE ⟨q1r sg tn fr,c.sc.names,sg.fn,sg.bl,sg.cl,false,true⟩ false elt c.elt&&corE ⟨q1r sg tn fr,c.sc.names,sg.fn,sg.bl,sg.cl,false,true⟩ false cd ec
   | _,_=>false)
  | none=>false
 | .idx a b,e=>match q1E e with
  | some (ef,[eb],[],pos)=>(match q4U ef with
   | some (ea,n,apos)=>n == "index" && corE sg false a ea&&(q0Z ea).isSome&&apos.endLine==pos.line&&corE sg false b eb && !q0l eb
   | none=>false)
  | _=>false
 | .rng ms,e=>w&&(match q1E e with
  | some (ef,es,[],_)=>bltB sg "range" ef&&q0W sg ms es&&decide (es.length<=3)
  | _=>false)
 | .zp a b,e=>w&&(match q1E e with
  | some (ef,[ea,eb],[],_)=>bltB sg "zip" ef&&corE sg false a ea&&corE sg false b eb && !q0l ea && !q0l eb
  | _=>false)
 | .enu a,e=>w&&(match q1E e with
  | some (ef,[ea],[],_)=>bltB sg "enumerate" ef&&corE sg false a ea && !q0l ea
  | _=>false)
def q0W(sg:Sg):List ME->List Expr->Bool
 | [],[]=>true
 | m::ms,e::es=>corE sg false m e && !q0l e&&q0W sg ms es
 | _,_=>false
end
def q0X:Str:="_law_hung"
def hunB(sg:Sg)(i:Nat)(v:Expr):Option Expr:=match q1E v with
 | some (ef,[ea,eo],[],_)=>(match q0Z ef,q0Z eo with
  | some f,some x=>if f==q0X&&gloB sg f&&q7w sg i x && !q0l ea then some ea else none
  | _,_=>none)
 | _=>none
mutual
def corS(sg:Sg):MS->Stmt->Bool
 | .set i _ e,s=>match s with
  | .Assign [t] v pos=>(match t with
   | .Name x pt=>sg.N[i]? == some x&&locB sg x&&corE sg false e v&&(!q5q v||z1v e)
   | _=>false)
  | _=>false
 | .app i e,s=>match s with
  | .Expr v _=>(match q1E v with
   | some (ef,[ea],[],pos)=>(match q4U ef with
    | some (o,n,apos)=>n == "append" && (match q0Z o with | some x=>q7w sg i x | none=>false)&&corE sg false e ea && !q0l ea&&apos.endLine==pos.line
    | none=>false)
   | _=>false)
  | _=>false
 | .seti i k e,s=>match s with
  | .Assign [t] v _=>(match q7s t with
   | some (o,ek)=>(match q0Z o with | some x=>q7w sg i x | none=>false)&&corE sg false k ek && !q5v ek&&corE sg false e v
   | none=>false)
  | _=>false
 | .exp e,s=>match s with
  | .Expr v _=>corE sg false e v && !q5q v
  | _=>false
 | .ret e,s=>match s with
  | .Return (some v) _=>corE sg false e v
  | _=>false
 | .iff c a b,s=>match s with
  | .If ec ea eb _=>corE sg false c ec&&q3a sg a ea&&q3a sg b eb
  | _=>false
 | .fo tg it body,s=>match s with
  | .For t i b [] _=>sg.lp&&tgOk sg tg t&&(corE sg true it i&&(!isZp it||(q3m t).isSome)) && !q2H i&&q3a sg body b
  | _=>false
 | .rse c e,s=>match s with
  | .Raise (some v) none _=>(match q1E v with
   | some (ef,[ea],[],_)=>sg.top&&q0Z ef==some c&&gloB sg c&&c != "__debug__" && corE sg false e ea && !q0l ea
   | _=>false)
  | _=>false
 | .frz _,_=>false
def q3a(sg:Sg):List MS->List Stmt->Bool
 | [],[]=>true
 | .frz _::ms,ss=>q3a sg ms ss
 | m::ms,s::ss=>corS sg m s&&q3a sg ms ss
 | _,_=>false
end
end L2
end
noncomputable section
namespace L2
open PySem PySem.Spec PyProof.Rows
structure Dm where
 K:PySem.W.Frag
 mg:Str->Option Value
abbrev Cx.D(X:Cx):Dm:=⟨X.K,X.mg⟩
def SqS(K:PySem.W.Frag)(H:Hp)(a:Addr)(xs:List V):Prop:=(∃o,H a=some (.frz o (.lst xs))) \/
 ∃(o:Obj) (its:Array Value) (n:Nat),K.lookup a=some o/\o.cls=.type "list" /\ o.dict=none/\o.data=.seq its n/\its.size<=sizeLine/\Vals xs its.toList
theorem SqS.sq{K:PySem.W.Frag}{H:Hp}{a:Addr}{xs:List V}(h:SqS K H a xs):SqL K H a xs:=by
 rcases h with h | h
 ·exact .inl (.inr h)
 ·exact .inr h
theorem SqS.of{K:PySem.W.Frag}{H:Hp}{a:Addr}{xs:List V}(hO:Only H)(h:SqL K H a xs):SqS K H a xs:=by
 rcases h with(h | h) | h
 ·rcases hO a with z | ⟨o,ys,z⟩
  ·rw[h]at z;cases z
  ·rw[h]at z;cases z
 ·exact .inl h
 ·exact .inr h
theorem Same.sqs{K:PySem.W.Frag}{H H':Hp}{a:Addr}{xs:List V}(e:Same H H')(h:SqS K H a xs):SqS K H' a xs:=by
 rcases h with⟨o,h⟩ | h
 ·exact .inl ⟨o,e _ _ h⟩
 ·exact .inr h
def dKey:Key->DKey
 | .inl i=>.i i
 | .inr x=>.s x
def mutO:HO->Bool
 | .lst _=>true
 | .dK _=>true
 | .dT _=>true
 | _=>false
mutual
def Rep(D:Dm)(H:Hp):DV->V->Prop
 | .non,v=>v=.non
 | .bl b,v=>v=.bl b
 | .int i,v=>v=.int i
 | .str x,v=>v=.str x/\x.length<=sizeLine
 | .tup ds,v=>∃a xs,v=.ref a/\SqT D.K H a xs/\RepL D H ds xs
 | .lst ds,v=>∃a xs,v=.ref a/\H a=some (.lst xs)/\RepL D H ds xs
 | .dct ks vs,v=>(∃a o kvs,v=.ref a/\H a=some (.frz o (.dK kvs))/\kvs.map (λp=>dKey p.1)=ks/\RepL D H vs (kvs.map (·.2)))\/∃a o kvs,v=.ref a/\H a=some (.frz o (.dT kvs))/\kvs.map (λp=>DKey.t p.1)=ks/\RepL D H vs (kvs.map (·.2))
 | .exc c,v=>∃a C,v=.ref a/\D.mg c=some C/\H a=some (excO a C)
 | .fn x,v=>∃f,v=.ref f/\D.mg x=some (.ref f)
 | .scr ns,v=>∃a,v=.ref a/\SqS D.K H a (ns.map V.int)
def RepL(D:Dm)(H:Hp):List DV->List V->Prop
 | [],xs=>xs=[]
 | d::ds,xs=>∃v vs,xs=v::vs/\Rep D H d v/\RepL D H ds vs
end
theorem Same.tseq{K:PySem.W.Frag}{H H':Hp}{a:Addr}{xs:List V}(e:Same H H')(h:SqT K H a xs):SqT K H' a xs:=by
 rcases h with(h | ⟨o,h⟩) | h
 ·exact .inl (.inl (e _ _ h))
 ·exact .inl (.inr ⟨o,e _ _ h⟩)
 ·exact .inr h
mutual
theorem Rep.mono{D:Dm}{H H':Hp}(e:Same H H'):∀{d:DV} {v:V},Rep D H d v->Rep D H' d v
 | .non,_,h=>by unfold Rep at h ⊢;exact h
 | .bl _,_,h=>by unfold Rep at h ⊢;exact h
 | .int _,_,h=>by unfold Rep at h ⊢;exact h
 | .str _,_,h=>by unfold Rep at h ⊢;exact h
 | .tup ds,_,h=>by unfold Rep at h ⊢;obtain⟨a,xs,e1,e2,e3⟩:=h;exact⟨a,xs,e1,e.tseq e2,RepL.mono e e3⟩
 | .lst ds,_,h=>by unfold Rep at h ⊢;obtain⟨a,xs,e1,e2,e3⟩:=h;exact⟨a,xs,e1,e _ _ e2,RepL.mono e e3⟩
 | .dct _ _,_,h=>by
  unfold Rep at h ⊢;rcases h with⟨a,o,kvs,e1,e2,e3,e4⟩ | ⟨a,o,kvs,e1,e2,e3,e4⟩
  ·exact .inl ⟨a,o,kvs,e1,e _ _ e2,e3,RepL.mono e e4⟩
  ·exact .inr ⟨a,o,kvs,e1,e _ _ e2,e3,RepL.mono e e4⟩
 | .exc C,_,h=>by unfold Rep at h ⊢;obtain⟨a,C,e1,e2,e3⟩:=h;exact⟨a,C,e1,e2,e _ _ e3⟩
 | .fn _,_,h=>by unfold Rep at h ⊢;exact h
 | .scr _,_,h=>by unfold Rep at h ⊢;obtain⟨a,e1,e2⟩:=h;exact⟨a,e1,e.sqs e2⟩
theorem RepL.mono{D:Dm}{H H':Hp}(e:Same H H'):∀{ds:List DV} {xs:List V},RepL D H ds xs->RepL D H' ds xs
 | [],_,h=>by unfold RepL at h ⊢;exact h
 | d::ds,_,h=>by unfold RepL at h ⊢;obtain⟨v,vs,e1,e2,e3⟩:=h;exact⟨v,vs,e1,Rep.mono e e2,RepL.mono e e3⟩
end
section
variable {D:Dm} {H H':Hp} {v:V} {xs ys:List V} {ds es:List DV} {d:DV}
theorem q0U{i:Int}:Rep D H (.int i) v↔v=.int i:=by unfold Rep;exact Iff.rfl
theorem q4y{i:Bool}:Rep D H (.bl i) v↔v=.bl i:=by unfold Rep;exact Iff.rfl
theorem q2X{i:Str}:Rep D H (.str i) v↔(v=.str i/\i.length<=sizeLine):=by unfold Rep;exact Iff.rfl
theorem q5W:Rep D H .non v↔v=.non:=by unfold Rep;exact Iff.rfl
theorem q0I:Rep D H (.tup ds) v↔∃a xs,v=.ref a/\SqT D.K H a xs/\RepL D H ds xs:=by unfold Rep;exact Iff.rfl
theorem q0z:Rep D H (.lst ds) v↔∃a xs,v=.ref a/\H a=some (.lst xs)/\RepL D H ds xs:=by unfold Rep;exact Iff.rfl
theorem q2d{ns:List Int}:Rep D H (.scr ns) v↔∃a,v=.ref a/\SqS D.K H a (ns.map V.int):=by unfold Rep;exact Iff.rfl
theorem q4I{ks:List DKey}{vs:List DV}:Rep D H (.dct ks vs) v↔((∃a o kvs,v=.ref a/\H a=some (.frz o (.dK kvs))/\kvs.map (λp=>dKey p.1)=ks/\RepL D H vs (kvs.map (·.2)))\/∃a o kvs,v=.ref a/\H a=some (.frz o (.dT kvs))/\kvs.map (λp=>DKey.t p.1)=ks/\RepL D H vs (kvs.map (·.2))):=by unfold Rep;exact Iff.rfl
theorem q0w:RepL D H [] xs↔xs=[]:=by unfold RepL;exact Iff.rfl
theorem q0j:RepL D H (d::ds) xs↔∃v vs,xs=v::vs/\Rep D H d v/\RepL D H ds vs:=by
 constructor
 ·intro h;unfold RepL at h;exact h
 ·intro h;unfold RepL;exact h
end
theorem RepL.length{D:Dm}{H:Hp}:∀{ds:List DV} {xs:List V},RepL D H ds xs->xs.length=ds.length
 | [],_,h=>by rw[q0w.mp h];rfl
 | d::ds,_,h=>by obtain⟨v,vs,e1,_,e3⟩:=q0j.mp h;rw[e1,List.length_cons,List.length_cons,RepL.length e3]
theorem RepL.get{D:Dm}{H:Hp}:∀{ds:List DV} {xs:List V} {i:Nat} {d:DV},RepL D H ds xs->ds[i]? = some d->∃v,xs[i]? = some v/\Rep D H d v
 | [],_,_,_,_,e=>by simp at e
 | d::ds,_,i,d',h,e=>by
  obtain⟨v,vs,e1,e2,e3⟩:=q0j.mp h;subst e1;cases i with
  | zero=>simp at e;subst e;exact⟨v,rfl,e2⟩
  | succ i=>simpa using RepL.get (i:=i) e3 (by simpa using e)
theorem RepL.append{D:Dm}{H:Hp}:∀{ds es:List DV} {xs ys:List V},RepL D H ds xs->RepL D H es ys->RepL D H (ds++es) (xs++ys)
 | [],_,_,_,h,h'=>by rw[q0w.mp h];exact h'
 | d::ds,_,_,_,h,h'=>by obtain⟨v,vs,e1,e2,e3⟩:=q0j.mp h;subst e1;exact q0j.mpr ⟨v,_,rfl,e2,RepL.append e3 h'⟩
theorem RepL.one{D:Dm}{H:Hp}{d:DV}{v:V}(h:Rep D H d v):RepL D H [d] [v]:=q0j.mpr ⟨v,[],rfl,h,q0w.mpr rfl⟩
theorem RepL.take{D:Dm}{H:Hp}:∀{ds:List DV} {xs:List V} (n:Nat),RepL D H ds xs->RepL D H (ds.take n) (xs.take n)
 | _,_,0,_=>q0w.mpr rfl
 | [],_,n+1,h=>by rw[q0w.mp h];exact q0w.mpr rfl
 | d::ds,_,n+1,h=>by obtain⟨v,vs,e1,e2,e3⟩:=q0j.mp h;subst e1;exact q0j.mpr ⟨v,_,rfl,e2,RepL.take n e3⟩
theorem RepL.drop{D:Dm}{H:Hp}:∀{ds:List DV} {xs:List V} (n:Nat),RepL D H ds xs->RepL D H (ds.drop n) (xs.drop n)
 | _,_,0,h=>h
 | [],_,n+1,h=>by rw[q0w.mp h];exact q0w.mpr rfl
 | d::ds,_,n+1,h=>by obtain⟨v,vs,e1,e2,e3⟩:=q0j.mp h;subst e1;exact RepL.drop n e3
theorem RepL.set{D:Dm}{H:Hp}{d:DV}{v:V}(q:Rep D H d v):∀{ds:List DV} {xs:List V} (n:Nat),RepL D H ds xs->RepL D H (ds.set n d) (xs.set n v)
 | [],_,n,h=>by rw[q0w.mp h];exact q0w.mpr rfl
 | _::ds,_,0,h=>by obtain⟨v,vs,e1,e2,e3⟩:=q0j.mp h;subst e1;exact q0j.mpr ⟨_,_,rfl,q,e3⟩
 | _::ds,_,n+1,h=>by obtain⟨v,vs,e1,e2,e3⟩:=q0j.mp h;subst e1;exact q0j.mpr ⟨_,_,rfl,e2,RepL.set q n e3⟩
theorem RepL.rep{D:Dm}{H:Hp}{ds:List DV}{xs:List V}(h:RepL D H ds xs):∀k:Nat,RepL D H (List.replicate k ds).flatten (List.replicate k xs).flatten
 | 0=>q0w.mpr rfl
 | k+1=>by rw[List.replicate_succ,List.replicate_succ,List.flatten_cons,List.flatten_cons];exact h.append (RepL.rep h k)
theorem q1O{D:Dm}{H:Hp}:∀(ns:List Int),RepL D H (ns.map DV.int) (ns.map V.int)
 | []=>q0w.mpr rfl
 | n::ns=>q0j.mpr ⟨_,_,rfl,q0U.mpr rfl,q1O ns⟩
def wo(O:List Addr)(H:Hp):Hp:=λb=>if b∈O then none else H b
theorem z8w{O:List Addr}{H:Hp}{b:Addr}(h:b∈O):wo O H b=none:=if_pos h
theorem q0s{O:List Addr}{H:Hp}{b:Addr}(h:b∉O):wo O H b=H b:=if_neg h
theorem q0R{O:List Addr}{H:Hp}{b:Addr}{o:HO}(h:wo O H b=some o):b∉O/\H b=some o:=by
 by_cases hb:b∈O
 ·rw[z8w hb]at h;cases h
 ·rw[q0s hb]at h;exact⟨hb,h⟩
theorem Same.wo{O:List Addr}{H H':Hp}(e:Same H H'):Same (wo O H) (wo O H'):=λb o h=>by
 obtain⟨hb,h⟩:=q0R h;rw[q0s hb];exact e b o h
theorem q0T{O:List Addr}{H:Hp}:Same (L2.wo O H) H:=λb o h=>(q0R h).2
theorem q0A{O O':List Addr}{H:Hp}(h:∀b∈O',b∈O):Same (L2.wo O H) (L2.wo O' H):=λb o e=>by
 obtain⟨hb,e⟩:=q0R e;rw[q0s λz=>hb (h b z)];exact e
theorem q0r{H:Hp}{p:Addr}{o:HO}(h:H p=none):Same H (upd H p o):=λb u q=>by rw[q0q (q0u q h)];exact q
structure Hid(O W:List Addr)(H0 H:Hp):Prop where
 ot:∀a∈O++W,H0 a≠none
 same:Same H0 H
 wl:∀a∈W,∃o,H0 a=some o/\mutO o=true
 dj:∀a∈W,a∉O
 om:∀a∈O,∃o,H0 a=some o/\mutO o=true
def Hdn(O:List Addr)(H:Hp):Prop:=∀a∈O,∃o,H a=some o/\mutO o=true
theorem Hdn.ne{O:List Addr}{H:Hp}(h:Hdn O H):∀a∈O,H a≠none:=λa ha q=>by obtain⟨o,e,_⟩:=h a ha;rw[q]at e;cases e
theorem Hid.omS{O W:List Addr}{H0 H H':Hp}(h:Hid O W H0 H)(e:Same H0 H'):Hdn O H':=λa ha=>by obtain⟨o,q,m⟩:=h.om a ha;exact⟨o,e _ _ q,m⟩
theorem Hid.omW{O W:List Addr}{H0 H:Hp}{p:Addr}{x:HO}(h:Hid O W H0 H)(hp:p∈W):Hdn O (upd H0 p x):=λa ha=>by
 obtain⟨o,q,m⟩:=h.om a ha;exact⟨o,by rw[q0q λz=>h.dj p hp (by rw[←z];exact ha)];exact q,m⟩
theorem Hid.hdO{O W:List Addr}{H0 H:Hp}(h:Hid O W H0 H):Hdn O H:=h.omS h.same
theorem Hid.hdA{O W:List Addr}{H0 H:Hp}(h:Hid O W H0 H):Hdn (O++W) H:=λa ha=>by
 rcases List.mem_append.mp ha with z | z
 ·exact h.hdO a z
 ·obtain⟨o,q,m⟩:=h.wl a z;exact⟨o,h.same _ _ q,m⟩
theorem Hid.mono{O W:List Addr}{H0 H H':Hp}(h:Hid O W H0 H)(e:Same H H'):Hid O W H0 H':=⟨h.ot,h.same.trans e,h.wl,h.dj,h.om⟩
theorem Hid.newOut{O W:List Addr}{H0 H:Hp}(h:Hid O W H0 H){p:Addr}(hp:H p=none):p∉O++W:=λz=>h.ot p z (h.same.free hp)
mutual
theorem Rep.immut{D:Dm}{O W:List Addr}{H:Hp}(hw:∀a∈W,∃o,H a=some o/\mutO o=true):∀{d:DV} {v:V},d.immut=true->Rep D (L2.wo O H) d v->Rep D (L2.wo (O++W) H) d v
 | .non,_,_,h=>by unfold Rep at h ⊢;exact h
 | .bl _,_,_,h=>by unfold Rep at h ⊢;exact h
 | .int _,_,_,h=>by unfold Rep at h ⊢;exact h
 | .str _,_,_,h=>by unfold Rep at h ⊢;exact h
 | .tup ds,_,m,h=>by
  unfold Rep at h ⊢;obtain⟨a,xs,e1,e2,e3⟩:=h;have m':DV.immuts ds=true:=by unfold DV.immut at m;exact m
  refine⟨a,xs,e1,?_,RepL.immut hw m' e3⟩;rcases e2 with(h | ⟨o,h⟩) | h
  ·obtain⟨ha,h⟩:=q0R h;refine .inl (.inl ?_);rw[q0s λz=>?_]
   ·exact h
   ·rcases List.mem_append.mp z with z | z
    ·exact ha z
    ·obtain⟨ys,q,m⟩:=hw a z;rw[h]at q;cases q;cases m
  ·obtain⟨ha,h⟩:=q0R h;refine .inl (.inr ⟨o,?_⟩);rw[q0s λz=>?_]
   ·exact h
   ·rcases List.mem_append.mp z with z | z
    ·exact ha z
    ·obtain⟨ys,q,m⟩:=hw a z;rw[h]at q;cases q;cases m
  ·exact .inr h
 | .lst ds,_,m,_=>by unfold DV.immut at m;cases m
 | .dct ks vs,_,m,h=>by
  have m':DV.immuts vs=true:=by unfold DV.immut at m;exact m
  have ou:∀{a:Addr} {o:Obj} {u:HO},L2.wo O H a=some (.frz o u)->L2.wo (O++W) H a=some (.frz o u):=λ{a o u} e=>by
   obtain⟨ha,h⟩:=q0R e;rw[q0s λz=>?_]
   ·exact h
   ·rcases List.mem_append.mp z with z | z
    ·exact ha z
    ·obtain⟨ys,q,m⟩:=hw a z;rw[h]at q;cases q;cases m
  rcases q4I.mp h with⟨a,o,kvs,e1,e2,e3,e4⟩ | ⟨a,o,kvs,e1,e2,e3,e4⟩
  ·exact q4I.mpr (.inl ⟨a,o,kvs,e1,ou e2,e3,RepL.immut hw m' e4⟩)
  ·exact q4I.mpr (.inr ⟨a,o,kvs,e1,ou e2,e3,RepL.immut hw m' e4⟩)
 | .exc C,_,_,h=>by
  unfold Rep at h ⊢;obtain⟨a,C,e1,e2,e3⟩:=h;obtain⟨ha,h⟩:=q0R e3;refine⟨a,C,e1,e2,?_⟩;rw[q0s λz=>?_]
  ·exact h
  ·rcases List.mem_append.mp z with z | z
   ·exact ha z
   ·obtain⟨ys,q,m⟩:=hw a z;rw[h]at q;cases q;cases m
 | .fn _,_,_,h=>by unfold Rep at h ⊢;exact h
 | .scr ns,_,_,h=>by
  unfold Rep at h ⊢;obtain⟨a,e1,e2⟩:=h;refine⟨a,e1,?_⟩;rcases e2 with⟨o,h⟩ | h
  ·obtain⟨ha,h⟩:=q0R h;refine .inl ⟨o,?_⟩;rw[q0s λz=>?_]
   ·exact h
   ·rcases List.mem_append.mp z with z | z
    ·exact ha z
    ·obtain⟨ys,q,m⟩:=hw a z;rw[h]at q;cases q;cases m
  ·exact .inr h
theorem RepL.immut{D:Dm}{O W:List Addr}{H:Hp}(hw:∀a∈W,∃o,H a=some o/\mutO o=true):∀{ds:List DV} {xs:List V},DV.immuts ds=true->RepL D (L2.wo O H) ds xs->RepL D (L2.wo (O++W) H) ds xs
 | [],_,_,h=>by unfold RepL at h ⊢;exact h
 | d::ds,_,m,h=>by unfold RepL at h ⊢;obtain⟨v,vs,e1,e2,e3⟩:=h;unfold DV.immuts at m;rw[Bool.and_eq_true]at m;exact⟨v,vs,e1,Rep.immut hw m.1 e2,RepL.immut hw m.2 e3⟩
end
def RepT(D:Dm)(W:List Addr)(Ht H:Hp)(d:DV)(v:V):Prop:=match d with
 | .lst ds=>∃a xs,v=.ref a/\a∈W/\Ht a=some (.lst xs)/\RepL D H ds xs
 | d=>Rep D H d v
theorem RepT.mono{D:Dm}{W:List Addr}{Ht Ht' H H':Hp}{d:DV}{v:V}(et:Same Ht Ht')(e:Same H H')(h:RepT D W Ht H d v):RepT D W Ht' H' d v:=by
 cases d with
 | lst ds=>obtain⟨a,xs,e1,e0,e2,e3⟩:=h;exact⟨a,xs,e1,e0,et _ _ e2,e3.mono e⟩
 | non=>exact Rep.mono (D:=D) (d:=.non) (v:=v) e h
 | bl b=>exact Rep.mono (D:=D) (d:=.bl b) (v:=v) e h
 | int b=>exact Rep.mono (D:=D) (d:=.int b) (v:=v) e h
 | str b=>exact Rep.mono (D:=D) (d:=.str b) (v:=v) e h
 | tup b=>exact Rep.mono (D:=D) (d:=.tup b) (v:=v) e h
 | dct b c=>exact Rep.mono (D:=D) (d:=.dct b c) (v:=v) e h
 | exc b=>exact Rep.mono (D:=D) (d:=.exc b) (v:=v) e h
 | fn b=>exact Rep.mono (D:=D) (d:=.fn b) (v:=v) e h
 | scr b=>exact Rep.mono (D:=D) (d:=.scr b) (v:=v) e h
theorem RepT.rep{D:Dm}{W:List Addr}{Ht H:Hp}{d:DV}{v:V}(e:Same H Ht)(h:RepT D W Ht H d v):Rep D Ht d v:=by
 cases d with
 | lst ds=>obtain⟨a,xs,e1,e0,e2,e3⟩:=h;exact q0z.mpr ⟨a,xs,e1,e2,e3.mono e⟩
 | non=>exact Rep.mono (D:=D) (d:=.non) (v:=v) e h
 | bl b=>exact Rep.mono (D:=D) (d:=.bl b) (v:=v) e h
 | int b=>exact Rep.mono (D:=D) (d:=.int b) (v:=v) e h
 | str b=>exact Rep.mono (D:=D) (d:=.str b) (v:=v) e h
 | tup b=>exact Rep.mono (D:=D) (d:=.tup b) (v:=v) e h
 | dct b c=>exact Rep.mono (D:=D) (d:=.dct b c) (v:=v) e h
 | exc b=>exact Rep.mono (D:=D) (d:=.exc b) (v:=v) e h
 | fn b=>exact Rep.mono (D:=D) (d:=.fn b) (v:=v) e h
 | scr b=>exact Rep.mono (D:=D) (d:=.scr b) (v:=v) e h
def Got(D:Dm)(O W:List Addr)(H0 H:Hp)(d:DV)(c:Cl)(v:V):Prop:=match c with
 | .weak=>Rep D (L2.wo O H) d v
 | .top=>RepT D W (L2.wo O H) (L2.wo (O++W) H) d v
 | .strong=>Rep D (L2.wo (O++W) H) d v
 | .fresh=>∃p xs ds,v=.ref p/\d=.lst ds/\H0 p=none/\H p=some (.lst xs)/\RepL D (L2.wo (p::(O++W)) H) ds xs
 | .ft=>∃t ts p xs ds es,v=.ref t/\d=.tup (.lst ds::es)/\SqT D.K (L2.wo (O++W) H) t (.ref p::ts)/\H0 p=none/\H p=some (.lst xs)/\RepL D (L2.wo (p::(O++W)) H) ds xs/\RepL D (L2.wo (p::(O++W)) H) es ts
section
variable {D:Dm} {O W:List Addr} {H0 H H':Hp} {d:DV} {ds:List DV} {c:Cl} {v:V}
theorem q6V:∀b∈O,b∈O++W:=λ_ h=>List.mem_append_left _ h
theorem Got.mono(h:Got D O W H0 H d c v)(e:Same H H'):Got D O W H0 H' d c v:=by
 cases c with
 | weak=>exact Rep.mono e.wo h
 | top=>exact RepT.mono e.wo e.wo h
 | strong=>exact Rep.mono e.wo h
 | fresh=>
  obtain⟨p,xs,ds,e1,e2,e3,e4,e5⟩:=h;exact⟨p,xs,ds,e1,e2,e3,e _ _ e4,e5.mono e.wo⟩
 | ft=>
  obtain⟨t,ts,p,xs,ds,es,e1,e2,e0,e3,e4,e5,e6⟩:=h;exact⟨t,ts,p,xs,ds,es,e1,e2,e.wo.tseq e0,e3,e _ _ e4,e5.mono e.wo,e6.mono e.wo⟩
theorem Got.since{H1:Hp}(h:Got D O W H1 H d c v)(e:Same H0 H1):Got D O W H0 H d c v:=by
 cases c with
 | weak=>exact h
 | top=>exact h
 | strong=>exact h
 | fresh=>
  obtain⟨p,xs,ds,e1,e2,e3,e4,e5⟩:=h;exact⟨p,xs,ds,e1,e2,e.free e3,e4,e5⟩
 | ft=>
  obtain⟨t,ts,p,xs,ds,es,e1,e2,e0,e3,e4,e5,e6⟩:=h;exact⟨t,ts,p,xs,ds,es,e1,e2,e0,e.free e3,e4,e5,e6⟩
theorem Got.ft(h:Got D O W H0 H d .ft v)(hd:Hid O W H0 H):Rep D (L2.wo (O++W) H) d v:=by
 obtain⟨t,ts,p,xs,ds,es,e1,e2,e0,e3,e4,e5,e6⟩:=h;have hp:p∉O++W:=λz=>hd.ot p z e3
 have up:Same (L2.wo (p::(O++W)) H) (L2.wo (O++W) H):=q0A λb hb=>List.mem_cons_of_mem _ hb;rw[e2];exact q0I.mpr ⟨t,_,e1,e0,q0j.mpr ⟨_,_,rfl,q0z.mpr ⟨p,xs,rfl,by rw[q0s hp];exact e4,e5.mono up⟩,e6.mono up⟩⟩
theorem Got.strong(h:Got D O W H0 H d .fresh v)(hd:Hid O W H0 H):Rep D (L2.wo (O++W) H) d v:=by
 obtain⟨p,xs,ds,e1,e2,e3,e4,e5⟩:=h;have hp:p∉O++W:=λz=>hd.ot p z e3
 rw[e2];exact q0z.mpr ⟨p,xs,e1,by rw[q0s hp];exact e4,e5.mono (q0A λb hb=>List.mem_cons_of_mem _ hb)⟩
theorem Got.weak(h:Got D O W H0 H d c v)(hd:Hid O W H0 H):Rep D (L2.wo O H) d v:=by
 cases c with
 | weak=>exact h
 | top=>exact RepT.rep (q0A q6V) h
 | strong=>exact Rep.mono (q0A q6V) h
 | fresh=>exact Rep.mono (q0A q6V) (h.strong hd)
 | ft=>exact Rep.mono (q0A q6V) (h.ft hd)
theorem Got.all(h:Got D O W H0 H d c v)(hd:Hid O W H0 H):Rep D H d v:=Rep.mono q0T (h.weak hd)
theorem Got.stro(h:Got D O W H0 H d c v)(hd:Hid O W H0 H)(hs:L2.stro d c=true):Rep D (L2.wo (O++W) H) d v:=by
 cases c with
 | strong=>exact h
 | fresh=>exact h.strong hd
 | ft=>exact h.ft hd
 | weak=>exact Rep.immut (λa ha=>by obtain⟨xs,e,m⟩:=hd.wl a ha;exact⟨xs,hd.same _ _ e,m⟩) hs (h.weak hd)
 | top=>exact Rep.immut (λa ha=>by obtain⟨xs,e,m⟩:=hd.wl a ha;exact⟨xs,hd.same _ _ e,m⟩) hs (h.weak hd)
theorem Got.items(h:Got D O W H0 H (.lst ds) c v)(hd:Hid O W H0 H)(hc:c ≠ .weak):∃a xs,v=.ref a/\H a=some (.lst xs)/\RepL D (L2.wo (O++W) H) ds xs:=by
 cases c with
 | weak=>exact absurd rfl hc
 | top=>
  obtain⟨a,xs,e1,e0,e2,e3⟩:=h;exact⟨a,xs,e1,q0T _ _ e2,e3⟩
 | strong=>
  obtain⟨a,xs,e1,e2,e3⟩:=q0z.mp h;exact⟨a,xs,e1,q0T _ _ e2,e3⟩
 | fresh=>
  obtain⟨a,xs,e1,e2,e3⟩:=q0z.mp (h.strong hd);exact⟨a,xs,e1,q0T _ _ e2,e3⟩
 | ft=>
  obtain⟨a,xs,e1,e2,e3⟩:=q0z.mp (h.ft hd);exact⟨a,xs,e1,q0T _ _ e2,e3⟩
theorem Got.itemsT(h:Got D O W H0 H (.tup ds) c v)(hd:Hid O W H0 H)(hc:c ≠ .weak):∃a xs,v=.ref a/\SqT D.K H a xs/\RepL D (L2.wo (O++W) H) ds xs:=by
 cases c with
 | weak=>exact absurd rfl hc
 | top=>
  obtain⟨a,xs,e1,e2,e3⟩:=q0I.mp (show Rep D (L2.wo (O++W) H) (.tup ds) v from h);exact⟨a,xs,e1,q0T.tseq e2,e3⟩
 | strong=>
  obtain⟨a,xs,e1,e2,e3⟩:=q0I.mp h;exact⟨a,xs,e1,q0T.tseq e2,e3⟩
 | fresh=>
  obtain⟨p,xs,ds,e1,e2,e3,e4,e5⟩:=h;cases e2
 | ft=>
  obtain⟨a,xs,e1,e2,e3⟩:=q0I.mp (h.ft hd);exact⟨a,xs,e1,q0T.tseq e2,e3⟩
theorem Got.lst(h:Got D O W H0 H (.lst ds) c v)(hd:Hid O W H0 H):∃a xs,v=.ref a/\H a=some (.lst xs)/\RepL D (L2.wo O H) ds xs:=by
 obtain⟨a,xs,e1,e2,e3⟩:=q0z.mp (h.weak hd);exact⟨a,xs,e1,q0T _ _ e2,e3⟩
theorem Got.tup(h:Got D O W H0 H (.tup ds) c v)(hd:Hid O W H0 H):∃a xs,v=.ref a/\SqT D.K H a xs/\RepL D (L2.wo O H) ds xs:=by
 obtain⟨a,xs,e1,e2,e3⟩:=q0I.mp (h.weak hd);exact⟨a,xs,e1,q0T.tseq e2,e3⟩
def q0Y(O W:List Addr):Cl->List Addr
 | .weak=>O
 | _=>O++W
theorem Got.lstC(h:Got D O W H0 H (.lst ds) c v)(hd:Hid O W H0 H):∃a xs,v=.ref a/\H a=some (.lst xs)/\RepL D (L2.wo (q0Y O W c) H) ds xs:=by
 cases c with
 | weak=>exact h.lst hd
 | top=>exact h.items hd (by intro z;cases z)
 | strong=>exact h.items hd (by intro z;cases z)
 | fresh=>exact h.items hd (by intro z;cases z)
 | ft=>exact h.items hd (by intro z;cases z)
theorem Got.tupC(h:Got D O W H0 H (.tup ds) c v)(hd:Hid O W H0 H):∃a xs,v=.ref a/\SqT D.K H a xs/\RepL D (L2.wo (q0Y O W c) H) ds xs:=by
 cases c with
 | weak=>exact h.tup hd
 | top=>exact h.itemsT hd (by intro z;cases z)
 | strong=>exact h.itemsT hd (by intro z;cases z)
 | fresh=>exact h.itemsT hd (by intro z;cases z)
 | ft=>exact h.itemsT hd (by intro z;cases z)
theorem Got.item(h:Rep D (L2.wo (q0Y O W c) H) d v):Got D O W H0 H d c.item v:=by
 cases c<;>exact h
theorem q0x{i:Int}(hc:c ≠ .fresh:=by intro z;cases z)(hc':c ≠ .ft:=by intro z;cases z):Got D O W H0 H (.int i) c (.int i):=by
 have q:∀H,Rep D H (.int i) (.int i):=λH=>q0U.mpr rfl;cases c with
 | fresh=>exact absurd rfl hc
 | ft=>exact absurd rfl hc'
 | weak=>exact q (L2.wo O H)
 | strong=>exact q (L2.wo (O++W) H)
 | top=>exact q (L2.wo (O++W) H)
theorem q3F{i:Bool}:Got D O W H0 H (.bl i) .strong (.bl i):=(q4y.mpr rfl:Rep D (L2.wo (O++W) H) (.bl i) (.bl i))
theorem z4y:Got D O W H0 H .non .strong .non:=(q5W.mpr rfl:Rep D (L2.wo (O++W) H) .non .non)
theorem Got.int{i:Int}(h:Got D O W H0 H (.int i) c v)(hd:Hid O W H0 H):v=.int i:=q0U.mp (h.weak hd)
theorem Got.bl{i:Bool}(h:Got D O W H0 H (.bl i) c v)(hd:Hid O W H0 H):v=.bl i:=q4y.mp (h.weak hd)
theorem Got.str{x:Str}(h:Got D O W H0 H (.str x) c v)(hd:Hid O W H0 H):v=.str x/\x.length<=sizeLine:=q2X.mp (h.weak hd)
theorem q1K{p:Addr}{xs:List V}(hd:Hid O W H0 H)(hp:H p=none)(r:RepL D (L2.wo (O++W) H) ds xs):Got D O W H0 (upd H p (.lst xs)) (.lst ds) .fresh (.ref p):=by
 refine⟨p,xs,ds,rfl,rfl,hd.same.free hp,q0P,r.mono λb o e=>?_⟩;obtain⟨hb,e⟩:=q0R e;have hbp:b≠p:=q0u e hp;rw[q0s (by intro z;rcases List.mem_cons.mp z with z | z;exact hbp z;exact hb z),q0q hbp];exact e
theorem q5B{p:Addr}{xs:List V}(hd:Hid O W H0 H)(hp:H p=none)(r:RepL D (L2.wo O H) ds xs):Got D O W H0 (upd H p (.lst xs)) (.lst ds) .weak (.ref p):=by
 have hpo:p∉O:=λz=>hd.newOut hp (List.mem_append_left _ z);exact q0z.mpr ⟨p,xs,rfl,by rw[q0s hpo];exact q0P,r.mono (q0r hp).wo⟩
theorem q4a{p:Addr}{xs:List V}(hd:Hid O W H0 H)(hp:H p=none)(r:RepL D (L2.wo (q0Y O W c) H) ds xs):Got D O W H0 (upd H p (.lst xs)) (.lst ds) (Cl.anew c c) (.ref p):=by
 cases c with
 | weak=>exact q5B hd hp r
 | top=>exact q1K hd hp r
 | strong=>exact q1K hd hp r
 | fresh=>exact q1K hd hp r
 | ft=>exact q1K hd hp r
theorem q4J{p:Addr}{xs:List V}(hd:Hid O W H0 H)(hp:H p=none)(r:RepL D (L2.wo (O++W) H) ds xs):Got D O W H0 (upd H p (.tup xs)) (.tup ds) .strong (.ref p):=
 q0I.mpr ⟨p,xs,rfl,SqT.of (by rw[q0s (hd.newOut hp)];exact q0P),r.mono (q0r hp).wo⟩
theorem q8l{p:Addr}{xs:List V}(hd:Hid O W H0 H)(hp:H p=none)(r:RepL D (L2.wo O H) ds xs):Got D O W H0 (upd H p (.tup xs)) (.tup ds) .weak (.ref p):=
 q0I.mpr ⟨p,xs,rfl,SqT.of (by rw[q0s λz=>hd.newOut hp (List.mem_append_left _ z)];exact q0P),r.mono (q0r hp).wo⟩
theorem q7Y{p:Addr}{xs:List V}(hd:Hid O W H0 H)(hp:H p=none)(r:RepL D (L2.wo (q0Y O W c) H) ds xs):Got D O W H0 (upd H p (.tup xs)) (.tup ds) c.item (.ref p):=by
 cases c with
 | weak=>exact q8l hd hp r
 | top=>exact q4J hd hp r
 | strong=>exact q4J hd hp r
 | fresh=>exact q4J hd hp r
 | ft=>exact q4J hd hp r
end
inductive GotL (D:Dm) (O W:List Addr) (H0 H:Hp):List (DV×Cl)->List V->Prop where
 | nil:GotL D O W H0 H [] []
 | cons {d:DV} {c:Cl} {v:V} {l:List (DV×Cl)} {vs:List V}:Got D O W H0 H d c v->GotL D O W H0 H l vs->GotL D O W H0 H ((d,c)::l) (v::vs)
section
variable {D:Dm} {O W:List Addr} {H0 H H':Hp}
theorem GotL.repL{l:List (DV×Cl)}{vs:List V}(h:GotL D O W H0 H l vs)(hd:Hid O W H0 H):RepL D (L2.wo O H) (l.map (·.1)) vs:=by
 induction h with
 | nil=>exact q0w.mpr rfl
 | cons h _ ih=>exact q0j.mpr ⟨_,_,rfl,h.weak hd,ih⟩
theorem GotL.stros{l:List (DV×Cl)}{vs:List V}(h:GotL D O W H0 H l vs)(hd:Hid O W H0 H)(hs:L2.stros l=true):RepL D (L2.wo (O++W) H) (l.map (·.1)) vs:=by
 induction h with
 | nil=>exact q0w.mpr rfl
 | cons h _ ih=>
  unfold L2.stros at hs;rw[List.all_cons,Bool.and_eq_true]at hs;exact q0j.mpr ⟨_,_,rfl,h.stro hd hs.1,ih hs.2⟩
theorem GotL.length{l:List (DV×Cl)}{vs:List V}(h:GotL D O W H0 H l vs):vs.length=l.length:=by
 induction h with
 | nil=>rfl
 | cons _ _ ih=>rw[List.length_cons,List.length_cons,ih]
theorem GotL.strong{l:List (DV×Cl)}{vs:List V}(h:GotL D O W H0 H l vs)(hd:Hid O W H0 H)(hs:(l.all λp=>p.2 == .strong||p.2 == .fresh)=true):RepL D (L2.wo (O++W) H) (l.map (·.1)) vs:=by
 refine h.stros hd ?_;unfold L2.stros;rw[List.all_eq_true]at hs ⊢;intro p hp;have:=hs p hp;unfold L2.stro;cases e:p.2<;>rw[e]at this<;>first | rfl | cases this
theorem GotL.one{d:DV}{c:Cl}{vs:List V}(h:GotL D O W H0 H [(d,c)] vs):∃v,vs=[v]/\Got D O W H0 H d c v:=by
 cases h with
 | cons h t=>cases t;exact⟨_,rfl,h⟩
theorem GotL.two{d d':DV}{c c':Cl}{vs:List V}(h:GotL D O W H0 H [(d,c),(d',c')] vs):∃v v',vs=[v,v']/\Got D O W H0 H d c v/\Got D O W H0 H d' c' v':=by
 cases h with
 | cons h t=>obtain⟨v',e,h'⟩:=t.one;subst e;exact⟨_,_,rfl,h,h'⟩
theorem GotL.three{d d' d2:DV}{c c' c2:Cl}{vs:List V}(h:GotL D O W H0 H [(d,c),(d',c'),(d2,c2)] vs):∃v v' v2,vs=[v,v',v2]/\Got D O W H0 H d c v/\Got D O W H0 H d' c' v'/\Got D O W H0 H d2 c2 v2:=by
 cases h with
 | cons h t=>obtain⟨v',v2,e,h',h2⟩:=t.two;subst e;exact⟨_,_,_,rfl,h,h',h2⟩
end
def O2At(H:Hp)(W:List Addr)(p:Addr)(L:List (Addr×List Int)):Prop:=p∈W/\H p=some (.lst (L.map λq=>.ref q.1))/\(∀q∈L,q.1∈W/\H q.1=some (.lst (q.2.map V.int)))/\(p::L.map (·.1)).Nodup
def o2D(L:List (Addr×List Int)):DV:=.lst (L.map λq=>.lst (q.2.map DV.int))
theorem O2At.mono{H H':Hp}{W:List Addr}{p:Addr}{L:List (Addr×List Int)}(h:O2At H W p L)(e:Same H H'):O2At H' W p L:=⟨h.1,e _ _ h.2.1,λq hq=>⟨(h.2.2.1 q hq).1,e _ _ (h.2.2.1 q hq).2⟩,h.2.2.2⟩
theorem O2At.sub{H:Hp}{W W':List Addr}{p:Addr}{L:List (Addr×List Int)}(h:O2At H W p L)(e:∀a∈p::L.map (·.1),a∈W->a∈W'):O2At H W' p L:=
 ⟨e _ (List.mem_cons_self ..) h.1,h.2.1,λq hq=>⟨e _ (List.mem_cons_of_mem _ (List.mem_map.mpr ⟨q,hq,rfl⟩)) (h.2.2.1 q hq).1,(h.2.2.1 q hq).2⟩,h.2.2.2⟩
theorem O2At.dom{H:Hp}{W:List Addr}{p a:Addr}{L:List (Addr×List Int)}(h:O2At H W p L)(ha:a∈p::L.map (·.1)):a∈W/\∃xs,H a=some (.lst xs):=by
 rcases List.mem_cons.mp ha with z | z
 ·rw[z];exact⟨h.1,_,h.2.1⟩
 ·obtain⟨q,hq,rfl⟩:=List.mem_map.mp z;exact⟨(h.2.2.1 q hq).1,_,(h.2.2.1 q hq).2⟩
theorem O2At.write{H:Hp}{W:List Addr}{p a:Addr}{o:HO}{L:List (Addr×List Int)}(h:O2At H W p L)(ha:a∉p::L.map (·.1)):O2At (upd H a o) W p L:=
 ⟨h.1,by rw[q0q λz=>ha (by rw[←z];exact List.mem_cons_self ..)];exact h.2.1,λq hq=>⟨(h.2.2.1 q hq).1,by rw[q0q λz=>ha (by rw[←z];exact List.mem_cons_of_mem _ (List.mem_map.mpr ⟨q,hq,rfl⟩))];exact(h.2.2.1 q hq).2⟩,h.2.2.2⟩
def odD(L:List (Int×Int)):DV:=.dct (L.map λp=>.i p.1) (L.map λp=>.int p.2)
def odK(L:List (Int×Int)):List (Key×V):=L.map λp=>(.inl p.1,.int p.2)
def oeD(L:List ((Int×Int)×Int)):DV:=.dct (L.map λp=>.t [.inl p.1.1,.inl p.1.2]) (L.map λp=>.int p.2)
def oeK(L:List ((Int×Int)×Int)):List (List Key×V):=L.map λp=>([.inl p.1.1,.inl p.1.2],.int p.2)
def dicO:HO->Bool
 | .dK _=>true
 | .dT _=>true
 | _=>false
def OdOk(d:DV)(o:HO):Prop:=(∃L,d=odD L/\o=.dK (odK L))\/∃L,d=.tup [oeD L]/\o=.dT (oeK L)
theorem OdOk.dic{d:DV}{o:HO}(h:OdOk d o):dicO o=true:=by rcases h with⟨L,_,e⟩ | ⟨L,_,e⟩<;>rw[e]<;>rfl
def OdAt(H:Hp)(σ:St)(δ:List Sv)(W:List Addr):Prop:=∀(i:Nat) d,δ[i]? = some (.od d)->(∃a o,OdOk d o/\σ[i]? = some (some (.ref a))/\a∈W/\H a=some o)/\∀(j:Nat) d',δ[j]? = some (.od d')->j=i
theorem OdAt.step{H H':Hp}{σ σ':St}{δ δ':List Sv}{W W':List Addr}(h:OdAt H σ δ W)(hδ:∀(j:Nat) d,δ'[j]? = some (.od d)->δ[j]? = some (.od d)/\σ'[j]? = σ[j]?)(hW:∀a∈W,(∃o,H a=some o/\dicO o=true)->a∈W')(hH:∀a o,a∈W->H a=some o->dicO o=true->H' a=some o):OdAt H' σ' δ' W':=λi d q=>by
 obtain⟨q1,q2⟩:=hδ i d q;obtain⟨⟨a,L,e0,e1,e2,e3⟩,u⟩:=h i d q1;exact⟨⟨a,L,e0,by rw[q2];exact e1,hW a e2 ⟨_,e3,e0.dic⟩,hH a _ e2 e3 e0.dic⟩,λj d' z=>u j d' (hδ j d' z).1⟩
theorem q8s{σ:St}{δ:List Sv}{i:Nat}{X:Sv}(x:Option V)(hX:∀d,X ≠ .od d):∀(j:Nat) d,(δ.set i X)[j]? = some (.od d)->δ[j]? = some (.od d)/\(σ.set i x)[j]? = σ[j]?:=λj d h=>by
 have hj:j≠i:=λz=>by
  subst z;have hl:j<δ.length:=by have:=(List.getElem?_eq_some_iff.mp h).1;rw[List.length_set]at this;exact this
  rw[List.getElem?_set_self hl]at h;exact hX d (Option.some.inj h)
 rw[List.getElem?_set_ne (Ne.symm hj)]at h ⊢;exact⟨h,rfl⟩
theorem z1a{σ:St}{δ:List Sv}{i:Nat}{X:Sv}(hX:∀d,X ≠ .od d):∀(j:Nat) d,(δ.set i X)[j]? = some (.od d)->δ[j]? = some (.od d)/\σ[j]? = σ[j]?:=λj d h=>⟨(q8s (σ:=σ) none hX j d h).1,rfl⟩
structure RSt(D:Dm)(H:Hp)(σ:St)(δ:List Sv)(O W:List Addr):Prop where
 val:∀(i:Nat) d,δ[i]? = some (.val d)->∃v,σ[i]? = some (some v)/\Rep D (L2.wo (O++W) H) d v
 own:∀(i:Nat) d,δ[i]? = some (.own d)->∃a xs ds,d=.lst ds/\σ[i]? = some (some (.ref a))/\a∈W/\H a=some (.lst xs)/\RepL D (L2.wo (O++W) H) ds xs
 inj:∀(i j:Nat) a d d',δ[i]? = some (.own d)->δ[j]? = some (.own d')->σ[i]? = some (some (.ref a))->σ[j]? = some (some (.ref a))->i=j
 ot:∀(i:Nat) d,δ[i]? = some (.ot d)->(∃t ts p xs ds es,d=.tup (.lst ds::es)/\σ[i]? = some (some (.ref t))/\SqT D.K (L2.wo (O++W) H) t (.ref p::ts)/\p∈W/\H p=some (.lst xs)/\RepL D (L2.wo (O++W) H) ds xs/\RepL D (L2.wo (O++W) H) es ts /\
  ∀(j:Nat) d',δ[j]? = some (.own d')->σ[j]? ≠ some (some (.ref p)))/\∀(j:Nat) d',δ[j]? = some (.ot d')->j=i
 o2:∀(i:Nat) d,δ[i]? = some (.o2 d)->(∃p L,d=o2D L/\σ[i]? = some (some (.ref p))/\O2At H W p L/\∀(j:Nat) d' a,δ[j]? = some (.own d')->σ[j]? = some (some (.ref a))->a∉p::L.map (·.1))/\(∀(j:Nat) d',δ[j]? = some (.o2 d')->j=i)/\∀(j:Nat) d',δ[j]? ≠ some (.ot d')
 od:OdAt H σ δ W
 len:σ.length=δ.length
 hid:Hid O W H H
theorem Hid.later{O W:List Addr}{H H':Hp}(h:Hid O W H H)(e:Same H H'):Hid O W H' H':=⟨λa ha q=>h.ot a ha (e.free q),Same.refl _,λa ha=>by obtain⟨xs,q,m⟩:=h.wl a ha;exact⟨xs,e _ _ q,m⟩,h.dj,h.omS e⟩
theorem RSt.mono{D:Dm}{H H':Hp}{σ:St}{δ:List Sv}{O W:List Addr}(R:RSt D H σ δ O W)(e:Same H H'):RSt D H' σ δ O W where
 val:=λi d h=>by obtain⟨v,e1,e2⟩:=R.val i d h;exact⟨v,e1,e2.mono e.wo⟩
 own:=λi ds h=>by obtain⟨a,xs,ds,e0,e1,e2,e3,e4⟩:=R.own i ds h;exact⟨a,xs,ds,e0,e1,e2,e _ _ e3,e4.mono e.wo⟩
 inj:=R.inj
 ot:=λi d h=>by obtain⟨⟨t,ts,p,xs,ds,es,e0,e1,e2,e3,e4,e5,e6,e7⟩,u⟩:=R.ot i d h;exact⟨⟨t,ts,p,xs,ds,es,e0,e1,e.wo.tseq e2,e3,e _ _ e4,e5.mono e.wo,e6.mono e.wo,e7⟩,u⟩
 o2:=λi d h=>by obtain⟨⟨p,L,e0,e1,e2,e3⟩,u,n⟩:=R.o2 i d h;exact⟨⟨p,L,e0,e1,e2.mono e,e3⟩,u,n⟩
 od:=R.od.step (λj d h=>⟨h,rfl⟩) (λ_ h _=>h) (λa kvs _ h _=>e _ _ h)
 len:=R.len
 hid:=R.hid.later e
def Post(D:Dm)(E:St->XK)(σ:St)(O W:List Addr)(H0 H:Hp)(Q:VK):Re->Prop
 | .ok d c=>∀v H',Same H H'->Got D O W H0 H' d c v->Q v H'
 | .ex c=>∀H' C,D.mg c=some C->Same H H'->E σ C none H'
def dE(D:Dm)(E:St->XK)(δ:List Sv)(r:Re):TE:=λσ H Q=>∃O W,RSt D H σ δ O W/\Post D E σ O W H H Q r
def z9P(D:Dm)(E:St->XK)(σ:St)(O W:List Addr)(H0 H:Hp)(Q:List V->Hp->Prop):Rs->Prop
 | .ok l=>∀vs H',Same H H'->GotL D O W H0 H' l vs->Q vs H'
 | .ex c=>∀H' C,D.mg c=some C->Same H H'->E σ C none H'
def dA(D:Dm)(E:St->XK)(δ:List Sv)(r:Rs):TA:=λσ H Q=>∃O W,RSt D H σ δ O W/\z9P D E σ O W H H Q r
def z2b(D:Dm)(E:St->XK)(σ:St)(H:Hp)(Q:Bool->Hp->Prop):Rt->Prop
 | .ok b=>∀H',Same H H'->Q b H'
 | .ex c=>∀H' C,D.mg c=some C->Same H H'->E σ C none H'
def dT(D:Dm)(E:St->XK)(δ:List Sv)(r:Rt):TT:=λσ H Q=>∃O W,RSt D H σ δ O W/\z2b D E σ H Q r
theorem Post.step{D:Dm}{E:St->XK}{σ:St}{O W:List Addr}{H0 H H1:Hp}{Q:VK}{r:Re}(h:Post D E σ O W H0 H Q r)(e:Same H H1):Post D E σ O W H0 H1 Q r:=by
 cases r with
 | ok d c=>exact λv H' s g=>h v H' (e.trans s) g
 | ex c=>exact λH' C m s=>h H' C m (e.trans s)
theorem Post.later{D:Dm}{E:St->XK}{σ:St}{O W:List Addr}{H0 H H1:Hp}{Q:VK}{r:Re}(h:Post D E σ O W H0 H Q r)(e:Same H H1)(e0:Same H0 H1):Post D E σ O W H1 H1 Q r:=by
 cases r with
 | ok d c=>exact λv H' s g=>h v H' (e.trans s) (g.since e0)
 | ex c=>exact λH' C m s=>h H' C m (e.trans s)
theorem GotL.since{D:Dm}{O W:List Addr}{H0 H1 H:Hp}{l:List (DV×Cl)}{vs:List V}(h:GotL D O W H1 H l vs)(e:Same H0 H1):GotL D O W H0 H l vs:=by
 induction h with
 | nil=>exact .nil
 | cons g _ ih=>exact .cons (g.since e) ih
theorem z2b.later{D:Dm}{E:St->XK}{σ:St}{H H1:Hp}{Q:Bool->Hp->Prop}{r:Rt}(h:z2b D E σ H Q r)(e:Same H H1):z2b D E σ H1 Q r:=by
 cases r with
 | ok b=>exact λH' s=>h H' (e.trans s)
 | ex c=>exact λH' C m s=>h H' C m (e.trans s)
theorem PE.weak{X:Cx}{e:Expr}{t t':TE}(h:PE X e t)(k:∀σ H Q,t' σ H Q->t σ H Q):PE X e t':=λpins s σ H Q I q=>h pins s σ H Q I (k σ H Q q)
theorem PT.weak{X:Cx}{e:Expr}{t t':TT}(h:PT X e t)(k:∀σ H Q,t' σ H Q->t σ H Q):PT X e t':=λpins s σ H Q I q=>h pins s σ H Q I (k σ H Q q)
theorem PW.weak{X:Cx}{e:Expr}{t t':TT}(h:PW X e t)(k:∀σ H Q,t' σ H Q->t σ H Q):PW X e t':=λwhole pins s σ H Q I q=>h whole pins s σ H Q I (k σ H Q q)
theorem PA.weak{X:Cx}{e:List Expr}{t t':TA}(h:PA X e t)(k:∀σ H Q,t' σ H Q->t σ H Q):PA X e t':=λpos pins s σ H Q I q=>h pos pins s σ H Q I (k σ H Q q)
theorem PS.weak{X:Cx}{e:Stmt}{t t':TS}(h:PS X e t)(k:∀D σ H,t' D σ H->t D σ H):PS X e t':=λpins s σ H D I q=>h pins s σ H D I (k D σ H q)
theorem PSs.weak{X:Cx}{e:List Stmt}{t t':TS}(h:PSs X e t)(k:∀D σ H,t' D σ H->t D σ H):PSs X e t':=λpins s σ H D I q=>h pins s σ H D I (k D σ H q)
theorem q5O{X:Cx}{e:Expr}:PW X e (λ_ _ _=>False):=λ_ _ _ _ _ _ _ h=>h.elim
theorem q1q{X:Cx}{e:Expr}:PE X e (λ_ _ _=>False):=λ_ _ _ _ _ _ h=>h.elim
theorem z4V{X:Cx}{e:List Expr}:PA X e (λ_ _ _=>False):=λ_ _ _ _ _ _ _ h=>h.elim
end L2
end
noncomputable section
namespace L2
open PySem PySem.Spec PyProof.Rows
theorem q1X{n:Nat}(h:n<=mostLen):n<=sizeLine:=Nat.le_trans h (by decide)
section
variable {X:Cx} {E:St->XK} {δ:List Sv} {a b c e:Expr} {es:List Expr}
theorem z8r{r:V->Hp->VK->Prop}{k:DV->Cl->Option Re}{ra:Option Re}{re:Re}(hop:∀ta,PE X a ta->PE X e (tUn r ta))(ha:∀q,ra=some q->PE X a (dE X.D E δ q))(h:Re.thn ra k=some re)
  (hr:∀O W H0 H x Q dx cx σ,k dx cx=some re->Hid O W H0 H->Got X.D O W H0 H dx cx x->Post X.D E σ O W H0 H Q re->r x H Q):PE X e (dE X.D E δ re):=by
 cases hra:ra with
 | none=>rw[hra]at h;cases h
 | some q=>
  rw[hra]at h;have A:=ha q hra;cases q with
  | ex c=>
   cases h;exact(hop _ A).weak λσ H Q ⟨O,W,R,p⟩=>⟨O,W,R,p⟩
  | ok dx cx=>
   have h':k dx cx=some re:=h;exact(hop _ A).weak λσ H Q ⟨O,W,R,p⟩=>⟨O,W,R,λx H1 s1 g1=>hr O W H H1 x Q dx cx σ h' (R.hid.mono s1) g1 (p.step s1)⟩
theorem q8y{r:R2}{k:DV->Cl->DV->Cl->Option Re}{ra rb:Option Re}{re:Re}(ha:∀q,ra=some q->PE X a (dE X.D E δ q))(hb:∀q,rb=some q->PE X b (dE X.D E δ q))
  (h:(Re.thn ra λx cx=>Re.thn rb λy cy=>k x cx y cy)=some re)
  (hr:∀O W H0 H x y Q dx cx dy cy σ,k dx cx dy cy=some re->Hid O W H0 H->Got X.D O W H0 H dx cx x->Got X.D O W H0 H dy cy y->Post X.D E σ O W H0 H Q re->r x y H Q) :
  ∃ta tb,PE X a ta/\PE X b tb/\∀σ H Q,dE X.D E δ re σ H Q->tOp r ta tb σ H Q:=by
 cases hra:ra with
 | none=>rw[hra]at h;cases h
 | some q=>
  rw[hra]at h;have A:=ha q hra;cases q with
  | ex c=>
   cases h;exact⟨_,_,A,q1q,λσ H Q ⟨O,W,R,p⟩=>⟨O,W,R,p⟩⟩
  | ok dx cx=>
   have h':(Re.thn rb λy cy=>k dx cx y cy)=some re:=h;cases hrb:rb with
   | none=>rw[hrb]at h';cases h'
   | some q=>
    rw[hrb]at h';have B:=hb q hrb;cases q with
    | ex c=>
     cases h';exact⟨_,_,A,B,λσ H Q ⟨O,W,R,p⟩=>⟨O,W,R,λx H1 s1 g1=>⟨O,W,R.mono s1,λH' C m s=>p H' C m (s1.trans s)⟩⟩⟩
    | ok dy cy=>
     have h2:k dx cx dy cy=some re:=h';exact⟨_,_,A,B,λσ H Q ⟨O,W,R,p⟩=>⟨O,W,R,λx H1 s1 g1=>⟨O,W,R.mono s1,λy H2 s2 g2=>
      hr O W H H2 x y Q dx cx dy cy σ h2 ((R.hid.mono s1).mono s2) (g1.mono s2) (g2.since s1) (p.step (s1.trans s2))⟩⟩⟩
theorem z0S{r:R2}{k:DV->Cl->DV->Cl->Option Re}{ra rb:Option Re}{re:Re}(hop:∀ta tb,PE X a ta->PE X b tb->PE X e (tOp r ta tb))(ha:∀q,ra=some q->PE X a (dE X.D E δ q))(hb:∀q,rb=some q->PE X b (dE X.D E δ q))
  (h:(Re.thn ra λx cx=>Re.thn rb λy cy=>k x cx y cy)=some re)
  (hr:∀O W H0 H x y Q dx cx dy cy σ,k dx cx dy cy=some re->Hid O W H0 H->Got X.D O W H0 H dx cx x->Got X.D O W H0 H dy cy y->Post X.D E σ O W H0 H Q re->r x y H Q):PE X e (dE X.D E δ re):=by
 obtain⟨ta,tb,A,B,q⟩:=q8y ha hb h hr;exact(hop _ _ A B).weak q
theorem q3h{r:List V->Hp->VK->Prop}{k:List (DV×Cl)->Option Re}{ra:Option Rs}{re:Re}(hop:∀t,PA X es t->PE X e (tCB r t))(ha:∀q,ra=some q->PA X es (dA X.D E δ q))(h:Rs.thn ra k=some re)
  (hr:∀O W H0 H vs Q l σ,k l=some re->Hid O W H0 H->GotL X.D O W H0 H l vs->Post X.D E σ O W H0 H Q re->r vs H Q):PE X e (dE X.D E δ re):=by
 cases hra:ra with
 | none=>rw[hra]at h;cases h
 | some q=>
  rw[hra]at h;have A:=ha q hra;cases q with
  | ex c=>
   cases h;exact(hop _ A).weak λσ H Q ⟨O,W,R,p⟩=>⟨O,W,R,p⟩
  | ok l=>
   have h':k l=some re:=h;exact(hop _ A).weak λσ H Q ⟨O,W,R,p⟩=>⟨O,W,R,λvs H1 s1 g1=>hr O W H H1 vs Q l σ h' (R.hid.mono s1) g1 (p.step s1)⟩
end
theorem q7B{D:Dm}{H:Hp}:∀{L:List (Addr×List Int)},(∀q∈L,H q.1=some (.lst (q.2.map V.int)))->RepL D H (L.map λq=>.lst (q.2.map DV.int)) (L.map λq=>.ref q.1)
 | [],_=>q0w.mpr rfl
 | q::L,h=>q0j.mpr ⟨_,_,rfl,q0z.mpr ⟨q.1,_,rfl,h q (List.mem_cons_self ..),q1O _⟩,q7B λq' hq=>h q' (List.mem_cons_of_mem _ hq)⟩
section
variable {X:Cx} {E:St->XK} {δ:List Sv} {pos:Pos}
theorem z5s{i:Nat}{x:Str}{r:Re}(hN:X.N[i]? = some x)(hv:Vis X.env.scope x)(hd:(x==("__debug__" : Str))=false)(hcd:(x==("__classdict__" : Str))=false)
  (h:(match δ[i]? with | some (.val d)=>some (Re.ok d .strong) | some (.own d)=>some (.ok d .top) | some (.ot d)=>some (.ok d .weak) | some (.o2 d)=>some (.ok d .weak) | _=>none)=some r):PE X (.Name x pos) (dE X.D E δ r):=
 (z0e hN hv hd hcd).weak λσ H Q ⟨O,W,R,p⟩=>by
  split at h
  ·rename_i d q;cases h;obtain⟨v,e1,e2⟩:=R.val i d q;exact⟨v,e1,p v H (Same.refl H) e2⟩
  ·rename_i d q;cases h;obtain⟨a,xs,ds,e0,e1,e2,e3,e4⟩:=R.own i d q;subst e0;refine⟨.ref a,e1,p _ H (Same.refl H) ⟨a,xs,rfl,e2,?_,e4⟩⟩;rw[q0s (R.hid.dj a e2)];exact e3
  ·rename_i d q;cases h;obtain⟨⟨t,ts,p1,xs,ds,es,e0,e1,e2,e3,e4,e5,e6,e7⟩,_⟩:=R.ot i d q;subst e0;have up:Same (L2.wo (O++W) H) (L2.wo O H):=q0A q6V;refine⟨.ref t,e1,p _ H (Same.refl H) (q0I.mpr ⟨t,_,rfl,up.tseq e2,q0j.mpr ⟨_,_,rfl,q0z.mpr ⟨p1,xs,rfl,?_,e5.mono up⟩,e6.mono up⟩⟩:Rep X.D (L2.wo O H) (.tup (.lst ds::es)) (.ref t))⟩;rw[q0s (R.hid.dj p1 e3)];exact e4
  ·rename_i d q;cases h;obtain⟨⟨a,L,e0,e1,e2,_⟩,_,_⟩:=R.o2 i d q;subst e0;refine⟨.ref a,e1,p _ H (Same.refl H) (q0z.mpr ⟨a,_,rfl,by rw[q0s (R.hid.dj a e2.1)];exact e2.2.1,?_⟩:Rep X.D (L2.wo O H) (o2D L) (.ref a))⟩;exact q7B λq hq=>by rw[q0s (R.hid.dj q.1 (e2.2.2.1 q hq).1)];exact(e2.2.2.1 q hq).2
  ·cases h
theorem z4F{i:Int}{j:Nat}:PE X (.Constant (.int i) j pos) (dE X.D E δ (.ok (.int i) .strong)):=z8m.weak λσ H Q ⟨O,W,R,p⟩=>p _ H (Same.refl H) q0x
theorem z7L{i:Bool}{j:Nat}:PE X (.Constant (.bool i) j pos) (dE X.D E δ (.ok (.bl i) .strong)):=y0k.weak λσ H Q ⟨O,W,R,p⟩=>p _ H (Same.refl H) q3F
theorem z5P{i:Str}{j:Nat}(h:i.length<=sizeLine):PE X (.Constant (.str i) j pos) (dE X.D E δ (.ok (.str i) .strong)):=z8A.weak λσ H Q ⟨O,W,R,p⟩=>p _ H (Same.refl H) (q2X.mpr ⟨rfl,h⟩:Rep X.D (L2.wo (O++W) H) (.str i) (.str i))
theorem z6n{j:Nat}:PE X (.Constant .none j pos) (dE X.D E δ (.ok .non .strong)):=z8H.weak λσ H Q ⟨O,W,R,p⟩=>p _ H (Same.refl H) z4y
end
section
variable {X:Cx} {E:St->XK} {δ:List Sv} {a b c e:Expr} {pos:Pos} {ra rb:Option Re} {re:Re}
theorem z1G{O W:List Addr}{H0 H:Hp}{C:Int->Int->Prop}{g:Int->Int->V}{x y:V}{Q:VK}{i j:Int}{ca cb:Cl}{D:Dm}(hd:Hid O W H0 H)(gx:Got D O W H0 H (.int i) ca x)(gy:Got D O W H0 H (.int j) cb y)(hc:C i j)(q:Q (g i j) H):rI C g x y H Q:=
 ⟨i,j,gx.int hd,gy.int hd,hc,q⟩
theorem q6z{O W:List Addr}{H0 H:Hp}{g:Int->Int->V}{x y:V}{Q:VK}{i j:Int}{ca cb:Cl}{D:Dm}(hd:Hid O W H0 H)(gx:Got D O W H0 H (.int i) ca x)(gy:Got D O W H0 H (.int j) cb y)(q:Q (g i j) H):rI0 g x y H Q:=
 ⟨i,j,gx.int hd,gy.int hd,q⟩
theorem z6F{ca cb:Cl}(h:ca ≠ .weak)(h':cb ≠ .weak):Cl.anew ca cb=.fresh:=by
 cases ca<;>cases cb<;>first | rfl | exact absurd rfl h | exact absurd rfl h'
def z3h(i j:Int):Prop:=CMul i j\/(i.natAbs<2^2000/\j.natAbs<2^2000)
theorem z0d{i:Int}{n:Nat}(h:i.natAbs<2^n):Builtin.Int.intBits i<=n:=by
 unfold Builtin.Int.intBits;by_cases hi:i=0
 ·subst hi;exact Nat.zero_le n
 ·rw[if_neg (by simpa using hi)];have:i.natAbs≠0:=λz=>hi (Int.natAbs_eq_zero.mp z)
  exact(Nat.log2_lt this).mpr h
theorem z3h.ok{i j:Int}(h:z3h i j):IntMulOk i j:=by
 rcases h with h | ⟨h1,h2⟩
 ·exact h.ok
 ·unfold IntMulOk;have b1:=z0d h1;have b2:=z0d h2;have:Builtin.Int.intTooBig ((Builtin.Int.intBits i:Int)+(Builtin.Int.intBits j:Int))=false:=by
   unfold Builtin.Int.intTooBig;rw[decide_eq_false];have:((bitsLine:Nat):Int)=134217728:=by decide
   omega
  rw[this,Bool.and_false];exact Bool.false_ne_true
theorem z4E:OpR X (binaryOp .Mult) (rI z3h λi j=>.int (i*j)):=opI λ_ _ _ _ _ _ _ hc q=>mul_int q hc.ok
theorem z2O:OpR X (binaryOp .FloorDiv) (rI (λ_ j=>0<j/\j<2^200) λi j=>.int (i/j)):=opI λi j _ _ _ _ _ hc q=>by
 have h1:(0:Int)<j:=hc.1;have h2:j.natAbs<2^200:=by have:=hc.2;omega
 refine floordiv_int (by omega) (by rw[Int.fdiv_eq_ediv_of_nonneg i (by omega)];exact q) (.inl (PyProof.noPylong_of_log2 ?_));exact Nat.lt_of_lt_of_le ((Nat.log2_lt (by omega)).mpr h2) (by decide)
def binR(X:Cx):Operator->R2
 | .Add=>λx y H Q=>rI0 (λi j=>.int (i+j)) x y H Q\/rCat x y H Q
 | .Sub=>rI0 λi j=>.int (i - j)
 | .Mult=>λx y H Q=>rI z3h (λi j=>.int (i*j)) x y H Q\/rRep x y H Q
 | .Mod=>rI (λ_ j=>0<j) λi j=>.int (i%j)
 | .FloorDiv=>rI (λ_ j=>0<j/\j<2^200) λi j=>.int (i/j)
 | .LShift=>rI CPow λi j=>.int (i*2^j.toNat)
 | .RShift=>rI (λ_ j=>0<=j) λi j=>.int (i/2^j.toNat)
 | .BitAnd=>rI0 λi j=>.int (Builtin.bitAnd i j)
 | .BitOr=>rI0 λi j=>.int (Builtin.bitOr i j)
 | .BitXor=>rI0 λi j=>.int (Builtin.bitXor i j)
 | _=>λ_ _ _ _=>False
theorem z7R{op:Operator}:OpR X (binaryOp op) (binR X op):=by
 cases op with
 | Add=>exact z7M.or z8d
 | Sub=>exact z8h
 | Mult=>exact z4E.or z8i
 | Mod=>exact z8N
 | FloorDiv=>exact z2O
 | LShift=>exact z7v
 | RShift=>exact z8q
 | BitAnd=>exact z7h
 | BitOr=>exact z9O
 | BitXor=>exact z8C
 | MatMult=>exact λ_ _ _ _ _ _ _ _ _ _ _ _ h=>h.elim
 | Div=>exact λ_ _ _ _ _ _ _ _ _ _ _ _ h=>h.elim
 | Pow=>exact λ_ _ _ _ _ _ _ _ _ _ _ _ h=>h.elim
theorem z7j{O W:List Addr}{H0 H:Hp}{op:Operator}{x y:V}{dx dy:DV}{cx cy:Cl}{Q:VK}{σ:St}(h:binD op dx dy cx cy=some re)(hd:Hid O W H0 H)(gx:Got X.D O W H0 H dx cx x)(gy:Got X.D O W H0 H dy cy y)
  (p:Post X.D E σ O W H0 H Q re):binR X op x y H Q:=by
 unfold binD at h;split at h
 ·cases h;exact .inl (q6z hd gx gy (p _ H (Same.refl H) q0x))
 ·cases h;exact q6z hd gx gy (p _ H (Same.refl H) q0x)
 ·split at h
  ·rename_i m;cases h;refine .inl (z1G hd gx gy ?_ (p _ H (Same.refl H) q0x));unfold q4R at m;simp only[Bool.or_eq_true,Bool.and_eq_true,decide_eq_true_eq]at m;exact m
  ·cases h
 ·split at h
  ·rename_i m;cases h;exact z1G hd gx gy m (p _ H (Same.refl H) q0x)
  ·cases h
 ·split at h
  ·rename_i m;cases h;exact z1G hd gx gy m (p _ H (Same.refl H) q0x)
  ·cases h
 ·split at h
  ·rename_i m;cases h;exact z1G hd gx gy m (p _ H (Same.refl H) q0x)
  ·cases h
 ·split at h
  ·rename_i m;cases h;exact z1G hd gx gy m (p _ H (Same.refl H) q0x)
  ·cases h
 ·cases h;exact q6z hd gx gy (p _ H (Same.refl H) q0x)
 ·cases h;exact q6z hd gx gy (p _ H (Same.refl H) q0x)
 ·cases h;exact q6z hd gx gy (p _ H (Same.refl H) q0x)
 ·rename_i xs ys;split at h
  ·rename_i m;cases h;by_cases hw:cx ≠ .weak/\cy ≠ .weak
   ·obtain⟨l1,v1,e1,k1,r1⟩:=gx.items hd hw.1;obtain⟨l2,v2,e2,k2,r2⟩:=gy.items hd hw.2;refine .inr (⟨l1,l2,v1,v2,e1,e2,k1,k2,by rw[r1.length,r2.length];exact q1X m,λq hq=>p _ _ (q0r hq) ?_⟩);rw[z6F hw.1 hw.2];exact q1K hd hq (r1.append r2)
   ·obtain⟨l1,v1,e1,k1,r1⟩:=gx.lst hd;obtain⟨l2,v2,e2,k2,r2⟩:=gy.lst hd;refine .inr (⟨l1,l2,v1,v2,e1,e2,k1,k2,by rw[r1.length,r2.length];exact q1X m,λq hq=>p _ _ (q0r hq) ?_⟩);have:Cl.anew cx cy=.weak:=(by cases cx<;>cases cy<;>first | rfl | exact absurd ⟨(by intro z;cases z),(by intro z;cases z)⟩ hw);rw[this];exact q5B hd hq (r1.append r2)
  ·cases h
 ·rename_i xs k;split at h
  ·rename_i m;cases h;obtain⟨l1,v1,e1,k1,r1⟩:=gx.lstC hd;refine .inr ⟨l1,k,v1,e1,gy.int hd,k1,m.2.1,m.2.2,by rw[r1.length];exact q1X m.1,λq hq=>p _ _ (q0r hq) (q4a hd hq (r1.rep _))⟩
  ·cases h
 ·cases h
theorem z4z{op:Operator}(ha:∀q,ra=some q->PE X a (dE X.D E δ q))(hb:∀q,rb=some q->PE X b (dE X.D E δ q))(h:(Re.thn ra λx cx=>Re.thn rb λy cy=>binD op x y cx cy)=some re):PE X (.BinOp a op b pos) (dE X.D E δ re):=
 z0S (λ_ _=>z9A z7R) ha hb h λO W H0 H x y Q dx cx dy cy σ k hd gx gy p=>z7j k hd gx gy p
theorem z7Z{ds:List DV}{i:Int}:atD ds i=L2.atI ds i:=rfl
theorem RepL.atI{D:Dm}{H:Hp}{ds:List DV}{xs:List V}{i:Int}{d:DV}(h:RepL D H ds xs)(e:atD ds i=some d):∃v,L2.atI xs i=some v/\Rep D H d v:=by
 rw[z7Z]at e;unfold L2.atI at e ⊢;rw[h.length];cases q:ixN ds.length i with
 | none=>rw[q]at e;cases e
 | some j=>
  rw[q]at e;exact h.get e
theorem z9y{O W:List Addr}{H0 H:Hp}{x y:V}{dx dy:DV}{cx cy:Cl}{Q:VK}{σ:St}(h:((ixD dx dy).map λd=>Re.ok d cx.item)=some re)(hd:Hid O W H0 H)(gx:Got X.D O W H0 H dx cx x)(gy:Got X.D O W H0 H dy cy y)
  (p:Post X.D E σ O W H0 H Q re):rIx X.K x y H Q:=by
 obtain⟨d,h1,h2⟩:=Option.map_eq_some_iff.mp h;cases h2;unfold ixD at h1;split at h1
 ·rename_i ns i;obtain⟨a,e1,e2⟩:=q2d.mp (gx.all hd);obtain⟨n,h3,h4⟩:=Option.map_eq_some_iff.mp h1;cases h4;have q:L2.atI (ns.map V.int) i=some (.int n):=by
   unfold L2.atI;rw[List.length_map];have h3':((ixN ns.length i).bind λj=>ns[j]?)=some n:=h3;cases z:ixN ns.length i with
   | none=>rw[z]at h3';cases h3'
   | some j=>
    rw[z]at h3';have h5:ns[j]? = some n:=h3';show(ns.map V.int)[j]? = _;rw[List.getElem?_map,h5];rfl
  refine .inl ⟨a,_,i,_,e1,gy.int hd,e2.sq,q,p _ H (Same.refl H) ?_⟩;cases cx<;>exact q0x
 ·obtain⟨a,xs,e1,e2,e3⟩:=gx.lstC hd;obtain⟨v,q1,q2⟩:=e3.atI h1;exact .inl ⟨a,xs,_,v,e1,gy.int hd,SqL.of e2,q1,p _ H (Same.refl H) (Got.item q2)⟩
 ·obtain⟨a,xs,e1,e2,e3⟩:=gx.tupC hd;obtain⟨v,q1,q2⟩:=e3.atI h1;exact .inr (.inl ⟨a,xs,_,v,e1,gy.int hd,e2,q1,p _ H (Same.refl H) (Got.item q2)⟩)
 ·rename_i z i;obtain⟨e1,e2⟩:=gx.str hd;cases q:q2m z.cps.size i with
  | none=>rw[q]at h1;cases h1
  | some j=>
   rw[q]at h1;obtain⟨ch,h3,h4⟩:=Option.map_eq_some_iff.mp (show((z.cps[j]?).map λc=>DV.str ⟨#[c]⟩)=some d from h1);cases h4;refine .inr (.inr ⟨z,i,ch,e1,gy.int hd,e2,?_,p _ H (Same.refl H) ?_⟩)
   ·unfold L2.atI;have:ixN z.cps.toList.length i=some j:=by rw[Array.length_toList];exact q
    rw[this];show z.cps.toList[j]? = some ch;rw[Array.getElem?_toList];exact h3
   ·have one:Rep X.D (L2.wo (O++W) H) (.str ⟨#[ch]⟩) (.str ⟨#[ch]⟩):=q2X.mpr ⟨rfl,by show(1:Nat)<=sizeLine;decide⟩;have one':Rep X.D (L2.wo O H) (.str ⟨#[ch]⟩) (.str ⟨#[ch]⟩):=q2X.mpr ⟨rfl,by show(1:Nat)<=sizeLine;decide⟩;cases cx<;>first | exact one | exact one'
 ·cases h1
theorem z8x(ha:∀q,ra=some q->PE X a (dE X.D E δ q))(hb:∀q,rb=some q->PE X b (dE X.D E δ q))(hs:q5v b=false)(h:(Re.thn ra λx cx=>Re.thn rb λy _=>(ixD x y).map λd=>.ok d cx.item)=some re):PE X (.Subscript a b pos) (dE X.D E δ re):=
 z0S (λ_ _ h1 h2=>z9g z7t h1 h2 (by cases b<;>first | (intro _ _;rfl) | cases hs)) ha hb h λO W H0 H x y Q dx cx dy cy σ k hd gx gy p=>z9y k hd gx gy p
theorem q5S(n d:Nat)(o:Option Int):slIx n d o=HT.sIx n d o:=by cases o<;>rfl
theorem RepL.cut{D:Dm}{H:Hp}{ds:List DV}{xs:List V}(h:RepL D H ds xs)(lo hi:Option Int):RepL D H (cutD ds lo hi) (cutV xs lo hi):=by
 unfold cutD cutV;rw[q5S,q5S,←h.length];exact(h.drop _).take _
theorem z5g{O W:List Addr}{H0 H:Hp}{x:V}{dx:DV}{cx:Cl}{Q:VK}{σ:St}{lo hi:Option Int}(h:((slD dx lo hi).map λd=>Re.ok d (slCl dx cx))=some re)(hd:Hid O W H0 H)(gx:Got X.D O W H0 H dx cx x)
  (p:Post X.D E σ O W H0 H Q re):rSlL X.K x lo hi H Q\/rSlT X.K x lo hi H Q:=by
 obtain⟨d,h1,h2⟩:=Option.map_eq_some_iff.mp h;cases h2;unfold slD at h1;split at h1
 ·rename_i ns;cases h1;obtain⟨a,e1,e2⟩:=q2d.mp (gx.all hd);exact .inl ⟨a,_,e1,e2.sq,λq hq=>p _ _ (q0r hq) (q1K hd hq ((q1O ns).cut lo hi))⟩
 ·cases h1;obtain⟨a,xs,e1,e2,e3⟩:=gx.lstC hd;exact .inl ⟨a,xs,e1,SqL.of e2,λq hq=>p _ _ (q0r hq) (q4a hd hq (e3.cut lo hi))⟩
 ·rename_i ds;split at h1
  ·cases h1
  ·rename_i m;cases h1;obtain⟨a,xs,e1,e2,e3⟩:=gx.tupC hd;refine .inr ⟨a,xs,e1,e2,?_,λq hq=>p _ _ (q0r hq) (q7Y hd hq (e3.cut lo hi))⟩;rw[q5S,q5S,←e3.length]at m;exact m
 ·cases h1
theorem q2N:SlR X (λx lo hi H Q=>rSlL X.K x lo hi H Q\/rSlT X.K x lo hi H Q):=z5X.or z7s
theorem q6S{i:Int}{cl:Cl}(h:PE X b (dE X.D E δ (.ok (.int i) cl))):PO X (some b) (λσ H Q=>∃O W,RSt X.D H σ δ O W/\∀H',Same H H'->Q (some i) H'):=λpins s σ H Q I ⟨O,W,R,p⟩=>
 z0F h pins s σ H Q I ⟨O,W,R,λv H' s1 g=>⟨i,g.int (R.hid.mono s1),p H' s1⟩⟩
theorem z2P{c:Str}(h:PE X b (dE X.D E δ (.ex c))):PO X (some b) (λσ H Q=>∃O W,RSt X.D H σ δ O W/\Post X.D E σ O W H H (λ_ _=>False) (.ex c)):=λpins s σ H Q I ⟨O,W,R,p⟩=>
 z0F h pins s σ H Q I ⟨O,W,R,p⟩
theorem q3k{o:Option Expr}:PO X o (λ_ _ _=>False):=λ_ _ _ _ _ _ h=>h.elim
theorem z6z{p2:Pos}(ha:∀q,ra=some q->PE X a (dE X.D E δ q))(hb:∀q,rb=some q->PE X b (dE X.D E δ q))(h:(Re.thn ra λx cx=>Re.thn rb λl _=>match l with
  | .int l=>(slD x (some l) none).map λd=>.ok d (slCl x cx) | _=>none)=some re):PE X (.Subscript a (.Slice (some b) none none p2) pos) (dE X.D E δ re):=by
 cases hra:ra with
 | none=>rw[hra]at h;cases h
 | some q=>
  rw[hra]at h;have A:=ha q hra;cases q with
  | ex c=>cases h;exact(q1l q2N A q3k q3v).weak λσ H Q ⟨O,W,R,p⟩=>⟨O,W,R,p⟩
  | ok dx cx=>
   cases hrb:rb with
   | none=>rw[hrb]at h;cases h
   | some q=>
    rw[hrb]at h;have B:=hb q hrb;cases q with
    | ex c=>cases h;exact(q1l q2N A (z2P B) q3v).weak λσ H Q ⟨O,W,R,p⟩=>⟨O,W,R,λx H1 s1 g1=>⟨O,W,R.mono s1,λH' C m s=>p H' C m (s1.trans s)⟩⟩
    | ok dy cy=>
     have h':(match(generalizing:=false) dy with | .int l=>(slD dx (some l) none).map λd=>Re.ok d (slCl dx cx) | _=>none)=some re:=h;split at h'
     ·rename_i l;exact(q1l q2N A (q6S B) q3v).weak λσ H Q ⟨O,W,R,p⟩=>⟨O,W,R,λx H1 s1 g1=>⟨O,W,R.mono s1,λH2 s2=>z5g h' ((R.hid.mono s1).mono s2) (g1.mono s2) (p.step (s1.trans s2))⟩⟩
     ·cases h'
theorem z5u{p2:Pos}(ha:∀q,ra=some q->PE X a (dE X.D E δ q))(hb:∀q,rb=some q->PE X b (dE X.D E δ q))(h:(Re.thn ra λx cx=>Re.thn rb λl _=>match l with
  | .int l=>(slD x none (some l)).map λd=>.ok d (slCl x cx) | _=>none)=some re):PE X (.Subscript a (.Slice none (some b) none p2) pos) (dE X.D E δ re):=by
 cases hra:ra with
 | none=>rw[hra]at h;cases h
 | some q=>
  rw[hra]at h;have A:=ha q hra;cases q with
  | ex c=>cases h;exact(q1l q2N A q3v q3k).weak λσ H Q ⟨O,W,R,p⟩=>⟨O,W,R,p⟩
  | ok dx cx=>
   cases hrb:rb with
   | none=>rw[hrb]at h;cases h
   | some q=>
    rw[hrb]at h;have B:=hb q hrb;cases q with
    | ex c=>cases h;exact(q1l q2N A q3v (z2P B)).weak λσ H Q ⟨O,W,R,p⟩=>⟨O,W,R,λx H1 s1 g1=>⟨O,W,R.mono s1,λH' C m s=>p H' C m (s1.trans s)⟩⟩
    | ok dy cy=>
     have h':(match(generalizing:=false) dy with | .int l=>(slD dx none (some l)).map λd=>Re.ok d (slCl dx cx) | _=>none)=some re:=h;split at h'
     ·rename_i l;exact(q1l q2N A q3v (q6S B)).weak λσ H Q ⟨O,W,R,p⟩=>⟨O,W,R,λx H1 s1 g1=>⟨O,W,R.mono s1,λH2 s2=>z5g h' ((R.hid.mono s1).mono s2) (g1.mono s2) (p.step (s1.trans s2))⟩⟩
     ·cases h'
theorem z7J{p2:Pos}{rc:Option Re}(ha:∀q,ra=some q->PE X a (dE X.D E δ q))(hb:∀q,rb=some q->PE X b (dE X.D E δ q))(hc:∀q,rc=some q->PE X c (dE X.D E δ q))(h:(Re.thn ra λx cx=>Re.thn rb λl _=>match l with
  | .int l=>Re.thn rc λu _=>(match u with
   | .int u=>(slD x (some l) (some u)).map λd=>.ok d (slCl x cx) | _=>none) | _=>none)=some re):PE X (.Subscript a (.Slice (some b) (some c) none p2) pos) (dE X.D E δ re):=by
 cases hra:ra with
 | none=>rw[hra]at h;cases h
 | some q=>
  rw[hra]at h;have A:=ha q hra;cases q with
  | ex c=>cases h;exact(q1l q2N A q3k q3k).weak λσ H Q ⟨O,W,R,p⟩=>⟨O,W,R,p⟩
  | ok dx cx=>
   cases hrb:rb with
   | none=>rw[hrb]at h;cases h
   | some q=>
    rw[hrb]at h;have B:=hb q hrb;cases q with
    | ex c=>cases h;exact(q1l q2N A (z2P B) q3k).weak λσ H Q ⟨O,W,R,p⟩=>⟨O,W,R,λx H1 s1 g1=>⟨O,W,R.mono s1,λH' C m s=>p H' C m (s1.trans s)⟩⟩
    | ok dy cy=>
     have h':(match(generalizing:=false) dy with | .int l=>Re.thn rc λu _=>(match u with | .int u=>(slD dx (some l) (some u)).map λd=>Re.ok d (slCl dx cx) | _=>none) | _=>none)=some re:=h;split at h'
     ·rename_i l;cases hrc:rc with
      | none=>rw[hrc]at h';cases h'
      | some q=>
       rw[hrc]at h';have C:=hc q hrc;cases q with
       | ex c'=>
        cases h';exact(q1l q2N A (q6S B) (z2P C)).weak λσ H Q ⟨O,W,R,p⟩=>⟨O,W,R,λx H1 s1 g1=>⟨O,W,R.mono s1,λH2 s2=>⟨O,W,(R.mono s1).mono s2,λH' C m s=>p H' C m (s1.trans (s2.trans s))⟩⟩⟩
       | ok dz cz=>
        have h2:(match(generalizing:=false) dz with | .int u=>(slD dx (some l) (some u)).map λd=>Re.ok d (slCl dx cx) | _=>none)=some re:=h';split at h2
        ·rename_i u;exact(q1l q2N A (q6S B) (q6S C)).weak λσ H Q ⟨O,W,R,p⟩=>⟨O,W,R,λx H1 s1 g1=>⟨O,W,R.mono s1,λH2 s2=>⟨O,W,(R.mono s1).mono s2,λH3 s3=>z5g h2 (((R.hid.mono s1).mono s2).mono s3) ((g1.mono s2).mono s3) (p.step (s1.trans (s2.trans s3)))⟩⟩⟩
        ·cases h2
     ·cases h'
end
end L2
end
noncomputable section
namespace L2
open PySem PySem.Spec PyProof.Rows
mutual
def toP:DV->PyData
 | .non=>.none | .bl b=>.bool b | .int i=>.int i | .str x=>.str x
 | .tup ds=>.tuple (toPs ds) | .lst ds=>.list (toPs ds)
 | _=>.none
def toPs:List DV->List PyData
 | []=>[]
 | d::r=>toP d::toPs r
end
mutual
theorem q4C:∀(n m:Nat) (d e:DV),d.plain n=true->e.plain m=true->PyData.eqv (toP d) (toP e)=deq d e
 | n,m,.non,e,_,h=>by cases e<;>first | (cases m<;>simp[DV.plain]at h;done) | (simp only[toP,PyData.eqv,deq])
 | n,m,.bl _,e,_,h=>by cases e<;>first | (cases m<;>simp[DV.plain]at h;done) | (simp only[toP,PyData.eqv,deq])
 | n,m,.int _,e,_,h=>by cases e<;>first | (cases m<;>simp[DV.plain]at h;done) | (simp only[toP,PyData.eqv,deq])
 | n,m,.str x,e,_,h=>by
  cases e with
  | str y=>simp only[toP,PyData.eqv,deq];rfl
  | non=>simp only[toP,PyData.eqv,deq]
  | bl _=>simp only[toP,PyData.eqv,deq]
  | int _=>simp only[toP,PyData.eqv,deq]
  | tup _=>simp only[toP,PyData.eqv,deq]
  | lst _=>simp only[toP,PyData.eqv,deq]
  | dct _ _=>cases m<;>simp[DV.plain]at h
  | exc _=>cases m<;>simp[DV.plain]at h
  | fn _=>cases m<;>simp[DV.plain]at h
  | scr _=>cases m<;>simp[DV.plain]at h
 | 0,_,.tup _,_,h,_=>by simp[DV.plain]at h
 | 0,_,.lst _,_,h,_=>by simp[DV.plain]at h
 | n+1,m,.tup ds,e,h,h'=>by
  cases e with
  | tup es=>
   cases m with
   | zero=>simp[DV.plain]at h'
   | succ m=>
    simp only[toP,PyData.eqv,deq];exact q5x n m ds es (by simpa[DV.plain]using h) (by simpa[DV.plain]using h')
  | non=>simp only[toP,PyData.eqv,deq]
  | bl _=>simp only[toP,PyData.eqv,deq]
  | int _=>simp only[toP,PyData.eqv,deq]
  | str _=>simp only[toP,PyData.eqv,deq]
  | lst _=>simp only[toP,PyData.eqv,deq]
  | dct _ _=>cases m<;>simp[DV.plain]at h'
  | exc _=>cases m<;>simp[DV.plain]at h'
  | fn _=>cases m<;>simp[DV.plain]at h'
  | scr _=>cases m<;>simp[DV.plain]at h'
 | n+1,m,.lst ds,e,h,h'=>by
  cases e with
  | lst es=>
   cases m with
   | zero=>simp[DV.plain]at h'
   | succ m=>
    simp only[toP,PyData.eqv,deq];exact q5x n m ds es (by simpa[DV.plain]using h) (by simpa[DV.plain]using h')
  | non=>simp only[toP,PyData.eqv,deq]
  | bl _=>simp only[toP,PyData.eqv,deq]
  | int _=>simp only[toP,PyData.eqv,deq]
  | str _=>simp only[toP,PyData.eqv,deq]
  | tup _=>simp only[toP,PyData.eqv,deq]
  | dct _ _=>cases m<;>simp[DV.plain]at h'
  | exc _=>cases m<;>simp[DV.plain]at h'
  | fn _=>cases m<;>simp[DV.plain]at h'
  | scr _=>cases m<;>simp[DV.plain]at h'
 | n,_,.dct _ _,_,h,_=>by cases n<;>simp[DV.plain]at h
 | n,_,.exc _,_,h,_=>by cases n<;>simp[DV.plain]at h
 | n,_,.fn _,_,h,_=>by cases n<;>simp[DV.plain]at h
 | n,_,.scr _,_,h,_=>by cases n<;>simp[DV.plain]at h
theorem q5x:∀(n m:Nat) (ds es:List DV),DV.plains n ds=true->DV.plains m es=true->PyData.eqvAll (toPs ds) (toPs es)=deqs ds es
 | _,_,[],[],_,_=>by simp only[toPs,PyData.eqvAll,deqs]
 | _,_,[],_::_,_,_=>by simp only[toPs,PyData.eqvAll,deqs]
 | _,_,_::_,[],_,_=>by simp only[toPs,PyData.eqvAll,deqs]
 | n,m,d::ds,e::es,h,h'=>by simp only[DV.plains,Bool.and_eq_true]at h h';simp only[toPs,PyData.eqvAll,deqs,q4C n m d e h.1 h'.1,q5x n m ds es h.2 h'.2]
end
mutual
theorem q4n:∀(n:Nat) (d:DV),d.plain n=true->(toP d).canLay0=true/\(toP d).depth<=n
 | n,.non,_=>by simp[toP,PyData.canLay0,PyData.depth]
 | n,.bl _,_=>by simp[toP,PyData.canLay0,PyData.depth]
 | n,.int _,_=>by simp[toP,PyData.canLay0,PyData.depth]
 | n,.str x,h=>by
  have h':(x.cps.all (· < 0x110000))=true:=by cases n<;>simpa[DV.plain]using h
  simp only[toP,PyData.canLay0,PyData.depth];exact⟨h',Nat.zero_le _⟩
 | 0,.tup _,h=>by simp[DV.plain]at h
 | 0,.lst _,h=>by simp[DV.plain]at h
 | n+1,.tup ds,h=>by have q:=q2F n ds (by simpa[DV.plain]using h);simp only[toP,PyData.canLay0,PyData.depth,q.1,true_and];have:=q.2;omega
 | n+1,.lst ds,h=>by have q:=q2F n ds (by simpa[DV.plain]using h);simp only[toP,PyData.canLay0,PyData.depth,q.1,true_and];have:=q.2;omega
 | n,.dct _ _,h=>by cases n<;>simp[DV.plain]at h
 | n,.exc _,h=>by cases n<;>simp[DV.plain]at h
 | n,.fn _,h=>by cases n<;>simp[DV.plain]at h
 | n,.scr _,h=>by cases n<;>simp[DV.plain]at h
theorem q2F:∀(n:Nat) (ds:List DV),DV.plains n ds=true->PyData.canLayAll0 (toPs ds)=true/\PyData.depthAll (toPs ds)<=n
 | _,[],_=>by simp[toPs,PyData.canLayAll0,PyData.depthAll]
 | n,d::ds,h=>by simp only[DV.plains,Bool.and_eq_true]at h;have q:=q4n n d h.1;have q':=q2F n ds h.2;simp only[toPs,PyData.canLayAll0,PyData.depthAll,q.1,q'.1,Bool.and_self,true_and];have a:=q.2;have b:=q'.2;omega
end
section
variable {X:Cx} {pins:List (Addr×Obj)} {σ:St} {H:Hp} {s:Shared}
mutual
theorem q1d(I:Inv X pins σ H s):∀(n:Nat) {d:DV} {v:V} {u:Value},d.plain n=true->Rep X.D H d v->RelV v u->∃as,Reads s.heap u (toP d) as
 | _,.non,_,_,_,h,r=>by rw[q5W.mp h]at r;cases r;exact⟨_,Reads.none⟩
 | _,.bl b,_,_,_,h,r=>by rw[q4y.mp h]at r;cases r;exact⟨_,Reads.bool b⟩
 | _,.int i,_,_,_,h,r=>by rw[q0U.mp h]at r;obtain⟨t,rfl⟩:=r;exact⟨_,Reads.int i t⟩
 | _,.str x,_,_,_,h,r=>by rw[(q2X.mp h).1]at r;obtain⟨t,rfl⟩:=r;exact⟨_,Reads.str x t⟩
 | 0,.tup _,_,_,p,_,_=>by simp[DV.plain]at p
 | 0,.lst _,_,_,p,_,_=>by simp[DV.plain]at p
 | n+1,.tup ds,_,_,p,h,r=>by obtain⟨a,xs,e1,e2,e3⟩:=q0I.mp h;rw[e1]at r;cases r;obtain⟨its,rv,⟨o,h1,h2,k,h3⟩,_⟩:=I.tuple e2;obtain⟨as,q⟩:=q4F I n (by simpa[DV.plain]using p) e3 rv;rw[toP];exact⟨as,Reads.tuple h1 h2 h3 (by simpa using q)⟩
 | n+1,.lst ds,_,_,p,h,r=>by obtain⟨a,xs,e1,e2,e3⟩:=q0z.mp h;rw[e1]at r;cases r;obtain⟨_,its,k,rv,_,h1⟩:=I.lstM e2;obtain⟨as,q⟩:=q4F I n (by simpa[DV.plain]using p) e3 rv;rw[toP];exact⟨_,Reads.list h1 rfl rfl (by simpa using q)⟩
 | n,.dct _ _,_,_,h,_,_=>by cases n<;>simp[DV.plain]at h
 | n,.exc _,_,_,h,_,_=>by cases n<;>simp[DV.plain]at h
 | n,.fn _,_,_,h,_,_=>by cases n<;>simp[DV.plain]at h
 | n,.scr _,_,_,h,_,_=>by cases n<;>simp[DV.plain]at h
theorem q4F(I:Inv X pins σ H s):∀(n:Nat) {ds:List DV} {vs:List V} {us:List Value},DV.plains n ds=true->RepL X.D H ds vs->Vals vs us->∃as,ReadsAll s.heap us (toPs ds) as
 | _,[],_,_,_,h,r=>by rw[q0w.mp h]at r;cases r;exact⟨_,ReadsAll.nil⟩
 | n,d::ds,_,_,p,h,r=>by
  simp only[DV.plains,Bool.and_eq_true]at p;obtain⟨v,vs,e1,e2,e3⟩:=q0j.mp h;subst e1;cases r with
  | cons r1 r2=>
   obtain⟨as,q⟩:=q1d I n p.1 e2 r1;obtain⟨bs,q'⟩:=q4F I n p.2 e3 r2;rw[toPs];exact⟨_,ReadsAll.cons q q'⟩
end
theorem q3q{d:DV}(h:d.plain 60=true):SeqAt.shaped (toP d)=true:=by
 have q:=q4n 60 d h;unfold SeqAt.shaped;rw[q.1,Bool.true_and];exact decide_eq_true (Nat.le_trans q.2 (by decide))
theorem z0L{d:DV}(h:d.plain 60=true):∀(ds:List DV),DV.plains 60 ds=true->((toPs ds).any λy=>PyData.eqv y (toP d))=ds.any λx=>deq x d
 | [],_=>rfl
 | e::ds,p=>by simp only[DV.plains,Bool.and_eq_true]at p;rw[toPs,List.any_cons,List.any_cons,q4C 60 60 e d p.1 h,z0L h ds p.2]
end
section
variable {X:Cx} {E:St->XK} {δ:List Sv} {a b c e:Expr} {pos:Pos} {ra rb rc:Option Re} {re:Re}
def cmpR(X:Cx)(op:CmpOp):R2:=λx y H Q=>∃dx dy k,cmpD op dx dy=some k/\Rep X.D H dx x/\Rep X.D H dy y/\Q (.bl k) H
theorem q5i{op:CmpOp}(hu:X.A.units+64<cLine):OpR X (compareOp op) (cmpR X op):=by
 intro pins s σ H x y v u Q I rx ry h;obtain⟨dx,dy,k,hk,r1,r2,q⟩:=h;have fin:∀{k':Bool},k'=k->EP X pins σ Q (.bool k') s:=λ{k'} e=>⟨.bl k',H,I,rfl,by rw[e];exact q⟩
 unfold cmpD at hk;split at hk
 ·cases hk;exact z9U pins s σ H x y v u Q I rx ry ⟨_,_,q0U.mp r1,q0U.mp r2,q⟩
 ·cases hk;exact z9q pins s σ H x y v u Q I rx ry ⟨_,_,q0U.mp r1,q0U.mp r2,q⟩
 ·cases hk;exact z9V pins s σ H x y v u Q I rx ry ⟨_,_,q0U.mp r1,q0U.mp r2,q⟩
 ·split at hk
  ·rename_i p;rw[Bool.and_eq_true]at p;cases hk;obtain⟨as,q1⟩:=q1d I 60 p.1 r1 rx;obtain⟨bs,q2⟩:=q1d I 60 p.2 r2 ry;exact eq_dataH q1 q2 (q3q p.1) (q3q p.2) hu (fin (q4C 60 60 _ _ p.1 p.2))
  ·cases hk
 ·split at hk
  ·rename_i p;rw[Bool.and_eq_true]at p;cases hk;obtain⟨as,q1⟩:=q1d I 60 p.1 r1 rx;obtain⟨bs,q2⟩:=q1d I 60 p.2 r2 ry;exact ne_dataH q1 q2 (q3q p.1) (q3q p.2) hu (fin (by rw[q4C 60 60 _ _ p.1 p.2]))
  ·cases hk
 ·rename_i ds;split at hk
  ·rename_i p;rw[Bool.and_eq_true]at p;cases hk;obtain⟨as,q1⟩:=q1d I 60 p.1 r1 rx;obtain⟨bs,q2⟩:=q1d I 61 (d:=.lst ds) (by simpa[DV.plain]using p.2) r2 ry;rw[toP]at q2;have l1:=q4n 60 _ p.1;have l2:=q2F 60 ds p.2;have l3:=l1.2;exact SeqAt.notIn_list_reads q2 q1 l2.1 l1.1 (by omega) (fin (by rw[z0L p.1 ds p.2]))
  ·cases hk
 ·cases hk
theorem q4O{op:CmpOp}{b:Expr}(h:q2H b=false):behindInMarks op b=false:=by
 cases b<;>first | rfl | cases h
theorem z6r{op:CmpOp}(hu:X.A.units+64<cLine)(ha:∀q,ra=some q->PE X a (dE X.D E δ q))(hb:∀q,rb=some q->PE X b (dE X.D E δ q))(hs:q2H b=false)
  (h:(Re.thn ra λx _=>Re.thn rb λy _=>(cmpD op x y).map λk=>.ok (.bl k) .strong)=some re):PE X (.Compare a [op] [b] pos) (dE X.D E δ re):=
 z0S (λ_ _ h1 h2=>z5L (q5i hu) h1 h2 (q4O hs)) ha hb h λO W H0 H x y Q dx cx dy cy σ k hd gx gy p=>by obtain⟨k',e1,e2⟩:=Option.map_eq_some_iff.mp k;cases e2;exact⟨dx,dy,k',e1,gx.all hd,gy.all hd,p _ H (Same.refl H) q3F⟩
theorem q9Q{op:CmpOp}(ha:∀q,ra=some q->PE X a (dE X.D E δ q))(hb:∀q,rb=some q->PE X b (dE X.D E δ q))
  (h:(Re.thn ra λx _=>Re.thn rb λy _=>(cmpD op x y).map λk=>.ok (.bl k) .strong)=some re):∃ta tb,PE X a ta/\PE X b tb/\∀σ H Q,dE X.D E δ re σ H Q->tOp (cmpR X op) ta tb σ H Q:=
 q8y ha hb h λO W H0 H x y Q dx cx dy cy σ k hd gx gy p=>by obtain⟨k',e1,e2⟩:=Option.map_eq_some_iff.mp k;cases e2;exact⟨dx,dy,k',e1,gx.all hd,gy.all hd,p _ H (Same.refl H) q3F⟩
theorem z3Y{r:Rt}{σ:St}{H:Hp}{Q:Bool->Hp->Prop}(hb:∀d c,re=.ok d c->∃k,d=.bl k)(h:tstD (some re)=some r)(q:dT X.D E δ r σ H Q):dE X.D E δ re σ H (λx H'=>∃k,x=.bl k/\Q k H'):=by
 obtain⟨O,W,R,p⟩:=q;cases re with
 | ex c=>cases h;exact⟨O,W,R,p⟩
 | ok d c=>
  obtain⟨k,rfl⟩:=hb d c rfl;cases h;exact⟨O,W,R,λv H' s g=>⟨k,g.bl (R.hid.mono s),p H' s⟩⟩
theorem z8U{op:CmpOp}(h:(Re.thn ra λx _=>Re.thn rb λy _=>(cmpD op x y).map λk=>.ok (.bl k) .strong)=some re):∀d c,re=.ok d c->∃k,d=.bl k:=by
 intro d c e;subst e;cases ra with
 | none=>cases h
 | some q=>
  cases q with
  | ex c=>cases h
  | ok d c=>
   cases rb with
   | none=>cases h
   | some q=>
    cases q with
    | ex c=>cases h
    | ok d' c'=>
     obtain⟨k,_,e⟩:=Option.map_eq_some_iff.mp (show((cmpD op d d').map λk=>Re.ok (.bl k) .strong)=_ from h);cases e;exact⟨k,rfl⟩
theorem z2i{op:CmpOp}{r:Rt}(hu:X.A.units+64<cLine)(ha:∀q,ra=some q->PE X a (dE X.D E δ q))(hb:∀q,rb=some q->PE X b (dE X.D E δ q))(hs:q2H b=false)
  (h:tstD (Re.thn ra λx _=>Re.thn rb λy _=>(cmpD op x y).map λk=>.ok (.bl k) .strong)=some r):PT X (.Compare a [op] [b] pos) (dT X.D E δ r):=by
 cases q:(Re.thn ra λx _=>Re.thn rb λy _=>(cmpD op x y).map λk=>Re.ok (.bl k) .strong)with
 | none=>rw[q]at h;cases h
 | some re=>
  rw[q]at h;obtain⟨ta,tb,A,B,w⟩:=q9Q ha hb q;exact(z5x (q5i hu) A B (q4O hs)).weak λσ H Q z=>w σ H _ (z3Y (z8U q) h z)
theorem q3H{op op':CmpOp}{b c:Expr}(h:q2H c=false):lastMarks [op,op'] [b,c]=false:=by
 show behindInMarks op' c=false;exact q4O h
theorem q4N{op op':CmpOp}(ha:∀q,ra=some q->PE X a (dE X.D E δ q))(hb:∀q,rb=some q->PE X b (dE X.D E δ q))(hc:∀q,rc=some q->PE X c (dE X.D E δ q))
  (h:(Re.thn ra λx _=>Re.thn rb λy _=>match cmpD op x y with
   | none=>none
   | some false=>some (.ok (.bl false) .strong)
   | some true=>Re.thn rc λz _=>(cmpD op' y z).map λk=>.ok (.bl k) .strong)=some re):∃ta tb tc,PE X a ta/\PE X b tb/\PE X c tc/\(∀σ H Q,dE X.D E δ re σ H Q->z1l (cmpR X op) (cmpR X op') ta tb tc σ H Q)/\∀d cl,re=.ok d cl->∃k,d=.bl k:=by
 cases hra:ra with
 | none=>rw[hra]at h;cases h
 | some q=>
  rw[hra]at h;have A:=ha q hra;cases q with
  | ex c=>cases h;exact⟨_,_,_,A,q1q,q1q,λσ H Q ⟨O,W,R,p⟩=>⟨O,W,R,p⟩,λd cl z=>nomatch z⟩
  | ok dx cx=>
   cases hrb:rb with
   | none=>rw[hrb]at h;cases h
   | some q=>
    rw[hrb]at h;have B:=hb q hrb;cases q with
    | ex c=>cases h;exact⟨_,_,_,A,B,q1q,λσ H Q ⟨O,W,R,p⟩=>⟨O,W,R,λx H1 s1 g1=>⟨O,W,R.mono s1,λH' C m s=>p H' C m (s1.trans s)⟩⟩,λd cl z=>nomatch z⟩
    | ok dy cy=>
     have h':(match(generalizing:=false) cmpD op dx dy with
      | none=>none
      | some false=>some (Re.ok (.bl false) .strong)
      | some true=>Re.thn rc λz _=>(cmpD op' dy z).map λk=>.ok (.bl k) .strong)=some re:=h
     split at h'
     ·cases h'
     ·rename_i e1;cases h';exact⟨_,_,_,A,B,q1q,λσ H Q ⟨O,W,R,p⟩=>⟨O,W,R,λx H1 s1 g1=>⟨O,W,R.mono s1,λy H2 s2 g2=>
       ⟨dx,dy,false,e1,(g1.mono s2).all ((R.hid.mono s1).mono s2),g2.all ((R.mono s1).hid.mono s2),false,rfl,by rw[if_neg Bool.false_ne_true];exact p _ _ (s1.trans s2) q3F⟩⟩⟩,λd cl z=>by cases z;exact⟨_,rfl⟩⟩
     ·rename_i e1;cases hrc:rc with
      | none=>rw[hrc]at h';cases h'
      | some q=>
       rw[hrc]at h';have C:=hc q hrc;cases q with
       | ex c'=>
        cases h';exact⟨_,_,_,A,B,C,λσ H Q ⟨O,W,R,p⟩=>⟨O,W,R,λx H1 s1 g1=>⟨O,W,R.mono s1,λy H2 s2 g2=>
         ⟨dx,dy,true,e1,(g1.mono s2).all ((R.hid.mono s1).mono s2),g2.all ((R.mono s1).hid.mono s2),true,rfl,by rw[if_pos rfl];exact⟨O,W,(R.mono s1).mono s2,λH' C m s=>p H' C m (s1.trans (s2.trans s))⟩⟩⟩⟩,λd cl z=>nomatch z⟩
       | ok dz cz=>
        obtain⟨k,e2,e3⟩:=Option.map_eq_some_iff.mp (show((cmpD op' dy dz).map λk=>Re.ok (.bl k) .strong)=some re from h');cases e3;exact⟨_,_,_,A,B,C,λσ H Q ⟨O,W,R,p⟩=>⟨O,W,R,λx H1 s1 g1=>⟨O,W,R.mono s1,λy H2 s2 g2=>
         ⟨dx,dy,true,e1,(g1.mono s2).all ((R.hid.mono s1).mono s2),g2.all ((R.mono s1).hid.mono s2),true,rfl,by
          rw[if_pos rfl];exact⟨O,W,(R.mono s1).mono s2,λz H3 s3 g3=>⟨dy,dz,k,e2,(g2.mono s3).all (((R.mono s1).hid.mono s2).mono s3),g3.all (((R.mono s1).mono s2).hid.mono s3),p _ _ (s1.trans (s2.trans s3)) q3F⟩⟩⟩⟩⟩,λd cl z=>by cases z;exact⟨_,rfl⟩⟩
theorem q9H{op op':CmpOp}(hu:X.A.units+64<cLine)(ha:∀q,ra=some q->PE X a (dE X.D E δ q))(hb:∀q,rb=some q->PE X b (dE X.D E δ q))(hc:∀q,rc=some q->PE X c (dE X.D E δ q))(hs:q2H c=false)
  (h:(Re.thn ra λx _=>Re.thn rb λy _=>match cmpD op x y with
   | none=>none
   | some false=>some (.ok (.bl false) .strong)
   | some true=>Re.thn rc λz _=>(cmpD op' y z).map λk=>.ok (.bl k) .strong)=some re):PE X (.Compare a [op,op'] [b,c] pos) (dE X.D E δ re):=by
 obtain⟨ta,tb,tc,A,B,C,w,_⟩:=q4N ha hb hc h;exact(z2T (q5i hu) (q5i hu) A B C (q3H hs)).weak w
theorem q9x{op op':CmpOp}{r:Rt}(hu:X.A.units+64<cLine)(ha:∀q,ra=some q->PE X a (dE X.D E δ q))(hb:∀q,rb=some q->PE X b (dE X.D E δ q))(hc:∀q,rc=some q->PE X c (dE X.D E δ q))(hs:q2H c=false)
  (h:tstD (Re.thn ra λx _=>Re.thn rb λy _=>match cmpD op x y with
   | none=>none
   | some false=>some (.ok (.bl false) .strong)
   | some true=>Re.thn rc λz _=>(cmpD op' y z).map λk=>.ok (.bl k) .strong)=some r):PT X (.Compare a [op,op'] [b,c] pos) (dT X.D E δ r):=by
 cases q:(Re.thn ra λx _=>Re.thn rb λy _=>match cmpD op x y with
   | none=>none
   | some false=>some (Re.ok (.bl false) .strong)
   | some true=>Re.thn rc λz _=>(cmpD op' y z).map λk=>.ok (.bl k) .strong)with
 | none=>rw[q]at h;cases h
 | some re=>
  rw[q]at h;obtain⟨ta,tb,tc,A,B,C,w,hbl⟩:=q4N ha hb hc q;exact(z2t (q5i hu) (q5i hu) A B C (q3H hs)).weak λσ H Q z=>w σ H _ (z3Y hbl h z)
end
section
variable {X:Cx} {E:St->XK} {δ:List Sv} {a b c e:Expr} {es:List Expr} {pos:Pos} {ra:Option Re} {rt ru:Option Rt} {r:Rt} {re:Re}
theorem q5f{D:Dm}{H:Hp}{d:DV}{v:V}{k:Bool}(h:q1Z d=some k)(r:Rep D H d v):TruV D.K v H k:=by
 cases d with
 | non=>cases h;rw[q5W.mp r];rfl
 | bl b=>cases h;rw[q4y.mp r];rfl
 | int i=>cases h;rw[q0U.mp r];rfl
 | str x=>
  cases h;obtain⟨e1,e2⟩:=q2X.mp r;rw[e1];refine⟨e2,?_⟩;show(x.cps.size != 0)=(((x.cps.size:Nat):Int) != 0);cases x.cps.size with
  | zero=>rfl
  | succ n=>simp only[bne,Nat.add_eq_zero_iff];rw[Bool.eq_iff_iff];simp;omega
 | tup ds=>
  cases h;obtain⟨a,xs,e1,e2,e3⟩:=q0I.mp r;rw[e1];refine .inr (.inl ⟨xs,e2,?_⟩);have:=e3.length;cases xs<;>cases ds<;>first | rfl | cases this
 | lst ds=>
  cases h;obtain⟨a,xs,e1,e2,e3⟩:=q0z.mp r;rw[e1];refine .inl ⟨xs,SqL.of e2,?_⟩;have:=e3.length;cases xs<;>cases ds<;>first | rfl | cases this
 | dct _ _=>cases h
 | exc _=>cases h
 | fn _=>cases h
 | scr _=>cases h
theorem z0T(ha:∀q,ra=some q->PE X e (dE X.D E δ q))(he:∀whole,isTrue e X.env whole=(do let v ←whole;standAt e.pos;holding [v] (truthy v)))(h:tstD ra=some r):PT X e (dT X.D E δ r):=by
 cases hra:ra with
 | none=>rw[hra]at h;cases h
 | some q=>
  rw[hra]at h;have A:=ha q hra;cases q with
  | ex c=>cases h;exact(q7V A he).weak λσ H Q ⟨O,W,R,p⟩=>⟨O,W,R,p⟩
  | ok d cl=>
   obtain⟨k,e1,e2⟩:=Option.map_eq_some_iff.mp (show(q1Z d).map Rt.ok=some r from h);cases e2;exact(q7V A he).weak λσ H Q ⟨O,W,R,p⟩=>⟨O,W,R,λx H1 s1 g1=>⟨k,q5f e1 (g1.all (R.hid.mono s1)),p H1 s1⟩⟩
theorem z6w{ta:TE}(ha:PE X a ta):PE X (.UnaryOp .Not a pos) (tUn (λx H Q=>∃k,TruV X.K x H k/\Q (.bl (!k)) H) ta):=by
 intro pins s σ H Q I h;refine UnaryOp_ (thn (ha pins s σ H _ I h) λv s1 ⟨x,H1,I1,r1,q1⟩=>?_);obtain⟨k,t,q1⟩:=q1;exact not_of (thn (q7X pins s1 σ H1 x v (λb H'=>b=k/\H'=H1) I1 r1 ⟨k,t,rfl,rfl⟩) λb s2 ⟨H2,I2,e1,e2⟩=>by
  subst e1 e2;exact⟨.bl (!b),H2,I2,rfl,q1⟩)
theorem z5n(ha:∀q,ra=some q->PE X a (dE X.D E δ q))(h:(Re.thn ra λx _=>(q1Z x).map λk=>.ok (.bl (!k)) .strong)=some re):PE X (.UnaryOp .Not a pos) (dE X.D E δ re):=
 z8r (λ_=>z6w) ha h λO W H0 H x Q dx cx σ k hd gx p=>by obtain⟨b,e1,e2⟩:=Option.map_eq_some_iff.mp k;cases e2;exact⟨b,q5f e1 (gx.all hd),p _ H (Same.refl H) q3F⟩
theorem q7z{ta tb:TE}(ha:PE X a ta)(hb:PE X (.BoolOp .And (b::es) pos) tb):PE X (.BoolOp .And (a::b::es) pos) (λσ H Q=>ta σ H λx H1=>∃k,TruV X.K x H1 k/\if k=true then tb σ H1 Q else Q x H1):=by
 intro pins s σ H Q I h;refine BoolOp_and (thn (ha pins s σ H _ I h) λv s1 ⟨x,H1,I1,r1,q1⟩=>?_);obtain⟨k,t,q1⟩:=q1;refine thn (q7X pins s1 σ H1 x v (λb H'=>b=k/\H'=H1) I1 r1 ⟨k,t,rfl,rfl⟩) λc s2 ⟨H2,I2,e1,e2⟩=>?_
 subst e1 e2;cases c with
 | true=>exact hb pins s2 σ H2 Q I2 q1
 | false=>exact⟨x,H2,I2,r1,q1⟩
theorem z0P{ta tb:TE}(ha:PE X a ta)(hb:PE X (.BoolOp .Or (b::es) pos) tb):PE X (.BoolOp .Or (a::b::es) pos) (λσ H Q=>ta σ H λx H1=>∃k,TruV X.K x H1 k/\if k=true then Q x H1 else tb σ H1 Q):=by
 intro pins s σ H Q I h;refine BoolOp_or (thn (ha pins s σ H _ I h) λv s1 ⟨x,H1,I1,r1,q1⟩=>?_);obtain⟨k,t,q1⟩:=q1;refine thn (q7X pins s1 σ H1 x v (λb H'=>b=k/\H'=H1) I1 r1 ⟨k,t,rfl,rfl⟩) λc s2 ⟨H2,I2,e1,e2⟩=>?_
 subst e1 e2;cases c with
 | false=>exact hb pins s2 σ H2 Q I2 q1
 | true=>exact⟨x,H2,I2,r1,q1⟩
theorem z4v{rb:Option Re}(ha:∀q,ra=some q->PE X a (dE X.D E δ q))(hb:∀q,rb=some q->PE X (.BoolOp .And (b::es) pos) (dE X.D E δ q))(h:(Re.thn ra λx c=>andD x c rb)=some re):PE X (.BoolOp .And (a::b::es) pos) (dE X.D E δ re):=by
 cases hra:ra with
 | none=>rw[hra]at h;cases h
 | some q=>
  rw[hra]at h;have A:=ha q hra;cases q with
  | ex c=>cases h;exact(q7z A q1q).weak λσ H Q ⟨O,W,R,p⟩=>⟨O,W,R,p⟩
  | ok d cl=>
   have h':andD d cl rb=some re:=h;unfold andD at h';split at h'
   ·cases h'
   ·rename_i t;exact(q7z A (hb re h')).weak λσ H Q ⟨O,W,R,p⟩=>⟨O,W,R,λx H1 s1 g1=>⟨true,q5f t (g1.all (R.hid.mono s1)),iteT ⟨O,W,R.mono s1,p.later s1 s1⟩⟩⟩
   ·rename_i t;cases h';exact(q7z A q1q).weak λσ H Q ⟨O,W,R,p⟩=>⟨O,W,R,λx H1 s1 g1=>⟨false,q5f t (g1.all (R.hid.mono s1)),iteF (p _ H1 s1 g1)⟩⟩
theorem z8e{rb:Option Re}(ha:∀q,ra=some q->PE X a (dE X.D E δ q))(hb:∀q,rb=some q->PE X (.BoolOp .Or (b::es) pos) (dE X.D E δ q))(h:(Re.thn ra λx c=>orD x c rb)=some re):PE X (.BoolOp .Or (a::b::es) pos) (dE X.D E δ re):=by
 cases hra:ra with
 | none=>rw[hra]at h;cases h
 | some q=>
  rw[hra]at h;have A:=ha q hra;cases q with
  | ex c=>cases h;exact(z0P A q1q).weak λσ H Q ⟨O,W,R,p⟩=>⟨O,W,R,p⟩
  | ok d cl=>
   have h':orD d cl rb=some re:=h;unfold orD at h';split at h'
   ·cases h'
   ·rename_i t;cases h';exact(z0P A q1q).weak λσ H Q ⟨O,W,R,p⟩=>⟨O,W,R,λx H1 s1 g1=>⟨true,q5f t (g1.all (R.hid.mono s1)),iteT (p _ H1 s1 g1)⟩⟩
   ·rename_i t;exact(z0P A (hb re h')).weak λσ H Q ⟨O,W,R,p⟩=>⟨O,W,R,λx H1 s1 g1=>⟨false,q5f t (g1.all (R.hid.mono s1)),iteF ⟨O,W,R.mono s1,p.later s1 s1⟩⟩⟩
theorem q7q{k:DV->Cl->Option Re}(h:tstD (Re.thn ra k)=some r):(ra=none/\False)\/(∃c,ra=some (.ex c)/\r=.ex c)\/∃d c,ra=some (.ok d c)/\tstD (k d c)=some r:=by
 cases hra:ra with
 | none=>rw[hra]at h;cases h
 | some q=>
  rw[hra]at h;cases q with
  | ex c=>cases h;exact .inr (.inl ⟨c,rfl,rfl⟩)
  | ok d c=>exact .inr (.inr ⟨d,c,rfl,h⟩)
theorem z4e{d:DV}{c:Cl}{r:Rt}(h:tstD (some (.ok d c))=some r):∃k,q1Z d=some k/\r=.ok k:=by
 obtain⟨k,e1,e2⟩:=Option.map_eq_some_iff.mp (show(q1Z d).map Rt.ok=some r from h);exact⟨k,e1,e2.symm⟩
theorem z2N(ha:∀q,tstD ra=some q->PT X a (dT X.D E δ q))(h:tstD (Re.thn ra λx _=>(q1Z x).map λk=>.ok (.bl (!k)) .strong)=some r):PT X (.UnaryOp .Not a pos) (dT X.D E δ r):=by
 rcases q7q h with⟨_,z⟩ | ⟨c,e1,e2⟩ | ⟨d,c,e1,e2⟩
 ·exact z.elim
 ·subst e1 e2;exact(z3K (ha (.ex c) rfl)).weak λσ H Q ⟨O,W,R,p⟩=>⟨O,W,R,p⟩
 ·cases t:q1Z d with
  | none=>rw[t]at e2;cases e2
  | some k=>
   rw[t]at e2;cases e2;have A:=ha (.ok k) (by rw[e1];show(q1Z d).map Rt.ok=_;rw[t];rfl);exact(z3K A).weak λσ H Q ⟨O,W,R,p⟩=>⟨O,W,R,λH1 s1=>p H1 s1⟩
theorem z3o{rb:Option Re}(ha:∀q,tstD ra=some q->PT X a (dT X.D E δ q))(hb:∀q,tstD rb=some q->PW X (.BoolOp .And (b::es) pos) (dT X.D E δ q))(h:tstD (Re.thn ra λx c=>andD x c rb)=some r):PW X (.BoolOp .And (a::b::es) pos) (dT X.D E δ r):=by
 rcases q7q h with⟨_,z⟩ | ⟨c,e1,e2⟩ | ⟨d,c,e1,e2⟩
 ·exact z.elim
 ·subst e1 e2;exact(z1c (ha (.ex c) rfl) q5O).weak λσ H Q ⟨O,W,R,p⟩=>⟨O,W,R,p⟩
 ·unfold andD at e2;cases t:q1Z d with
  | none=>rw[t]at e2;cases e2
  | some k=>
   rw[t]at e2;have A:=ha (.ok k) (by rw[e1];show(q1Z d).map Rt.ok=_;rw[t];rfl);cases k with
   | true=>exact(z1c A (hb r e2)).weak λσ H Q ⟨O,W,R,p⟩=>⟨O,W,R,λH1 s1=>iteT ⟨O,W,R.mono s1,p.later s1⟩⟩
   | false=>
    obtain⟨k,t',rfl⟩:=z4e e2;rw[t]at t';cases t';exact(z1c A q5O).weak λσ H Q ⟨O,W,R,p⟩=>⟨O,W,R,λH1 s1=>iteF (p H1 s1)⟩
theorem z5Q{rb:Option Re}(ha:∀q,tstD ra=some q->PT X a (dT X.D E δ q))(hb:∀q,tstD rb=some q->PW X (.BoolOp .Or (b::es) pos) (dT X.D E δ q))(h:tstD (Re.thn ra λx c=>orD x c rb)=some r):PW X (.BoolOp .Or (a::b::es) pos) (dT X.D E δ r):=by
 rcases q7q h with⟨_,z⟩ | ⟨c,e1,e2⟩ | ⟨d,c,e1,e2⟩
 ·exact z.elim
 ·subst e1 e2;exact(z4Q (ha (.ex c) rfl) q5O).weak λσ H Q ⟨O,W,R,p⟩=>⟨O,W,R,p⟩
 ·unfold orD at e2;cases t:q1Z d with
  | none=>rw[t]at e2;cases e2
  | some k=>
   rw[t]at e2;have A:=ha (.ok k) (by rw[e1];show(q1Z d).map Rt.ok=_;rw[t];rfl);cases k with
   | false=>exact(z4Q A (hb r e2)).weak λσ H Q ⟨O,W,R,p⟩=>⟨O,W,R,λH1 s1=>iteF ⟨O,W,R.mono s1,p.later s1⟩⟩
   | true=>
    obtain⟨k,t',rfl⟩:=z4e e2;rw[t]at t';cases t';exact(z4Q A q5O).weak λσ H Q ⟨O,W,R,p⟩=>⟨O,W,R,λH1 s1=>iteT (p H1 s1)⟩
theorem q0o{e:Expr}{es:List Expr}{env:Env}(h:q0l e=false):starEach (e::es) env=(false,eval e env)::starEach es env:=by
 cases e<;>first | rfl | cases h
theorem z2J:PA X [] (dA X.D E δ (.ok [])):=q4H.weak λσ H Q ⟨O,W,R,p⟩=>p [] H (Same.refl H) .nil
theorem q9P{rs:Option Rs}{q:Rs}(hs:q0l e=false)(ha:∀q,ra=some q->PE X e (dE X.D E δ q))(hb:∀q,rs=some q->PA X es (dA X.D E δ q))
  (h:(match(generalizing:=false) ra with | none=>none | some (.ex c)=>some (Rs.ex c) | some (.ok d c)=>(match(generalizing:=false) rs with | none=>none | some (.ex c)=>some (.ex c) | some (.ok l)=>some (.ok ((d,c)::l))))=some q):PA X (e::es) (dA X.D E δ q):=by
 cases hra:ra with
 | none=>rw[hra]at h;cases h
 | some z=>
  rw[hra]at h;have A:=ha z hra;cases z with
  | ex c=>cases h;exact(q1x A z4V (q0o hs)).weak λσ H Q ⟨O,W,R,p⟩=>⟨O,W,R,p⟩
  | ok d cl=>
   cases hrs:rs with
   | none=>rw[hrs]at h;cases h
   | some y=>
    rw[hrs]at h;have B:=hb y hrs;cases y with
    | ex c=>cases h;exact(q1x A B (q0o hs)).weak λσ H Q ⟨O,W,R,p⟩=>⟨O,W,R,λx H1 s1 g1=>⟨O,W,R.mono s1,λH' C m s=>p H' C m (s1.trans s)⟩⟩
    | ok l=>
     cases h;exact(q1x A B (q0o hs)).weak λσ H Q ⟨O,W,R,p⟩=>⟨O,W,R,λx H1 s1 g1=>⟨O,W,R.mono s1,λvs H2 s2 g2=>p _ H2 (s1.trans s2) (.cons (g1.mono s2) (g2.since s1))⟩⟩
theorem z5E{rs:Option Rs}(ha:∀q,rs=some q->PA X es (dA X.D E δ q))(h:(Rs.thn rs λl=>if l.length<=mostLen then some (.ok (.lst (l.map (·.1))) (if stros l then .fresh else .weak))else none)=some re):PE X (.List es pos) (dE X.D E δ re):=
 q3h (r:=λvs H Q=>vs.length<=sizeLine/\∀p,H p=none->Q (.ref p) (upd H p (.lst vs))) (λ_=>z6S) ha h λO W H0 H vs Q l σ k hd g p=>by
  split at k
  ·rename_i m;cases k;refine⟨by rw[g.length];exact q1X m,λq hq=>p _ _ (q0r hq) ?_⟩;by_cases z:stros l=true
   ·rw[if_pos z];exact q1K hd hq (g.stros hd z)
   ·rw[if_neg z];exact q5B hd hq (g.repL hd)
  ·cases k
theorem z6D{rs:Option Rs}{x1:Nat}(ha:∀q,rs=some q->PA X es (dA X.D E δ q))(h:(Rs.thn rs λl=>if l.length<=mostLen then some (.ok (.tup (l.map (·.1))) (if stros l then .strong else .weak))else none)=some re):PE X (.Tuple es x1 pos) (dE X.D E δ re):=
 q3h (r:=λvs H Q=>vs.length<=sizeLine/\∀p,H p=none->Q (.ref p) (upd H p (.tup vs))) (λ_=>z7a) ha h λO W H0 H vs Q l σ k hd g p=>by
  split at k
  ·rename_i m;cases k;refine⟨by rw[g.length];exact q1X m,λq hq=>p _ _ (q0r hq) ?_⟩;by_cases z:stros l=true
   ·rw[if_pos z];exact q4J hd hq (g.stros hd z)
   ·rw[if_neg z];exact q8l hd hq (g.repL hd)
  ·cases k
end
end L2
end
noncomputable section
namespace L2
open PySem PySem.Spec PyProof.Rows
theorem q5G:∀ds:List DV,toPs ds=ds.map toP
 | []=>by rw[toPs];rfl
 | d::r=>by rw[toPs,q5G r];rfl
theorem q7b{y:DV}:∀{ds:List DV} {j:Nat},q3P y ds=some j->∃h:j<ds.length,deq ds[j] y=true/\∀m (hm:m<ds.length),m<j->deq ds[m] y=false
 | [],j,h=>by cases h
 | d::r,j,h=>by
  unfold q3P at h;split at h
  ·rename_i e;cases h;exact⟨Nat.succ_pos _,e,λm _ hm=>absurd hm (Nat.not_lt_zero _)⟩
  ·rename_i e;obtain⟨k,h1,rfl⟩:=Option.map_eq_some_iff.mp h;obtain⟨hk,h2,h3⟩:=q7b h1;refine⟨Nat.succ_lt_succ hk,h2,λm hm hlt=>?_⟩;cases m with
   | zero=>exact Bool.eq_false_iff.mpr e
   | succ m=>exact h3 m (Nat.lt_of_succ_lt_succ hm) (Nat.lt_of_succ_lt_succ hlt)
theorem q6k{n:Nat}:∀{ds:List DV} {m:Nat} (h:m<ds.length),DV.plains n ds=true->(ds[m]).plain n=true
 | d::r,0,_,p=>by simp only[DV.plains,Bool.and_eq_true]at p;exact p.1
 | d::r,m+1,h,p=>by simp only[DV.plains,Bool.and_eq_true]at p;exact q6k (ds:=r) (Nat.lt_of_succ_lt_succ h) p.2
section
variable {X:Cx} {pins:List (Addr×Obj)} {σ:St} {H:Hp} {s:Shared} {E:St->XK} {δ:List Sv} {o e:Expr} {to te:TE} {apos cpos:Pos} {ra rb:Option Re} {re:Re}
theorem q7Z{y:DV}{ds:List DV}{j:Nat}(p:y.plain 60=true)(q:DV.plains 60 ds=true)(h:q3P y ds=some j) :
  ∃h:j<(toPs ds).length,PyData.eqv (toPs ds)[j] (toP y)=true/\∀m (hm:m<(toPs ds).length),m<j->PyData.eqv (toPs ds)[m] (toP y)=false:=by
 obtain⟨hj,h1,h2⟩:=q7b h;have hl:(toPs ds).length=ds.length:=by rw[q5G,List.length_map]
 have ha:∀m (h1:m<(toPs ds).length) (h2:m<ds.length),PyData.eqv (toPs ds)[m] (toP y)=deq ds[m] y:=λm h1 h2=>by
  rw[←q4C 60 60 ds[m] y (q6k h2 q) p]
  congr 1
  simp only[q5G,List.getElem_map]
 exact⟨by omega,(ha j (by omega) hj).trans h1,λm hm hlt=>(ha m hm (by omega)).trans (h2 m (by omega) hlt)⟩
theorem z5N{x y:V}{v u:Value}{ds:List DV}{dy:DV}{j:Nat}{Q:VK}(hu:X.A.units+64<cLine)(I:Inv X pins σ H s)(rx:RelV x v)(ry:RelV y u)(r1:Rep X.D H (.lst ds) x)(r2:Rep X.D H dy y)(p:dy.plain 60=true)(q:DV.plains 60 ds=true)(hl:ds.length<=mostLen)
  (h:q3P dy ds=some j) (k:Q (.int j) H):wpAny (model X.prog X.w) X.A (call (.builtin "list.index") [v,u]) (EP X pins σ Q) X.xe s:=by
 obtain⟨as,q1⟩:=q1d I 60 p r2 ry;obtain⟨bs,q2⟩:=q1d I 61 (d:=.lst ds) (by simpa[DV.plain]using q) r1 rx;rw[toP]at q2;have l1:=q4n 60 _ p;have l2:=q2F 60 ds q;have l3:=l1.2;obtain⟨hj,f1,f2⟩:=q7Z p q h;have hj2:=(q7b h).1;exact SeqAt.index_list_reads q2 q1 l2.1 l1.1 (by omega) hj (by have:mostLen=1000000:=rfl;omega) f1 f2 ⟨.int j,H,I.tok _,⟨_,rfl⟩,k⟩
theorem z4K{x y:V}{v u:Value}{ds:List DV}{dy:DV}{j:Nat}{Q:VK}(hu:X.A.units+64<cLine)(I:Inv X pins σ H s)(rx:RelV x v)(ry:RelV y u)(r1:Rep X.D H (.tup ds) x)(r2:Rep X.D H dy y)(p:dy.plain 60=true)(q:DV.plains 60 ds=true)
  (h:q3P dy ds=some j) (k:Q (.int j) H):wpAny (model X.prog X.w) X.A (call (.builtin "tuple.index") [v,u]) (EP X pins σ Q) X.xe s:=by
 obtain⟨as,q1⟩:=q1d I 60 p r2 ry;obtain⟨bs,q2⟩:=q1d I 61 (d:=.tup ds) (by simpa[DV.plain]using q) r1 rx;rw[toP]at q2;have l1:=q4n 60 _ p;have l2:=q2F 60 ds q;have l3:=l1.2;obtain⟨hj,f1,f2⟩:=q7Z p q h;exact SeqAt.index_tuple_reads q2 q1 l2.1 l1.1 (by omega) hj f1 f2 ⟨.int j,H,I.tok _,⟨_,rfl⟩,k⟩
def tIdx(X:Cx)(to te:TE):TE:=λσ H Q=>to σ H λx H1=>(∃ds,Rep X.D H1 (.lst ds) x/\te σ H1 λy H2=>∃ds dy j,Rep X.D H2 (.lst ds) x/\Rep X.D H2 dy y/\dy.plain 60=true/\DV.plains 60 ds=true/\ds.length<=mostLen/\q3P dy ds=some j/\Q (.int j) H2) \/
 (∃ds,Rep X.D H1 (.tup ds) x/\te σ H1 λy H2=>∃ds dy j,Rep X.D H2 (.tup ds) x/\Rep X.D H2 dy y/\dy.plain 60=true/\DV.plains 60 ds=true/\q3P dy ds=some j/\Q (.int j) H2)
theorem z3D(hu:X.A.units+64<cLine)(ho:PE X o to)(ha:PE X e te)(hbase:attributeBase o "index" X.env (eval o X.env)=eval o X.env)(hline:(apos.endLine==cpos.line)=true)(hs:starEach [e] X.env=[(false,eval e X.env)]) :
  PE X (.Call (.Attribute o "index" apos) [e] [] cpos) (tIdx X to te):=by
 intro pins s σ H Q I h;refine wpAny_Call_method_late hbase (by rw[hs];rfl) hline rfl (thn (ho pins s σ H _ I h) λv s1 ⟨x,H1,I1,r1,q1⟩=>?_);rcases q1 with⟨ds,d1,q1⟩ | ⟨ds,d1,q1⟩
 ·obtain⟨a,xs,e1,e2,e3⟩:=q0z.mp d1;subst e1;cases(show v=Value.ref a from r1);obtain⟨its,_,pl,_⟩:=I1.list (SqL.of e2);refine⟨"list","list.index",PySem.F.plainAttrs_list,PySem.F.slot_list_index,PySem.F.type_list_index,pl.isList.typeIs,λb eb=>?_,?_⟩
  ·cases eb;obtain⟨o,n,e,c,hd,_⟩:=pl;exact⟨o,e,hd⟩
  ·rw[hs];refine Calls.callWith_builtin rfl (Calls.evalArgs_plain (Calls.spliced_cons (thn (ha pins s1 σ H1 _ I1 q1) λu s2 ⟨y,H2,I2,r2,ds',dy,j,d2,d3,p1,p2,p3,p4,k⟩=>Calls.spliced_nil ?_)));exact z5N hu I2 (show RelV (.ref a) (Value.ref a)from rfl) r2 d2 d3 p1 p2 p3 p4 k
 ·obtain⟨a,xs,e1,e2,e3⟩:=q0I.mp d1;subst e1;cases(show v=Value.ref a from r1);obtain⟨ob,n1,n2,n3⟩:=I1.tupleN e2;refine⟨"tuple","tuple.index",PySem.F.plainAttrs_tuple,PySem.F.slot_tuple_index,PySem.F.type_tuple_index,⟨ob,n1,n2⟩,λb eb=>?_,?_⟩
  ·cases eb;exact⟨ob,n1,n3⟩
  ·rw[hs];refine Calls.callWith_builtin rfl (Calls.evalArgs_plain (Calls.spliced_cons (thn (ha pins s1 σ H1 _ I1 q1) λu s2 ⟨y,H2,I2,r2,ds',dy,j,d2,d3,p1,p2,p3,k⟩=>Calls.spliced_nil ?_)));exact z4K hu I2 (show RelV (.ref a) (Value.ref a)from rfl) r2 d2 d3 p1 p2 p3 k
theorem z5t(hu:X.A.units+64<cLine)(ha:∀q,ra=some q->PE X o (dE X.D E δ q))(hb:∀q,rb=some q->PE X e (dE X.D E δ q))(hbase:attributeBase o "index" X.env (eval o X.env)=eval o X.env)(hline:(apos.endLine==cpos.line)=true)(hs:starEach [e] X.env=[(false,eval e X.env)])
  (h:(Re.thn ra λx _=>if seqB x then Re.thn rb λy _=>(idxD x y).map λd=>.ok d .strong else none)=some re):PE X (.Call (.Attribute o "index" apos) [e] [] cpos) (dE X.D E δ re):=by
 cases hra:ra with
 | none=>rw[hra]at h;cases h
 | some q=>
  rw[hra]at h;have A:=ha q hra;cases q with
  | ex c=>
   cases h;exact(z3D hu A q1q hbase hline hs).weak λσ H Q ⟨O,W,R,p⟩=>⟨O,W,R,p⟩
  | ok dx cx=>
   have h0:(if seqB dx then Re.thn rb λy _=>(idxD dx y).map λd=>Re.ok d .strong else none)=some re:=h;have hsq:seqB dx=true:=by
    cases z:seqB dx with
    | true=>rfl
    | false=>rw[z]at h0;cases h0
   rw[if_pos hsq]at h0;have h':(Re.thn rb λy _=>(idxD dx y).map λd=>.ok d .strong)=some re:=h0;cases hrb:rb with
   | none=>rw[hrb]at h';cases h'
   | some q=>
    rw[hrb]at h';have B:=hb q hrb;have C:=z3D hu A B hbase hline hs (apos:=apos) (cpos:=cpos);cases q with
    | ex c=>
     cases h';cases dx with
     | lst ds=>exact C.weak λσ H Q ⟨O,W,R,p⟩=>⟨O,W,R,λx H1 s1 g1=>.inl ⟨ds,g1.all (R.hid.mono s1),O,W,R.mono s1,λH' C m s=>p H' C m (s1.trans s)⟩⟩
     | tup ds=>exact C.weak λσ H Q ⟨O,W,R,p⟩=>⟨O,W,R,λx H1 s1 g1=>.inr ⟨ds,g1.all (R.hid.mono s1),O,W,R.mono s1,λH' C m s=>p H' C m (s1.trans s)⟩⟩
     | _=>cases hsq
    | ok dy cy=>
     have h2:((idxD dx dy).map λd=>Re.ok d .strong)=some re:=h';obtain⟨d,h3,h4⟩:=Option.map_eq_some_iff.mp h2;subst h4;unfold idxD at h3;split at h3
     ·rename_i ds;split at h3
      ·rename_i m;obtain⟨j,f1,rfl⟩:=Option.map_eq_some_iff.mp h3;rw[Bool.and_eq_true,Bool.and_eq_true,decide_eq_true_eq]at m;exact C.weak λσ H Q ⟨O,W,R,p⟩=>⟨O,W,R,λx H1 s1 g1=>.inl ⟨ds,g1.all (R.hid.mono s1),O,W,R.mono s1,λy H2 s2 g2=>
        ⟨ds,dy,j,(g1.mono s2).all ((R.hid.mono s1).mono s2),(g2.since s1).all ((R.hid.mono s1).mono s2),m.1.1,m.1.2,m.2,f1,p _ H2 (s1.trans s2) q0x⟩⟩⟩
      ·cases h3
     ·rename_i ds;split at h3
      ·rename_i m;obtain⟨j,f1,rfl⟩:=Option.map_eq_some_iff.mp h3;rw[Bool.and_eq_true,Bool.and_eq_true,decide_eq_true_eq]at m;exact C.weak λσ H Q ⟨O,W,R,p⟩=>⟨O,W,R,λx H1 s1 g1=>.inr ⟨ds,g1.all (R.hid.mono s1),O,W,R.mono s1,λy H2 s2 g2=>
        ⟨ds,dy,j,(g1.mono s2).all ((R.hid.mono s1).mono s2),(g2.since s1).all ((R.hid.mono s1).mono s2),m.1.1,m.1.2,f1,p _ H2 (s1.trans s2) q0x⟩⟩⟩
      ·cases h3
     ·cases h3
end
end L2
end
noncomputable section
namespace L2
open PySem PySem.Spec PyProof.Rows
def GotR(D:Dm)(O:List Addr)(H0 H:Hp)(d:DV)(fr:Bool)(v:V):Prop:=match fr with
 | false=>Rep D (L2.wo O H) d v
 | true=>∃p xs ds,v=.ref p/\d=.lst ds/\H0 p=none/\H p=some (.lst xs)/\RepL D (L2.wo (p::O) H) ds xs
def GotF(H H':Hp)(xs:List DV)(v:V):Prop:=∃(p:Addr) (L:List (Addr×List Int)),v=.ref p/\xs=L.map (λq=>.lst (q.2.map DV.int))/\H p=none/\H' p=some (.lst (L.map λq=>.ref q.1))/\(∀q∈L,H q.1=none/\H' q.1=some (.lst (q.2.map V.int)))/\(p::L.map (·.1)).Nodup
theorem GotF.since{H0 H1 H:Hp}{xs:List DV}{v:V}(g:GotF H1 H xs v)(f:∀a,H1 a=none->H0 a=none):GotF H0 H xs v:=by
 obtain⟨p,L,e1,e2,e3,e4,e5,e6⟩:=g;exact⟨p,L,e1,e2,f _ e3,e4,λq hq=>⟨f _ (e5 q hq).1,(e5 q hq).2⟩,e6⟩
theorem GotF.items{D:Dm}{H0 H:Hp}{xs:List DV}{v:V}{Z:List Addr}(g:GotF H0 H xs v)(hz:∀a∈Z,H0 a≠none):∃p vs,v=.ref p/\H0 p=none/\H p=some (.lst vs)/\RepL D (L2.wo (p::Z) H) xs vs:=by
 obtain⟨p,L,e1,e2,e3,e4,e5,e6⟩:=g;refine⟨p,_,e1,e3,e4,?_⟩;rw[e2];refine q7B λq hq=>?_
 rw[q0s λz=>?_]
 ·exact(e5 q hq).2
 ·rcases List.mem_cons.mp z with z | z
  ·exact(List.nodup_cons.mp e6).1 (List.mem_map.mpr ⟨q,hq,z⟩)
  ·exact hz _ z (e5 q hq).1
theorem GotF.fresh{D:Dm}{O W:List Addr}{H0 H1 H:Hp}{xs:List DV}{v:V}(g:GotF H0 H xs v)(hd:Hid O W H0 H1):Got D O W H0 H (.lst xs) .fresh v:=by
 obtain⟨p,vs,e1,e2,e3,e4⟩:=g.items (D:=D) (Z:=O++W) hd.ot;exact⟨p,vs,xs,e1,rfl,e2,e3,e4⟩
def GotT(D:Dm)(O:List Addr)(H0 H:Hp)(d:DV)(v:V):Prop:=(∃t ts p xs ds es,v=.ref t/\d=.tup (.lst ds::es)/\SqT D.K (L2.wo O H) t (.ref p::ts)/\H0 p=none/\H p=some (.lst xs)/\RepL D (L2.wo (p::O) H) ds xs/\RepL D (L2.wo (p::O) H) es ts)\/∃xs,d=.lst xs/\GotF H0 H xs v
def spF(D:Dm)(n:Nat)(f:List DV->Option Ou):Sp:=λvs H Q E=>∃O ds o,Hdn O H/\ds.length=n/\RepL D (L2.wo O H) ds vs/\f ds=some o /\
 (match o with | .v d fr=>∀v H',Same H H'->GotR D O H H' d fr v->Q v H' | .t d=>∀v H',Same H H'->GotT D O H H' d v->Q v H' | .x c=>∀H' C,D.mg c=some C->Same H H'->E C none H')
def spH(D:Dm)(f:DV->List DV->Option (DV×List DV)):Sp:=λvs H Q _=>∃O p v d ds xs r,vs=[v,.ref p]/\Hdn O H/\p∉O/\H p=some (.lst xs)/\Rep D (L2.wo (O++[p]) H) d v/\RepL D (L2.wo (O++[p]) H) ds xs/\f d ds=some r /\
 ∀v' H' xs',Same (L2.wo [p] H) H'->H' p=some (.lst xs')->Rep D (L2.wo (O++[p]) H') r.1 v'->RepL D (L2.wo (O++[p]) H') r.2 xs'->Q v' H'
section
variable {X:Cx} {E:St->XK} {δ:List Sv} {e:Expr} {es:List Expr} {pos p:Pos} {re:Re} {rs:Option Rs} {k:Nat} {fa:Addr} {fd:FuncData} {ps:List Str} {x:Str}
theorem z1W{F:Nat->List DV->Option Ou}{f:Nat}{e0:Expr}{Pre:St->Hp->Prop}(hn:∀ds o,F f ds=some o->ds.length=ps.length)(C:∀t,PA X (e::es) t->PE X e0 (λσ H Q=>Pre σ H/\z3p (spF X.D ps.length (F f)) [] E t σ H Q))(pre:∀σ H O W,RSt X.D H σ δ O W->Pre σ H)(ha:∀q,rs=some q->PA X (e::es) (dA X.D E δ q))
  (h:(Rs.thn rs λl=>q3g F f l)=some re):PE X e0 (dE X.D E δ re):=by
 cases hrs:rs with
 | none=>rw[hrs]at h;cases h
 | some q=>
  rw[hrs]at h;have A:=ha q hrs;cases q with
  | ex c=>cases h;exact(C _ A).weak λσ H Q ⟨O,W,R,p⟩=>⟨pre _ _ _ _ R,O,W,R,p⟩
  | ok l=>
   have h':q3g F f l=some re:=h;unfold q3g at h';split at h'
   ·cases h'
   ·rename_i c e1;cases h';refine(C _ A).weak λσ H Q ⟨O,W,R,p⟩=>⟨pre _ _ _ _ R,O,W,R,λvs H1 s1 g1=>?_⟩
    have hd:=R.hid.mono s1;show spF X.D ps.length (F f) (vs++[]) H1 Q (E σ);rw[List.append_nil];exact⟨O,_,_,hd.hdO,hn _ _ e1,g1.repL hd,e1,λH' C m s=>p H' C m (s1.trans s)⟩
   ·rename_i d e1;cases h';refine(C _ A).weak λσ H Q ⟨O,W,R,p⟩=>⟨pre _ _ _ _ R,O,W,R,λvs H1 s1 g1=>?_⟩
    have hd:=R.hid.mono s1;show spF X.D ps.length (F f) (vs++[]) H1 Q (E σ);rw[List.append_nil];by_cases z:(l.all λp=>p.2 == .strong||p.2 == .fresh)=true
    ·rw[if_pos z]at p;refine⟨O++W,_,_,hd.hdA,hn _ _ e1,g1.strong hd z,e1,λv H' s g=>p v H' (s1.trans s) ?_⟩;rcases g with⟨t,ts,q,xs,ds,es,f1,f2,f0,f3,f4,f5,f6⟩ | ⟨xs,f1,f2⟩
     ·subst f2;exact⟨t,ts,q,xs,ds,es,f1,rfl,f0,s1.free f3,f4,f5,f6⟩
     ·subst f1;exact(f2.since λa ha=>s1.free ha).fresh hd
    ·rw[if_neg z]at p;refine⟨O,_,_,hd.hdO,hn _ _ e1,g1.repL hd,e1,λv H' s g=>p v H' (s1.trans s) ?_⟩;rcases g with⟨t,ts,q,xs,ds,es,f1,f2,f0,f3,f4,f5,f6⟩ | ⟨xs,f1,f2⟩
     ·have hq:q∉O:=λz=>hd.ot q (List.mem_append_left _ z) (s1.free f3);have up:Same (L2.wo (q::O) H') (L2.wo O H'):=q0A λb hb=>List.mem_cons_of_mem _ hb;rw[f2];exact q0I.mpr ⟨t,_,f1,f0,q0j.mpr ⟨_,_,rfl,q0z.mpr ⟨q,xs,rfl,by rw[q0s hq];exact f4,f5.mono up⟩,f6.mono up⟩⟩
     ·subst f1;have hO:∀a∈O,H1 a≠none:=λa ha q=>hd.ot a (List.mem_append_left _ ha) (s1.free q)
      obtain⟨q,vs,g1',g2',g3',g4'⟩:=f2.items (D:=X.D) hO;have hq:q∉O:=λz=>hO q z g2'
      exact q0z.mpr ⟨q,vs,g1',by rw[q0s hq];exact g3',g4'.mono (q0A λb hb=>List.mem_cons_of_mem _ hb)⟩
   ·rename_i d fr e1;cases h';refine(C _ A).weak λσ H Q ⟨O,W,R,p⟩=>⟨pre _ _ _ _ R,O,W,R,λvs H1 s1 g1=>?_⟩
    have hd:=R.hid.mono s1;show spF X.D ps.length (F f) (vs++[]) H1 Q (E σ);rw[List.append_nil];by_cases z:(l.all λp=>p.2 == .strong||p.2 == .fresh)=true
    ·rw[if_pos z]at p;refine⟨O++W,_,_,hd.hdA,hn _ _ e1,g1.strong hd z,e1,λv H' s g=>p v H' (s1.trans s) ?_⟩;cases fr with
     | false=>exact g
     | true=>
      obtain⟨q,xs,ds,e1,e2,e3,e4,e5⟩:=g;exact⟨q,xs,ds,e1,e2,s1.free e3,e4,e5⟩
    ·rw[if_neg z]at p;refine⟨O,_,_,hd.hdO,hn _ _ e1,g1.repL hd,e1,λv H' s g=>p v H' (s1.trans s) ?_⟩;cases fr with
     | false=>exact g
     | true=>
      obtain⟨q,xs,ds,u1,e2,e3,e4,e5⟩:=g;subst e2;rw[Bool.true_and];cases y:imL (.lst ds)with
      | true=>exact⟨q,xs,ds,u1,rfl,s1.free e3,e4,RepL.immut (O:=q::O) (λa ha=>by obtain⟨o,e,m⟩:=hd.wl a ha;exact⟨o,s _ _ (hd.same _ _ e),m⟩) y e5⟩
      | false=>
       have hq:q∉O:=λz=>hd.ot q (List.mem_append_left _ z) (s1.free e3);exact q0z.mpr ⟨q,xs,u1,by rw[q0s hq];exact e4,e5.mono (q0A λb hb=>List.mem_cons_of_mem _ hb)⟩
theorem z2r{F:Nat->List DV->Option Ou}{f:Nat}(fo:FnOk X.prog X.w X.K X.mg X.base (CXx X.prog X.w X.base) k fa fd ps (spF X.D ps.length (F f)))(hn:∀ds o,F f ds=some o->ds.length=ps.length)(hr:Room k X.A)(hg:Gl X x)(hm:X.mg x=some (.ref fa))(hk:PySem.W.keepIn X.K (.ref fa)=true)
  (hb:q2Q X.K fd ps []) (hx:q4r (CXx X.prog X.w X.base) X E) (ha:∀q,rs=some q->PA X (e::es) (dA X.D E δ q)) (hdb:(x==("__debug__" : Str))=false) (hs:q0l e=false) (hss:es.any q0l=false)
  (h:(Rs.thn rs λl=>q3g F f l)=some re):PE X (.Call (.Name x p) (e::es) [] pos) (dE X.D E δ re):=by
 have plain:∀(es:List Expr),es.any q0l=false->(backTo pos (starEach es X.env)).any (·.1)=false:=by
  intro es
  induction es with
  | nil=>intro _;rfl
  | cons y ys ih=>
   intro q;rw[List.any_cons,Bool.or_eq_false_iff]at q;rw[q0o q.1];show(false||(backTo pos (starEach ys X.env)).any (·.1))=false;rw[ih q.2];rfl
 exact z1W (Pre:=λ_ _=>True) hn (λt hA=>(z2B (p:=p) (pos:=pos) fo hr hg hm hk hb .nil hx hA hdb (q0o hs) (plain es hss)).weak λσ H Q h=>h.2) (λ_ _ _ _ _=>trivial) ha h
end
section
variable {X:Cx} {E:St->XK} {δ:List Sv} {e:Expr} {es:List Expr} {pos p:Pos} {re:Re} {rs:Option Rs}
theorem q1M{env:Env}{pos:Pos}:∀(es:List Expr),es.any q0l=false->(backTo pos (starEach es env)).any (·.1)=false
 | [],_=>rfl
 | y::ys,q=>by rw[List.any_cons,Bool.or_eq_false_iff]at q;rw[q0o q.1];show(false||(backTo pos (starEach ys env)).any (·.1))=false;rw[q1M ys q.2];rfl
def biR(X:Cx)(k:List (DV×Cl)->Option Re):List V->Hp->VK->Prop:=λvs H Q=>∃l re O W H0,k l=some re/\Hid O W H0 H/\GotL X.D O W H0 H l vs/\∃d c,re=.ok d c/\∀v H',Same H H'->Got X.D O W H0 H' d c v->Q v H'
theorem q6N{k:List (DV×Cl)->Option Re}{x:Str}{id:String}(hc:q1p X (.builtin id) (biR X k))(hk:∀l re,k l=some re->∃d c,re=.ok d c)(hg:Gl X x)(hm:X.mg x=none)(hv:bootBuiltins x=some (.builtin id))(hn:x ≠ "__name__")(hdb:(x==("__debug__" : Str))=false)
  (ha:∀q,rs=some q->PA X (e::es) (dA X.D E δ q)) (hs:q0l e=false) (hss:es.any q0l=false) (h:Rs.thn rs k=some re):PE X (.Call (.Name x p) (e::es) [] pos) (dE X.D E δ re):=
 q3h (λ_ hA=>q5y hc hg hm hv hA hn hdb (q0o hs) (q1M es hss)) ha h λO W H0 H vs Q l σ hl hd g p=>by obtain⟨d,c,rfl⟩:=hk l re hl;exact⟨l,_,O,W,H0,hl,hd,g,d,c,rfl,p⟩
theorem q9G{k:List (DV×Cl)->Option Re}{x:Str}{T:String}(hc:q1p X (.type T) (biR X k))(hk:∀l re,k l=some re->∃d c,re=.ok d c)(hg:Gl X x)(hm:X.mg x=none)(hv:bootBuiltins x=some (.type T))(hn:x ≠ "__name__")(hdb:(x==("__debug__" : Str))=false)
  (ha:∀q,rs=some q->PA X (e::es) (dA X.D E δ q)) (hs:q0l e=false) (hss:es.any q0l=false) (h:Rs.thn rs k=some re):PE X (.Call (.Name x p) (e::es) [] pos) (dE X.D E δ re):=
 q3h (λ_ hA=>q6e hc hg hm hv hA hn hdb (q0o hs) (q1M es hss)) ha h λO W H0 H vs Q l σ hl hd g p=>by obtain⟨d,c,rfl⟩:=hk l re hl;exact⟨l,_,O,W,H0,hl,hd,g,d,c,rfl,p⟩
theorem z6s:∀l re,lenD l=some re->∃d c,re=.ok d c:=λl re h=>by unfold lenD at h;split at h<;>cases h<;>exact⟨_,_,rfl⟩
theorem z4M:∀l re,minD l=some re->∃d c,re=.ok d c:=λl re h=>by
 unfold minD at h;split at h
 ·cases h;exact⟨_,_,rfl⟩
 ·split at h
  ·cases h;exact⟨_,_,rfl⟩
  ·cases h
 ·split at h
  ·cases h;exact⟨_,_,rfl⟩
  ·cases h
 ·cases h
theorem z5e:∀l re,maxD l=some re->∃d c,re=.ok d c:=λl re h=>by
 unfold maxD at h;split at h
 ·cases h;exact⟨_,_,rfl⟩
 ·split at h
  ·cases h;exact⟨_,_,rfl⟩
  ·cases h
 ·cases h
theorem q2G{D:Dm}{H:Hp}:∀{ds:List DV} {ns:List Int} {xs:List V},ints? ds=some ns->RepL D H ds xs->xs=ns.map V.int
 | [],ns,xs,h,r=>by cases h;exact q0w.mp r
 | .int i::ds,ns,xs,h,r=>by have h':(ints? ds).map (i :: ·)=some ns:=h;obtain⟨ms,e1,e2⟩:=Option.map_eq_some_iff.mp h';obtain⟨v,vs,e3,e4,e5⟩:=q0j.mp r;have q:=q2G e1 e5;rw[←e2,e3,List.map_cons,q0U.mp e4,q]
 | .non::ds,ns,xs,h,_=>by cases h
 | .bl _::ds,ns,xs,h,_=>by cases h
 | .str _::ds,ns,xs,h,_=>by cases h
 | .tup _::ds,ns,xs,h,_=>by cases h
 | .lst _::ds,ns,xs,h,_=>by cases h
 | .dct _ _::ds,ns,xs,h,_=>by cases h
 | .exc _::ds,ns,xs,h,_=>by cases h
 | .fn _::ds,ns,xs,h,_=>by cases h
 | .scr _::ds,ns,xs,h,_=>by cases h
theorem q7P:∀(r:List Int) (m:Int),(minI m r=m\/minI m r∈r)/\minI m r<=m/\∀x∈r,minI m r<=x
 | [],m=>⟨.inl rfl,Int.le_refl _,λx h=>by cases h⟩
 | y::r,m=>by
  obtain⟨h0,h1,h2⟩:=q7P r (if y<m then y else m);unfold minI;by_cases q:y<m
  ·rw[if_pos q]at h0 h1 h2 ⊢;refine⟨.inr ?_,by omega,λx hx=>?_⟩
   ·rcases h0 with z | z
    ·rw[z];exact List.mem_cons_self ..
    ·exact List.mem_cons_of_mem _ z
   ·rcases List.mem_cons.mp hx with z | z
    ·rw[z];exact h1
    ·exact h2 x z
  ·rw[if_neg q]at h0 h1 h2 ⊢;refine⟨h0.imp id (List.mem_cons_of_mem _),h1,λx hx=>?_⟩;rcases List.mem_cons.mp hx with z | z
   ·rw[z];omega
   ·exact h2 x z
theorem q6T:∀(r:List Int) (m:Int),(maxI m r=m\/maxI m r∈r)/\m<=maxI m r/\∀x∈r,x<=maxI m r
 | [],m=>⟨.inl rfl,Int.le_refl _,λx h=>by cases h⟩
 | y::r,m=>by
  obtain⟨h0,h1,h2⟩:=q6T r (if m<y then y else m);unfold maxI;by_cases q:m<y
  ·rw[if_pos q]at h0 h1 h2 ⊢;refine⟨.inr ?_,by omega,λx hx=>?_⟩
   ·rcases h0 with z | z
    ·rw[z];exact List.mem_cons_self ..
    ·exact List.mem_cons_of_mem _ z
   ·rcases List.mem_cons.mp hx with z | z
    ·rw[z];exact h1
    ·exact h2 x z
  ·rw[if_neg q]at h0 h1 h2 ⊢;refine⟨h0.imp id (List.mem_cons_of_mem _),h1,λx hx=>?_⟩;rcases List.mem_cons.mp hx with z | z
   ·rw[z];omega
   ·exact h2 x z
theorem q8r{n M:Int}{r:List Int}(h1:M∈n::r)(h2:∀x∈n::r,M<=x):M=minI n r:=by
 obtain⟨a,b,c⟩:=q7P r n;have d:minI n r∈n::r:=a.elim (λz=>by rw[z];exact List.mem_cons_self ..) (List.mem_cons_of_mem _);have e:=h2 _ d;have f:minI n r<=M:=by
  rcases List.mem_cons.mp h1 with z | z
  ·rw[z];exact b
  ·exact c M z
 omega
theorem z3e{n M:Int}{r:List Int}(h1:M∈n::r)(h2:∀x∈n::r,x<=M):M=maxI n r:=by
 obtain⟨a,b,c⟩:=q6T r n;have d:maxI n r∈n::r:=a.elim (λz=>by rw[z];exact List.mem_cons_self ..) (List.mem_cons_of_mem _);have e:=h2 _ d;have f:M<=maxI n r:=by
  rcases List.mem_cons.mp h1 with z | z
  ·rw[z];exact b
  ·exact c M z
 omega
theorem q4j(x:Int):∀l:List Int,(insI x l).Perm (x::l)
 | []=>.rfl
 | y::r=>by
  unfold insI;split
  ·exact .rfl
  ·exact(List.Perm.cons y (q4j x r)).trans (List.Perm.swap x y r)
theorem q4X:∀l:List Int,(q3B l).Perm l
 | []=>.rfl
 | x::r=>(q4j x (q3B r)).trans (List.Perm.cons x (q4X r))
theorem z0p(x:Int):∀{l:List Int},l.Pairwise (· <= ·)->(insI x l).Pairwise (· <= ·)
 | [],_=>List.pairwise_singleton _ _
 | y::r,h=>by
  obtain⟨h1,h2⟩:=List.pairwise_cons.mp h;unfold insI;split
  ·rename_i q;refine List.pairwise_cons.mpr ⟨λz hz=>?_,h⟩;rcases List.mem_cons.mp hz with e | e
   ·omega
   ·have:=h1 z e;omega
  ·rename_i q;refine List.pairwise_cons.mpr ⟨λz hz=>?_,z0p x h2⟩;rcases List.mem_cons.mp ((q4j x r).mem_iff.mp hz)with e | e
   ·omega
   ·exact h1 z e
theorem q8F:∀l:List Int,(q3B l).Pairwise (· <= ·)
 | []=>.nil
 | x::r=>z0p x (q8F r)
theorem z4c:∀{a b:List Int},a.Perm b->a.Pairwise (· <= ·)->b.Pairwise (· <= ·)->a=b
 | [],b,p,_,_=>(List.Perm.nil_eq p)
 | x::a,b,p,ha,hb=>by
  cases b with
  | nil=>exact absurd p.length_eq (by simp)
  | cons y b=>
   obtain⟨a1,a2⟩:=List.pairwise_cons.mp ha;obtain⟨b1,b2⟩:=List.pairwise_cons.mp hb;have e:x=y:=by
    have q1:=p.mem_iff.mp (List.mem_cons_self (a:=x) (l:=a));have q2:=p.mem_iff.mpr (List.mem_cons_self (a:=y) (l:=b));rcases List.mem_cons.mp q1 with z | z
    ·exact z
    ·rcases List.mem_cons.mp q2 with z2 | z2
     ·exact z2.symm
     ·have:=a1 y z2;have:=b1 x z;omega
   subst e;rw[z4c (List.Perm.cons_inv p) a2 b2]
theorem z2d:∀l re,q8T l=some re->∃d c,re=.ok d c:=λl re h=>by unfold q8T at h;split at h<;>cases h<;>exact⟨_,_,rfl⟩
theorem z0r:∀l re,q5h l=some re->∃d c,re=.ok d c:=λl re h=>by unfold q5h at h;split at h<;>cases h<;>exact⟨_,_,rfl⟩
theorem z6M:q1p X (.builtin "len") (biR X lenD):=by
 intro pins s σ H xs us Q I r h;obtain⟨l,re,O,W,H0,hb,hd,g,d,c,rfl,p⟩:=h;unfold lenD at hb;split at hb
 ·cases hb;obtain⟨v,rfl,gv⟩:=g.one;obtain⟨a,ys,e1,e2,e3⟩:=gv.lst hd;exact q2y pins s σ H _ us Q I r ⟨a,ys,by rw[e1],.inl (SqL.of e2),by rw[e3.length];exact p _ H (Same.refl H) q0x⟩
 ·cases hb;obtain⟨v,rfl,gv⟩:=g.one;obtain⟨a,ys,e1,e2,e3⟩:=gv.tup hd;exact q2y pins s σ H _ us Q I r ⟨a,ys,by rw[e1],.inr e2,by rw[e3.length];exact p _ H (Same.refl H) q0x⟩
 ·cases hb;obtain⟨v,rfl,gv⟩:=g.one;obtain⟨a,e1,e2⟩:=q2d.mp (gv.all hd);exact q2y pins s σ H _ us Q I r ⟨a,_,by rw[e1],.inl e2.sq,by rw[List.length_map];exact p _ H (Same.refl H) q0x⟩
 ·cases hb;obtain⟨v,rfl,gv⟩:=g.one;obtain⟨e1,e2⟩:=gv.str hd;exact q6c pins s σ H _ us Q I r ⟨_,by rw[e1],e2,p _ H (Same.refl H) q0x⟩
 ·cases hb
theorem z7C(hc:X.calm=true)(hu:X.A.units+1<cLine):q1p X (.builtin "min") (biR X minD):=by
 intro pins s σ H xs us Q I r h;obtain⟨l,re,O,W,H0,hb,hd,g,d,c,rfl,p⟩:=h;unfold minD at hb;split at hb
 ·cases hb;obtain⟨v,v',rfl,gv,gv'⟩:=g.two;exact z0j hc pins s σ H _ us Q I r ⟨_,_,by rw[gv.int hd,gv'.int hd],p _ H (Same.refl H) q0x⟩
 ·split at hb
  ·rename_i n r' hq;cases hb;obtain⟨v,rfl,gv⟩:=g.one;obtain⟨a,ys,e1,e2,e3⟩:=gv.lst hd;have e4:=q2G hq e3;subst e4;exact z1Q hc pins s σ H _ us Q I r ⟨a,n::r',by rw[e1],SqL.of e2,by simp,λM m1 m2=>by rw[q8r m1 m2];exact p _ H (Same.refl H) q0x⟩
  ·cases hb
 ·split at hb
  ·rename_i n r' hq;cases hb;obtain⟨v,rfl,gv⟩:=g.one;obtain⟨a,ys,e1,e2,e3⟩:=gv.tup hd;have e4:=q2G hq e3;subst e4;exact z0I hc pins s σ H _ us Q I r ⟨a,n::r',by rw[e1],e2,by simp,λM m1 m2=>by rw[q8r m1 m2];exact p _ H (Same.refl H) q0x⟩
  ·cases hb
 ·cases hb
theorem z8v(hc:X.calm=true):q1p X (.builtin "max") (biR X maxD):=by
 intro pins s σ H xs us Q I r h;obtain⟨l,re,O,W,H0,hb,hd,g,d,c,rfl,p⟩:=h;unfold maxD at hb;split at hb
 ·cases hb;obtain⟨v,v',rfl,gv,gv'⟩:=g.two;exact z0x hc pins s σ H _ us Q I r ⟨_,_,by rw[gv.int hd,gv'.int hd],p _ H (Same.refl H) q0x⟩
 ·split at hb
  ·rename_i n r' hq;cases hb;obtain⟨v,rfl,gv⟩:=g.one;obtain⟨a,ys,e1,e2,e3⟩:=gv.lst hd;have e4:=q2G hq e3;subst e4;exact z0m hc pins s σ H _ us Q I r ⟨a,n::r',by rw[e1],SqL.of e2,by simp,λM m1 m2=>by rw[z3e m1 m2];exact p _ H (Same.refl H) q0x⟩
  ·cases hb
 ·cases hb
theorem q6q{D:Dm}{H:Hp}:∀{ds:List DV} {bs:List Bool} {xs:List V},bools? ds=some bs->RepL D H ds xs->xs=bs.map V.bl
 | [],bs,xs,h,r=>by cases h;exact q0w.mp r
 | .bl i::ds,bs,xs,h,r=>by have h':(bools? ds).map (i :: ·)=some bs:=h;obtain⟨ms,e1,e2⟩:=Option.map_eq_some_iff.mp h';obtain⟨v,vs,e3,e4,e5⟩:=q0j.mp r;have q:=q6q e1 e5;subst e2 e3 q;rw[q4y.mp e4];rfl
 | .non::_,_,_,h,_=>by cases h
 | .int _::_,_,_,h,_=>by cases h
 | .str _::_,_,_,h,_=>by cases h
 | .tup _::_,_,_,h,_=>by cases h
 | .lst _::_,_,_,h,_=>by cases h
 | .exc _::_,_,_,h,_=>by cases h
 | .fn _::_,_,_,h,_=>by cases h
 | .scr _::_,_,_,h,_=>by cases h
 | .dct _ _::_,_,_,h,_=>by cases h
theorem z7u(hc:X.calm=true):q1p X (.builtin "sum") (biR X sumD):=by
 intro pins s σ H xs us Q I r h;obtain⟨l,re,O,W,H0,hb,hd,g,d,c,rfl,p⟩:=h;unfold sumD at hb;split at hb
 ·obtain⟨ns,hq,e⟩:=Option.map_eq_some_iff.mp hb;cases e;obtain⟨v,rfl,gv⟩:=g.one;obtain⟨a,ys,e1,e2,e3⟩:=gv.lst hd;have e4:=q2G hq e3;subst e4;exact z1k hc pins s σ H _ us Q I r ⟨a,ns,by rw[e1],SqL.of e2,p _ H (Same.refl H) q0x⟩
 ·cases hb
theorem z7U(hc:X.calm=true):q1p X (.builtin "any") (biR X anyD):=by
 intro pins s σ H xs us Q I r h;obtain⟨l,re,O,W,H0,hb,hd,g,d,c,rfl,p⟩:=h;unfold anyD at hb;split at hb
 ·obtain⟨bs,hq,e⟩:=Option.map_eq_some_iff.mp hb;cases e;obtain⟨v,rfl,gv⟩:=g.one;obtain⟨a,ys,e1,e2,e3⟩:=gv.lst hd;have e4:=q6q hq e3;subst e4;exact q9J hc pins s σ H _ us Q I r ⟨a,bs,by rw[e1],SqL.of e2,p _ H (Same.refl H) q3F⟩
 ·cases hb
theorem q9I:bootBuiltins "sum" = some (.builtin "sum"):=by decide +kernel
theorem z0g:bootBuiltins "any" = some (.builtin "any"):=by decide +kernel
theorem z4A:∀l re,sumD l=some re->∃d c,re=.ok d c:=by
 intro l re h;unfold sumD at h;split at h
 ·obtain⟨_,_,e⟩:=Option.map_eq_some_iff.mp h;cases e;exact⟨_,_,rfl⟩
 ·cases h
theorem z5U:∀l re,anyD l=some re->∃d c,re=.ok d c:=by
 intro l re h;unfold anyD at h;split at h
 ·obtain⟨_,_,e⟩:=Option.map_eq_some_iff.mp h;cases e;exact⟨_,_,rfl⟩
 ·cases h
theorem q6n:bootBuiltins "sorted" = some (.builtin "sorted"):=by decide +kernel
theorem z1s:bootBuiltins "set" = some (.type "set"):=by decide +kernel
theorem z2h{p':Pos}{pos':Pos}(hc:X.calm=true)(hg:Gl X "sorted")(hm:X.mg "sorted" = none)(hg':Gl X "set")(hm':X.mg "set" = none)
  (ha:∀q,rs=some q->PA X [e] (dA X.D E δ q)) (hs:q0l e=false) (h:Rs.thn rs z2l=some re):PE X (.Call (.Name "sorted" p) [.Call (.Name "set" p') [e] [] pos'] [] pos) (dE X.D E δ re):=
 q3h (r:=λvs H Q=>(∃(a:Addr) (ns:List Int),vs=[.ref a]/\SqL X.K H a (ns.map V.int)/\ns.length<4000/\∀p,H p=none->∃(p1:Addr) (ks:List Int),[V.ref p]=[.ref p1]/\upd H p (setO X.prog X.w p (ns.foldl dk [])) p1=some (setO X.prog X.w p1 ks)/\ks.length<64 /\
   ∀(q:Addr) (ms:List Int),upd H p (setO X.prog X.w p (ns.foldl dk [])) q=none->ms.Perm ks->ms.Pairwise (· <= ·)->Q (.ref q) (upd (upd H p (setO X.prog X.w p (ns.foldl dk []))) q (.lst (ms.map V.int)))))
  (λt hA=>by
   have q1:=q6e (p:=p') (pos:=pos') (q9E hc) hg' hm' z1s hA (by decide) (by decide) (q0o hs) rfl;have q2:=q5y (p:=p) (pos:=pos) (q9r hc) hg hm q6n (q1x q1 q4H) (by decide) (by decide) rfl rfl;exact q2.weak λσ H Q h=>h) ha h λO W H0 H vs Q l σ hl hd g pp=>by
  unfold z2l at hl;split at hl
  ·split at hl
   ·rename_i ds c ns hq;split at hl
    ·rename_i hb;cases hl;obtain⟨v,rfl,gv⟩:=g.one;obtain⟨a,ys,e1,e2,e3⟩:=gv.lst hd;have e4:=q2G hq e3;subst e4;refine⟨a,ns,by rw[e1],SqL.of e2,hb.1,λp1 hp1=>⟨p1,_,rfl,q0P,hb.2,λq ms hq1 pm pw=>?_⟩⟩;have e5:ms=q3B (ns.foldl dk []):=z4c (pm.trans (q4X _).symm) pw (q8F _);subst e5;have s1:Same H (upd H p1 (setO X.prog X.w p1 (ns.foldl dk []))):=q0r hp1;exact pp _ _ (s1.trans (q0r hq1)) (q1K (hd.mono s1) hq1 (q1O _))
    ·cases hl
   ·cases hl
  ·cases hl
theorem z5I:q1p X (.type "list") (biR X q8T):=by
 intro pins s σ H xs us Q I r h;obtain⟨l,re,O,W,H0,hb,hd,g,d,c,rfl,p⟩:=h;unfold q8T at hb;split at hb
 ·cases hb;obtain⟨v,rfl,gv⟩:=g.one;obtain⟨a,e1,e2⟩:=q2d.mp (gv.all hd);exact q2p pins s σ H _ us Q I r ⟨a,_,by rw[e1],.inl e2.sq,λq hq=>p _ _ (q0r hq) (q1K hd hq (q1O _))⟩
 ·cases hb;obtain⟨v,rfl,gv⟩:=g.one;obtain⟨a,ys,e1,e2,e3⟩:=gv.lstC hd;exact q2p pins s σ H _ us Q I r ⟨a,ys,by rw[e1],.inl (SqL.of e2),λq hq=>p _ _ (q0r hq) (q4a hd hq e3)⟩
 ·cases hb;obtain⟨v,rfl,gv⟩:=g.one;obtain⟨a,ys,e1,e2,e3⟩:=gv.tupC hd;exact q2p pins s σ H _ us Q I r ⟨a,ys,by rw[e1],.inr e2,λq hq=>p _ _ (q0r hq) (q4a hd hq e3)⟩
 ·cases hb
theorem z2E:q1p X (.type "tuple") (biR X q5h):=by
 intro pins s σ H xs us Q I r h;obtain⟨l,re,O,W,H0,hb,hd,g,d,c,rfl,p⟩:=h;unfold q5h at hb;split at hb
 ·cases hb;obtain⟨v,rfl,gv⟩:=g.one;obtain⟨a,ys,e1,e2,e3⟩:=gv.lstC hd;exact q3b pins s σ H _ us Q I r ⟨a,ys,by rw[e1],.inl ⟨SqL.of e2,λq hq=>p _ _ (q0r hq) (q7Y hd hq e3)⟩⟩
 ·cases hb;obtain⟨v,rfl,gv⟩:=g.one;obtain⟨a,ys,e1,e2,e3⟩:=gv.tupC hd;exact q3b pins s σ H _ us Q I r ⟨a,ys,by rw[e1],.inr ⟨e2,p _ _ (Same.refl H) (by rw[←e1];exact gv)⟩⟩
 ·cases hb
end
def tyS:DV->Option String
 | .non=>some "NoneType" | .bl _=>some "bool" | .int _=>some "int" | .str _=>some "str" | .tup _=>some "tuple" | .lst _=>some "list" | .dct _ _=>some "dict"
 | _=>none
def z8n(T t:String):Option Bool:=if(Value.type T==Value.type t)=true then some true else if PySem.W.kitMeta t=true then(fastBuiltinMro T).map (·.contains (.type t))else none
theorem z0b:(["NoneType","bool","int","str","tuple","list","dict"]:List String).all (λT=>(["int","bool","str","list","tuple","dict"]:List String).all λt=>z8n T t==some (T==t||(T == "bool" && t == "int")))=true:=by decide +kernel
theorem q3G{K:PySem.W.Frag}(T t:String)(h1:T∈["NoneType","bool","int","str","tuple","list","dict"])(h2:t∈["int","bool","str","list","tuple","dict"]) :
  PySem.W.kitOne K (.type T) (.type t)=some (T==t||(T == "bool" && t == "int")):=by
 have q:=List.all_eq_true.mp (List.all_eq_true.mp z0b T h1) t h2;exact(show z8n T t=_ from by simpa using q)
section
variable {X:Cx} {E:St->XK} {δ:List Sv} {e e':Expr} {pos p p':Pos} {re:Re} {ra:Option Re}
theorem z7S{pins:List (Addr×Obj)}{σ:St}{H:Hp}{s:Shared}{Q:Value->Shared->Prop}{EE:Value->Shared->Prop}{d:DV}{v:V}{u:Value}{T t:String}(I:Inv X pins σ H s)(r:Rep X.D H d v)(rv:RelV v u)(hT:tyS d=some T)(ht:t∈["int","bool","str","list","tuple","dict"])
  (h:∀tk,Q (.bool (T==t||(T == "bool" && t == "int"))) {s with toks:=tk}):wpAny (model X.prog X.w) X.A (call (.builtin "isinstance") [u,.type t]) Q EE s:=by
 cases d with
 | non=>cases hT;rw[q5W.mp r]at rv;cases rv;exact PySem.W.kia_one PySem.W.kitx_none I.kIn True.intro (q3G _ _ (by simp) ht) (λz=>nomatch z) h
 | bl b=>cases hT;rw[q4y.mp r]at rv;cases rv;exact PySem.W.kia_one PySem.W.kitx_bool I.kIn True.intro (q3G _ _ (by simp) ht) (λz=>nomatch z) h
 | int b=>cases hT;rw[q0U.mp r]at rv;obtain⟨tk,rfl⟩:=rv;exact PySem.W.kia_one PySem.W.kitx_int I.kIn True.intro (q3G _ _ (by simp) ht) (λz=>nomatch z) h
 | str b=>cases hT;rw[(q2X.mp r).1]at rv;obtain⟨tk,rfl⟩:=rv;exact PySem.W.kia_one PySem.W.kitx_str I.kIn True.intro (q3G _ _ (by simp) ht) (λz=>nomatch z) h
 | tup ds=>
  cases hT;obtain⟨a,xs,e1,e2,e3⟩:=q0I.mp r;rw[e1]at rv;cases rv;obtain⟨its,_,⟨o,h1,h2,_⟩,_⟩:=I.tuple e2;exact PySem.W.kia_one PySem.W.kitx_tuple I.kIn ⟨o,h1,h2⟩ (q3G _ _ (by simp) ht) (λz=>nomatch z) h
 | lst ds=>
  cases hT;obtain⟨a,xs,e1,e2,e3⟩:=q0z.mp r;rw[e1]at rv;cases rv;obtain⟨_,its,n,_,_,h1⟩:=I.lstM e2;exact PySem.W.kia_one PySem.W.kitx_list I.kIn ⟨_,h1,rfl⟩ (q3G _ _ (by simp) ht) (λz=>nomatch z) h
 | dct ks vs=>
  cases hT;rcases q4I.mp r with⟨a,ob,kvs,e1,e2,_⟩ | ⟨a,ob,kvs,e1,e2,_⟩
  ·rw[e1]at rv;cases rv;obtain⟨_,_,_,_,_,⟨o,_,_,h1,h2,_⟩⟩:=(show q1Q X.prog X.w H s.heap a (.frz ob (.dK kvs))from I.hok a _ e2);exact PySem.W.kia_one PySem.W.kitx_dict I.kIn ⟨o,h1,h2.1⟩ (q3G _ _ (by simp) ht) (λz=>nomatch z) h
  ·rw[e1]at rv;cases rv;obtain⟨_,_,_,_,_,o,_,_,h1,h2,_⟩:=(show q1Q X.prog X.w H s.heap a (.frz ob (.dT kvs))from I.hok a _ e2);exact PySem.W.kia_one PySem.W.kitx_dict I.kIn ⟨o,h1,h2.1⟩ (q3G _ _ (by simp) ht) (λz=>nomatch z) h
 | exc _=>cases hT
 | fn _=>cases hT
 | scr _=>cases hT
def rIsi(X:Cx):List V->Hp->VK->Prop:=λxs H Q=>∃d T t x,xs=[x,.ty t]/\Rep X.D H d x/\tyS d=some T/\t∈["int","bool","str","list","tuple","dict"]/\Q (.bl (T==t||(T == "bool" && t == "int"))) H
theorem z2o:q1p X (.builtin "isinstance") (rIsi X):=by
 intro pins s σ H xs us Q I r h;obtain⟨d,T,t,x,rfl,r1,hT,ht,q⟩:=h;obtain⟨u,w',rfl,ru,rw'⟩:=z5S r;cases rw';exact z7S I r1 ru hT ht λtk=>⟨.bl _,H,I.tok tk,rfl,q⟩
def q5j:Str->Option String:=λx=>(["int","bool","str","list","tuple","dict"]:List String).find? λt=>Str.ofString t==x
theorem z1b{x:Str}{t:String}(h:q5j x=some t):bootBuiltins x=some (.type t)/\t∈["int","bool","str","list","tuple","dict"]/\Str.ofString t=x:=by
 unfold q5j at h;have h1:=List.find?_some h;have h2:=List.mem_of_find?_eq_some h;have h3:Str.ofString t=x:=by simpa using h1
 refine⟨?_,h2,h3⟩;subst h3;simp only[List.mem_cons,List.not_mem_nil,or_false]at h2;rcases h2 with rfl | rfl | rfl | rfl | rfl | rfl
 ·exact boot_int
 ·exact boot_bool
 ·exact boot_str
 ·exact boot_list
 ·exact boot_tuple
 ·exact boot_dict
def z0E:String->List Str
 | "NoneType"=>["NoneType"] | "bool"=>["bool","int"] | "int"=>["int"] | "str"=>["str"] | "tuple"=>["tuple"] | "list"=>["list"] | "dict"=>["dict"]
 | _=>[]
theorem q7a:(["NoneType","bool","int","str","tuple","list","dict"]:List String).all (λT=>(["int","bool","str","list","tuple","dict"]:List String).all λt=>(z0E T).contains (Str.ofString t)==(T==t||(T == "bool" && t == "int")))=true:=by decide +kernel
theorem z8l{d:DV}{x:Str}{t T:String}(h:q5j x=some t)(hT:tyS d=some T):(tyOf d).contains x=(T==t||(T == "bool" && t == "int")):=by
 obtain⟨_,h2,h3⟩:=z1b h;subst h3;have key:∀T∈(["NoneType","bool","int","str","tuple","list","dict"]:List String),(z0E T).contains (Str.ofString t)=(T==t||(T == "bool" && t == "int")):=λT hT=>by have q:=List.all_eq_true.mp (List.all_eq_true.mp q7a T hT) t h2;simpa using q
 cases d<;>cases hT
 ·exact key "NoneType" (by simp)
 ·exact key "bool" (by simp)
 ·exact key "int" (by simp)
 ·exact key "str" (by simp)
 ·exact key "tuple" (by simp)
 ·exact key "list" (by simp)
 ·exact key "dict" (by simp)
theorem z5C{G:Gs}{x:Str}{t:String}(ht:q5j x=some t)(hg:Gl X "isinstance")(hm:X.mg "isinstance" = none)(hgx:Gl X x)(hmx:X.mg x=none)(hnx:x ≠ "__name__")(hdx:(x==("__debug__" : Str))=false)
  (ha:∀q,ra=some q->PE X e (dE X.D E δ q)) (hs:q0l e=false) (h:(Re.thn ra λy _=>(isiD G y [x]).map λk=>.ok (.bl k) .strong)=some re):PE X (.Call (.Name "isinstance" p) [e,.Name x p'] [] pos) (dE X.D E δ re):=by
 obtain⟨b1,b2,b3⟩:=z1b ht;have T:PE X (.Name x p') (tC (.ty t)):=z6b hgx hmx b1 rfl hnx hdx;have C:=λta (hA:PE X e ta)=>q5y (p:=p) (pos:=pos) z2o hg hm boot_isinstance (q1x hA (q1x T q4H) (q0o hs)) (by decide) (by decide) (q0o hs)
 cases hra:ra with
 | none=>rw[hra]at h;cases h
 | some q=>
  rw[hra]at h;have A:=ha q hra;cases q with
  | ex c=>cases h;exact(C _ A).weak λσ H Q ⟨O,W,R,p⟩=>⟨O,W,R,p⟩
  | ok d cl=>
   obtain⟨k,e1,e2⟩:=Option.map_eq_some_iff.mp (show((isiD G d [x]).map λk=>Re.ok (.bl k) .strong)=some re from h);cases e2;have key:∃T,tyS d=some T/\k=(tyOf d).contains x:=by
    unfold isiD at e1;have px:q2t.contains x=true:=by
     rw[←b3];simp only[List.mem_cons,List.not_mem_nil,or_false]at b2;rcases b2 with rfl | rfl | rfl | rfl | rfl | rfl<;>decide +kernel
    cases d<;>first
     | (simp only[px,if_true]at e1;cases e1;exact⟨_,rfl,rfl⟩)
     | cases e1
   obtain⟨T,hT,hk⟩:=key;exact(C _ A).weak λσ H Q ⟨O,W,R,p⟩=>⟨O,W,R,λv H1 s1 g1=>⟨d,T,t,v,rfl,g1.all (R.hid.mono s1),hT,b2,by rw[←z8l ht hT,←hk];exact p _ H1 s1 q3F⟩⟩
end
end L2
end
noncomputable section
namespace L2
open PySem PySem.Spec PyProof.Rows
section
variable {X:Cx} {E:St->XK} {δ:List Sv} {v:Expr} {te:TE} {pos kpos:Pos} {i:Int} {j:Nat}
theorem Inv.notSys{pins:List (Addr×Obj)}{σ:St}{H:Hp}{s:Shared}(I:Inv X pins σ H s){a:Addr}(h:s.heap.objs.size<=a):(a==sysModules)=false:=by
 have h1:mainGlobals<X.base.objs.size:=I.mod.glob.lt;have h2:=Nat.le_trans I.ok.bsz I.sz;have:(1:Nat)<a:=Nat.lt_of_lt_of_le (Nat.lt_of_le_of_lt (by decide:(1:Nat)<=mainGlobals) h1) (Nat.le_trans h2 h);exact beq_eq_false_iff_ne.mpr (Nat.ne_of_gt this)
theorem q4o{O:List Addr}{H:Hp}{p b:Addr}{o u:HO}(hp:H p=some (.dK []))(h:L2.wo O H b=some u)(hu:u ≠ .dK []):L2.wo O (upd H p o) b=some u:=by
 obtain⟨hb,e⟩:=q0R h;rw[q0s hb,q0q (λz=>by rw[z,hp]at e;cases e;exact hu rfl)];exact e
mutual
theorem z5y{D:Dm}{O:List Addr}{H:Hp}{p:Addr}{o:HO}(hp:H p=some (.dK [])):∀{d:DV} {v:V},Rep D (L2.wo O H) d v->Rep D (L2.wo O (upd H p o)) d v
 | .non,_,h=>by unfold Rep at h ⊢;exact h
 | .bl _,_,h=>by unfold Rep at h ⊢;exact h
 | .int _,_,h=>by unfold Rep at h ⊢;exact h
 | .str _,_,h=>by unfold Rep at h ⊢;exact h
 | .tup ds,_,h=>by
  unfold Rep at h ⊢;obtain⟨a,xs,e1,e2,e3⟩:=h;refine⟨a,xs,e1,?_,q3f hp e3⟩;rcases e2 with(h | ⟨o,h⟩) | h
  ·exact .inl (.inl (q4o hp h (by intro z;cases z)))
  ·exact .inl (.inr ⟨o,q4o hp h (by intro z;cases z)⟩)
  ·exact .inr h
 | .lst ds,_,h=>by unfold Rep at h ⊢;obtain⟨a,xs,e1,e2,e3⟩:=h;exact⟨a,xs,e1,q4o hp e2 (by intro z;cases z),q3f hp e3⟩
 | .dct _ _,_,h=>by
  unfold Rep at h ⊢;rcases h with⟨a,ob,kvs,e1,e2,e3,e4⟩ | ⟨a,ob,kvs,e1,e2,e3,e4⟩
  ·exact .inl ⟨a,ob,kvs,e1,q4o hp e2 (by intro z;cases z),e3,q3f hp e4⟩
  ·exact .inr ⟨a,ob,kvs,e1,q4o hp e2 (by intro z;cases z),e3,q3f hp e4⟩
 | .exc C,_,h=>by unfold Rep at h ⊢;obtain⟨a,C,e1,e2,e3⟩:=h;exact⟨a,C,e1,e2,q4o hp e3 (by intro z;cases z)⟩
 | .fn _,_,h=>by unfold Rep at h ⊢;exact h
 | .scr _,_,h=>by
  unfold Rep at h ⊢;obtain⟨a,e1,e2⟩:=h;refine⟨a,e1,?_⟩;rcases e2 with⟨o,h⟩ | h
  ·exact .inl ⟨o,q4o hp h (by intro z;cases z)⟩
  ·exact .inr h
theorem q3f{D:Dm}{O:List Addr}{H:Hp}{p:Addr}{o:HO}(hp:H p=some (.dK [])):∀{ds:List DV} {xs:List V},RepL D (L2.wo O H) ds xs->RepL D (L2.wo O (upd H p o)) ds xs
 | [],_,h=>by unfold RepL at h ⊢;exact h
 | d::ds,_,h=>by unfold RepL at h ⊢;obtain⟨v,vs,e1,e2,e3⟩:=h;exact⟨v,vs,e1,z5y hp e2,q3f hp e3⟩
end
theorem z6A:PE X (.Dict [] [] pos) (λσ H Q=>∀a o,H a=none->Q (.ref a) (upd H a (.frz o (.dK [])))):=λpins s σ H Q I h=>
 wpAny_Dict_empty ⟨.ref s.heap.objs.size,_,I.laid (a:=s.heap.objs.size) (o:=.frz {cls:=.type "dict",data:=.dict #[]} (.dK [])) (t':=s.toks) (λ_ _ q=>Heap.get?_push_of_some _ q) (Nat.le_refl _) ⟨Heap.get?_push_size _ rfl,Nat.zero_le _,I.notSys (Nat.le_refl _),[],.nil,Heap.DictOf.new _⟩,rfl,h _ _ (I.hok.fresh (Nat.le_refl _))⟩
theorem z5j:PE X (.Dict [] [] pos) (dE X.D E δ (.ok (.dct [] []) .strong)):=
 z6A.weak λσ H Q ⟨O,W,R,p⟩ a ob ha=>p _ _ (q0r ha) (q4I.mpr (.inl ⟨a,ob,_,rfl,by rw[q0s λz=>R.hid.ot a z ha];exact q0P,rfl,q0w.mpr rfl⟩):Rep X.D (L2.wo (O++W) _) (.dct [] []) _)
end
end L2
end
noncomputable section
namespace L2
open PySem PySem.Spec PyProof.Rows
structure Wk(D:Dm)(J:It)(ds:List DV)(Oc Oi:List Addr)(H1:Hp):Prop where
 go:∀i H,Same (L2.wo Oc H1) (L2.wo Oc H)->i<ds.length->J.go i H
 same:∀i H x H',J.yld i H x H'->Same H H'
 yld:∀i H x H' d O2,Same (L2.wo Oc H1) (L2.wo Oc H)->Same (L2.wo Oi H1) (L2.wo Oi H)->J.yld i H x H'->ds[i]? = some d->(∀a∈O2,H a≠none/\(a∈Oi\/H1 a=none))->Rep D (L2.wo O2 H') d x
 stop:∀H,Same (L2.wo Oc H1) (L2.wo Oc H)->J.stop ds.length H
def hidW(O W:List Addr):Cl->List Addr
 | .top=>O
 | .weak=>O
 | _=>O++W
def z9C(D:Dm)(E:St->XK)(σ:St)(O W:List Addr)(H:Hp)(R:It->Hp->Prop):Ri->Prop
 | .ok ds c=>∀J H',Same H H'->Wk D J ds (hidW O W c) (q0Y O W c) H'->R J H'
 | .ex c=>∀H' C,D.mg c=some C->Same H H'->E σ C none H'
def dI(D:Dm)(E:St->XK)(δ:List Sv)(r:Ri):TI:=λσ H R=>∃O W,RSt D H σ δ O W/\z9C D E σ O W H R r
theorem PI.weak{X:Cx}{tg iter:Expr}{t t':TI}(h:PI X tg iter t)(k:∀σ H R,t' σ H R->t σ H R):PI X tg iter t':=λpins s σ H R I q=>h pins s σ H R I (k σ H R q)
theorem q8I{O O2:List Addr}{H1 H:Hp}(s:Same (L2.wo O H1) (L2.wo O H))(h:∀a∈O2,H a≠none/\(a∈O\/H1 a=none)):Same (L2.wo O H1) (L2.wo O2 H):=λb o e=>by
 have q:=s b o e;obtain⟨hb,e⟩:=q0R e;obtain⟨_,q⟩:=q0R q;rw[q0s λz=>?_]
 ·exact q
 ·rcases(h b z).2 with w | w
  ·exact hb w
  ·rw[w]at e;cases e
theorem Wk.list{D:Dm}{ds:List DV}{Oc Oi:List Addr}{H1:Hp}{a:Addr}{xs:List V}(h:SqL D.K (L2.wo Oc H1) a xs)(r:RepL D (L2.wo Oi H1) ds xs):Wk D (Itl D.K a) ds Oc Oi H1 where
 go:=λi H s hi=>⟨xs,xs[i]'(by rw[r.length];exact hi),q0T.seq (s.seq h),List.getElem?_eq_getElem _⟩
 same:=λi H x H' y=>by rw[y.1];exact Same.refl _
 yld:=λi H x H' d O2 s s' y e ho=>by obtain⟨e1,y⟩:=y;subst e1;obtain⟨v,q1,q2⟩:=r.get e;have:=y xs (q0T.seq (s.seq h));rw[q1]at this;cases this;exact q2.mono (q8I s' ho)
 stop:=λH s=>⟨xs,q0T.seq (s.seq h),by rw[r.length];exact Nat.le_refl _⟩
theorem Wk.tup{D:Dm}{ds:List DV}{Oc Oi:List Addr}{H1:Hp}{a:Addr}{xs:List V}(h:SqT D.K (L2.wo Oc H1) a xs)(r:RepL D (L2.wo Oi H1) ds xs):Wk D (Itt D.K a) ds Oc Oi H1 where
 go:=λi H s hi=>⟨xs,xs[i]'(by rw[r.length];exact hi),q0T.tseq (s.tseq h),List.getElem?_eq_getElem _⟩
 same:=λi H x H' y=>by rw[y.1];exact Same.refl _
 yld:=λi H x H' d O2 s s' y e ho=>by obtain⟨e1,y⟩:=y;subst e1;obtain⟨v,q1,q2⟩:=r.get e;have:=y xs (q0T.tseq (s.tseq h));rw[q1]at this;cases this;exact q2.mono (q8I s' ho)
 stop:=λH s=>⟨xs,q0T.tseq (s.tseq h),by rw[r.length];exact Nat.le_refl _⟩
theorem q2V(lo:Int)(n:Nat):(upTo lo n).length=n:=by unfold upTo;rw[List.length_map,List.length_range]
theorem z3c{lo:Int}{n i:Nat}{d:DV}(h:(upTo lo n)[i]? = some d):i<n/\d=.int (lo+i):=by
 have hl:i<n:=by have:=(List.getElem?_eq_some_iff.mp h).1;rw[q2V]at this;exact this
 unfold upTo at h;rw[List.getElem?_map,List.getElem?_range hl]at h;cases h;exact⟨hl,rfl⟩
theorem Wk.range{D:Dm}{Oc Oi:List Addr}{H1:Hp}(lo:Int)(n:Nat):Wk D (Itr lo n) (upTo lo n) Oc Oi H1 where
 go:=λi H s hi=>by rw[q2V]at hi;exact hi
 same:=λi H x H' y=>by rw[y.1];exact Same.refl _
 yld:=λi H x H' d O2 s s' y e ho=>by obtain⟨e1,y⟩:=y;subst e1;obtain⟨_,e2⟩:=z3c e;subst e2;exact q0U.mpr y
 stop:=λH s=>by rw[q2V];exact Nat.le_refl _
theorem q2f(hi:Int)(n:Nat):(q5d hi n).length=n:=by unfold q5d;rw[List.length_map,List.length_range]
theorem q8U{hi:Int}{n i:Nat}{d:DV}(h:(q5d hi n)[i]? = some d):i<n/\d=.int (hi - i):=by
 have hl:i<n:=by have:=(List.getElem?_eq_some_iff.mp h).1;rw[q2f]at this;exact this
 unfold q5d at h;rw[List.getElem?_map,List.getElem?_range hl]at h;cases h;exact⟨hl,rfl⟩
theorem Wk.down{D:Dm}{Oc Oi:List Addr}{H1:Hp}(hi:Int)(n:Nat):Wk D (Itd hi n) (q5d hi n) Oc Oi H1 where
 go:=λi H s h=>by rw[q2f]at h;exact h
 same:=λi H x H' y=>by rw[y.1];exact Same.refl _
 yld:=λi H x H' d O2 s s' y e ho=>by obtain⟨e1,y⟩:=y;subst e1;obtain⟨_,e2⟩:=q8U e;subst e2;exact q0U.mpr y
 stop:=λH s=>by rw[q2f];exact Nat.le_refl _
section
variable {X:Cx} {E:St->XK} {δ:List Sv} {tg e e':Expr} {es:List Expr} {pos p:Pos} {ra rb:Option Re} {rs:Option Rs} {ri:Ri}
theorem Got.walkL{D:Dm}{O W:List Addr}{H0 H:Hp}{ds:List DV}{c:Cl}{v:V}(g:Got D O W H0 H (.lst ds) c v)(hd:Hid O W H0 H):∃a xs,v=.ref a/\SqL D.K (L2.wo (hidW O W c) H) a xs/\RepL D (L2.wo (q0Y O W c) H) ds xs:=by
 cases c with
 | weak=>obtain⟨a,xs,e1,e2,e3⟩:=q0z.mp g;exact⟨a,xs,e1,SqL.of e2,e3⟩
 | top=>obtain⟨a,xs,e1,e0,e2,e3⟩:=g;exact⟨a,xs,e1,SqL.of e2,e3⟩
 | strong=>obtain⟨a,xs,e1,e2,e3⟩:=q0z.mp g;exact⟨a,xs,e1,SqL.of e2,e3⟩
 | fresh=>obtain⟨a,xs,e1,e2,e3⟩:=q0z.mp (g.strong hd);exact⟨a,xs,e1,SqL.of e2,e3⟩
 | ft=>obtain⟨a,xs,e1,e2,e3⟩:=q0z.mp (g.ft hd);exact⟨a,xs,e1,SqL.of e2,e3⟩
theorem Got.walkT{D:Dm}{O W:List Addr}{H0 H:Hp}{ds:List DV}{c:Cl}{v:V}(g:Got D O W H0 H (.tup ds) c v)(hd:Hid O W H0 H):∃a xs,v=.ref a/\SqT D.K (L2.wo (hidW O W c) H) a xs/\RepL D (L2.wo (q0Y O W c) H) ds xs:=by
 cases c with
 | weak=>exact q0I.mp g
 | top=>
  obtain⟨a,xs,e1,e2,e3⟩:=q0I.mp (show Rep D (L2.wo (O++W) H) (.tup ds) v from g);exact⟨a,xs,e1,(q0A q6V).tseq e2,e3⟩
 | strong=>exact q0I.mp g
 | fresh=>obtain⟨_,_,_,_,q,_⟩:=g;cases q
 | ft=>exact q0I.mp (g.ft hd)
theorem Got.walkS{D:Dm}{O W:List Addr}{H0 H:Hp}{ns:List Int}{c:Cl}{v:V}(g:Got D O W H0 H (.scr ns) c v)(hd:Hid O W H0 H):∃a,v=.ref a/\SqL D.K (L2.wo (hidW O W c) H) a (ns.map V.int):=by
 cases c with
 | weak=>obtain⟨a,e1,e2⟩:=q2d.mp g;exact⟨a,e1,e2.sq⟩
 | top=>obtain⟨a,e1,e2⟩:=q2d.mp (show Rep D (L2.wo (O++W) H) (.scr ns) v from g);exact⟨a,e1,(q0A q6V).seq e2.sq⟩
 | strong=>obtain⟨a,e1,e2⟩:=q2d.mp g;exact⟨a,e1,e2.sq⟩
 | fresh=>obtain⟨_,_,_,_,q,_⟩:=g;cases q
 | ft=>obtain⟨a,e1,e2⟩:=q2d.mp (g.ft hd);exact⟨a,e1,e2.sq⟩
theorem q8e(ha:∀q,ra=some q->PE X e (dE X.D E δ q))(h:q0F ra=some ri):PI X tg e (dI X.D E δ ri):=by
 cases hra:ra with
 | none=>rw[hra]at h;cases h
 | some q=>
  rw[hra]at h;have A:=ha q hra;cases q with
  | ex c=>cases h;exact(q7p A).weak λσ H R' ⟨O,W,R,p⟩=>⟨O,W,R,p⟩
  | ok d c=>
   obtain⟨ds,e1,e2⟩:=Option.map_eq_some_iff.mp (show((seqD d).map λds=>Ri.ok ds c)=some ri from h);cases e2;unfold seqD at e1;split at e1
   ·cases e1;exact(q7p A).weak λσ H R' ⟨O,W,R,p⟩=>⟨O,W,R,λv H1 s1 g1=>by
     obtain⟨a,e1,e2⟩:=g1.walkS (R.hid.mono s1);exact⟨a,e1,⟨_,q0T.seq e2⟩,p _ H1 s1 (.list e2 (q1O _))⟩⟩
   ·cases e1;exact(q7p A).weak λσ H R' ⟨O,W,R,p⟩=>⟨O,W,R,λv H1 s1 g1=>by
     obtain⟨a,xs,e1,e2,e3⟩:=g1.walkL (R.hid.mono s1);exact⟨a,e1,⟨xs,q0T.seq e2⟩,p _ H1 s1 (.list e2 e3)⟩⟩
   ·cases e1;exact(z7f A).weak λσ H R' ⟨O,W,R,p⟩=>⟨O,W,R,λv H1 s1 g1=>by
     obtain⟨a,xs,e1,e2,e3⟩:=g1.walkT (R.hid.mono s1);exact⟨a,e1,⟨xs,q0T.tseq e2⟩,p _ H1 s1 (.tup e2 e3)⟩⟩
   ·cases e1
theorem q1P{i:Int}(h:q1i i=true) : -(2^62)<=i/\i<2^62:=by
 unfold q1i at h;simpa[Bool.and_eq_true]using h
theorem q5L{o:Option (List DV)}{ri:Ri}(h:q0F (o.map λds=>Re.ok (.lst ds) .fresh)=some ri):∃ds,o=some ds/\ri=.ok ds .fresh:=by
 cases o with
 | none=>cases h
 | some ds=>cases h;exact⟨ds,rfl,rfl⟩
theorem q9h(hg:Gl X "range")(hm:X.mg "range" = none)(ha:∀q,rs=some q->PA X [e] (dA X.D E δ q))(hs:q0l e=false)(h:q0F (Rs.thn rs λl=>(rngD l).map λds=>Re.ok (.lst ds) .fresh)=some ri)(hl:∀l,rs=some (.ok l)->l.length=1) :
  PI X tg (.Call (.Name "range" p) [e] [] pos) (dI X.D E δ ri):=by
 have C:=λt (hA:PA X [e] t)=>z0Y (tg:=tg) (p:=p) (pos:=pos) hg hm hA (q0o hs);cases hrs:rs with
 | none=>rw[hrs]at h;cases h
 | some q=>
  rw[hrs]at h;have A:=ha q hrs;cases q with
  | ex c=>cases h;exact(C _ A).weak λσ H R' ⟨O,W,R,p⟩=>⟨O,W,R,p⟩
  | ok l=>
   have l1:=hl l hrs;obtain⟨ds,e1,e2⟩:=q5L (show q0F ((rngD l).map λds=>Re.ok (.lst ds) .fresh)=some ri from h);cases e2;unfold rngD at e1;split at e1
   ·rename_i j c;split at e1
    ·rename_i m;cases e1;rw[Bool.and_eq_true]at m;have q:=q1P m.1;exact(C _ A).weak λσ H R' ⟨O,W,R,p⟩=>⟨O,W,R,λvs H1 s1 g1=>by
      obtain⟨v,rfl,gv⟩:=g1.one;exact⟨j,by rw[gv.int (R.hid.mono s1)],q.1,q.2,p _ H1 s1 (.range _ _)⟩⟩
    ·cases e1
   ·cases l1
   ·cases l1
   ·cases e1
theorem q8R(hg:Gl X "range")(hm:X.mg "range" = none)(ha:∀q,rs=some q->PA X [e,e'] (dA X.D E δ q))(hs:q0l e=false)(hs':q0l e'=false)(h:q0F (Rs.thn rs λl=>(rngD l).map λds=>Re.ok (.lst ds) .fresh)=some ri)(hl:∀l,rs=some (.ok l)->l.length=2) :
  PI X tg (.Call (.Name "range" p) [e,e'] [] pos) (dI X.D E δ ri):=by
 have C:=λt (hA:PA X [e,e'] t)=>z0K (tg:=tg) (p:=p) (pos:=pos) hg hm hA (by rw[q0o hs,q0o hs'];rfl) (q0o hs');cases hrs:rs with
 | none=>rw[hrs]at h;cases h
 | some q=>
  rw[hrs]at h;have A:=ha q hrs;cases q with
  | ex c=>cases h;exact(C _ A).weak λσ H R' ⟨O,W,R,p⟩=>⟨O,W,R,p⟩
  | ok l=>
   have l1:=hl l hrs;obtain⟨ds,e1,e2⟩:=q5L (show q0F ((rngD l).map λds=>Re.ok (.lst ds) .fresh)=some ri from h);cases e2;unfold rngD at e1;split at e1
   ·cases l1
   ·rename_i i c j c';split at e1
    ·rename_i m;cases e1;rw[Bool.and_eq_true,Bool.and_eq_true]at m;have q:=q1P m.1.1;have q':=q1P m.1.2;exact(C _ A).weak λσ H R' ⟨O,W,R,p⟩=>⟨O,W,R,λvs H1 s1 g1=>by
      obtain⟨v,v',rfl,gv,gv'⟩:=g1.two;exact⟨i,j,by rw[gv.int (R.hid.mono s1),gv'.int (R.hid.mono s1)],⟨q.1,q.2,q'.1,q'.2⟩,p _ H1 s1 (.range _ _)⟩⟩
    ·cases e1
   ·cases l1
   ·cases e1
theorem q9f{e'':Expr}(hg:Gl X "range")(hm:X.mg "range" = none)(ha:∀q,rs=some q->PA X [e,e',e''] (dA X.D E δ q))(hs:q0l e=false)(hs':q0l e'=false)(hs'':q0l e''=false)(h:q0F (Rs.thn rs λl=>(rngD l).map λds=>Re.ok (.lst ds) .fresh)=some ri)(hl:∀l,rs=some (.ok l)->l.length=3) :
  PI X tg (.Call (.Name "range" p) [e,e',e''] [] pos) (dI X.D E δ ri):=by
 have C:=λt (hA:PA X [e,e',e''] t)=>q9A (tg:=tg) (p:=p) (pos:=pos) hg hm hA (by rw[q0o hs,q0o hs',q0o hs''];rfl) (by rw[q0o hs',q0o hs''];rfl);cases hrs:rs with
 | none=>rw[hrs]at h;cases h
 | some q=>
  rw[hrs]at h;have A:=ha q hrs;cases q with
  | ex c=>cases h;exact(C _ A).weak λσ H R' ⟨O,W,R,p⟩=>⟨O,W,R,p⟩
  | ok l=>
   have l1:=hl l hrs;obtain⟨ds,e1,e2⟩:=q5L (show q0F ((rngD l).map λds=>Re.ok (.lst ds) .fresh)=some ri from h);cases e2;unfold rngD at e1;split at e1
   ·cases l1
   ·cases l1
   ·rename_i i c j c' k c'';split at e1
    ·rename_i m;cases e1;rw[Bool.and_eq_true,Bool.and_eq_true,Bool.and_eq_true,decide_eq_true_eq,decide_eq_true_eq]at m;have q:=q1P m.1.1.1;have q':=q1P m.1.1.2;have k1:=m.2;subst k1;exact(C _ A).weak λσ H R' ⟨O,W,R,p⟩=>⟨O,W,R,λvs H1 s1 g1=>by
      obtain⟨v,v',v'',rfl,gv,gv',gv''⟩:=g1.three;exact⟨i,j,by rw[gv.int (R.hid.mono s1),gv'.int (R.hid.mono s1),gv''.int (R.hid.mono s1)],⟨q.1,q.2,q'.1,q'.2⟩,p _ H1 s1 (.down _ _)⟩⟩
    ·cases e1
   ·cases e1
end
def q8f:List Nat->TGs
 | []=>gNil
 | i::is=>z8V (z0D i) (q8f is)
def gT(K:PySem.W.Frag):Tg->TG
 | .one i=>z0D i
 | .many is=>gTup K is.length (q8f is)
theorem RSt.setVal{D:Dm}{H:Hp}{σ:St}{δ:List Sv}{O W:List Addr}{v:V}{d:DV}(R:RSt D H σ δ O W)(r:Rep D (L2.wo (O++W) H) d v)(i:Nat):RSt D H (σ.set i (some v)) (δ.set i (.val d)) O W where
 val:=λj d' h=>by
  by_cases hj:j=i
  ·subst hj;have hl:j<δ.length:=by
    have:=(List.getElem?_eq_some_iff.mp h).1;rw[List.length_set]at this;exact this
   rw[List.getElem?_set_self hl]at h;cases h;exact⟨v,List.getElem?_set_self (by rw[R.len];exact hl),r⟩
  ·rw[List.getElem?_set_ne (Ne.symm hj)]at h ⊢;exact R.val j d' h
 own:=λj ds' h=>by
  by_cases hj:j=i
  ·subst hj;have hl:j<δ.length:=by
    have:=(List.getElem?_eq_some_iff.mp h).1;rw[List.length_set]at this;exact this
   rw[List.getElem?_set_self hl]at h;cases h
  ·rw[List.getElem?_set_ne (Ne.symm hj)]at h ⊢;exact R.own j ds' h
 inj:=λj k a d1 d2 h1 h2 e1 e2=>by
  have ne:∀{j:Nat} {d1:DV},(δ.set i (.val d))[j]? = some (.own d1)->j≠i:=λ{j d1} h1 z=>by
   subst z;have hl:j<δ.length:=by have:=(List.getElem?_eq_some_iff.mp h1).1;rw[List.length_set]at this;exact this
   rw[List.getElem?_set_self hl]at h1;cases h1
  have n1:=ne h1;have n2:=ne h2;rw[List.getElem?_set_ne (Ne.symm n1)]at h1 e1;rw[List.getElem?_set_ne (Ne.symm n2)]at h2 e2;exact R.inj j k a d1 d2 h1 h2 e1 e2
 ot:=λj d' h=>by
  have ne:∀{j:Nat} {s:Sv},(∀d,s ≠ .val d)->(δ.set i (.val d))[j]? = some s->j≠i:=λ{j s} hs h1 z=>by
   subst z;have hl:j<δ.length:=by have:=(List.getElem?_eq_some_iff.mp h1).1;rw[List.length_set]at this;exact this
   rw[List.getElem?_set_self hl]at h1;cases h1;exact hs _ rfl
  have nj:=ne (by intro d z;cases z) h;rw[List.getElem?_set_ne (Ne.symm nj)]at h ⊢;obtain⟨⟨t,ts,p,xs,ds,es,e0,e1,e2,e3,e4,e5,e6,e7⟩,u⟩:=R.ot j d' h;refine⟨⟨t,ts,p,xs,ds,es,e0,e1,e2,e3,e4,e5,e6,λk d2 q=>?_⟩,λk d2 q=>?_⟩
  ·have nk:=ne (by intro d z;cases z) q;rw[List.getElem?_set_ne (Ne.symm nk)]at q ⊢;exact e7 k d2 q
  ·have nk:=ne (by intro d z;cases z) q;rw[List.getElem?_set_ne (Ne.symm nk)]at q;exact u k d2 q
 o2:=λj d' h=>by
  have ne:∀{j:Nat} {s:Sv},(∀d,s ≠ .val d)->(δ.set i (.val d))[j]? = some s->j≠i:=λ{j s} hs h1 z=>by
   subst z;have hl:j<δ.length:=by have:=(List.getElem?_eq_some_iff.mp h1).1;rw[List.length_set]at this;exact this
   rw[List.getElem?_set_self hl]at h1;cases h1;exact hs _ rfl
  have nj:=ne (by intro d z;cases z) h;rw[List.getElem?_set_ne (Ne.symm nj)]at h ⊢;obtain⟨⟨p,L,e0,e1,e2,e3⟩,u,n⟩:=R.o2 j d' h;refine⟨⟨p,L,e0,e1,e2,λk d2 a q q2=>?_⟩,λk d2 q=>?_,λk d2 q=>?_⟩
  ·have nk:=ne (by intro d z;cases z) q;rw[List.getElem?_set_ne (Ne.symm nk)]at q q2;exact e3 k d2 a q q2
  ·have nk:=ne (by intro d z;cases z) q;rw[List.getElem?_set_ne (Ne.symm nk)]at q;exact u k d2 q
  ·have nk:=ne (by intro d z;cases z) q;rw[List.getElem?_set_ne (Ne.symm nk)]at q;exact n k d2 q
 od:=R.od.step (q8s _ (by intro d z;cases z)) (λ_ h _=>h) (λ_ _ _ h _=>h)
 len:=by rw[List.length_set,List.length_set];exact R.len
 hid:=R.hid
theorem q6Y{D:Dm}{H:Hp}{O W:List Addr}{Q:St->Hp->Prop}:∀{is:List Nat} {ds:List DV} {xs:List V} {σ:St} {δ δ':List Sv},RSt D H σ δ O W->RepL D (L2.wo (O++W) H) ds xs->q4V δ is ds=some δ'->(∀σ',RSt D H σ' δ' O W->Q σ' H)->q8f is xs σ H Q
 | [],[],xs,σ,δ,δ',R,r,h,q=>by cases h;exact⟨q0w.mp r,q σ R⟩
 | i::is,d::ds,xs,σ,δ,δ',R,r,h,q=>by obtain⟨v,vs,e1,e2,e3⟩:=q0j.mp r;exact⟨v,vs,e1,q6Y (R.setVal e2 i) e3 h q⟩
 | [],_::_,_,_,_,_,_,_,h,_=>by cases h
 | _::_,[],_,_,_,_,_,_,h,_=>by cases h
theorem q2e:∀{is:List Nat} {ds:List DV} {δ δ':List Sv},q4V δ is ds=some δ'->is.length=ds.length/\δ'.length=δ.length
 | [],[],_,_,h=>by cases h;exact⟨rfl,rfl⟩
 | i::is,d::ds,δ,δ',h=>by obtain⟨a,b⟩:=q2e (is:=is) h;exact⟨by rw[List.length_cons,List.length_cons,a],by rw[b,List.length_set]⟩
 | [],_::_,_,_,h=>by cases h
 | _::_,[],_,_,h=>by cases h
theorem q7h{D:Dm}{H:Hp}{O W:List Addr}{Q:St->Hp->Prop}{tg:Tg}{d:DV}{x:V}{σ:St}{δ δ':List Sv}(R:RSt D H σ δ O W)(r:Rep D (L2.wo (O++W) H) d x)(h:tg.bind d δ=some δ')(q:∀σ',RSt D H σ' δ' O W->Q σ' H):gT D.K tg x σ H Q:=by
 cases tg with
 | one i=>cases h;exact q _ (R.setVal r i)
 | many is=>
  unfold Tg.bind at h;dsimp only at h;split at h
  ·rename_i ds;obtain⟨a,xs,e1,e2,e3⟩:=q0I.mp r;exact⟨a,xs,e1,q0T.tseq e2,by rw[e3.length,(q2e h).1],q6Y R e3 h q⟩
  ·cases h
theorem RSt.less{D:Dm}{H:Hp}{σ:St}{δ δ':List Sv}{O W:List Addr}(R:RSt D H σ δ' O W)(hl:δ.length=δ'.length)(h:∀(i:Nat) sv,δ[i]? = some sv->sv=.no\/δ'[i]? = some sv):RSt D H σ δ O W where
 val:=λi d e=>by
  rcases h i _ e with z | z
  ·cases z
  ·exact R.val i d z
 own:=λi d e=>by
  rcases h i _ e with z | z
  ·cases z
  ·exact R.own i d z
 inj:=λi j a d d' e e'=>by
  rcases h i _ e with z | z
  ·cases z
  ·rcases h j _ e' with y | y
   ·cases y
   ·exact R.inj i j a d d' z y
 ot:=λi d e=>by
  rcases h i _ e with z | z
  ·cases z
  ·obtain⟨⟨t,ts,p,xs,ds,es,e0,e1,e2,e3,e4,e5,e6,e7⟩,u⟩:=R.ot i d z;refine⟨⟨t,ts,p,xs,ds,es,e0,e1,e2,e3,e4,e5,e6,λk d2 q=>?_⟩,λk d2 q=>?_⟩
   ·rcases h k _ q with y | y
    ·cases y
    ·exact e7 k d2 y
   ·rcases h k _ q with y | y
    ·cases y
    ·exact u k d2 y
 o2:=λi d e=>by
  rcases h i _ e with z | z
  ·cases z
  ·obtain⟨⟨p,L,e0,e1,e2,e3⟩,u,n⟩:=R.o2 i d z;refine⟨⟨p,L,e0,e1,e2,λk d2 a q q2=>?_⟩,λk d2 q=>?_,λk d2 q=>?_⟩
   ·rcases h k _ q with y | y
    ·cases y
    ·exact e3 k d2 a y q2
   ·rcases h k _ q with y | y
    ·cases y
    ·exact u k d2 y
   ·rcases h k _ q with y | y
    ·cases y
    ·exact n k d2 y
 od:=R.od.step (λj d e=>by
  rcases h j _ e with z | z
  ·cases z
  ·exact⟨z,rfl⟩) (λ_ h _=>h) (λ_ _ _ h _=>h)
 len:=by rw[hl];exact R.len
 hid:=R.hid
theorem q7J:∀{is:List Nat} {ds:List DV} {δ δ':List Sv},q4V δ is ds=some δ'->(∀i∈is,δ[i]? = some .no\/δ[i]? = none)->∀(i:Nat) sv,δ[i]? = some sv->sv=.no\/δ'[i]? = some sv
 | [],[],_,_,h,_,i,sv,e=>by cases h;exact .inr e
 | j::is,d::ds,δ,δ',h,hn,i,sv,e=>by
  by_cases hij:i∈j::is
  ·rcases hn i hij with z | z
   ·rw[z]at e;cases e;exact .inl rfl
   ·rw[z]at e;cases e
  ·have hne:j≠i:=λz=>hij (by rw[z];exact List.mem_cons_self);have hni:i∉is:=λz=>hij (List.mem_cons_of_mem _ z);have key:∀{is:List Nat} {ds:List DV} {δ δ':List Sv},q4V δ is ds=some δ'->i∉is->δ[i]? = some sv->δ'[i]? = some sv:=by
    intro is
    induction is with
    | nil=>intro ds δ δ' h _ e;cases ds with
     | nil=>cases h;exact e
     | cons _ _=>cases h
    | cons k is ih=>intro ds δ δ' h hi e;cases ds with
     | nil=>cases h
     | cons d ds=>
      refine ih h (λz=>hi (List.mem_cons_of_mem _ z)) ?_;rw[List.getElem?_set_ne (λz=>hi (by rw[z];exact List.mem_cons_self))];exact e
   exact .inr (key h hij e)
 | [],_::_,_,_,h,_,_,_,_=>by cases h
 | _::_,[],_,_,h,_,_,_,_=>by cases h
theorem q6G{tg:Tg}{d:DV}{δ δ':List Sv}(h:tg.bind d δ=some δ')(hn:∀i∈q2R tg,δ[i]? = some .no\/δ[i]? = none):δ.length=δ'.length/\∀(i:Nat) sv,δ[i]? = some sv->sv=.no\/δ'[i]? = some sv:=by
 cases tg with
 | one j=>
  cases h;refine⟨(List.length_set ..).symm,λi sv e=>?_⟩;by_cases hij:i=j
  ·subst hij;rcases hn i (by simp[q2R])with z | z
   ·rw[z]at e;cases e;exact .inl rfl
   ·rw[z]at e;cases e
  ·exact .inr (by rw[List.getElem?_set_ne (Ne.symm hij)];exact e)
 | many is=>
  unfold Tg.bind at h;dsimp only at h;split at h
  ·exact⟨(q2e h).2.symm,q7J h hn⟩
  ·cases h
theorem RSt.inner{D:Dm}{H:Hp}{σ:St}{δ:List Sv}{O W:List Addr}(R:RSt D H σ δ O W)(fr:List (Option Nat))(hnd:∀(j k i:Nat),fr[j]? = some (some i)->fr[k]? = some (some i)->j=k):RSt D H (L2.inner fr σ) (q0Q fr δ) O W:=by
 have look:∀(j:Nat) sv,(q0Q fr δ)[j]? = some sv->sv ≠ .no->∃i,fr[j]? = some (some i)/\δ[i]? = some sv:=λj sv h hn=>by
  unfold q0Q at h;rw[List.getElem?_map]at h;cases q:fr[j]? with
  | none=>rw[q]at h;cases h
  | some o=>
   rw[q]at h;cases o with
   | none=>cases h;exact absurd rfl hn
   | some i=>
    refine⟨i,rfl,?_⟩;have h':(δ.getD i .no).plain=sv:=by simpa using h
    rw[List.getD_eq_getElem?_getD]at h';cases z:δ[i]? with
    | none=>rw[z]at h';exact absurd h'.symm hn
    | some sv'=>
     rw[z]at h';cases sv' with
     | ot d=>exact absurd h'.symm hn
     | o2 d=>exact absurd h'.symm hn
     | od d=>exact congrArg some h'
     | no=>exact congrArg some h'
     | val d=>exact congrArg some h'
     | own d=>exact congrArg some h'
 have sig:∀(j i:Nat) (v:V),fr[j]? = some (some i)->σ[i]? = some (some v)->(L2.inner fr σ)[j]? = some (some v):=λj i v q e=>by unfold L2.inner;rw[List.getElem?_map,q];simp[e]
 have noot:∀(j:Nat) d,(q0Q fr δ)[j]? ≠ some (.ot d):=λj d h=>by
  unfold q0Q at h;rw[List.getElem?_map]at h;cases q:fr[j]? with
  | none=>rw[q]at h;cases h
  | some o=>
   rw[q]at h;cases o with
   | none=>cases h
   | some i=>
    have h':(δ.getD i .no).plain=.ot d:=by simpa using h
    cases z:δ.getD i .no with
    | ot d2=>rw[z]at h';cases h'
    | o2 d2=>rw[z]at h';cases h'
    | od d2=>rw[z]at h';cases h'
    | no=>rw[z]at h';cases h'
    | val d2=>rw[z]at h';cases h'
    | own d2=>rw[z]at h';cases h'
 have noo2:∀(j:Nat) d,(q0Q fr δ)[j]? ≠ some (.o2 d):=λj d h=>by
  unfold q0Q at h;rw[List.getElem?_map]at h;cases q:fr[j]? with
  | none=>rw[q]at h;cases h
  | some o=>
   rw[q]at h;cases o with
   | none=>cases h
   | some i=>
    have h':(δ.getD i .no).plain=.o2 d:=by simpa using h
    cases z:δ.getD i .no with
    | ot d2=>rw[z]at h';cases h'
    | o2 d2=>rw[z]at h';cases h'
    | od d2=>rw[z]at h';cases h'
    | no=>rw[z]at h';cases h'
    | val d2=>rw[z]at h';cases h'
    | own d2=>rw[z]at h';cases h'
 refine⟨λj d h=>?_,λj d h=>?_,λj k a d d' h1 h2 e1 e2=>?_,λj d h=>absurd h (noot j d),λj d h=>absurd h (noo2 j d),λj d h=>?_,?_,R.hid⟩
 ·obtain⟨i,q1,q2⟩:=look j _ h (by intro z;cases z);obtain⟨v,e1,e2⟩:=R.val i d q2;exact⟨v,sig j i v q1 e1,e2⟩
 ·obtain⟨i,q1,q2⟩:=look j _ h (by intro z;cases z);obtain⟨a,xs,ds,e0,e1,e2⟩:=R.own i d q2;exact⟨a,xs,ds,e0,sig j i _ q1 e1,e2⟩
 ·obtain⟨i,q1,q2⟩:=look j _ h1 (by intro z;cases z);obtain⟨i',q1',q2'⟩:=look k _ h2 (by intro z;cases z);obtain⟨b,xs,ds,_,z1,_⟩:=R.own i d q2;obtain⟨b',xs',ds',_,z1',_⟩:=R.own i' d' q2';have y:=sig j i _ q1 z1;have y':=sig k i' _ q1' z1';rw[e1]at y;rw[e2]at y';cases y;cases y';have:=R.inj i i' a d d' q2 q2' z1 z1';subst this;exact hnd j k i q1 q1'
 ·obtain⟨i,q1,q2⟩:=look j _ h (by intro z;cases z);obtain⟨⟨a,o,e0,e1,e2⟩,u⟩:=R.od i d q2;refine⟨⟨a,o,e0,sig j i _ q1 e1,e2⟩,λk d' z=>?_⟩;obtain⟨i',q1',q2'⟩:=look k _ z (by intro z;cases z);rw[u i' d' q2']at q1';exact hnd k j i q1' q1
 ·unfold L2.inner q0Q;rw[List.length_map,List.length_map]
section
variable {X:Cx} {E:St->XK} {δ:List Sv} {iter elt tgE:Expr} {ifs:List Expr} {pos:Pos} {N':List Str} {scope:Scope} {fr:List (Option Nat)} {tg:Tg} {ri:Option Ri} {re:Re}
theorem q8z{D:Dm}{J:It}{ds:List DV}{O W:List Addr}{H H1:Hp}{σ:St}{c:Cl}{g:DV->Option Rc}{xs:List DV}{tc:TT}{te:TE}{δ0:List Sv}{Q:VK}(w:Wk D J ds (hidW O W c) (q0Y O W c) H1)(hd0:Hid O W H H)(hc:c ≠ .weak)(R:RSt D H1 σ δ0 O W)
  (hn:∀i∈q2R tg,δ0[i]? = some .no\/δ0[i]? = none) (hz:ds.length<=sizeLine) (hx:q0K g ds=some xs) (s1:Same H H1)
  (step:∀d rc,d∈ds->g d=some rc->∃δ',tg.bind d δ0=some δ'/\∀σ' H2,Same H1 H2->RSt D H2 σ' δ' O W->∀K:Bool->Hp->Prop,(rc=.skip->∀H3,Same H2 H3->K false H3)->(∀x,rc=.item x->∀H3,Same H2 H3->K true H3)->tc σ' H2 K)
  (stepE:∀d x,d∈ds->g d=some (.item x)->∀δ',tg.bind d δ0=some δ'->∀σ' H2,Same H1 H2->RSt D H2 σ' δ' O W->∀K:VK,(∀v H3,Same H2 H3->Rep D (L2.wo (O++W) H3) x v->K v H3)->te σ' H2 K)
  (fin:∀v H',Same H H'->Got D O W H H' (.lst xs) .fresh v->Q v H') :
  z4J J (gT D.K tg) tc te (λys H'=>∀p,H' p=none->Q (.ref p) (upd H' p (.lst ys))) σ H1:=by
 have ci:q0Y O W c=O++W:=by cases c<;>first | rfl | exact absurd rfl hc
 rw[ci]at w;refine⟨λi n ys σ' H'=>n=ds.length - i/\i<=ds.length/\ys.length<=i/\RSt D H' σ' δ0 O W/\Same H1 H'/\∃done rest,q0K g (ds.drop i)=some rest/\done++rest=xs/\RepL D (L2.wo (O++W) H') done ys,
  ⟨ds.length,rfl,Nat.zero_le _,Nat.zero_le _,R,Same.refl _,[],xs,hx,rfl,q0w.mpr rfl⟩,?_⟩
 rintro i n ys σ2 H2 ⟨rfl,hi',hy,R2,s2,done,rest,h1,h2,r2⟩
 by_cases hlt:i<ds.length
 ·refine .inr ⟨w.go i H2 s2.wo hlt,Nat.lt_of_le_of_lt hy (Nat.lt_of_lt_of_le hlt hz),λx' H3 y=>?_⟩;have y1:=w.same i H2 x' H3 y;have y3:Rep D (L2.wo (O++W) H3) ds[i] x':=w.yld i H2 x' H3 _ (O++W) s2.wo s2.wo y (List.getElem?_eq_getElem hlt) λa ha=>⟨R2.hid.ot a ha,.inl ha⟩;rw[List.drop_eq_getElem_cons hlt]at h1;have hm:ds[i]∈ds:=List.getElem_mem hlt;unfold q0K at h1;split at h1
  ·cases h1
  ·rename_i q;obtain⟨δ',b1,b2⟩:=step _ _ hm q;refine q7h (R2.mono y1) y3 b1 λσ3 R3=>?_
   have back:=q6G b1 hn;refine b2 σ3 H3 (s2.trans y1) R3 _ (λ_ H4 s4=>?_) (λx z=>nomatch z);show if false=true then _ else _
   rw[if_neg Bool.false_ne_true];exact⟨ds.length - (i+1),by omega,rfl,hlt,Nat.le_succ_of_le hy,(R3.less back.1 back.2).mono s4,(s2.trans y1).trans s4,done,rest,h1,h2,r2.mono (y1.trans s4).wo⟩
  ·rename_i x q;split at h1
   ·cases h1
   ·rename_i rest' q';cases h1;obtain⟨δ',b1,b2⟩:=step _ _ hm q;refine q7h (R2.mono y1) y3 b1 λσ3 R3=>?_
    have back:=q6G b1 hn;refine b2 σ3 H3 (s2.trans y1) R3 _ (λz=>nomatch z) (λx' z H4 s4=>?_);cases z;show if true=true then _ else _
    rw[if_pos rfl];refine stepE _ x hm q δ' b1 σ3 H4 ((s2.trans y1).trans s4) (R3.mono s4) _ λv H5 s5 rv=>?_
    exact⟨ds.length - (i+1),by omega,rfl,hlt,by rw[List.length_append,List.length_singleton];omega,(R3.less back.1 back.2).mono (s4.trans s5),((s2.trans y1).trans s4).trans s5,done++[x],rest',q',by rw[List.append_assoc];exact h2,
     (r2.mono ((y1.trans s4).trans s5).wo).append (RepL.one rv)⟩
 ·have e:i=ds.length:=by omega
  subst e;rw[List.drop_length]at h1;cases h1;rw[List.append_nil]at h2;subst h2;have s0:=s1.trans s2;refine .inl ⟨w.stop H2 s2.wo,λp hp=>fin _ _ (s0.trans (q0r hp)) ?_⟩;have hd:Hid O W H H2:=hd0.mono s0;exact q1K hd hp r2
abbrev E0s:St->XK:=λ_ _ _ _=>False
theorem PE.any{Y:Cx}{e:Expr}{ι:Sort _}{t:ι->TE}(h:∀k,PE Y e (t k)):PE Y e (λσ H Q=>∃k,t k σ H Q):=λpins s σ H Q I ⟨k,q⟩=>h k pins s σ H Q I q
theorem PTs.any{Y:Cx}{ι:Sort _}{es:List Expr}{t:ι->TT}(h:∀k,PTs Y es (t k)):PTs Y es (λσ H Q=>∃k,t k σ H Q):=λpins s σ H Q I ⟨k,q⟩=>h k pins s σ H Q I q
theorem Rc.of_item{r:Option Re}{x:DV}(h:Rc.of r=some (.item x)):∃c,r=some (.ok x c)/\stro x c=true:=by
 unfold Rc.of at h;split at h
 ·rename_i d c;split at h
  ·rename_i m;cases h;exact⟨c,rfl,m⟩
  ·cases h
 ·cases h
theorem Rc.of_skip{r:Option Re}(h:Rc.of r=some .skip):False:=by
 unfold Rc.of at h;split at h
 ·split at h<;>cases h
 ·cases h
theorem q6t{fr:List (Option Nat)}{δ:List Sv}{i:Nat}(h:fr[i]? = some none):(q0Q fr δ)[i]? = some .no:=by
 unfold q0Q;rw[List.getElem?_map,h];rfl
def q1n(X:Cx)(E:St->XK)(δ:List Sv)(tgE iter:Expr)(ifs:List Expr)(elt:Expr)(scope:Scope)(N':List Str)(fr:List (Option Nat))(tg:Tg)(re:Re):Prop:=
 ∃wi tc te,PI X tgE iter wi/\(∀C cells s₂ H₂ fp,PTs (q0v X scope N' C cells s₂ H₂ fp) ifs tc)/\(∀C cells s₂ H₂ fp,PE (q0v X scope N' C cells s₂ H₂ fp) elt te) /\
  ∀σ H Q,dE X.D E δ re σ H Q->z6c fr wi (gT X.K tg) tc te σ H Q
theorem q5Y{iter:Expr}{env:Env}(hset:q2H iter=false):∀x,foldedSetIterable iter env x=pure x:=by cases iter<;>first | (intro _;rfl) | cases hset
theorem q1n.pe(P:q1n X E δ tgE iter ifs elt scope N' fr tg re)(S:CompScope X.N N' scope X.env.scope fr)(hc:X.calm=true)(hG:∀C cells s₂ H₂ fp,PG (q0v X scope N' C cells s₂ H₂ fp) tgE (gT X.K tg))(hset:q2H iter=false) :
  PE X (.ListComp elt [⟨tgE,iter,ifs,0⟩] scope pos) (dE X.D E δ re):=by
 obtain⟨wi,tc,te,h1,h2,h3,h4⟩:=P;exact(z5W (pos:=pos) S hc h1 hG h2 h3 (q5Y hset)).weak h4
theorem q4S{evElt:List Sv->Option Re}(S:CompScope X.N N' scope X.env.scope fr)(hc:X.calm=true)(hnd:∀(j k i:Nat),fr[j]? = some (some i)->fr[k]? = some (some i)->j=k)(hsl:∀i∈q2R tg,fr[i]? = some none)(hi:∀q,ri=some q->PI X tgE iter (dI X.D E δ q))
  (hG:∀C cells s₂ H₂ fp,PG (q0v X scope N' C cells s₂ H₂ fp) tgE (gT X.K tg)) (he:∀δ' r,evElt δ'=some r->∀C cells s₂ H₂ fp,PE (q0v X scope N' C cells s₂ H₂ fp) elt (dE X.D E0s δ' r))
  (h:(Ri.thn ri λds c=>if c=.weak\/mostLen<ds.length then none else q1z (q0K (λd=>(tg.bind d (q0Q fr δ)).bind λδ'=>Rc.of (evElt δ')) ds))=some re):q1n X E δ tgE iter [] elt scope N' fr tg re:=by
 cases hri:ri with
 | none=>rw[hri]at h;cases h
 | some q=>
  rw[hri]at h;have A:=hi q hri;refine⟨_,_,_,A,(λC cells s₂ H₂ fp=>z5c),(λC cells s₂ H₂ fp=>PE.any (ι:={p:List Sv×Re // evElt p.1=some p.2}) (t:=λk=>dE X.D E0s k.1.1 k.1.2) λk=>he k.1.1 k.1.2 k.2 C cells s₂ H₂ fp),?_⟩;cases q with
  | ex c=>cases h;exact λσ H Q ⟨O,W,R,p⟩=>⟨O,W,R,p⟩
  | ok ds c=>
   have h':(if c=.weak\/mostLen<ds.length then none else q1z (q0K (λd=>(tg.bind d (q0Q fr δ)).bind λδ'=>Rc.of (evElt δ')) ds))=some re:=h;split at h'
   ·cases h'
   ·rename_i m;rw[not_or]at m;unfold q1z at h';split at h'
    ·cases h'
    ·rename_i xs hx;cases h';refine λσ H Q ⟨O,W,R,p⟩=>⟨O,W,R,λJ H1 s1 w=>?_⟩
     refine q8z (tg:=tg) (D:=X.D) w R.hid m.1 ((R.mono s1).inner fr hnd) (λi hi=>.inl (q6t (hsl i hi))) (q1X (by omega)) hx s1 (λd rc hm hg=>?_) (λd x hm hg δ' hb σ' H2 s2 R2 K hK=>?_) p
     ·cases hb:tg.bind d (q0Q fr δ)with
      | none=>rw[hb]at hg;cases hg
      | some δ'=>
       rw[hb]at hg;refine⟨δ',rfl,λσ' H2 s2 R2 K k1 k2=>?_⟩;cases rc with
       | skip=>exact(Rc.of_skip hg).elim
       | item x=>exact k2 x rfl H2 (Same.refl _)
     ·rw[hb]at hg;obtain⟨cl,e1,e2⟩:=Rc.of_item hg;exact⟨⟨⟨δ',.ok x cl⟩,e1⟩,O,W,R2,λv H3 s3 g3=>hK v H3 s3 (g3.stro (R2.hid.mono s3) e2)⟩
theorem q4k{evElt:List Sv->Option Re}{evC:List Sv->Option Rt}{cond:Expr}(S:CompScope X.N N' scope X.env.scope fr)(hc:X.calm=true)(hnd:∀(j k i:Nat),fr[j]? = some (some i)->fr[k]? = some (some i)->j=k)(hsl:∀i∈q2R tg,fr[i]? = some none)(hi:∀q,ri=some q->PI X tgE iter (dI X.D E δ q))
  (hG:∀C cells s₂ H₂ fp,PG (q0v X scope N' C cells s₂ H₂ fp) tgE (gT X.K tg)) (he:∀δ' r,evElt δ'=some r->∀C cells s₂ H₂ fp,PE (q0v X scope N' C cells s₂ H₂ fp) elt (dE X.D E0s δ' r))
  (ht:∀δ' r,evC δ'=some r->∀C cells s₂ H₂ fp,PT (q0v X scope N' C cells s₂ H₂ fp) cond (dT X.D E0s δ' r))
  (h:(Ri.thn ri λds c=>if c=.weak\/mostLen<ds.length then none else q1z (q0K (λd=>(tg.bind d (q0Q fr δ)).bind λδ'=>Rc.test (evC δ') (Rc.of (evElt δ'))) ds))=some re):q1n X E δ tgE iter [cond] elt scope N' fr tg re:=by
 cases hri:ri with
 | none=>rw[hri]at h;cases h
 | some q=>
  rw[hri]at h;have A:=hi q hri;refine⟨_,_,_,A,(λC cells s₂ H₂ fp=>PTs.any (ι:={p:List Sv×Rt // evC p.1=some p.2}) (t:=λk=>dT X.D E0s k.1.1 k.1.2) λk=>z5K (ht k.1.1 k.1.2 k.2 C cells s₂ H₂ fp)),
   (λC cells s₂ H₂ fp=>PE.any (ι:={p:List Sv×Re // evElt p.1=some p.2}) (t:=λk=>dE X.D E0s k.1.1 k.1.2) λk=>he k.1.1 k.1.2 k.2 C cells s₂ H₂ fp),?_⟩
  cases q with
  | ex c=>cases h;exact λσ H Q ⟨O,W,R,p⟩=>⟨O,W,R,p⟩
  | ok ds c=>
   have h':(if c=.weak\/mostLen<ds.length then none else q1z (q0K (λd=>(tg.bind d (q0Q fr δ)).bind λδ'=>Rc.test (evC δ') (Rc.of (evElt δ'))) ds))=some re:=h;split at h'
   ·cases h'
   ·rename_i m;rw[not_or]at m;unfold q1z at h';split at h'
    ·cases h'
    ·rename_i xs hx;cases h';refine λσ H Q ⟨O,W,R,p⟩=>⟨O,W,R,λJ H1 s1 w=>?_⟩
     refine q8z (tg:=tg) (D:=X.D) w R.hid m.1 ((R.mono s1).inner fr hnd) (λi hi=>.inl (q6t (hsl i hi))) (q1X (by omega)) hx s1 (λd rc hm hg=>?_) (λd x hm hg δ' hb σ' H2 s2 R2 K hK=>?_) p
     ·cases hb:tg.bind d (q0Q fr δ)with
      | none=>rw[hb]at hg;cases hg
      | some δ'=>
       rw[hb]at hg;have hg':Rc.test (evC δ') (Rc.of (evElt δ'))=some rc:=hg;refine⟨δ',rfl,λσ' H2 s2 R2 K k1 k2=>?_⟩;unfold Rc.test at hg';split at hg'
       ·rename_i q;refine⟨⟨⟨δ',.ok true⟩,q⟩,O,W,R2,λH3 s3=>?_⟩;cases rc with
        | skip=>exact(Rc.of_skip hg').elim
        | item x=>exact k2 x rfl H3 s3
       ·rename_i q;cases hg';exact⟨⟨⟨δ',.ok false⟩,q⟩,O,W,R2,λH3 s3=>k1 rfl H3 s3⟩
       ·cases hg'
     ·rw[hb]at hg;have hg':Rc.test (evC δ') (Rc.of (evElt δ'))=some (.item x):=hg;unfold Rc.test at hg';split at hg'
      ·obtain⟨cl,e1,e2⟩:=Rc.of_item hg';exact⟨⟨⟨δ',.ok x cl⟩,e1⟩,O,W,R2,λv H3 s3 g3=>hK v H3 s3 (g3.stro (R2.hid.mono s3) e2)⟩
      ·cases hg'
      ·cases hg'
end
end L2
end
noncomputable section
namespace L2
open PySem PySem.Spec PyProof.Rows
theorem Inv.turnedL{X:Cx}{pins:List (Addr×Obj)}{σ:St}{H:Hp}{s:Shared}{h':Heap}{t':Nat}{ch:List Addr}(I:Inv X pins σ H s)(k:∀b o,b∉ch->s.heap.get? b=some o->h'.get? b=some o)(hf:∀b∈ch,FpOk X pins H b):Inv X pins σ H {s with heap:=h',toks:=t'}:=by
 have nit:∀b u,H b=some u->b∉ch:=λb u e z=>by rw[(hf b z).1]at e;cases e
 refine I.step (g':=s.gens) (d':=s.drawn) (ch:=ch) (λb hb=>?_) (λb o _ _ hc e _=>k b o hc e) (λb o _ _ hc e _=>⟨o.slots,k b o hc e⟩) (λ_ _ _ _ n=>n)
  (λb o hc e=>⟨o,k b o hc e⟩) (λ_ _ e=>e) (λ_ _ _ e=>e) (λb ps e=>⟨#[],by rw[e];simp⟩) (λm hm=>?_) (λb u e=>?_) I.bare
 ·obtain⟨_,f1,_,f3,f4,f5⟩:=hf b hb;exact⟨f3,f1,f4,f5⟩
 ·obtain⟨o,es,ep,ho,r⟩:=hm;exact⟨o,es,ep,k _ o (λz=>(hf _ z).2.1 rfl) ho,r⟩
 ·refine(I.hok b u e).stay (λc v hc q=>k c v ?_ q) (λ_ q=>q) λ_ _ q=>q;rcases hc with z | z
  ·rw[z];exact nit b u e
  ·exact nit c _ z
def SqD(t:Bool)(K:PySem.W.Frag)(H:Hp)(a:Addr)(xs:List V):Prop:=match t with | false=>SqL K H a xs | true=>SqT K H a xs
theorem Same.sqd{t:Bool}{K:PySem.W.Frag}{H H':Hp}{a:Addr}{xs:List V}(e:Same H H')(h:SqD t K H a xs):SqD t K H' a xs:=by
 cases t
 ·exact e.seq h
 ·exact e.tseq h
theorem Inv.sqd{X:Cx}{pins:List (Addr×Obj)}{σ:St}{H:Hp}{s:Shared}{t:Bool}{a:Addr}{xs:List V}(I:Inv X pins σ H s)(h:SqD t X.K H a xs):∃its:List Value,Vals xs its/\SqK t s.heap a its.toArray:=by
 cases t
 ·obtain⟨its,rv,p,_⟩:=I.list h;exact⟨its,rv,p.isList⟩
 ·obtain⟨its,rv,p,_⟩:=I.tuple h;exact⟨its,rv,p⟩
theorem Inv.sqd_inj{X:Cx}{pins:List (Addr×Obj)}{σ:St}{H:Hp}{s:Shared}{t:Bool}{a:Addr}{xs ys:List V}(I:Inv X pins σ H s)(h:SqD t X.K H a xs)(h':SqD t X.K H a ys):xs=ys:=by
 cases t
 ·exact I.list_inj h h'
 ·exact I.tuple_inj h h'
def itK(t:Bool)(h:Heap)(ia la:Addr)(k:Nat):Prop:=match t with | false=>h.IsListIter ia la k | true=>h.IsTupleIter ia la k
theorem q9g{t:Bool}{ia la:Addr}{vs:Array Value}{k:Nat}{h:Heap}(p:itK t h ia la k)(q:SqK t h la vs):sK t ia la vs k h:=by
 cases t<;>exact⟨p,q⟩
theorem q9l{t:Bool}{ia la:Addr}{vs:Array Value}{k:Nat}{h:Heap}(p:sK t ia la vs k h):itK t h ia la k:=by
 cases t<;>exact p.1
theorem q5b{t:Bool}{ia la:Addr}{k:Nat}{h h':Heap}(p:itK t h ia la k)(e:∀o,h.get? ia=some o->h'.get? ia=some o):itK t h' ia la k:=by
 cases t
 ·exact Heap.IsListIter.at p e
 ·obtain⟨o,z,r⟩:=p;exact⟨o,e o z,r⟩
theorem q1T{t:Bool}{ia la:Addr}{k:Nat}{h:Heap}(p:itK t h ia la k):∃o xs,h.get? ia=some o/\o.data=.fields xs:=by
 cases t
 ·obtain⟨o,e,_,d⟩:=p;exact⟨o,_,e,d⟩
 ·obtain⟨o,e,_,d⟩:=p;exact⟨o,_,e,d⟩
theorem SqK.lt{t:Bool}{h:Heap}{a:Addr}{vs:Array Value}(p:SqK t h a vs):a<h.objs.size:=by
 cases t
 ·obtain⟨o,e,_⟩:=p;exact Heap.lt_size e
 ·obtain⟨o,e,_⟩:=p;exact Heap.lt_size e
def Itz(K:PySem.W.Frag)(t1 t2:Bool)(a b:Addr):It:=
  ⟨λi H=>∃xs ys x y,SqD t1 K H a xs/\SqD t2 K H b ys/\xs[i]? = some x/\ys[i]? = some y,
   λi H x H'=>∃p v u,x=.ref p/\H p=none/\(∀xs,SqD t1 K H a xs->xs[i]? = some v)/\(∀ys,SqD t2 K H b ys->ys[i]? = some u)/\H'=upd H p (.tup [v,u]),
   λi H=>∃xs ys,SqD t1 K H a xs/\SqD t2 K H b ys/\(xs.length<=i\/ys.length<=i)⟩
theorem z2w{P:Program}{w:World}{K:PySem.W.Frag}{elts:List Expr}{k:Nat}{pos:Pos}{z TI TO i1 i2 l1 l2:Addr}(t1 t2:Bool)(D:ZipApart z TI TO i1 i2 l1 l2) :
  Turn P w K (.Tuple elts k pos) (Itz K t1 t2 l1 l2) [z,TI,TO,i1,i2] z (λi h=>IsZip h z TI TO .none/\IsPair h TI (.ref i1) (.ref i2)/\(∃a b,IsPair h TO a b)/\itK t1 h i1 l1 i/\itK t2 h i2 l2 i) where
 mem:=by simp
 obj:=λi h st b hb=>by
  obtain⟨hz,hTI,⟨a,a',hTO⟩,h1,h2⟩:=st;simp only[List.mem_cons,List.not_mem_nil,or_false]at hb;rcases hb with rfl | rfl | rfl | rfl | rfl
  ·exact⟨_,hz,λv q=>by cases q⟩
  ·exact⟨_,hTI,λv q=>by cases q⟩
  ·exact⟨_,hTO,λv q=>by cases q⟩
  ·obtain⟨o,xs,e,d⟩:=q1T h1;exact⟨o,e,λv q=>by rw[d]at q;cases q⟩
  ·obtain⟨o,xs,e,d⟩:=q1T h2;exact⟨o,e,λv q=>by rw[d]at q;cases q⟩
 keep:=λi h h' st q=>by obtain⟨hz,hTI,⟨a,a',hTO⟩,h1,h2⟩:=st;exact⟨q z (by simp) _ hz,q TI (by simp) _ hTI,⟨a,a',q TO (by simp) _ hTO⟩,q5b h1 λo e=>q i1 (by simp) o e,q5b h2 λo e=>q i2 (by simp) o e⟩
 item:=by
  intro X hP hw hK hc i pins s σ H E I hf st hg;subst hP hw hK;obtain⟨hz,hTI,⟨a,a',hTO⟩,h1,h2⟩:=st;obtain⟨xs,ys,x,y,q1,q2,hx,hy⟩:=hg;obtain⟨its,rv,p⟩:=I.sqd q1;obtain⟨its2,rv2,p2⟩:=I.sqd q2;obtain⟨u,hu,ru⟩:=rv.get hx;obtain⟨u2,hu2,ru2⟩:=rv2.get hy;refine z1F D (q8J t1 D.l1i1) (q8J t2 D.l2i2) hz hTI hTO (q9g h1 p) (q9g h2 p2) (x:=u) (y:=u2) (by simpa using hu) (by simpa using hu2) λh' a1 a2 a3 a4 a5 a6 a7=>⟨_,rfl,?_⟩
  refine wpAny_letOwnedTupleGo_zip a1 λh2' hz' hs'=>?_;have hsz:s.heap.objs.size≠z:=Nat.ne_of_gt (Heap.lt_size hz);have keep:∀b o,b∉[z,TI,TO,i1,i2]->s.heap.get? b=some o->h2'.get? b=some o:=λb o hb e=>
   hs'.extBut _ _ (λq=>hb (by simp[q])) (a7 b o (λq=>hb (by simp[q])) (λq=>hb (by simp[q])) (λq=>hb (by simp[q])) (λq=>hb (by simp[q])) e)
  have I1:Inv X pins σ H {s with heap:=h2'}:=I.turnedL (t':=s.toks) keep hf;have hn:H s.heap.objs.size=none:=I.hok.fresh (Nat.le_refl _);have f5:=I.fpOk (Nat.le_refl _) hn;have new:h2'.get? s.heap.objs.size=some {cls:=.type "tuple",data:=.seq #[u,u2]}:=hs'.extBut _ _ hsz a5;have h0:X.s₀.heap.get? s.heap.objs.size=none:=Heap.get?_none_of_le I.sz;have I2:Inv X pins σ (upd H s.heap.objs.size (.tup [x,y])) {s with heap:=h2'}:=I1.track hn h0 f5.2.1 (λn c e=>f5.2.2.2.2.1 n c e) (λq hq=>f5.2.2.2.2.2 q hq)
   ⟨by show(2:Nat)<=sizeLine;decide,[u,u2],.cons ru (.cons ru2 .nil),_,new,⟨rfl,rfl⟩,_,rfl⟩
  refine⟨.ref s.heap.objs.size,_,I2,rfl,⟨_,x,y,rfl,hn,λxs' e=>by rw[I.sqd_inj e q1];exact hx,λys' e=>by rw[I.sqd_inj e q2];exact hy,rfl⟩,
   ⟨hz',hs'.extBut _ _ D.TIz (a7 _ _ D.TIz D.TITO D.TIi1 D.TIi2 hTI),⟨_,_,hs'.extBut _ _ D.TOz a2⟩,q5b (q9l a3) (λo e=>hs'.extBut _ _ D.i1z e),q5b (q9l a4) (λo e=>hs'.extBut _ _ D.i2z e)⟩,λb hb=>?_⟩
  have lt:∀b∈[z,TI,TO,i1,i2],b≠s.heap.objs.size:=λb hb=>by
   simp only[List.mem_cons,List.not_mem_nil,or_false]at hb;rcases hb with rfl | rfl | rfl | rfl | rfl
   ·exact Ne.symm hsz
   ·exact Nat.ne_of_lt (Heap.lt_size hTI)
   ·exact Nat.ne_of_lt (Heap.lt_size hTO)
   ·obtain⟨o,_,e,_⟩:=q1T h1;exact Nat.ne_of_lt (Heap.lt_size e)
   ·obtain⟨o,_,e,_⟩:=q1T h2;exact Nat.ne_of_lt (Heap.lt_size e)
  rw[q0q (lt b hb)];exact(hf b hb).1
 done:=by
  intro X hP hw hK hc i pins s σ H E I hf st hg;subst hP hw hK;obtain⟨hz,hTI,⟨a,a',hTO⟩,h1,h2⟩:=st;obtain⟨xs,ys,q1,q2,hx⟩:=hg;obtain⟨its,rv,p⟩:=I.sqd q1;obtain⟨its2,rv2,p2⟩:=I.sqd q2;have e1:=rv.length;have e2:=rv2.length;refine z1I (I.ok.hd hc) D (q8J t1 D.l1i1) (q8J t2 D.l2i2) hz hTI hTO (q9g h1 p) (q9g h2 p2) (by
   rcases hx with q | q
   ·left;simp;omega
   ·right;simp;omega) λh' a7=>⟨rfl,I.turnedL (t':=s.toks) (ch:=[z,TI,TO,i1,i2]) (λb o hb e=>a7 b o (λq=>hb (by simp[q])) (λq=>hb (by simp[q])) (λq=>hb (by simp[q])) (λq=>hb (by simp[q])) e) hf⟩
 self:=λ_ _ _ _ _ st h=>wpAny_pyIter_zip st.1 h
theorem q3t:∀(xs ys:List DV),(zpD xs ys).length=min xs.length ys.length
 | [],ys=>by simp[zpD]
 | _::_,[]=>by simp[zpD]
 | x::xs,y::ys=>by rw[zpD,List.length_cons,q3t xs ys,List.length_cons,List.length_cons];omega
theorem z1d:∀{xs ys:List DV} {i:Nat} {d:DV},(zpD xs ys)[i]? = some d->∃x y,xs[i]? = some x/\ys[i]? = some y/\d=.tup [x,y]
 | [],_,_,_,h=>by simp[zpD]at h
 | _::_,[],_,_,h=>by simp[zpD]at h
 | x::xs,y::ys,0,d,h=>by simp[zpD]at h;exact⟨x,y,rfl,rfl,h.symm⟩
 | x::xs,y::ys,i+1,d,h=>by rw[zpD,List.getElem?_cons_succ]at h;simpa using z1d h
theorem q5e{O W:List Addr}{c c':Cl}:∀b∈hidW O W (Cl.meet c c'),b∈hidW O W c:=by
 cases c<;>cases c'<;>intro b hb<;>first | exact hb | exact List.mem_append_left _ hb
theorem q8L{O W:List Addr}{c c':Cl}:∀b∈hidW O W (Cl.meet c c'),b∈hidW O W c':=by
 cases c<;>cases c'<;>intro b hb<;>first | exact hb | exact List.mem_append_left _ hb
theorem q3e{O W:List Addr}{c c':Cl}:∀b∈q0Y O W (Cl.meet c c'),b∈q0Y O W c:=by
 cases c<;>cases c'<;>intro b hb<;>first | exact hb | exact List.mem_append_left _ hb
theorem q5K{O W:List Addr}{c c':Cl}:∀b∈q0Y O W (Cl.meet c c'),b∈q0Y O W c':=by
 cases c<;>cases c'<;>intro b hb<;>first | exact hb | exact List.mem_append_left _ hb
theorem Wk.zip{D:Dm}{ds es:List DV}{Oc Oi:List Addr}{H1:Hp}{a b:Addr}{xs ys:List V}{t1 t2:Bool}(h:SqD t1 D.K (L2.wo Oc H1) a xs)(r:RepL D (L2.wo Oi H1) ds xs)(h':SqD t2 D.K (L2.wo Oc H1) b ys)(r':RepL D (L2.wo Oi H1) es ys):Wk D (Itz D.K t1 t2 a b) (zpD ds es) Oc Oi H1 where
 go:=λi H s hi=>by rw[q3t]at hi;exact⟨xs,ys,xs[i]'(by rw[r.length];omega),ys[i]'(by rw[r'.length];omega),q0T.sqd (s.sqd h),q0T.sqd (s.sqd h'),List.getElem?_eq_getElem _,List.getElem?_eq_getElem _⟩
 same:=λi H x H' y=>by obtain⟨p,v,u,_,hp,_,_,e⟩:=y;rw[e];exact q0r hp
 yld:=λi H x H' d O2 s s' y e ho=>by
  obtain⟨p,v,u,ex,hp,y1,y2,eH⟩:=y;obtain⟨d1,d2,q1,q2,rfl⟩:=z1d e;obtain⟨v1,z1,z2⟩:=r.get q1;obtain⟨v2,z3,z4⟩:=r'.get q2;have w1:=y1 xs (q0T.sqd (s.sqd h));have w2:=y2 ys (q0T.sqd (s.sqd h'));rw[z1]at w1;cases w1;rw[z3]at w2;cases w2;have hpo:p∉O2:=λz=>(ho p z).1 hp
  subst eH;refine q0I.mpr ⟨p,_,ex,SqT.of (by rw[q0s hpo];exact q0P),?_⟩;have up:Same (L2.wo Oi H1) (L2.wo O2 (upd H p (.tup [v,u]))):=(q8I s' ho).trans (q0r hp).wo;exact q0j.mpr ⟨_,_,rfl,z2.mono up,RepL.one (z4.mono up)⟩
 stop:=λH s=>by refine⟨xs,ys,q0T.sqd (s.sqd h),q0T.sqd (s.sqd h'),?_⟩;rw[q3t,r.length,r'.length];omega
section
variable {X:Cx} {E:St->XK} {δ:List Sv} {e e':Expr} {elts:List Expr} {k:Nat} {tpos pos p:Pos} {ra rb:Option Re} {ri:Ri}
theorem q7k{n a b:Nat}(ha:a<n)(hb:b<n):ZipApart (n+4) (n+2) (n+3) n (n+1) a b:=by
 constructor<;>(show @Ne Nat _ _)<;>omega
theorem z7w{ta:TA}(hg:Gl X "zip")(hm:X.mg "zip" = none)(ha:PA X [e,e'] ta)(hs:q0l e=false)(hs':q0l e'=false) :
  PI X (.Tuple elts k tpos) (.Call (.Name "zip" p) [e,e'] [] pos) (λσ H R=>ta σ H λvs H1=>∃t1 t2 a b,vs=[.ref a,.ref b]/\(∃xs,SqD t1 X.K H1 a xs)/\(∃ys,SqD t2 X.K H1 b ys)/\R (Itz X.K t1 t2 a b) H1):=by
 intro pins s σ H R I h;refine Call_ (q3J I hg hm boot_zip (PyProof.Rows.callWith_type1 (thn (ha pos pins s σ H _ I h) λus s1 ⟨vs,H1,I1,r1,q1⟩=>?_) (by rw[q0o hs]) (q1M [e'] (by simp[hs']))));obtain⟨t1,t2,a,b,e1,⟨xs,hx⟩,⟨ys,hy⟩,q⟩:=q1;subst e1;obtain⟨u,u',rfl,ru,ru'⟩:=r1.two;cases ru;cases ru';obtain⟨its,rv,p1⟩:=I1.sqd hx;obtain⟨its2,rv2,p2⟩:=I1.sqd hy;have la:=p1.lt;have lb:=p2.lt;refine z1V t1 t2 p1 p2 λh' z1 z2 z3 z4 z5 z6 z7=>?_
 have I2:Inv X pins σ H1 {s1 with heap:=h'}:=I1.kept (t':=s1.toks) z7;refine wpAny_pyIter_zip z1 ⟨s1.heap.objs.size+4,[s1.heap.objs.size+4,s1.heap.objs.size+2,s1.heap.objs.size+3,s1.heap.objs.size,s1.heap.objs.size+1],_,_,H1,rfl,I2,
  z2w (l1:=a) (l2:=b) t1 t2 (q7k la lb),⟨z1,z2,⟨_,_,z3⟩,q9l z4,q9l z5⟩,λc hc=>?_,q⟩
 have hc':s1.heap.objs.size<=c:=by
  simp only[List.mem_cons,List.not_mem_nil,or_false]at hc;rcases hc with rfl | rfl | rfl | rfl | rfl
  ·exact Nat.le_add_right ..
  ·exact Nat.le_add_right ..
  ·exact Nat.le_add_right ..
  ·exact Nat.le_refl _
  ·exact Nat.le_add_right ..
 exact I1.fpOk hc' (I1.hok.fresh hc')
theorem q4M{D:Dm}{O W:List Addr}{H0 H:Hp}{d:DV}{t:Bool}{ds:List DV}{c:Cl}{v:V}(k:z2S d=some (t,ds))(g:Got D O W H0 H d c v)(hd:Hid O W H0 H):∃a xs,v=.ref a/\SqD t D.K (L2.wo (hidW O W c) H) a xs/\RepL D (L2.wo (q0Y O W c) H) ds xs:=by
 cases d<;>cases k
 ·exact g.walkT hd
 ·exact g.walkL hd
theorem z4W(hg:Gl X "zip")(hm:X.mg "zip" = none)(hs:q0l e=false)(hs':q0l e'=false)(ha:∀q,ra=some q->PE X e (dE X.D E δ q))(hb:∀q,rb=some q->PE X e' (dE X.D E δ q))
  (h:q0F (Re.thn ra λx c=>Re.thn rb λy c'=>zipD x y c c')=some ri):PI X (.Tuple elts k tpos) (.Call (.Name "zip" p) [e,e'] [] pos) (dI X.D E δ ri):=by
 have C:=λta tb (hA:PE X e ta) (hB:PE X e' tb)=>z7w (elts:=elts) (k:=k) (tpos:=tpos) (p:=p) (pos:=pos) hg hm (q1x hA (q1x hB q4H (q0o hs')) (q0o hs)) hs hs';cases hra:ra with
 | none=>rw[hra]at h;cases h
 | some q=>
  rw[hra]at h;have A:=ha q hra;cases q with
  | ex c=>cases h;exact(C _ _ A q1q).weak λσ H R' ⟨O,W,R,p⟩=>⟨O,W,R,p⟩
  | ok dx cx=>
   cases hrb:rb with
   | none=>rw[hrb]at h;cases h
   | some q=>
    rw[hrb]at h;have B:=hb q hrb;cases q with
    | ex c=>cases h;exact(C _ _ A B).weak λσ H R' ⟨O,W,R,p⟩=>⟨O,W,R,λx H1 s1 g1=>⟨O,W,R.mono s1,λH' C m s=>p H' C m (s1.trans s)⟩⟩
    | ok dy cy=>
     have h':q0F (zipD dx dy cx cy)=some ri:=h;unfold zipD at h';split at h'
     ·rename_i t1 ds1 t2 ds2 k1 k2;cases h';exact(C _ _ A B).weak λσ H R' ⟨O,W,R,p⟩=>⟨O,W,R,λx H1 s1 g1=>⟨O,W,R.mono s1,λy H2 s2 g2=>by
       have hd:=(R.hid.mono s1).mono s2;obtain⟨a,xs,e1,e2,e3⟩:=q4M k1 (g1.mono s2) hd;obtain⟨b,ys,e1',e2',e3'⟩:=q4M k2 (g2.since s1) hd;refine⟨t1,t2,a,b,by rw[e1,e1'],⟨xs,q0T.sqd e2⟩,⟨ys,q0T.sqd e2'⟩,p _ H2 (s1.trans s2) (.zip ((q0A q5e).sqd e2) (e3.mono (q0A q3e)) ((q0A q8L).sqd e2') (e3'.mono (q0A q5K)))⟩⟩⟩
     ·cases h'
end
end L2
end
noncomputable section
namespace L2
open PySem PySem.Spec PyProof.Rows
section
variable {P:Program} {w:World} {A:Around} {E:Value->Shared->Prop} {s:Shared} {n c l:Addr} {k:Nat} {vs:Array Value} {S:Nat->Heap->Prop} {x old:Value}
abbrev z7O(s:Shared)(h':Heap)(n c:Addr)(k:Nat)(x:Value)(S:Nat->Heap->Prop):Prop:=
 IsEnumOut h' n c ((k:Int)+1) x s.heap.objs.size/\S (k+1) h'/\h'.get? s.heap.objs.size=some {cls:=.type "tuple",data:=.seq #[.int k s.toks,x]} /\ h'.objs.size=s.heap.objs.size+1/\(∀b o,b≠n->b≠c->s.heap.get? b=some o->h'.get? b=some o)
theorem z1J{Q:Value->Shared->Prop}(R:Src P w c l vs S)(hn:IsEnum s.heap n c k old)(hS:S k s.heap)(hx:vs[k]? = some x)(d1:n≠c)(d2:l≠n)(hQ:∀h',z7O s h' n c k x S->Q (.ref s.heap.objs.size) {s with heap:=h',toks:=s.toks+1}) :
  wpAny (model P w) A (Builtin.«enumerate.__next__» ⟨[.ref n],[]⟩) (λfin s'=>∃v,fin=.done (.ret v)/\Q v s') E s:=by
 obtain⟨g0,gg,gd,gt,go⟩:=s;show wpAny _ _ (field (.ref n) 2 >>= _) _ _ _;refine wpAny_bind (wpAny_field hn rfl (x:=.ref c) rfl (wpAny_bind (R.step k x hS hx λg1 r1 t1=>?_)))
 replace t1:Heap.SameBut c g0 g1:=t1
 have n1:IsEnum g1 n c k old:=(t1.2 n d1).trans hn;show wpAny _ _ (field (.ref n) 3 >>= _) _ _ ⟨g1,gg,gd,gt,go⟩;refine wpAny_bind (wpAny_field n1 rfl (x:=rawInt k) rfl ?_);show wpAny _ _ (field (.ref n) 4 >>= _) _ _ ⟨g1,gg,gd,gt,go⟩;refine wpAny_bind (wpAny_field n1 rfl (x:=.none) rfl ?_);show wpAny _ _ (mkInt k >>= _) _ _ ⟨g1,gg,gd,gt,go⟩;refine wpAny_bind (wpAny_mkInt ?_);show wpAny _ _ (setField (.ref n) 3 (rawInt ((k:Int)+1)) >>= _) _ _ ⟨g1,gg,gd,gt+1,go⟩;refine wpAny_bind (wpAny_setField_rec n1 (by simp) λg2 n2 t2=>?_)
 replace t2:Heap.SameBut n g1 g2:=t2
 replace n2:IsEnum g2 n c ((k:Int)+1) old:=n2
 show wpAny _ _ (setField (.ref n) 4 .none >>= _) _ _ ⟨g2,gg,gd,gt+1,go⟩;refine wpAny_bind (wpAny_setField_rec n2 (by simp) λg3 n3 t3=>?_)
 replace t3:Heap.SameBut n g2 g3:=t3
 replace n3:IsEnum g3 n c ((k:Int)+1) old:=n3
 show wpAny _ _ (newTuple [.int k gt,x] >>= _) _ _ ⟨g3,gg,gd,gt+1,go⟩;refine wpAny_bind (wpAny_newTuple ?_);have n4:IsEnum (g3.push {cls:=.type "tuple",data:=.seq #[.int k gt,x]}) n c ((k:Int)+1) old:=Heap.get?_push_of_some _ n3;have z3:g3.objs.size=g0.objs.size:=by rw[t3.1,t2.1,t1.1]
 have q4:(g3.push {cls:=.type "tuple",data:=.seq #[.int k gt,x]}).get? g0.objs.size=some {cls:=.type "tuple",data:=.seq #[.int k gt,x]}:=by rw[←z3];exact Heap.get?_push_size _ rfl
 have z4:(g3.push {cls:=.type "tuple",data:=.seq #[.int k gt,x]}).objs.size=g0.objs.size+1:=by rw[Heap.size_push,z3]
 have k4:∀b o,b≠n->b≠c->g0.get? b=some o->(g3.push {cls:=.type "tuple",data:=.seq #[.int k gt,x]}).get? b=some o:=λb o b1 b2 e=>
  Heap.get?_push_of_some _ (t3.extBut b o b1 (t2.extBut b o b1 (t1.extBut b o b2 e)))
 have r4:S (k+1) (g3.push {cls:=.type "tuple",data:=.seq #[.int k gt,x]}):=
  R.keep _ _ _ (R.ext (R.ext r1 t2.extBut (Ne.symm d1) d2) t3.extBut (Ne.symm d1) d2) (λo e=>Heap.get?_push_of_some _ e) (λo e=>Heap.get?_push_of_some _ e)
 generalize (g3.push {cls:=.type "tuple",data:=.seq #[.int k gt,x]})=g4 at n4 q4 z4 k4 r4 ⊢;have lt:n<g0.objs.size:=Heap.lt_size hn;show wpAny _ _ (Builtin.SmallTypes.ownedTupleIsFree (.ref n) >>= _) _ _ ⟨g4,gg,gd,gt+1,go⟩;rw[z3];refine wpAny_bind ?_;unfold Builtin.SmallTypes.ownedTupleIsFree;refine wpAny_bind (wpAny_field n4 rfl (x:=.none) rfl (wpAny_pure ?_));simp only[if_true];refine wpAny_bind (wpAny_rule (wpAny_bind (wpAny_field n4 rfl (x:=old) rfl (wpAny_bind (wpAny_setField_rec n4 (by simp) λg5 n5 t5=>?_)))))
 replace t5:Heap.SameBut n g4 g5:=t5
 replace n5:IsEnum g5 n c ((k:Int)+1) x:=n5
 show wpAny _ _ (Builtin.SmallTypes.ownedTupleHandOut (.ref n) (.ref g0.objs.size) >>= _) _ _ ⟨g5,gg,gd,gt+1,go⟩;refine wpAny_bind ?_;unfold Builtin.SmallTypes.ownedTupleHandOut;refine wpAny_bind (wpAny_setField_rec n5 (by simp) λg6 n6 t6=>?_)
 replace t6:Heap.SameBut n g5 g6:=t6
 replace n6:IsEnumOut g6 n c ((k:Int)+1) x g0.objs.size:=n6
 refine wpAny_setField_rec n6 (by simp) λg7 n7 t7=>?_
 replace t7:Heap.SameBut n g6 g7:=t7
 replace n7:IsEnumOut g7 n c ((k:Int)+1) x g0.objs.size:=n7
 have up:∀b o,b≠n->g4.get? b=some o->g7.get? b=some o:=λb o b1 e=>t7.extBut b o b1 (t6.extBut b o b1 (t5.extBut b o b1 e));exact wpAny_bind (wpAny_letGo (wpAny_pure ⟨_,rfl,hQ g7 ⟨n7,R.keep _ _ _ r4 (λo e=>up _ o (Ne.symm d1) e) (λo e=>up _ o d2 e),up _ _ (Nat.ne_of_gt lt) q4,by rw[t7.1,t6.1,t5.1,z4],λb o b1 b2 e=>up b o b1 (k4 b o b1 b2 e)⟩⟩))
theorem z1m{Q:Option Value->Shared->Prop}(R:Src P w c l vs S)(hn:IsEnum s.heap n c k old)(hS:S k s.heap)(hx:vs[k]? = some x)(d1:n≠c)(d2:l≠n)(hQ:∀h',z7O s h' n c k x S->Q (some (.ref s.heap.objs.size)) {s with heap:=h',toks:=s.toks+1}) :
  wpAny (model P w) A (pyNext (.ref n)) Q E s:=by
 have T:s.TypeIs (.ref n) "enumerate":=⟨_,hn,rfl⟩;unfold pyNext;exact wpAny_bind (wpAny_attempt (wpAny_callSpecial?_slot (name:=Str.ofString "__next__") T F.slot_enumerate_next (wpAny_call_entry F.slot_enumerate_next T F.entry_enumerate_next (z1J R hn hS hx d1 d2 λh' a=>wpAny_pure (hQ h' a)) (F.args_enumerate_next_1 _))))
theorem z1M{Q:Option Value->Shared->Prop}(hh:A.handled=none)(R:Src P w c l vs S)(hn:IsEnum s.heap n c k old)(hS:S k s.heap)(hx:vs[k]? = none)(hQ:∀h',Heap.ExtBut c s.heap h'->Q none {s with heap:=h'}) :
  wpAny (model P w) A (pyNext (.ref n)) Q E s:=by
 have T:s.TypeIs (.ref n) "enumerate":=⟨_,hn,rfl⟩;unfold pyNext;refine wpAny_bind (wpAny_attempt (wpAny_callSpecial?_slot (name:=Str.ofString "__next__") T F.slot_enumerate_next (wpAny_call_entry F.slot_enumerate_next T F.entry_enumerate_next ?_ (F.args_enumerate_next_1 _))));show wpAny _ _ (field (.ref n) 2 >>= _) _ _ _;refine wpAny_bind (wpAny_field hn rfl (x:=.ref c) rfl (wpAny_bind (R.stop k hh hS hx λg1 e t1 he=>?_)));obtain⟨o,q1,q2⟩:=he;exact wpAny_bind (wpAny_isInstance (T:="StopIteration") (b:=true) ⟨o,q1,q2⟩ isSubtype_stop (wpAny_pure (hQ _ t1)))
end
open AutoSeq1 (wpAny_loadPart') in
theorem q9w(l:Addr)(vs:Array Value)(m:Nat)(dc:Option Addr)(sl:Array (Option Value)):Meets (Builtin.«enumerate.__new__» ⟨[.type "enumerate",.ref l],[]⟩) (λ_ R s=>s.heap.get? l=some {cls:=.type "tuple",dict:=dc,data:=.seq vs m,slots:=sl} /\
  R (.ok (.ret (.ref (zH1 s.heap true l).objs.size))) {s with heap:=(zH1 s.heap true l).push {cls:=.type "enumerate",data:=.fields #[.none,.bool false,.ref s.heap.objs.size,rawInt 0,.none,.none]}}):=
 .of_wp λP w A R s h=>by
  obtain⟨g0,gg,gd,gt,go⟩:=s;obtain⟨q,h⟩:=h;have hsub:=sub_enumerate;have qT:Heap.IsTuple (Shared.heap ⟨g0,gg,gd,gt,go⟩) l vs:=⟨_,q,rfl,m,rfl⟩
  wp_walk using wpAny_loadPart' q
  refine wpAny_stack_any λst=>wpAny_pure ?_;split
  ·rename_i y _ _ _ _ _;cases(y==Value.type "enumerate")
   ·wp_walk using wpAny_loadPart' q,wpAny_pyIter_tuple qT
    exact⟨_,rfl,h⟩
   ·wp_walk using wpAny_loadPart' q,wpAny_pyIter_tuple qT
    exact⟨_,rfl,h⟩
  ·wp_walk using wpAny_loadPart' q,wpAny_pyIter_tuple qT
   exact⟨_,rfl,h⟩
theorem q8Q {P : Program} {w : World} {A : Around} {E : Value -> Shared -> Prop} {s : Shared} {l : Addr} {vs : Array Value} {Q : Value -> Shared -> Prop} (t : Bool) (q : SqK t s.heap l vs)
    (h : ∀ h', IsEnum h' (s.heap.objs.size + 1) s.heap.objs.size 0 .none -> sK t s.heap.objs.size l vs 0 h' -> h'.objs.size = s.heap.objs.size + 2 -> (∀ b o, s.heap.get? b = some o -> h'.get? b = some o) -> Q (.ref (s.heap.objs.size + 1)) { s with heap := h' }) :
    wpAny (model P w) A (call (.type "enumerate") [.ref l]) Q E s := by
  cases t with
  | false => exact call_enumerate_list (show s.heap.IsList l vs from q) λ h' a1 a2 a3 a4 => h h' a1 ⟨a2, Heap.IsList.at (show s.heap.IsList l vs from q) λ o e => a4 _ o e⟩ a3 a4
  | true =>
    obtain ⟨⟨y, dc, dt, sl⟩, q1, q2, m, q3⟩ := id (show s.heap.IsTuple l vs from q)
    replace q2 : y = .type "tuple" := q2
    replace q3 : dt = .seq vs m := q3
    subst q2 q3;refine callType_new F.called_enumerate (by decide) (F.typeCall_enumerate_1 _) (F.newCall_enumerate_1 _) (λ obj => F.args_object_init_2 obj _) F.entry_enumerate_new (q9w l vs m dc sl) ⟨q1, ?_⟩;have n1 : (zH1 s.heap true l).objs.size = s.heap.objs.size + 1 := Heap.size_push ..;have e2 := Heap.get?_push_size (zH1 s.heap true l) (o := { cls := .type "enumerate", data := .fields #[.none, .bool false, .ref s.heap.objs.size, rawInt 0, .none, .none] }) rfl;have e1 : ((zH1 s.heap true l).push { cls := .type "enumerate", data := .fields #[.none, .bool false, .ref s.heap.objs.size, rawInt 0, .none, .none] }).get? s.heap.objs.size = some (itO true l) := Heap.get?_push_of_some _ (Heap.get?_push_size _ rfl);have kp : ∀ b o, s.heap.get? b = some o -> ((zH1 s.heap true l).push { cls := .type "enumerate", data := .fields #[.none, .bool false, .ref s.heap.objs.size, rawInt 0, .none, .none] }).get? b = some o := λ b o e => Heap.get?_push_of_some _ (Heap.get?_push_of_some _ e)
    rw [n1] at e2;show _ /\ _;rw [n1];exact ⟨⟨_, e2, rfl⟩, h _ e2 (z1i e1 q kp) (by rw [Heap.size_push, n1]) kp⟩
end L2
end
noncomputable section
namespace L2
open PySem PySem.Spec PyProof.Rows
def Ite(K:PySem.W.Frag)(t:Bool)(a:Addr):It:=
  ⟨λi H=>∃xs x,SqD t K H a xs/\xs[i]? = some x,
   λi H x H'=>∃p v,x=.ref p/\H p=none/\(∀xs,SqD t K H a xs->xs[i]? = some v)/\H'=upd H p (.tup [.int i,v]),
   λi H=>∃xs,SqD t K H a xs/\xs.length<=i⟩
theorem z1N{P:Program}{w:World}{K:PySem.W.Frag}{elts:List Expr}{k:Nat}{pos:Pos}{n c l:Addr}(t:Bool)(d1:n≠c)(d2:l≠n)(d3:l≠c) :
  Turn P w K (.Tuple elts k pos) (Ite K t l) [n,c] n (λi h=>(∃old,IsEnum h n c (i:Nat) old)/\itK t h c l i) where
 mem:=by simp
 obj:=λi h st b hb=>by
  obtain⟨⟨old,hn⟩,h1⟩:=st;simp only[List.mem_cons,List.not_mem_nil,or_false]at hb;rcases hb with rfl | rfl
  ·exact⟨_,hn,λv q=>by cases q⟩
  ·obtain⟨o,xs,e,d⟩:=q1T h1;exact⟨o,e,λv q=>by rw[d]at q;cases q⟩
 keep:=λi h h' st q=>by obtain⟨⟨old,hn⟩,h1⟩:=st;exact⟨⟨old,q n (by simp) _ hn⟩,q5b h1 λo e=>q c (by simp) o e⟩
 item:=by
  intro X hP hw hK hc i pins s σ H E I hf st hg;subst hP hw hK;obtain⟨⟨old,hn⟩,h1⟩:=st;obtain⟨xs,x,q1,hx⟩:=hg;obtain⟨its,rv,p⟩:=I.sqd q1;obtain⟨u,hu,ru⟩:=rv.get hx;refine z1m (q8J t d3) hn (q9g h1 p) (x:=u) (by simpa using hu) d1 d2 λh' a=>⟨_,rfl,?_⟩
  obtain⟨a1,a2,a3,a4,a5⟩:=a;refine wpAny_letOwnedTupleGo_enum a1 λh2 hn2 t2=>?_
  have hsz:s.heap.objs.size≠n:=Nat.ne_of_gt (Heap.lt_size hn);have keep:∀b o,b∉[n,c]->s.heap.get? b=some o->h2.get? b=some o:=λb o hb e=>t2.extBut _ _ (λq=>hb (by simp[q])) (a5 b o (λq=>hb (by simp[q])) (λq=>hb (by simp[q])) e);have I1:Inv X pins σ H {s with heap:=h2,toks:=s.toks+1}:=I.turnedL (t':=s.toks+1) keep hf;have hn':H s.heap.objs.size=none:=I.hok.fresh (Nat.le_refl _);have f5:=I.fpOk (Nat.le_refl _) hn';have new:h2.get? s.heap.objs.size=some {cls:=.type "tuple",data:=.seq #[.int i s.toks,u]}:=t2.extBut _ _ hsz a3;have h0:X.s₀.heap.get? s.heap.objs.size=none:=Heap.get?_none_of_le I.sz;have I2:Inv X pins σ (upd H s.heap.objs.size (.tup [.int i,x])) {s with heap:=h2,toks:=s.toks+1}:=I1.track hn' h0 f5.2.1 (λn c e=>f5.2.2.2.2.1 n c e) (λq hq=>f5.2.2.2.2.2 q hq)
   ⟨by show(2:Nat)<=sizeLine;decide,[.int i s.toks,u],.cons ⟨_,rfl⟩ (.cons ru .nil),_,new,⟨rfl,rfl⟩,_,rfl⟩
  refine⟨.ref s.heap.objs.size,_,I2,rfl,⟨_,x,rfl,hn',λxs' e=>by rw[I.sqd_inj e q1];exact hx,rfl⟩,⟨⟨_,by simpa using hn2⟩,q5b (q9l a2) λo e=>t2.extBut _ _ (Ne.symm d1) e⟩,λb hb=>?_⟩;have lt:b≠s.heap.objs.size:=by
   simp only[List.mem_cons,List.not_mem_nil,or_false]at hb;rcases hb with rfl | rfl
   ·exact Ne.symm hsz
   ·obtain⟨o,_,e,_⟩:=q1T h1;exact Nat.ne_of_lt (Heap.lt_size e)
  rw[q0q lt];exact(hf b hb).1
 done:=by
  intro X hP hw hK hc i pins s σ H E I hf st hg;subst hP hw hK;obtain⟨⟨old,hn⟩,h1⟩:=st;obtain⟨xs,q1,hx⟩:=hg;obtain⟨its,rv,p⟩:=I.sqd q1;have e1:=rv.length;exact z1M (I.ok.hd hc) (q8J t d3) hn (q9g h1 p) (by simp;omega) λh' a=>⟨rfl,I.turnedL (t':=s.toks) (ch:=[n,c]) (λb o hb e=>a b o (λq=>hb (by simp[q])) e) hf⟩
 self:=λ_ _ _ _ _ st h=>by obtain⟨⟨old,hn⟩,_⟩:=st;exact wpAny_pyIter_enum hn h
theorem q2S:∀(k:Nat) (xs:List DV),(enuD k xs).length=xs.length
 | _,[]=>rfl
 | k,x::xs=>by rw[enuD,List.length_cons,q2S (k+1) xs,List.length_cons]
theorem q8x:∀{k:Nat} {xs:List DV} {i:Nat} {d:DV},(enuD k xs)[i]? = some d->∃x,xs[i]? = some x/\d=.tup [.int ((k+i:Nat):Int),x]
 | _,[],_,_,h=>by simp[enuD]at h
 | k,x::xs,0,d,h=>by simp[enuD]at h;exact⟨x,rfl,h.symm⟩
 | k,x::xs,i+1,d,h=>by rw[enuD,List.getElem?_cons_succ]at h;obtain⟨y,e1,e2⟩:=q8x h;exact⟨y,by simpa using e1,by rw[e2,show k+1+i=k+(i+1)from by omega]⟩
theorem Wk.enum{D:Dm}{ds:List DV}{Oc Oi:List Addr}{H1:Hp}{a:Addr}{xs:List V}{t:Bool}(h:SqD t D.K (L2.wo Oc H1) a xs)(r:RepL D (L2.wo Oi H1) ds xs):Wk D (Ite D.K t a) (enuD 0 ds) Oc Oi H1 where
 go:=λi H s hi=>by rw[q2S]at hi;exact⟨xs,xs[i]'(by rw[r.length];omega),q0T.sqd (s.sqd h),List.getElem?_eq_getElem _⟩
 same:=λi H x H' y=>by obtain⟨p,v,_,hp,_,e⟩:=y;rw[e];exact q0r hp
 yld:=λi H x H' d O2 s s' y e ho=>by
  obtain⟨p,v,ex,hp,y1,eH⟩:=y;obtain⟨d1,q1,rfl⟩:=q8x e;obtain⟨v1,z1,z2⟩:=r.get q1;have w1:=y1 xs (q0T.sqd (s.sqd h));rw[z1]at w1;cases w1;have hpo:p∉O2:=λz=>(ho p z).1 hp
  subst eH;refine q0I.mpr ⟨p,_,ex,SqT.of (by rw[q0s hpo];exact q0P),?_⟩;have up:Same (L2.wo Oi H1) (L2.wo O2 (upd H p (.tup [.int i,v]))):=(q8I s' ho).trans (q0r hp).wo;exact q0j.mpr ⟨_,_,rfl,q0U.mpr (by rw[Nat.zero_add]),RepL.one (z2.mono up)⟩
 stop:=λH s=>⟨xs,q0T.sqd (s.sqd h),by rw[q2S,r.length];exact Nat.le_refl _⟩
section
variable {X:Cx} {E:St->XK} {δ:List Sv} {e:Expr} {elts:List Expr} {k:Nat} {tpos pos p:Pos} {ra:Option Re} {ri:Ri}
theorem q4g{n a:Nat}(h:a<n):n+1≠n/\a≠n+1/\a≠n:=by omega
theorem q9d:bootBuiltins "enumerate" = some (.type "enumerate"):=by decide +kernel
theorem z6l{ta:TA}(hg:Gl X "enumerate")(hm:X.mg "enumerate" = none)(ha:PA X [e] ta)(hs:q0l e=false) :
  PI X (.Tuple elts k tpos) (.Call (.Name "enumerate" p) [e] [] pos) (λσ H R=>ta σ H λvs H1=>∃t a,vs=[.ref a]/\(∃xs,SqD t X.K H1 a xs)/\R (Ite X.K t a) H1):=by
 intro pins s σ H R I h;refine Call_ (q3J I hg hm q9d (PyProof.Rows.callWith_type1 (thn (ha pos pins s σ H _ I h) λus s1 ⟨vs,H1,I1,r1,q1⟩=>?_) (by rw[q0o hs]) (q1M [] (by simp))));obtain⟨t,a,e1,⟨xs,hx⟩,q⟩:=q1;subst e1;obtain⟨u,rfl,ru⟩:=r1.one;cases ru;obtain⟨its,rv,p1⟩:=I1.sqd hx;have la:=p1.lt;refine q8Q t p1 λh' z1 z4 z6 z7=>?_
 have I2:Inv X pins σ H1 {s1 with heap:=h'}:=I1.kept (t':=s1.toks) z7;refine wpAny_pyIter_enum z1 ⟨s1.heap.objs.size+1,[s1.heap.objs.size+1,s1.heap.objs.size],_,_,H1,rfl,I2,
  z1N (l:=a) t (q4g la).1 (q4g la).2.1 (q4g la).2.2,⟨⟨_,z1⟩,q9l z4⟩,λc hc=>?_,q⟩
 have hc':s1.heap.objs.size<=c:=by
  simp only[List.mem_cons,List.not_mem_nil,or_false]at hc;rcases hc with rfl | rfl
  ·exact Nat.le_add_right ..
  ·exact Nat.le_refl _
 exact I1.fpOk hc' (I1.hok.fresh hc')
theorem z2R(hg:Gl X "enumerate")(hm:X.mg "enumerate" = none)(hs:q0l e=false)(ha:∀q,ra=some q->PE X e (dE X.D E δ q))
  (h:q0F (Re.thn ra λx c=>q6R x c)=some ri):PI X (.Tuple elts k tpos) (.Call (.Name "enumerate" p) [e] [] pos) (dI X.D E δ ri):=by
 have C:=λta (hA:PE X e ta)=>z6l (elts:=elts) (k:=k) (tpos:=tpos) (p:=p) (pos:=pos) hg hm (q1x hA q4H (q0o hs)) hs;cases hra:ra with
 | none=>rw[hra]at h;cases h
 | some q=>
  rw[hra]at h;have A:=ha q hra;cases q with
  | ex c=>cases h;exact(C _ A).weak λσ H R' ⟨O,W,R,p⟩=>⟨O,W,R,p⟩
  | ok dx cx=>
   have h':q0F (q6R dx cx)=some ri:=h;unfold q6R at h';split at h'
   ·rename_i t1 ds1 k1;cases h';exact(C _ A).weak λσ H R' ⟨O,W,R,p⟩=>⟨O,W,R,λx H1 s1 g1=>by
     have hd:=R.hid.mono s1;obtain⟨a,xs,e1,e2,e3⟩:=q4M k1 g1 hd;exact⟨t1,a,by rw[e1],⟨xs,q0T.sqd e2⟩,p _ H1 s1 (.enum ((q0A q5e).sqd e2) (e3.mono (q0A q3e)))⟩⟩
   ·cases h'
end
end L2
end
noncomputable section
namespace L2
open PySem PySem.Spec PyProof.Rows
def dEnd(D:Dm)(E:St->XK)(H0:Hp)(O:List Addr)(Dn:Ends):Out->Prop
 | .nx δ=>∀σ H W,RSt D H σ δ O W->(∀a∈W,H0 a=none)->Same H0 H->Dn.nx σ H
 | .rt d fr=>∀v H,Same H0 H->GotR D O H0 H d fr v->Dn.rt v H
 | .rtt d=>∀v H,Same H0 H->GotT D O H0 H d v->Dn.rt v H
 | .ex c δ=>∀σ H W C,D.mg c=some C->RSt D H σ δ O W->(∀a∈W,H0 a=none)->Same H0 H->E σ C none H
def dS(D:Dm)(E:St->XK)(δ:List Sv)(o:Out):TS:=λDn σ H=>∃H0 O W,RSt D H σ δ O W/\(∀a∈W,H0 a=none)/\(∀a∈O,H0 a≠none)/\Same H0 H/\dEnd D E H0 O Dn o
section
variable {X:Cx} {E:St->XK} {δ δ1:List Sv} {st:Stmt} {rest body els:List Stmt} {o:Out} {e c:Expr} {pos pos':Pos} {ra:Option Re} {rt:Option Rt} {i:Nat} {x:Str}
theorem z4s:PSs X [] (dS X.D E δ (.nx δ)):=z4U.weak λDn σ H ⟨H0,O,W,R,fr,fo,sm,k⟩=>k σ H W R fr sm
theorem z2q(h1:PS X st (dS X.D E δ (.nx δ1)))(h2:PSs X rest (dS X.D E δ1 o)):PSs X (st::rest) (dS X.D E δ o):=
 (q3R h1 h2).weak λDn σ H ⟨H0,O,W,R,fr,fo,sm,k⟩=>⟨H0,O,W,R,fr,fo,sm,λσ' H' W' R' fr' sm'=>⟨H0,O,W',R',fr',fo,sm',k⟩⟩
theorem z7K{d:DV}{fr:Bool}(h1:PS X st (dS X.D E δ (.rt d fr))):PSs X (st::rest) (dS X.D E δ (.rt d fr)):=
 (q3R h1 q1D).weak λDn σ H ⟨H0,O,W,R,fr,fo,sm,k⟩=>⟨H0,O,W,R,fr,fo,sm,k⟩
theorem z6x{d:DV}(h1:PS X st (dS X.D E δ (.rtt d))):PSs X (st::rest) (dS X.D E δ (.rtt d)):=
 (q3R h1 q1D).weak λDn σ H ⟨H0,O,W,R,fr,fo,sm,k⟩=>⟨H0,O,W,R,fr,fo,sm,k⟩
theorem z7d{c:Str}{δ':List Sv}(h1:PS X st (dS X.D E δ (.ex c δ'))):PSs X (st::rest) (dS X.D E δ (.ex c δ')):=
 (q3R h1 q1D).weak λDn σ H ⟨H0,O,W,R,fr,fo,sm,k⟩=>⟨H0,O,W,R,fr,fo,sm,k⟩
theorem q6E{D:Dm}{H0 H:Hp}{O W:List Addr}{σ:St}{Dn:Ends}{c:Str}{Q:VK}(R:RSt D H σ δ O W)(fr:∀a∈W,H0 a=none)(sm:Same H0 H)(k:dEnd D E H0 O Dn (.ex c δ)):Post D E σ O W H H Q (.ex c):=
 λH' C m s=>k σ H' W C m (R.mono s) fr (sm.trans s)
theorem z7b(hc:∀q,rt=some q->PT X c (dT X.D E δ q)){ro rp:Option Out}(h1:∀q,ro=some q->PSs X body (dS X.D E δ q))(h2:∀q,rp=some q->PSs X els (dS X.D E δ q))(h:(Rt.thnS δ rt λk=>if k then ro else rp)=some o):PS X (.If c body els pos) (dS X.D E δ o):=by
 cases hrt:rt with
 | none=>rw[hrt]at h;cases h
 | some q=>
  rw[hrt]at h;have C:=hc q hrt;cases q with
  | ex c=>cases h;exact(z5h C q1D q1D).weak λDn σ H ⟨H0,O,W,R,fr,fo,sm,k⟩=>⟨O,W,R,λH' C m s=>k σ H' W C m (R.mono s) fr (sm.trans s)⟩
  | ok b=>
   cases b with
   | true=>
    have h':ro=some o:=h;exact(z5h C (h1 o h') q1D).weak λDn σ H ⟨H0,O,W,R,fr,fo,sm,k⟩=>⟨O,W,R,λH1 s1=>iteT ⟨H0,O,W,R.mono s1,fr,fo,sm.trans s1,k⟩⟩
   | false=>
    have h':rp=some o:=h;exact(z5h C q1D (h2 o h')).weak λDn σ H ⟨H0,O,W,R,fr,fo,sm,k⟩=>⟨O,W,R,λH1 s1=>iteF ⟨H0,O,W,R.mono s1,fr,fo,sm.trans s1,k⟩⟩
theorem z6t(ha:∀q,ra=some q->PE X e (dE X.D E δ q))(h:(Re.thnS δ ra λd c=>some (retD d c))=some o):PS X (.Return (some e) pos) (dS X.D E δ o):=by
 cases hra:ra with
 | none=>rw[hra]at h;cases h
 | some q=>
  rw[hra]at h;have A:=ha q hra;cases q with
  | ex c=>cases h;exact(z1U A).weak λDn σ H ⟨H0,O,W,R,fr,fo,sm,k⟩=>⟨O,W,R,q6E R fr sm k⟩
  | ok d cl=>
   have h2:some (retD d cl)=some o:=h;cases h2;by_cases hft:cl=.ft
   ·subst hft;refine(z1U A).weak λDn σ H ⟨H0,O,W,R,fr,fo,sm,k⟩=>⟨O,W,R,λv H1 s1 g=>(k:dEnd X.D E H0 O Dn (.rtt d)) v H1 (sm.trans s1) ?_⟩
    obtain⟨t,ts,p,xs,ds,es,e1,e2,e0,e3,e4,e5,e6⟩:=g;have up:Same (L2.wo (p::(O++W)) H1) (L2.wo (p::O) H1):=q0A λb hb=>by rcases List.mem_cons.mp hb with z | z;exact List.mem_cons.mpr (.inl z);exact List.mem_cons_of_mem _ (List.mem_append_left _ z)
    exact .inl ⟨t,ts,p,xs,ds,es,e1,e2,(q0A q6V).tseq e0,sm.free e3,e4,e5.mono up,e6.mono up⟩
   have hrt:retD d cl=.rt d (frD d cl):=by cases cl<;>first | rfl | exact absurd rfl hft
   rw[hrt];refine(z1U A).weak λDn σ H ⟨H0,O,W,R,fr,fo,sm,k⟩=>⟨O,W,R,λv H1 s1 g=>(k:dEnd X.D E H0 O Dn (.rt d (frD d cl))) v H1 (sm.trans s1) ?_⟩
   have hd:=R.hid.mono s1;cases hf:frD d cl with
   | false=>exact g.weak hd
   | true=>
    unfold frD at hf;split at hf
    ·obtain⟨p,xs,ds,e1,e2,e3,e4,e5⟩:=g;exact⟨p,xs,ds,e1,e2,sm.free e3,e4,e5.mono (q0A λb hb=>by rcases List.mem_cons.mp hb with z | z;exact List.mem_cons.mpr (.inl z);exact List.mem_cons_of_mem _ (List.mem_append_left _ z))⟩
    ·obtain⟨a,xs,e1,e0,e2,e3⟩:=g;exact⟨a,xs,_,e1,rfl,fr a e0,q0T _ _ e2,e3.mono (q0A λb hb=>by rcases List.mem_cons.mp hb with z | z;rw[z];exact List.mem_append_right _ e0;exact List.mem_append_left _ z)⟩
    ·cases hf
theorem q3C{v:Expr}{t:Option Expr}{l:Nat}{env:Env}(h:q5q v=false):swapsWith v t l env=pure false:=by
 cases v<;>first | rfl | cases h
theorem z5R(ha:∀q,ra=some q->PE X e (dE X.D E δ q))(hc:q5q e=false)(h:(Re.thnS δ ra λ_ _=>some (.nx δ))=some o):PS X (.Expr e pos) (dS X.D E δ o):=by
 cases hra:ra with
 | none=>rw[hra]at h;cases h
 | some q=>
  rw[hra]at h;have A:=ha q hra;cases q with
  | ex c=>cases h;exact(q7e A (q3C hc)).weak λDn σ H ⟨H0,O,W,R,fr,fo,sm,k⟩=>⟨O,W,R,q6E R fr sm k⟩
  | ok d cl=>cases h;exact(q7e A (q3C hc)).weak λDn σ H ⟨H0,O,W,R,fr,fo,sm,k⟩=>⟨O,W,R,λv H1 s1 g=>k σ H1 W (R.mono s1) fr (sm.trans s1)⟩
theorem q2b{O W:List Addr}{p b:Addr}:b∈O++p::W↔b∈p::(O++W):=by
 simp only[List.mem_append,List.mem_cons];constructor
 ·rintro(h | h | h)
  ·exact .inr (.inl h)
  ·exact .inl h
  ·exact .inr (.inr h)
 ·rintro(h | h | h)
  ·exact .inr (.inl h)
  ·exact .inl h
  ·exact .inr (.inr h)
theorem q0g{α:Type}{l:List α}{i j:Nat}{a b:α}(h:(l.set i a)[j]? = some b)(hn:a≠b):j≠i:=λz=>by
 subst z;have hl:j<l.length:=by have:=(List.getElem?_eq_some_iff.mp h).1;rw[List.length_set]at this;exact this
 rw[List.getElem?_set_self hl]at h;exact hn (Option.some.inj h)
theorem q4m{α:Type}{l:List α}{i:Nat}{a b:α}(h:(l.set i a)[i]? = some b):i<l.length/\a=b:=by
 have hl:i<l.length:=(by have:=(List.getElem?_eq_some_iff.mp h).1;rw[List.length_set]at this;exact this);rw[List.getElem?_set_self hl]at h;exact⟨hl,Option.some.inj h⟩
theorem RSt.alloc{D:Dm}{H H':Hp}{σ:St}{O W:List Addr}{p:Addr}{xs:List V}{ds:List DV}(R:RSt D H σ δ O W)(s:Same H H')(hp:H p=none)(hp':H' p=some (.lst xs))(r:RepL D (L2.wo (p::(O++W)) H') ds xs)(i:Nat) :
  RSt D H' (σ.set i (some (.ref p))) (δ.set i (.own (.lst ds))) O (p::W):=by
 have old:Same (L2.wo (O++W) H) (L2.wo (O++p::W) H'):=λb o e=>by obtain⟨hb,e⟩:=q0R e;have hbp:b≠p:=q0u e hp;rw[q0s (λz=>by rcases List.mem_cons.mp (q2b.mp z)with z | z;exact hbp z;exact hb z)];exact s b o e
 have eqv:Same (L2.wo (p::(O++W)) H') (L2.wo (O++p::W) H'):=q0A λb hb=>q2b.mp hb;refine⟨λj d h=>?_,λj ds' h=>?_,λj k a d1 d2 h1 h2 e1 e2=>?_,λj d h=>?_,λj d h=>by
   have hj:=q0g h (by intro z;cases z);rw[List.getElem?_set_ne (Ne.symm hj)]at h ⊢;obtain⟨⟨p1,L,e0,e1,e2,e3⟩,u,n⟩:=R.o2 j d h;refine⟨⟨p1,L,e0,e1,(e2.mono s).sub λa _ ha=>List.mem_cons_of_mem _ ha,λk d2 a q q2=>?_⟩,λk d2 q=>?_,λk d2 q=>?_⟩
   ·by_cases hk:k=i
    ·subst hk;obtain⟨_,z⟩:=q4m q2;cases z;intro z;obtain⟨_,ys,w⟩:=e2.dom z;rw[hp]at w;cases w
    ·rw[List.getElem?_set_ne (Ne.symm hk)]at q q2;exact e3 k d2 a q q2
   ·have hk:=q0g q (by intro z;cases z);rw[List.getElem?_set_ne (Ne.symm hk)]at q;exact u k d2 q
   ·have hk:=q0g q (by intro z;cases z);rw[List.getElem?_set_ne (Ne.symm hk)]at q;exact n k d2 q,R.od.step (q8s _ (by intro d z;cases z)) (λ_ h _=>List.mem_cons_of_mem _ h) (λa kvs _ h _=>s _ _ h),by rw[List.length_set,List.length_set];exact R.len,⟨λa ha=>?_,Same.refl _,λa ha=>?_,λa ha=>?_,R.hid.omS s⟩⟩
 ·have hj:=q0g h (by intro z;cases z);rw[List.getElem?_set_ne (Ne.symm hj)]at h ⊢;obtain⟨v,e1,e2⟩:=R.val j d h;exact⟨v,e1,e2.mono old⟩
 ·by_cases hj:j=i
  ·subst hj;obtain⟨hl,e⟩:=q4m h;cases e;exact⟨p,xs,ds,rfl,List.getElem?_set_self (by rw[R.len];exact hl),List.mem_cons_self,hp',r.mono eqv⟩
  ·rw[List.getElem?_set_ne (Ne.symm hj)]at h ⊢;obtain⟨a,ys,ds1,e0,e1,e2,e3,e4⟩:=R.own j ds' h;exact⟨a,ys,ds1,e0,e1,List.mem_cons_of_mem _ e2,s _ _ e3,e4.mono old⟩
 ·have key:∀{j:Nat} {d1:DV},(δ.set i (.own (.lst ds)))[j]? = some (.own d1)->(σ.set i (some (.ref p)))[j]? = some (some (V.ref a))->(j=i/\a=p)\/(j≠i/\δ[j]? = some (.own d1)/\σ[j]? = some (some (V.ref a))/\a≠p):=λ{j d1} h e=>by
   by_cases hj:j=i
   ·subst hj;obtain⟨_,z⟩:=q4m e;cases z;exact .inl ⟨rfl,rfl⟩
   ·rw[List.getElem?_set_ne (Ne.symm hj)]at h e;refine .inr ⟨hj,h,e,λz=>?_⟩;obtain⟨a',ys,ds1,_,q1,_,q3,_⟩:=R.own j d1 h;rw[e]at q1;cases q1;rw[z,hp]at q3;cases q3
  rcases key h1 e1 with⟨z1,z2⟩ | ⟨z1,z2,z3,z4⟩<;>rcases key h2 e2 with⟨y1,y2⟩ | ⟨y1,y2,y3,y4⟩
  ·rw[z1,y1]
  ·exact absurd z2 y4
  ·exact absurd y2 z4
  ·exact R.inj j k a d1 d2 z2 y2 z3 y3
 ·have hj:=q0g h (by intro z;cases z);rw[List.getElem?_set_ne (Ne.symm hj)]at h ⊢;obtain⟨⟨t,ts,p1,ys,ds1,es,e0,e1,e2,e3,e4,e5,e6,e7⟩,u⟩:=R.ot j d h;refine⟨⟨t,ts,p1,ys,ds1,es,e0,e1,old.tseq e2,List.mem_cons_of_mem _ e3,s _ _ e4,e5.mono old,e6.mono old,λk d2 q=>?_⟩,λk d2 q=>?_⟩
  ·by_cases hk:k=i
   ·subst hk;intro z;obtain⟨_,z⟩:=q4m z;cases z;rw[hp]at e4;cases e4
   ·rw[List.getElem?_set_ne (Ne.symm hk)]at q ⊢;exact e7 k d2 q
  ·have hk:=q0g q (by intro z;cases z);rw[List.getElem?_set_ne (Ne.symm hk)]at q;exact u k d2 q
 ·rcases List.mem_cons.mp (q2b.mp ha)with z | z
  ·rw[z,hp'];intro q;cases q
  ·intro q;exact R.hid.ot a z (s.free q)
 ·rcases List.mem_cons.mp ha with z | z
  ·exact⟨_,by rw[z];exact hp',rfl⟩
  ·obtain⟨ys,q,m⟩:=R.hid.wl a z;exact⟨ys,s _ _ q,m⟩
 ·rcases List.mem_cons.mp ha with z | z
  ·intro q;exact R.hid.ot p (List.mem_append_left _ (by rw[←z];exact q)) hp
  ·exact R.hid.dj a z
theorem z1w{i:Nat}{δ:List Sv}(h:noOt i δ=true){j:Nat}{d:DV}(q:δ[j]? = some (.ot d)):j=i:=by
 unfold noOt at h;rw[List.all_eq_true]at h;have hj:j<δ.length:=(List.getElem?_eq_some_iff.mp q).1;have:=h j (List.mem_range.mpr hj);rw[q]at this;simpa using this
theorem z6y{i:Nat}{δ:List Sv}(h:noOt i δ=true){j:Nat}{d:DV}(q:δ[j]? = some (.o2 d)):j=i:=by
 unfold noOt at h;rw[List.all_eq_true]at h;have hj:j<δ.length:=(List.getElem?_eq_some_iff.mp q).1;have:=h j (List.mem_range.mpr hj);rw[q]at this;simpa using this
theorem RSt.allocT{D:Dm}{H H':Hp}{σ:St}{O W:List Addr}{t p:Addr}{ts xs:List V}{ds es:List DV}(R:RSt D H σ δ O W)(s:Same H H')(ht:SqT D.K (L2.wo (O++W) H') t (.ref p::ts))(hp:H p=none)(hp':H' p=some (.lst xs))(r:RepL D (L2.wo (p::(O++W)) H') ds xs)(r2:RepL D (L2.wo (p::(O++W)) H') es ts)(i:Nat)(hno:noOt i δ=true) :
  RSt D H' (σ.set i (some (.ref t))) (δ.set i (.ot (.tup (.lst ds::es)))) O (p::W):=by
 have old:Same (L2.wo (O++W) H) (L2.wo (O++p::W) H'):=λb o e=>by obtain⟨hb,e⟩:=q0R e;have hbp:b≠p:=q0u e hp;rw[q0s (λz=>by rcases List.mem_cons.mp (q2b.mp z)with z | z;exact hbp z;exact hb z)];exact s b o e
 have eqv:Same (L2.wo (p::(O++W)) H') (L2.wo (O++p::W) H'):=q0A λb hb=>q2b.mp hb;have ht':SqT D.K (L2.wo (O++p::W) H') t (.ref p::ts):=by
  have ne:∀{o:HO},L2.wo (O++W) H' t=some o->(∀ys,o ≠ .lst ys)->L2.wo (O++p::W) H' t=some o:=λ{o} e ho=>by
   obtain⟨hb,e⟩:=q0R e;rw[q0s (λz=>by
    rcases List.mem_cons.mp (q2b.mp z)with z | z
    ·rw[z,hp']at e;cases e;exact ho _ rfl
    ·exact hb z)]
   exact e
  rcases ht with(h | ⟨o,h⟩) | h
  ·exact .inl (.inl (ne h (by intro ys z;cases z)))
  ·exact .inl (.inr ⟨o,ne h (by intro ys z;cases z)⟩)
  ·exact .inr h
 refine⟨λj d h=>?_,λj ds' h=>?_,λj k a d1 d2 h1 h2 e1 e2=>?_,λj d h=>?_,λj d h=>absurd (z6y hno (by have hj:=q0g h (by intro z;cases z);rw[List.getElem?_set_ne (Ne.symm hj)]at h;exact h)) (q0g h (by intro z;cases z)),R.od.step (q8s _ (by intro d z;cases z)) (λ_ h _=>List.mem_cons_of_mem _ h) (λa kvs _ h _=>s _ _ h),by rw[List.length_set,List.length_set];exact R.len,⟨λa ha=>?_,Same.refl _,λa ha=>?_,λa ha=>?_,R.hid.omS s⟩⟩
 ·have hj:=q0g h (by intro z;cases z);rw[List.getElem?_set_ne (Ne.symm hj)]at h ⊢;obtain⟨v,e1,e2⟩:=R.val j d h;exact⟨v,e1,e2.mono old⟩
 ·have hj:=q0g h (by intro z;cases z);rw[List.getElem?_set_ne (Ne.symm hj)]at h ⊢;obtain⟨a,ys,ds1,e0,e1,e2,e3,e4⟩:=R.own j ds' h;exact⟨a,ys,ds1,e0,e1,List.mem_cons_of_mem _ e2,s _ _ e3,e4.mono old⟩
 ·have n1:=q0g h1 (by intro z;cases z);have n2:=q0g h2 (by intro z;cases z);rw[List.getElem?_set_ne (Ne.symm n1)]at h1 e1;rw[List.getElem?_set_ne (Ne.symm n2)]at h2 e2;exact R.inj j k a d1 d2 h1 h2 e1 e2
 ·have hj:j=i:=by
   by_cases hj:j=i
   ·exact hj
   ·rw[List.getElem?_set_ne (Ne.symm hj)]at h;exact z1w hno h
  subst hj;obtain⟨hl,e⟩:=q4m h;cases e;refine⟨⟨t,ts,p,xs,ds,es,rfl,List.getElem?_set_self (by rw[R.len];exact hl),ht',List.mem_cons_self,hp',r.mono eqv,r2.mono eqv,λk d2 q=>?_⟩,λk d2 q=>?_⟩
  ·have hk:=q0g q (by intro z;cases z);rw[List.getElem?_set_ne (Ne.symm hk)]at q ⊢;intro z;obtain⟨a,ys,ds1,f0,f1,f2,f3,f4⟩:=R.own k d2 q;rw[z]at f1;cases f1;rw[hp]at f3;cases f3
  ·by_cases hk:k=j
   ·exact hk
   ·rw[List.getElem?_set_ne (Ne.symm hk)]at q;exact z1w hno q
 ·rcases List.mem_cons.mp (q2b.mp ha)with z | z
  ·rw[z,hp'];intro q;cases q
  ·intro q;exact R.hid.ot a z (s.free q)
 ·rcases List.mem_cons.mp ha with z | z
  ·exact⟨_,by rw[z];exact hp',rfl⟩
  ·obtain⟨ys,q,m⟩:=R.hid.wl a z;exact⟨ys,s _ _ q,m⟩
 ·rcases List.mem_cons.mp ha with z | z
  ·intro q;exact R.hid.ot p (List.mem_append_left _ (by rw[←z];exact q)) hp
  ·exact R.hid.dj a z
theorem RSt.write{D:Dm}{H:Hp}{σ:St}{O W:List Addr}{a:Addr}{xs':List V}{ds ds':List DV}(R:RSt D H σ δ O W)(hi:δ[i]? = some (.own (.lst ds)))(ha:σ[i]? = some (some (.ref a)))(r:RepL D (L2.wo (O++W) H) ds' xs') :
  RSt D (upd H a (.lst xs')) σ (δ.set i (.own (.lst ds'))) O W:=by
 obtain⟨a',xs,ds0,e0,e1,e2,e3,e4⟩:=R.own i _ hi;rw[ha]at e1;cases e1;have old:Same (L2.wo (O++W) H) (L2.wo (O++W) (upd H a (.lst xs'))):=λb o e=>by obtain⟨hb,e⟩:=q0R e;rw[q0s hb,q0q λz=>hb (by rw[z];exact List.mem_append_right _ e2)];exact e
 have hl:i<δ.length:=(List.getElem?_eq_some_iff.mp hi).1;refine⟨λj d h=>?_,λj ds'' h=>?_,λj k b d1 d2 h1 h2 q1 q2=>?_,λj d h=>?_,λj d h=>by
   have hj:=q0g h (by intro z;cases z);rw[List.getElem?_set_ne (Ne.symm hj)]at h;obtain⟨⟨p1,L,f0,f1,f2,f3⟩,u,n⟩:=R.o2 j d h;refine⟨⟨p1,L,f0,f1,f2.write (f3 i _ a hi ha),λk d2 b q q2=>?_⟩,λk d2 q=>?_,λk d2 q=>?_⟩
   ·by_cases hk:k=i
    ·subst hk;exact f3 k _ b hi q2
    ·rw[List.getElem?_set_ne (Ne.symm hk)]at q;exact f3 k d2 b q q2
   ·have hk:=q0g q (by intro z;cases z);rw[List.getElem?_set_ne (Ne.symm hk)]at q;exact u k d2 q
   ·have hk:=q0g q (by intro z;cases z);rw[List.getElem?_set_ne (Ne.symm hk)]at q;exact n k d2 q,R.od.step (z1a (by intro d z;cases z)) (λ_ h _=>h) (λb kvs _ h m=>by rw[q0q (λz=>by rw[z,e3]at h;cases h;cases m)];exact h),by rw[List.length_set];exact R.len,⟨λb hb q=>?_,Same.refl _,λb hb=>?_,R.hid.dj,R.hid.omW (by assumption)⟩⟩
 ·have hj:=q0g h (by intro z;cases z);rw[List.getElem?_set_ne (Ne.symm hj)]at h;obtain⟨v,q1,q2⟩:=R.val j d h;exact⟨v,q1,q2.mono old⟩
 ·by_cases hj:j=i
  ·subst hj;obtain⟨_,e⟩:=q4m h;cases e;exact⟨a,xs',ds',rfl,ha,e2,q0P,r.mono old⟩
  ·rw[List.getElem?_set_ne (Ne.symm hj)]at h;obtain⟨b,ys,ds1,q0,q1,q2,q3,q4⟩:=R.own j ds'' h;refine⟨b,ys,ds1,q0,q1,q2,?_,q4.mono old⟩;rw[q0q λz=>hj (R.inj j i a ds'' _ h hi (by rw[←z];exact q1) ha)];exact q3
 ·have key:∀{j:Nat} {d1:DV},(δ.set i (.own (.lst ds')))[j]? = some (.own d1)->∃d0,δ[j]? = some (.own d0):=λ{j d1} h=>by
   by_cases hj:j=i
   ·subst hj;exact⟨_,hi⟩
   ·rw[List.getElem?_set_ne (Ne.symm hj)]at h;exact⟨d1,h⟩
  obtain⟨d1',z1⟩:=key h1;obtain⟨d2',z2⟩:=key h2;exact R.inj j k b d1' d2' z1 z2 q1 q2
 ·have hj:=q0g h (by intro z;cases z);rw[List.getElem?_set_ne (Ne.symm hj)]at h;obtain⟨⟨t,ts,p1,ys,ds1,es,f0,f1,f2,f3,f4,f5,f6,f7⟩,u⟩:=R.ot j d h;refine⟨⟨t,ts,p1,ys,ds1,es,f0,f1,old.tseq f2,f3,?_,f5.mono old,f6.mono old,λk d2 q=>?_⟩,λk d2 q=>?_⟩
  ·rw[q0q λz=>f7 i _ hi (by rw[z];exact ha)];exact f4
  ·by_cases hk:k=i
   ·subst hk;exact f7 k _ hi
   ·rw[List.getElem?_set_ne (Ne.symm hk)]at q;exact f7 k d2 q
  ·have hk:=q0g q (by intro z;cases z);rw[List.getElem?_set_ne (Ne.symm hk)]at q;exact u k d2 q
 ·by_cases hba:b=a
  ·rw[hba,q0P]at q;cases q
  ·rw[q0q hba]at q;exact R.hid.ot b hb q
 ·by_cases hba:b=a
  ·exact⟨_,by rw[hba];exact q0P,rfl⟩
  ·obtain⟨ys,q,m⟩:=R.hid.wl b hb;exact⟨ys,by rw[q0q hba];exact q,m⟩
theorem q5o{H0 H:Hp}{a:Addr}{o:HO}(h:Same H0 H)(ha:H0 a=none):Same H0 (upd H a o):=λb u e=>by
 rw[q0q (q0u e ha)];exact h b u e
theorem z3x{Dn:Ends}{σ:St}{H H0:Hp}{O W:List Addr}{own:Bool}{d:DV}{cl:Cl}{D:Dm}(h:(if own then q4K i δ d cl else(if stro d cl then some (.nx (δ.set i (.val d)))else none))=some o)
  (R:RSt D H σ δ O W) (fr:∀a∈W,H0 a=none) (sm:Same H0 H) (k:dEnd D E H0 O Dn o):∀v H',Same H H'->Got D O W H H' d cl v->Dn.nx (σ.set i (some v)) H':=λv H1 s1 g=>by
 cases own with
 | true=>
  simp only[if_true]at h;unfold q4K at h;split at h
  ·cases h;obtain⟨p,xs,ds,e1,e2,e3,e4,e5⟩:=g;subst e1 e2;exact k _ H1 (p::W) (R.alloc s1 e3 e4 e5 i) (λa ha=>by
    rcases List.mem_cons.mp ha with z | z
    ·rw[z];exact sm.free e3
    ·exact fr a z) (sm.trans s1)
  ·split at h
   ·rename_i hno;cases h;obtain⟨t,ts,p,xs,ds,es,e1,e2,e0,e3,e4,e5,e6⟩:=g;subst e1 e2;exact k _ H1 (p::W) (R.allocT s1 e0 e3 e4 e5 e6 i hno) (λa ha=>by
     rcases List.mem_cons.mp ha with z | z
     ·rw[z];exact sm.free e3
     ·exact fr a z) (sm.trans s1)
   ·cases h
  ·cases h
 | false=>
  simp only[Bool.false_eq_true,if_false]at h;split at h
  ·rename_i m;cases h;exact k _ H1 W ((R.mono s1).setVal (g.stro (R.hid.mono s1) m) i) fr (sm.trans s1)
  ·cases h
theorem z0G{own:Bool}(hN:X.N.Nodup)(hi:X.N[i]? = some x)(hx:Loc X.env.scope x)(hf:X.fn x=true\/X.env.scope.names.lookup x=some .local)(ha:∀q,ra=some q->PE X e (dE X.D E δ q))(hc:swapsWith e (some (.Name x pos')) pos.line X.env=pure false)
  (h:(Re.thnS δ ra λd c=>if own then q4K i δ d c else(if stro d c then some (.nx (δ.set i (.val d)))else none))=some o):PS X (.Assign [.Name x pos'] e pos) (dS X.D E δ o):=by
 cases hra:ra with
 | none=>rw[hra]at h;cases h
 | some q=>
  rw[hra]at h;have A:=ha q hra;cases q with
  | ex c=>cases h;exact(z3U hN hi hx A hc hf).weak λDn σ H ⟨H0,O,W,R,fr,fo,sm,k⟩=>⟨O,W,R,q6E R fr sm k⟩
  | ok d cl=>exact(z3U hN hi hx A hc hf).weak λDn σ H ⟨H0,O,W,R,fr,fo,sm,k⟩=>⟨O,W,R,z3x h R fr sm k⟩
theorem q7I{own:Bool}{tgE iter elt:Expr}{ifs:List Expr}{scope:Scope}{N':List Str}{fr:List (Option Nat)}{tg:Tg}{re:Re}(S:CompScope X.N N' scope X.env.scope fr)(hc:X.calm=true)(hN:X.N.Nodup)(hi:X.N[i]? = some x)(hx:X.env.scope.names.lookup x=some .local)
  (P:q1n X E δ tgE iter ifs elt scope N' fr tg re) (hG:∀C cells s₂ H₂ fp,PG (q0v X scope N' C cells s₂ H₂ fp) tgE (gT X.K tg)) (hset:q2H iter=false) {cpos:Pos} (hsw:swapsWith (.ListComp elt [⟨tgE,iter,ifs,0⟩] scope cpos) (some (.Name x pos')) pos.line X.env=pure true)
  (h:(Re.thnS δ (some re) λd c=>if own then q4K i δ d c else(if stro d c then some (.nx (δ.set i (.val d)))else none))=some o):PS X (.Assign [.Name x pos'] (.ListComp elt [⟨tgE,iter,ifs,0⟩] scope cpos) pos) (dS X.D E δ o):=by
 obtain⟨wi,tc,te,h1,h2,h3,h4⟩:=P;refine(q9v S hc hN hi hx h1 hG h2 h3 hsw (q5Y hset)).weak λDn σ H ⟨H0,O,W,R,fr,fo,sm,k⟩=>h4 σ H _ ⟨O,W,R,?_⟩
 cases re with
 | ex c=>cases h;exact q6E R fr sm k
 | ok d cl=>exact z3x h R fr sm k
theorem q9m{apos cpos npos:Pos}(hv:PE X (.Name x npos) (tVar i))(he:∀q,ra=some q->PE X e (dE X.D E δ q))(hs:q0l e=false)(hline:(apos.endLine==cpos.line)=true)
  (h:(match δ[i]? with
   | some (.own (.lst ds))=>Re.thnS δ ra λd c=>if stro d c/\ds.length<mostLen then some (.nx (δ.set i (.own (.lst (ds++[d])))))else none
   | _=>none)=some o):PS X (.Expr (.Call (.Attribute (.Name x npos) "append" apos) [e] [] cpos) pos) (dS X.D E δ o):=by
 split at h
 ·rename_i ds hi;have C:=λt (hA:PE X e t)=>q7e (pos:=pos) (y0j PySem.F.plainAttrs_list PySem.F.slot_list_append PySem.F.type_list_append z1P hv (q1x hA q4H (q0o hs)) rfl (by rw[q0o hs];rfl) hline (q0o hs) rfl) rfl
  cases hra:ra with
  | none=>rw[hra]at h;cases h
  | some q=>
   rw[hra]at h;have A:=he q hra;cases q with
   | ex c=>
    cases h;exact(C _ A).weak λDn σ H ⟨H0,O,W,R,fr,fo,sm,k⟩=>by obtain⟨a,xs,ds0,e0,e1,e2,e3,e4⟩:=R.own i _ hi;exact⟨.ref a,e1,.inl ⟨rfl,xs,SqL.of e3⟩,O,W,R,q6E (Q:=λ_ _=>False) R fr sm k⟩
   | ok d cl=>
    have h':(if stro d cl/\ds.length<mostLen then some (Out.nx (δ.set i (.own (.lst (ds++[d])))))else none)=some o:=h;split at h'
    ·rename_i m;cases h';exact(C _ A).weak λDn σ H ⟨H0,O,W,R,fr,fo,sm,k⟩=>by obtain⟨a,xs,ds0,e0,e1,e2,e3,e4⟩:=R.own i _ hi;cases e0;refine⟨.ref a,e1,.inl ⟨rfl,xs,SqL.of e3⟩,O,W,R,λv H1 s1 g=>?_⟩;have R1:=R.mono s1;refine⟨a,xs,v,rfl,rfl,s1 _ _ e3,by rw[e4.length];exact Nat.lt_of_lt_of_le m.2 (by decide),?_⟩;exact k σ _ W (R1.write hi e1 ((e4.mono s1.wo).append (RepL.one (g.stro (R.hid.mono s1) m.1)))) fr (q5o (sm.trans s1) (fr a e2))
    ·cases h'
 ·cases h
theorem z1y{npos spos:Pos}{ix:Expr}{rb:Option Re}(hv:PE X (.Name x npos) (tVar i))(he:∀q,ra=some q->PE X e (dE X.D E δ q))(hx:∀q,rb=some q->PE X ix (dE X.D E δ q))(hsl:q5v ix=false)
  (h:(match δ[i]? with
   | some (.own (.lst ds))=>Re.thnS δ ra λd c=>Re.thnS δ rb λk _=>(match k with
    | .int k=>(match q2m ds.length k with
     | some j=>if stro d c then some (.nx (δ.set i (.own (.lst (ds.set j d)))))else none
     | none=>none)
    | _=>none)
   | _=>none)=some o):PS X (.Assign [.Subscript (.Name x npos) ix spos] e pos) (dS X.D E δ o):=by
 have sub:∀v,assign (.Subscript (.Name x npos) ix spos) X.env v=(do
   let ov ←holding [v] (eval (.Name x npos) X.env)
   let iv ←holding [v,ov] (eval ix X.env)
   standAt spos
   holding [v,ov,iv] (setItem ov iv v)
   release [v,ov,iv] []):=by cases ix<;>first | (intro _;rfl) | cases hsl
 have C:=λt tk (hA:PE X e t) (hK:PE X ix tk)=>z6L (pos:=pos) hA (z8s hv hK z3j sub) (by cases e<;>rfl) (by cases e<;>rfl) rfl;split at h
 ·rename_i ds hi;cases hra:ra with
  | none=>rw[hra]at h;cases h
  | some q=>
   rw[hra]at h;have A:=he q hra;cases q with
   | ex c=>
    cases h;exact(C _ _ A q1q).weak λDn σ H ⟨H0,O,W,R,fr,fo,sm,k⟩=>⟨O,W,R,q6E (Q:=λ_ _=>False) R fr sm k⟩
   | ok d cl=>
    cases hrb:rb with
    | none=>rw[hrb]at h;cases h
    | some q=>
     rw[hrb]at h;have B:=hx q hrb;cases q with
     | ex c=>
      cases h;exact(C _ _ A B).weak λDn σ H ⟨H0,O,W,R,fr,fo,sm,k⟩=>⟨O,W,R,λv H1 s1 g=>by
       have R1:=R.mono s1;obtain⟨a,xs,ds0,e0,e1,e2,e3,e4⟩:=R1.own i _ hi;exact⟨.ref a,e1,O,W,R1,q6E (Q:=λ_ _=>False) R1 fr (sm.trans s1) k⟩⟩
     | ok dk ck=>
      have h':(match(generalizing:=false) dk with
       | .int k=>(match q2m ds.length k with
        | some j=>if stro d cl then some (Out.nx (δ.set i (.own (.lst (ds.set j d)))))else none
        | none=>none)
       | _=>none)=some o:=h
      split at h'
      ·rename_i k0;split at h'
       ·rename_i j hj;split at h'
        ·rename_i m;cases h';exact(C _ _ A B).weak λDn σ H ⟨H0,O,W,R,fr,fo,sm,k⟩=>⟨O,W,R,λv H1 s1 g=>by
          have R1:=R.mono s1;obtain⟨a,xs,ds0,e0,e1,e2,e3,e4⟩:=R1.own i _ hi;cases e0;refine⟨.ref a,e1,O,W,R1,λy H2 s2 g2=>?_⟩;have R2:=R1.mono s2;refine⟨a,xs,k0,j,rfl,g2.int (R1.hid.mono s2),s2 _ _ e3,by rw[e4.length];exact hj,?_⟩;exact k σ _ W (R2.write hi e1 (RepL.set ((g.mono s2).stro ((R.hid.mono s1).mono s2) m) j (e4.mono s2.wo))) fr (q5o ((sm.trans s1).trans s2) (fr a e2))⟩
        ·cases h'
       ·cases h'
      ·cases h'
 ·cases h
theorem RSt.freeze{D:Dm}{H:Hp}{σ:St}{O W:List Addr}{d:DV}(R:RSt D H σ δ O W)(hi:δ[i]? = some (.own d)):∃W',(∀a∈W',a∈W)/\RSt D H σ (δ.set i (.val d)) O W':=by
 obtain⟨a,xs,ds,e0,e1,e2,e3,e4⟩:=R.own i d hi;subst e0;have hl:i<δ.length:=(List.getElem?_eq_some_iff.mp hi).1;have sub:∀b∈O++W.filter (λb=>decide (b≠a)),b∈O++W:=λb hb=>by
  rcases List.mem_append.mp hb with z | z
  ·exact List.mem_append_left _ z
  ·exact List.mem_append_right _ (List.mem_filter.mp z).1
 have hao:a∉O++W.filter (λb=>decide (b≠a)):=λz=>by
  rcases List.mem_append.mp z with z | z
  ·exact R.hid.dj a e2 z
  ·exact absurd rfl (of_decide_eq_true (List.mem_filter.mp z).2)
 refine⟨W.filter λb=>decide (b≠a),λb hb=>(List.mem_filter.mp hb).1,⟨λj d h=>?_,λj ds' h=>?_,λj k b d1 d2 h1 h2 q1 q2=>?_,λj d h=>?_,λj d h=>by
   have hj:=q0g h (by intro z;cases z);rw[List.getElem?_set_ne (Ne.symm hj)]at h;obtain⟨⟨p1,L,f0,f1,f2,f3⟩,u,n⟩:=R.o2 j d h;refine⟨⟨p1,L,f0,f1,f2.sub λb hb hbw=>List.mem_filter.mpr ⟨hbw,decide_eq_true λz=>f3 i _ a hi e1 (by rw[←z];exact hb)⟩,λk d2 b q q2=>?_⟩,λk d2 q=>?_,λk d2 q=>?_⟩
   ·have hk:=q0g q (by intro z;cases z);rw[List.getElem?_set_ne (Ne.symm hk)]at q;exact f3 k d2 b q q2
   ·have hk:=q0g q (by intro z;cases z);rw[List.getElem?_set_ne (Ne.symm hk)]at q;exact u k d2 q
   ·have hk:=q0g q (by intro z;cases z);rw[List.getElem?_set_ne (Ne.symm hk)]at q;exact n k d2 q,R.od.step (z1a (by intro d z;cases z)) (λb hb ⟨kvs,h,m⟩=>List.mem_filter.mpr ⟨hb,decide_eq_true λz=>by rw[z,e3]at h;cases h;cases m⟩) (λ_ _ _ h _=>h),by rw[List.length_set];exact R.len,
  ⟨λb hb=>R.hid.ot b (sub b hb),Same.refl _,λb hb=>R.hid.wl b (List.mem_filter.mp hb).1,λb hb=>R.hid.dj b (List.mem_filter.mp hb).1,R.hid.om⟩⟩⟩
 ·by_cases hj:j=i
  ·subst hj;obtain⟨_,e⟩:=q4m h;cases e;exact⟨.ref a,e1,q0z.mpr ⟨a,xs,rfl,by rw[q0s hao];exact e3,e4.mono (q0A sub)⟩⟩
  ·rw[List.getElem?_set_ne (Ne.symm hj)]at h;obtain⟨v,q1,q2⟩:=R.val j d h;exact⟨v,q1,q2.mono (q0A sub)⟩
 ·have hj:=q0g h (by intro z;cases z);rw[List.getElem?_set_ne (Ne.symm hj)]at h;obtain⟨b,ys,ds1,q0,q1,q2,q3,q4⟩:=R.own j ds' h;refine⟨b,ys,ds1,q0,q1,List.mem_filter.mpr ⟨q2,decide_eq_true λz=>hj (R.inj j i a ds' _ h hi (by rw[←z];exact q1) e1)⟩,q3,q4.mono (q0A sub)⟩
 ·have n1:=q0g h1 (by intro z;cases z);have n2:=q0g h2 (by intro z;cases z);rw[List.getElem?_set_ne (Ne.symm n1)]at h1;rw[List.getElem?_set_ne (Ne.symm n2)]at h2;exact R.inj j k b d1 d2 h1 h2 q1 q2
 ·have hj:=q0g h (by intro z;cases z);rw[List.getElem?_set_ne (Ne.symm hj)]at h;obtain⟨⟨t,ts,p1,ys,ds1,es,f0,f1,f2,f3,f4,f5,f6,f7⟩,u⟩:=R.ot j d h;refine⟨⟨t,ts,p1,ys,ds1,es,f0,f1,(q0A sub).tseq f2,List.mem_filter.mpr ⟨f3,decide_eq_true λz=>f7 i _ hi (by rw[z];exact e1)⟩,f4,f5.mono (q0A sub),f6.mono (q0A sub),λk d2 q=>?_⟩,λk d2 q=>?_⟩
  ·have hk:=q0g q (by intro z;cases z);rw[List.getElem?_set_ne (Ne.symm hk)]at q;exact f7 k d2 q
  ·have hk:=q0g q (by intro z;cases z);rw[List.getElem?_set_ne (Ne.symm hk)]at q;exact u k d2 q
theorem q9j{d:DV}(hi:δ[i]? = some (.own d))(h:PSs X rest (dS X.D E (δ.set i (.val d)) o)):PSs X rest (dS X.D E δ o):=h.weak λDn σ H ⟨H0,O,W,R,fr,fo,sm,k⟩=>by
 obtain⟨W',hs,R'⟩:=R.freeze hi;exact⟨H0,O,W',R',λa ha=>fr a (hs a ha),fo,sm,k⟩
end
end L2
end
noncomputable section
namespace L2
open PySem PySem.Spec PyProof.Rows
theorem PSs.any{X:Cx}{body:List Stmt}{ι:Sort _}{t:ι->TS}(h:∀k,PSs X body (t k)):PSs X body (λD σ H=>∃k,t k D σ H):=λpins s σ H D I ⟨k,q⟩=>h k pins s σ H D I q
structure Lp(H0 H1:Hp)(O W:List Addr):Prop where
 out:∀{H:Hp},Same (L2.wo W H1) H->Same H0 H
 outW:∀{a:Addr},L2.wo W H1 a=none->H0 a=none
 in1:∀a∈W,L2.wo W H1 a=none
 in2:∀a∈O,L2.wo W H1 a≠none
 wsame:∀{H:Hp},Same (L2.wo W H1) H->Same (L2.wo (O++W) H1) (L2.wo (O++W) H)
theorem Lp.mk'{H0 H1:Hp}{O W:List Addr}(fr:∀a∈W,H0 a=none)(fo:∀a∈O,H0 a≠none)(sm:Same H0 H1):Lp H0 H1 O W where
 out:=λ{H} s b u e=>s b u (by
  rw[q0s λz=>by rw[fr b z]at e;cases e];exact sm b u e)
 outW:=λ{a} q=>by
  by_cases z:a∈W
  ·exact fr a z
  ·rw[q0s z]at q;exact sm.free q
 in1:=λa ha=>z8w ha
 in2:=λa ha=>by rw[q0s λz=>fo a ha (fr a z)];intro q;exact fo a ha (sm.free q)
 wsame:=λ{H} s b u e=>by obtain⟨hb,e⟩:=q0R e;rw[q0s hb];exact s b u (by rw[q0s λz=>hb (List.mem_append_right _ z)];exact e)
theorem Lp.gotR{H0 H1:Hp}{O W:List Addr}{D:Dm}{H:Hp}{d:DV}{fr:Bool}{v:V}(L:Lp H0 H1 O W)(g:GotR D O (L2.wo W H1) H d fr v):GotR D O H0 H d fr v:=by
 cases fr with
 | false=>exact g
 | true=>
  obtain⟨p,xs,ds,e1,e2,e3,e4,e5⟩:=g;exact⟨p,xs,ds,e1,e2,L.outW e3,e4,e5⟩
theorem Lp.gotT{H0 H1:Hp}{O W:List Addr}{D:Dm}{H:Hp}{d:DV}{v:V}(L:Lp H0 H1 O W)(g:GotT D O (L2.wo W H1) H d v):GotT D O H0 H d v:=by
 rcases g with⟨t,ts,p,xs,ds,es,e1,e2,e0,e3,e4,e5,e6⟩ | ⟨xs,e1,e2⟩
 ·exact .inl ⟨t,ts,p,xs,ds,es,e1,e2,e0,L.outW e3,e4,e5,e6⟩
 ·exact .inr ⟨xs,e1,e2.since λa ha=>L.outW ha⟩
section
variable {X:Cx} {E:St->XK} {δ:List Sv} {tgE iter c:Expr} {body:List Stmt} {o:Out} {pos:Pos} {tg:Tg} {ri:Option Ri} {evB:List Sv->Option Out} {evC:List Sv->Option Rt}
theorem z5T(hp:PassesOwn (model X.prog X.w) X.A X.env X.xe)(hc:X.calm=true)(hi:∀q,ri=some q->PI X tgE iter (dI X.D E δ q))(hG:PG X tgE (gT X.K tg))(hb:∀δ' o,evB δ'=some o->PSs X body (dS X.D E δ' o))(hset:q2H iter=false)
  (h:(Ri.thnS δ ri λds c=>if c=.strong\/c=.fresh then q0N tg evB ds δ else none)=some o):PS X (.For tgE iter body [] pos) (dS X.D E δ o):=by
 have B:PSs X body (λD σ H=>∃k:{p:List Sv×Out // evB p.1=some p.2},dS X.D E k.1.1 k.1.2 D σ H):=PSs.any λk=>hb k.1.1 k.1.2 k.2;cases hri:ri with
 | none=>rw[hri]at h;cases h
 | some q=>
  rw[hri]at h;have A:=hi q hri;cases q with
  | ex c=>cases h;exact(z3M hp hc A hG B (q5Y hset)).weak λDn σ H ⟨H0,O,W,R,fr,fo,sm,k⟩=>⟨O,W,R,λH' C m s=>k σ H' W C m (R.mono s) fr (sm.trans s)⟩
  | ok ds c=>
   have h':(if c=.strong\/c=.fresh then q0N tg evB ds δ else none)=some o:=h;split at h'
   ·rename_i m;refine(z3M hp hc A hG B (q5Y hset)).weak λDn σ H ⟨H0,O,W,R,fr,fo,sm,k⟩=>⟨O,W,R,λJ H1 s1 w=>?_⟩
    have R1:=R.mono s1;have L:=Lp.mk' fr fo (sm.trans s1);have w:Wk X.D J ds (O++W) (O++W) H1:=(by rcases m with m | m<;>subst m<;>exact w);refine⟨λi n σ H=>n=ds.length - i/\i<=ds.length/\∃δi W',q0N tg evB (ds.drop i) δi=some o/\RSt X.D H σ δi O W'/\(∀a∈W',L2.wo W H1 a=none)/\Same (L2.wo W H1) H,
     ⟨ds.length,rfl,Nat.zero_le _,δ,W,h',R1,L.in1,q0T⟩,?_⟩
    rintro i n σ2 H2 ⟨rfl,hi,δi,W2,hgo,R2,b1,b2⟩
    by_cases hlt:i<ds.length
    ·refine .inr ⟨w.go i H2 (L.wsame b2) hlt,λσ H=>∃δi W',q0N tg evB (ds.drop (i+1)) δi=some o/\RSt X.D H σ δi O W'/\(∀a∈W',L2.wo W H1 a=none)/\Same (L2.wo W H1) H,
      λσ' H' q=>⟨ds.length - (i+1),by omega,rfl,hlt,q⟩,λx H3 y=>?_⟩
     have y1:=w.same i H2 x H3 y;have y3:Rep X.D (L2.wo (O++W2) H3) ds[i] x:=w.yld i H2 x H3 _ (O++W2) (L.wsame b2) (L.wsame b2) y (List.getElem?_eq_getElem hlt) λa ha=>⟨R2.hid.ot a ha,by
      rcases List.mem_append.mp ha with z | z
      ·exact .inl (List.mem_append_left _ z)
      ·have q:=b1 a z;by_cases hw:a∈W
       ·exact .inl (List.mem_append_right _ hw)
       ·rw[q0s hw]at q;exact .inr q⟩
     rw[List.drop_eq_getElem_cons hlt]at hgo;unfold q0N at hgo;split at hgo
     ·cases hgo
     ·rename_i δ1 hb1;refine q7h (R2.mono y1) y3 hb1 λσ3 R3=>?_
      split at hgo
      ·rename_i δ2 hev;exact⟨⟨⟨δ1,.nx δ2⟩,hev⟩,L2.wo W H1,O,W2,R3,b1,L.in2,b2.trans y1,λσ' H' W' R' fr' sm'=>⟨δ2,W',hgo,R',fr',sm'⟩⟩
      ·rename_i hne;refine⟨⟨⟨δ1,o⟩,hgo⟩,L2.wo W H1,O,W2,R3,b1,L.in2,b2.trans y1,?_⟩;cases o with
       | nx δ2=>exact absurd hgo (hne δ2)
       | rt d fr'=>exact λv H' s' g=>k v H' (L.out s') (L.gotR g)
       | rtt d=>exact λv H' s' g=>k v H' (L.out s') (L.gotT g)
       | ex c' δ'=>exact λσ' H' W' C m R' fr' sm'=>k σ' H' W' C m R' (λa ha=>L.outW (fr' a ha)) (L.out sm')
    ·have e:i=ds.length:=by omega
     subst e;rw[List.drop_length]at hgo;cases hgo;exact .inl ⟨w.stop H2 (L.wsame b2),k σ2 H2 W2 R2 (λa ha=>L.outW (b1 a ha)) (L.out b2)⟩
   ·cases h'
end
end L2
end
noncomputable section
namespace L2
open PySem
def Kp(a:Addr)(h h':Heap):Prop:=∀b o,b≠a->h.get? b=some o->h'.get? b=some o
section
variable {prog:Program} {w:World} {A:Around} {E:Value->Shared->Prop} {s:Shared} {d it:Addr} {i ep:Nat} {od:Obj} {es:Array DictEntry} {ok ov:Value}
end
end L2
end
noncomputable section
namespace L2
open PySem PySem.Spec PyProof.Rows
section
variable {X:Cx} {CX:CXT} {k:Nat} {f:Addr} {fd:FuncData} {ps ks:List Str} {sp:Sp} {E:St->XK} {x:Str} {p pos:Pos} {e:Expr} {es:List Expr} {kws:List Keyword} {t tk:TA} {g:List Value->List Value->List Value} {gV:List V->List V->List V}
end
section
variable {X:Cx} {E:St->XK} {δ:List Sv} {re:Re} {rs:Option Rs}
end
section
variable {X:Cx} {E:St->XK} {δ:List Sv} {e:Expr} {es:List Expr} {pos p:Pos} {re:Re} {rs rs':Option Rs} {k:Nat} {fa:Addr} {fd:FuncData} {ps:List Str} {x:Str}
def q3O{α:Type}(n:Nat)(us ws:List α):List α:=if us.length+1=n/\ws.length=1 then us++ws else[]
theorem z0o{n:Nat}{vs zs:List V}{us ws:List Value}(r:Vals vs us)(q:Vals zs ws):Vals (q3O n vs zs) (q3O n us ws):=by
 unfold q3O;rw[r.length,q.length];split
 ·exact r.append q
 ·exact .nil
end
end L2
end
noncomputable section
namespace L2
open PySem PySem.Spec PyProof.Rows
def z6Y(K:PySem.W.Frag)(C:Addr):Prop:=∃B newId initId bmB,ExcBaseFacts B newId initId bmB/\PySem.W.excIn K C bmB newId=true
structure XOne(K:PySem.W.Frag)(mg:Str->Option Value)(G:Gs)(cl:List Str)(c:Str)(C:Addr):Prop where
 mc:mg c=some (.ref C)
 ck:ClsK K C
 rk:z6Y K C
 own:∀t∈cl,∀Ct,mg t=some (.ref Ct)->PySem.W.kitOne K (.ref C) (.ref Ct)=some (q2P G c t)/\(q2P G c t=true->PySem.W.exmOne K (.ref C) (.ref Ct)=some true)
 blt:PySem.W.kitOne K (.ref C) (.type "ValueError")=some (q2P G c "ValueError")
structure XFacts(K:PySem.W.Frag)(mg:Str->Option Value)(G:Gs)(cl:List Str):Prop where
 one:∀c,(G.cls.lookup c).isSome=true->∃C,XOne K mg G cl c C
 all:∀t∈cl,∃Ct,mg t=some (.ref Ct)
section
variable {X:Cx} {E:St->XK} {δ:List Sv} {e:Expr} {pos p p':Pos} {re:Re} {ra:Option Re} {G:Gs} {cl:List Str} {t:Str} {o:Out}
theorem z1p{c:Str}{np cpos:Pos}(F:XFacts X.K X.mg G cl)(hc:X.calm=true)(hg:Gl X c)(hd:(c==("__debug__" : Str))=false)(hR:q3Z X E)(ha:∀q,ra=some q->PE X e (dE X.D E δ q))(hs:q0l e=false)
  (h:(if(G.cls.lookup c).isSome then Re.thnS δ ra λ_ _=>some (.ex c δ)else none)=some o):PS X (.Raise (some (.Call (.Name c np) [e] [] cpos)) none pos) (dS X.D E δ o):=by
 split at h
 ·rename_i hc';obtain⟨C,x⟩:=F.one c hc';obtain⟨B,newId,initId,bmB,FB,hx⟩:=x.rk;cases hra:ra with
  | none=>rw[hra]at h;cases h
  | some q=>
   rw[hra]at h;have A:=ha q hra;have P:=z2X (np:=np) (cpos:=cpos) (pos:=pos) FB hc hg x.mc hx hR (q1x A q4H (q0o hs)) hd (q0o hs) rfl;cases q with
   | ex c2=>cases h;exact P.weak λDn σ H ⟨H0,O,W,R,fr,fo,sm,k⟩=>⟨O,W,R,q6E R fr sm k⟩
   | ok d dc=>cases h;exact P.weak λDn σ H ⟨H0,O,W,R,fr,fo,sm,k⟩=>⟨O,W,R,λv H1 s1 g=>⟨by show 1<=sizeLine;decide,k σ H1 W _ x.mc (R.mono s1) fr (sm.trans s1)⟩⟩
 ·cases h
end
end L2
end
noncomputable section
namespace L2
open PySem PySem.Spec PyProof.Rows
def q9S(K:PySem.W.Frag)(w:World)(mg:Str->Option Value)(x:Str)(kvs:List (Str×Str)):Prop:=
 ∃a es n,mg x=some (.ref a)/\K.lookup a=some ⟨.type "dict",none,.dict es n,#[]⟩/\PySem.W.KeysLit w.params es.toList/\∀k v,kvs.lookup k=some v->v.length<=sizeLine/\∃t,PySem.W.nsIn K a k=some (some (.str v t))
def DK(K:PySem.W.Frag)(D:Dm)(G:Gs)(f:Nat)(fd:FuncData)(ps:List Str):Prop:=
 (∀ds,G.dfl.lookup f=some ds->∃us dvs,q2Q K fd ps us/\Vals dvs us/\∀H,RepL D H ds dvs)/\∀n,G.kws.lookup f=some n->KBinds K fd ps [n] (q3O ps.length) (q3O ps.length)
structure Good(sg:Sg)(G:Gs)(F:Nat->List DV->Option Ou)(X:Cx)(E:St->XK):Prop where
 N:X.N=sg.N
 nd:X.N.Nodup
 vis:∀x,visB sg x=true->Vis X.env.scope x
 glo:∀x,gloB sg x=true->Gl X x
 loc:∀x,locB sg x=true->Loc X.env.scope x/\(X.fn x=true\/X.env.scope.names.lookup x=some .local)
 lcl:∀x,sg.sc.lookup x=some .local->X.env.scope.names.lookup x=some .local
 cel:∀x,(sg.sc.lookup x=some .cell\/sg.sc.lookup x=some .free)->X.env.scope.names.lookup x=some .cell\/X.env.scope.names.lookup x=some .free
 calm:X.calm=true
 hu:X.A.units+64<cLine
 fns:∀f x,sg.fn[f]? = some x->∃k fa fd ps,Room k X.A/\X.mg x=some (.ref fa)/\PySem.W.keepIn X.K (.ref fa)=true/\q2Q X.K fd ps []/\(∀ds o,F f ds=some o->ds.length=ps.length) /\
  FnOk X.prog X.w X.K X.mg X.base (CXx X.prog X.w X.base) k fa fd ps (spF X.D ps.length (F f))/\DK X.K X.D G f fd ps
 blt:∀x∈sg.bl,X.mg x=none
 pas:q4r (CXx X.prog X.w X.base) X E
 con:∀x d,G.con.lookup x=some d->∃u v,X.mg x=some u/\RelV v u/\∀H,Rep X.D H d v
 own:sg.lp=true->PassesOwn (model X.prog X.w) X.A X.env X.xe
 xf:XFacts X.K X.mg G sg.cl
 st:sg.top=true->X.stack=X.env::X.outer/\X.env.frame=some X.env.locals/\X.ex=[]/\q3Z X E
 dcs:∀x kvs,G.dcs.lookup x=some kvs->q9S X.K X.w X.mg x kvs
 hun:G.hun=true->∃k fa fd ps hf,Room k X.A/\X.mg q0X=some (.ref fa)/\PySem.W.keepIn X.K (.ref fa)=true/\q2Q X.K fd ps []/\(∀d l,F q5Q [d,.lst l]=(hf d l).map λr=>.v r.1 false)/\FnOk X.prog X.w X.K X.mg X.base (CXx X.prog X.w X.base) k fa fd ps (spH X.D hf)
theorem q1S:∀{l:List Str},q4E l=true->l.Nodup
 | [],_=>List.nodup_nil
 | x::r,h=>by unfold q4E at h;rw[Bool.and_eq_true]at h;refine List.nodup_cons.mpr ⟨λz=>?_,q1S h.2⟩;have:=h.1;rw[List.contains_iff_mem.mpr z]at this;cases this
section
variable {sg:Sg} {G:Gs} {F:Nat->List DV->Option Ou} {X:Cx} {E:St->XK} {tg:Tg} {sc:Scope} {N':List Str} {fr:List (Option Nat)}
theorem q1u(g:Good sg G F X E)(h:q2W sg N' fr sc tg=true):CompScope X.N N' sc X.env.scope fr/\(∀(j k i:Nat),fr[j]? = some (some i)->fr[k]? = some (some i)->j=k)/\∀i∈q2R tg,fr[i]? = some none:=by
 unfold q2W at h;simp only[Bool.and_eq_true,List.all_eq_true,beq_iff_eq]at h;obtain⟨⟨⟨⟨⟨⟨h0,h1⟩,h2⟩,h3⟩,h4⟩,h5⟩,h6⟩:=h;have h5':∀(j i:Nat),fr[j]? = some (some i)->∃x,N'[j]? = some x/\sg.N[i]? = some x/\(x,NameKind.free)∈sc.names:=λj i e=>by
  have hj:j<fr.length:=(List.getElem?_eq_some_iff.mp e).1;have hj':j<N'.length:=by rw[←h4];exact hj
  have hz:(some i,N'[j])∈fr.zip N':=(by refine List.mem_of_getElem? (i:=j) ?_;rw[List.getElem?_zip_eq_some];exact⟨e,List.getElem?_eq_getElem hj'⟩);have q:=h5 _ hz;simp only[Bool.and_eq_true,beq_iff_eq,List.contains_iff_mem]at q;exact⟨_,List.getElem?_eq_getElem hj',q.1,q.2⟩
 refine⟨⟨h1,q1S h2,q1S h3,h4,λj i e=>?_,λy hy hk=>?_⟩,λj k i e1 e2=>?_,h0⟩
 ·obtain⟨x,a,b,c⟩:=h5' j i e;exact⟨x,a,by rw[g.N];exact b,c⟩
 ·have q:=h6 y hy;rw[if_pos hk]at q;simp only[Bool.or_eq_true,beq_iff_eq]at q;exact g.cel _ q
 ·obtain⟨x,a,b,_⟩:=h5' j i e1;obtain⟨x',a',b',_⟩:=h5' k i e2;rw[b]at b';cases b';exact q5T (q1S h2) a a'
theorem q1y(g:Good sg G F X E)(h:q2W sg N' fr sc tg=true)(C:Addr)(cells:List (Str×Addr))(s₂:Shared)(H₂:Hp)(fp:List Addr):Good ⟨N',sc.names,sg.fn,sg.bl,sg.cl,false,true⟩ G F (q0v X sc N' C cells s₂ H₂ fp) E0s:=by
 obtain⟨S,_,_⟩:=q1u g h;have look:∀x,(q0v X sc N' C cells s₂ H₂ fp).env.scope.names.lookup x=(sc.names.lookup x).map λk=>if(k==NameKind.free&&X.env.scope.kind == .function&&X.env.kindOf x==some .cell)=true then NameKind.cell else k:=λx=>q1H
 have one:∀x k,sc.names.lookup x=some k->k ≠ .free->(q0v X sc N' C cells s₂ H₂ fp).env.scope.names.lookup x=some k:=λx k e hk=>by rw[look,e,Option.map_some,if_neg];intro z;simp only[Bool.and_eq_true,beq_iff_eq]at z;exact hk z.1.1
 have two:∀x,sc.names.lookup x=some .free->(q0v X sc N' C cells s₂ H₂ fp).env.scope.names.lookup x=some .cell\/(q0v X sc N' C cells s₂ H₂ fp).env.scope.names.lookup x=some .free:=λx e=>by
  rw[look,e,Option.map_some];split
  ·exact .inl rfl
  ·exact .inr rfl
 refine⟨rfl,S.nd,λx hx=>?_,λx hx=>?_,λx hx=>?_,λx hx=>one x _ hx (by intro z;cases z),λx hx=>?_,g.calm,g.hu,g.fns,g.blt,?_,g.con,λ_=>.never,g.xf,(λz=>nomatch z),g.dcs,g.hun⟩
 ·unfold visB at hx;simp only[Bool.or_eq_true,beq_iff_eq]at hx;rcases hx with(hx | hx) | hx
  ·exact .inl (one x _ hx (by intro z;cases z))
  ·exact .inr (.inl (one x _ hx (by intro z;cases z)))
  ·exact .inr (two x hx)
 ·unfold gloB at hx;rw[beq_iff_eq]at hx;exact one x _ hx (by intro z;cases z)
 ·unfold locB at hx;simp only[Bool.or_eq_true,beq_iff_eq]at hx;rcases hx with hx | hx
  ·exact⟨.inl (one x _ hx (by intro z;cases z)),.inr (one x _ hx (by intro z;cases z))⟩
  ·exact⟨.inr (one x _ hx (by intro z;cases z)),.inl (by show(sc.names.lookup x==some .cell)=true;rw[hx];rfl)⟩
 ·rcases hx with hx | hx
  ·exact .inl (one x _ hx (by intro z;cases z))
  ·exact two x hx
 ·intro pins σ H s e s' I z;obtain⟨_,_,_,_,_,_,_,_,_,_,q⟩:=z;exact q.elim
theorem q7l(g:Good sg G F X E){i:Nat}{x:Str}(h:q7w sg i x=true):X.N[i]? = some x/\Vis X.env.scope x/\(x==("__debug__" : Str))=false/\(x==("__classdict__" : Str))=false:=by
 unfold q7w at h;simp only[Bool.and_eq_true,beq_iff_eq,bne_iff_ne,ne_eq]at h;obtain⟨⟨⟨h1,h2⟩,h3⟩,h4⟩:=h;exact⟨by rw[g.N];exact h1,g.vis x h2,beq_eq_false_iff_ne.mpr h3,beq_eq_false_iff_ne.mpr h4⟩
theorem q4Z(g:Good sg G F X E){x:Str}{f:Expr}(h:bltB sg x f=true):(∃p,f=.Name x p)/\Gl X x/\X.mg x=none:=by
 unfold bltB at h;simp only[Bool.and_eq_true,beq_iff_eq,List.contains_iff_mem]at h;obtain⟨⟨h1,h2⟩,h3⟩:=h;exact⟨q0C h1,g.glo x h2,g.blt x h3⟩
theorem q6Z(g:Good sg G F X E):∀(is:List Nat) (es:List Expr),es.length=is.length->((is.zip es).all λp=>match q0Z p.2 with | some x=>sg.N[p.1]? == some x&&locB sg x | none=>false)=true ->
  PGs X es (q8f is)/\(assignEach es X.env).length=is.length/\(assignEach es X.env).findIdx? (·.1)=none
 | [],[],_,_=>⟨z4H,rfl,rfl⟩
 | [],_::_,h,_=>by cases h
 | _::_,[],h,_=>by cases h
 | i::is,e::es,hl,h=>by
  rw[List.zip_cons_cons,List.all_cons,Bool.and_eq_true]at h;obtain⟨h1,h2⟩:=h;obtain⟨A,B,C⟩:=q6Z g is es (by simpa using hl) h2;split at h1
  ·rename_i x q;obtain⟨p,rfl⟩:=q0C q;simp only[Bool.and_eq_true,beq_iff_eq]at h1;have l:=g.loc x h1.2;refine⟨z2j (q9y g.nd (by rw[g.N];exact h1.1) l.1 l.2) A rfl,?_,?_⟩
   ·show(assignEach es X.env).length+1=is.length+1;rw[B]
   ·show((false,assign (.Name x p) X.env)::assignEach es X.env).findIdx? (·.1)=none;rw[List.findIdx?_cons,C];rfl
  ·cases h1
theorem z1e(g:Good sg G F X E){tgE:Expr}(h:tgOk sg tg tgE=true):PG X tgE (gT X.K tg):=by
 cases tg with
 | one i=>
  unfold tgOk at h;dsimp only at h;split at h
  ·rename_i x q;obtain⟨p,rfl⟩:=q0C q;simp only[Bool.and_eq_true,beq_iff_eq]at h;have l:=g.loc x h.2;exact q9y g.nd (by rw[g.N];exact h.1) l.1 l.2
  ·cases h
 | many is=>
  unfold tgOk at h;dsimp only at h;split at h
  ·rename_i es q;obtain⟨k,p,rfl⟩:=q2Z q;rw[Bool.and_eq_true,Bool.and_eq_true,beq_iff_eq]at h;obtain⟨A,B,C⟩:=q6Z g is es h.1.1 h.2;exact z6U g.calm A B C
  ·cases h
end
section
variable (G:Gs) (F:Nat->List DV->Option Ou)
def SE(m:ME):Prop:=∀{sg:Sg} {X:Cx} {E:St->XK} {e:Expr} {δ:List Sv} {r:Re},Good sg G F X E->corE sg false m e=true->evE G F m δ=some r->PE X e (dE X.D E δ r)
def ST(m:ME):Prop:=∀{sg:Sg} {X:Cx} {E:St->XK} {e:Expr} {δ:List Sv} {r:Rt},Good sg G F X E->corE sg false m e=true->tstD (evE G F m δ)=some r->PT X e (dT X.D E δ r)
def SI(m:ME):Prop:=∀{sg:Sg} {X:Cx} {E:St->XK} {e tg:Expr} {δ:List Sv} {r:Ri},Good sg G F X E->corE sg true m e=true->(isZp m=true->(q3m tg).isSome=true)->q0F (evE G F m δ)=some r->PI X tg e (dI X.D E δ r)
def SEs(ms:List ME):Prop:=∀{sg:Sg} {X:Cx} {E:St->XK} {es:List Expr} {δ:List Sv} {r:Rs},Good sg G F X E->q0W sg ms es=true->evEs G F ms δ=some r->PA X es (dA X.D E δ r)
def SAnd(ms:List ME):Prop:=∀{sg:Sg} {X:Cx} {E:St->XK} {es:List Expr} {δ:List Sv} {pos:Pos},Good sg G F X E->q0W sg ms es=true ->
 (∀r,q3M G F ms δ=some r->PE X (.BoolOp .And es pos) (dE X.D E δ r))/\(∀r,tstD (q3M G F ms δ)=some r->PW X (.BoolOp .And es pos) (dT X.D E δ r))
def SOr(ms:List ME):Prop:=∀{sg:Sg} {X:Cx} {E:St->XK} {es:List Expr} {δ:List Sv} {pos:Pos},Good sg G F X E->q0W sg ms es=true ->
 (∀r,evOr G F ms δ=some r->PE X (.BoolOp .Or es pos) (dE X.D E δ r))/\(∀r,tstD (evOr G F ms δ)=some r->PW X (.BoolOp .Or es pos) (dT X.D E δ r))
def S1(m:ME):Prop:=SE G F m/\ST G F m/\SI G F m
end
section
variable {G:Gs} {F:Nat->List DV->Option Ou}
theorem S1.of{m:ME}(h:SE G F m)(hw:∀sg e,corE sg true m e=corE sg false m e)(ht:∀sg e env,corE sg false m e=true->∀whole,isTrue e env whole=(do let v ←whole;standAt e.pos;holding [v] (truthy v))):S1 G F m:=
 ⟨h,λ{sg X E e δ r} g hc q=>z0T (λz hz=>h g hc hz) (ht sg e X.env hc) q,λ{sg X E e tg δ r} g hc _ q=>q8e (λz hz=>h g (by rw[←hw];exact hc) hz) q⟩
theorem S1.of2{m:ME}(h:SE G F m)(ht:ST G F m)(hw:∀sg e,corE sg true m e=corE sg false m e):S1 G F m:=
 ⟨h,ht,λ{sg X E e tg δ r} g hc _ q=>q8e (λz hz=>h g (by rw[←hw];exact hc) hz) q⟩
end
end L2
end
noncomputable section
namespace L2
open PySem PySem.Spec PyProof.Rows
def z6K:Expr->Bool
 | .UnaryOp .Not _ _=>false | .BoolOp _ _ _=>false | .IfExp _ _ _ _=>false | .Compare _ _ _ _=>false
 | _=>true
theorem q0h{e:Expr}(h:z6K e=true)(env:Env):∀whole,isTrue e env whole=(do let v ←whole;standAt e.pos;holding [v] (truthy v)):=by
 cases e with
 | UnaryOp o a p=>cases o<;>first | (intro _;rfl) | cases h
 | BoolOp _ _ _=>cases h
 | IfExp _ _ _ _=>cases h
 | Compare _ _ _ _=>cases h
 | _=>intro _;rfl
section
variable {G:Gs} {F:Nat->List DV->Option Ou} {a b c:ME}
theorem y0m{i:Nat}:S1 G F (.var i):=by
 refine .of (λ{sg X E e δ r} g hc h=>?_) (λ_ _=>rfl) (λsg e env hc=>?_)
 ·unfold corE at hc;split at hc
  ·rename_i x q;obtain⟨p,rfl⟩:=q0C q;obtain⟨h1,h2,h3,h4⟩:=q7l g hc;exact z5s h1 h2 h3 h4 (by unfold evE at h;exact h)
  ·cases hc
 ·unfold corE at hc;split at hc
  ·rename_i x q;obtain⟨p,rfl⟩:=q0C q;exact q0h rfl env
  ·cases hc
theorem q5I{m:ME}{k:Const}{d:DV}(hm:∀sg w e,corE sg w m e=true->q2Y e=some k)(he:∀δ,evE G F m δ=some (.ok d .strong))(hw:∀sg e,corE sg true m e=corE sg false m e)
  (hp:∀{X:Cx} {E:St->XK} {δ:List Sv} {j:Nat} {pos:Pos} sg e,corE sg false m e=true->PE X (.Constant k j pos) (dE X.D E δ (.ok d .strong))):S1 G F m:=by
 refine .of (λ{sg X E e δ r} g hc h=>?_) hw (λsg e env hc=>?_)
 ·obtain⟨j,p,rfl⟩:=q5n (hm sg false e hc);rw[he]at h;cases h;exact hp sg _ hc
 ·obtain⟨j,p,rfl⟩:=q5n (hm sg false e hc);exact q0h rfl env
theorem z9f{i:Int}:S1 G F (.int i):=q5I (λsg w e h=>by unfold corE at h;exact beq_iff_eq.mp h) (λδ=>by unfold evE;rfl) (λ_ _=>rfl) λ_ _ _=>z4F
theorem s_bl{i:Bool}:S1 G F (.bl i):=q5I (λsg w e h=>by unfold corE at h;exact beq_iff_eq.mp h) (λδ=>by unfold evE;rfl) (λ_ _=>rfl) λ_ _ _=>z7L
theorem z9w:S1 G F .non:=q5I (λsg w e h=>by unfold corE at h;exact beq_iff_eq.mp h) (λδ=>by unfold evE;rfl) (λ_ _=>rfl) λ_ _ _=>z6n
theorem y0f{i:Str}:S1 G F (.str i):=q5I (λsg w e h=>by unfold corE at h;rw[Bool.and_eq_true]at h;exact beq_iff_eq.mp h.1) (λδ=>by unfold evE;rfl) (λ_ _=>rfl) λ_ _ h=>by
 unfold corE at h;rw[Bool.and_eq_true,decide_eq_true_eq]at h;exact z5P (Nat.le_trans h.2 (by decide))
theorem z9u{x:Str}:S1 G F (.glb x):=by
 refine .of (λ{sg X E e δ r} g hc h=>?_) (λ_ _=>rfl) (λsg e env hc=>?_)
 ·unfold corE at hc;simp only[Bool.and_eq_true,beq_iff_eq,bne_iff_ne,ne_eq]at hc;obtain⟨p,rfl⟩:=q0C hc.1.1;unfold evE at h;obtain⟨d,h1,h2⟩:=Option.map_eq_some_iff.mp h;cases h2;obtain⟨u,v,m,rv,rp⟩:=g.con x d h1;exact(z5a (g.glo x hc.1.2) m rv (beq_eq_false_iff_ne.mpr hc.2)).weak λσ H Q ⟨O,W,R,p⟩=>p v H (Same.refl H) (rp _)
 ·unfold corE at hc;simp only[Bool.and_eq_true,beq_iff_eq]at hc;obtain⟨p,rfl⟩:=q0C hc.1.1;exact q0h rfl env
theorem z9K{op:Operator}(ha:S1 G F a)(hb:S1 G F b):S1 G F (.bin op a b):=by
 refine .of (λ{sg X E e δ r} g hc h=>?_) (λ_ _=>rfl) (λsg e env hc=>?_)
 ·unfold corE at hc;split at hc
  ·rename_i ea o eb q;obtain⟨p,rfl⟩:=q5J q;simp only[Bool.and_eq_true,beq_iff_eq]at hc;obtain⟨⟨h1,h2⟩,h3⟩:=hc;subst h1;unfold evE at h;exact z4z (λz hz=>ha.1 g h2 hz) (λz hz=>hb.1 g h3 hz) h
  ·cases hc
 ·unfold corE at hc;split at hc
  ·rename_i q;obtain⟨p,rfl⟩:=q5J q;exact q0h rfl env
  ·cases hc
theorem z9c(ha:S1 G F a):S1 G F (.not a):=by
 refine .of2 (λ{sg X E e δ r} g hc h=>?_) (λ{sg X E e δ r} g hc h=>?_) (λ_ _=>rfl)
 ·unfold corE at hc;split at hc
  ·rename_i o ea q;obtain⟨p,rfl⟩:=z1x q;simp only[Bool.and_eq_true,beq_iff_eq]at hc;obtain⟨h1,h2⟩:=hc;subst h1;unfold evE at h;exact z5n (λz hz=>ha.1 g h2 hz) h
  ·cases hc
 ·unfold corE at hc;split at hc
  ·rename_i o ea q;obtain⟨p,rfl⟩:=z1x q;simp only[Bool.and_eq_true,beq_iff_eq]at hc;obtain⟨h1,h2⟩:=hc;subst h1;unfold evE at h;exact z2N (λz hz=>ha.2.1 g h2 hz) h
  ·cases hc
theorem z9L{op:CmpOp}(ha:S1 G F a)(hb:S1 G F b):S1 G F (.cmp op a b):=by
 refine .of2 (λ{sg X E e δ r} g hc h=>?_) (λ{sg X E e δ r} g hc h=>?_) (λ_ _=>rfl)
 ·unfold corE at hc;split at hc
  ·rename_i ea o eb q;obtain⟨p,rfl⟩:=q3W q;simp only[Bool.and_eq_true,beq_iff_eq,Bool.not_eq_true']at hc;obtain⟨⟨⟨h1,h2⟩,h3⟩,h4⟩:=hc;subst h1;unfold evE at h;exact z6r g.hu (λz hz=>ha.1 g h2 hz) (λz hz=>hb.1 g h3 hz) h4 h
  ·cases hc
 ·unfold corE at hc;split at hc
  ·rename_i ea o eb q;obtain⟨p,rfl⟩:=q3W q;simp only[Bool.and_eq_true,beq_iff_eq,Bool.not_eq_true']at hc;obtain⟨⟨⟨h1,h2⟩,h3⟩,h4⟩:=hc;subst h1;unfold evE at h;exact z2i g.hu (λz hz=>ha.1 g h2 hz) (λz hz=>hb.1 g h3 hz) h4 h
  ·cases hc
theorem z6g{op op':CmpOp}(ha:S1 G F a)(hb:S1 G F b)(hcc:S1 G F c):S1 G F (.chain op op' a b c):=by
 refine .of2 (λ{sg X E e δ r} g hc h=>?_) (λ{sg X E e δ r} g hc h=>?_) (λ_ _=>rfl)
 ·unfold corE at hc;split at hc
  ·rename_i ea o o' eb ec q;obtain⟨p,rfl⟩:=q3W q;simp only[Bool.and_eq_true,beq_iff_eq,Bool.not_eq_true']at hc;obtain⟨⟨⟨⟨⟨h1,h1'⟩,h2⟩,h3⟩,h4⟩,h5⟩:=hc;subst h1 h1';unfold evE at h;exact q9H g.hu (λz hz=>ha.1 g h2 hz) (λz hz=>hb.1 g h3 hz) (λz hz=>hcc.1 g h4 hz) h5 h
  ·cases hc
 ·unfold corE at hc;split at hc
  ·rename_i ea o o' eb ec q;obtain⟨p,rfl⟩:=q3W q;simp only[Bool.and_eq_true,beq_iff_eq,Bool.not_eq_true']at hc;obtain⟨⟨⟨⟨⟨h1,h1'⟩,h2⟩,h3⟩,h4⟩,h5⟩:=hc;subst h1 h1';unfold evE at h;exact q9x g.hu (λz hz=>ha.1 g h2 hz) (λz hz=>hb.1 g h3 hz) (λz hz=>hcc.1 g h4 hz) h5 h
  ·cases hc
theorem s_ix(ha:S1 G F a)(hb:S1 G F b):S1 G F (.ix a b):=by
 refine .of (λ{sg X E e δ r} g hc h=>?_) (λ_ _=>rfl) (λsg e env hc=>?_)
 ·unfold corE at hc;split at hc
  ·rename_i ea eb q;obtain⟨p,rfl⟩:=q1s q;simp only[Bool.and_eq_true,Bool.not_eq_true']at hc;obtain⟨⟨h1,h2⟩,h3⟩:=hc;unfold evE at h;exact z8x (λz hz=>ha.1 g h1 hz) (λz hz=>hb.1 g h2 hz) h3 h
  ·cases hc
 ·unfold corE at hc;split at hc
  ·rename_i q;obtain⟨p,rfl⟩:=q1s q;exact q0h rfl env
  ·cases hc
theorem s_sl(ha:S1 G F a)(hb:S1 G F b)(hcc:S1 G F c):S1 G F (.sl a b c):=by
 refine .of (λ{sg X E e δ r} g hc h=>?_) (λ_ _=>rfl) (λsg e env hc=>?_)
 ·unfold corE at hc;split at hc
  ·rename_i ea es q;obtain⟨p,rfl⟩:=q1s q;split at hc
   ·rename_i q2;obtain⟨p2,rfl⟩:=q3A q2;simp only[Bool.and_eq_true]at hc;obtain⟨⟨h1,h2⟩,h3⟩:=hc;unfold evE at h;exact z7J (λz hz=>ha.1 g h1 hz) (λz hz=>hb.1 g h2 hz) (λz hz=>hcc.1 g h3 hz) h
   ·cases hc
  ·cases hc
 ·unfold corE at hc;split at hc
  ·rename_i q;obtain⟨p,rfl⟩:=q1s q;exact q0h rfl env
  ·cases hc
theorem z9p(ha:S1 G F a)(hb:S1 G F b):S1 G F (.slf a b):=by
 refine .of (λ{sg X E e δ r} g hc h=>?_) (λ_ _=>rfl) (λsg e env hc=>?_)
 ·unfold corE at hc;split at hc
  ·rename_i ea es q;obtain⟨p,rfl⟩:=q1s q;split at hc
   ·rename_i q2;obtain⟨p2,rfl⟩:=q3A q2;simp only[Bool.and_eq_true]at hc;obtain⟨h1,h2⟩:=hc;unfold evE at h;exact z6z (λz hz=>ha.1 g h1 hz) (λz hz=>hb.1 g h2 hz) h
   ·cases hc
  ·cases hc
 ·unfold corE at hc;split at hc
  ·rename_i q;obtain⟨p,rfl⟩:=q1s q;exact q0h rfl env
  ·cases hc
theorem z9B(ha:S1 G F a)(hb:S1 G F b):S1 G F (.slt a b):=by
 refine .of (λ{sg X E e δ r} g hc h=>?_) (λ_ _=>rfl) (λsg e env hc=>?_)
 ·unfold corE at hc;split at hc
  ·rename_i ea es q;obtain⟨p,rfl⟩:=q1s q;split at hc
   ·rename_i q2;obtain⟨p2,rfl⟩:=q3A q2;simp only[Bool.and_eq_true]at hc;obtain⟨h1,h2⟩:=hc;unfold evE at h;exact z5u (λz hz=>ha.1 g h1 hz) (λz hz=>hb.1 g h2 hz) h
   ·cases hc
  ·cases hc
 ·unfold corE at hc;split at hc
  ·rename_i q;obtain⟨p,rfl⟩:=q1s q;exact q0h rfl env
  ·cases hc
variable {ms:List ME}
theorem q4w:∀{sg:Sg} {ms:List ME} {es:List Expr},q0W sg ms es=true->es.any q0l=false
 | _,[],[],_=>rfl
 | _,[],_::_,h=>by unfold q0W at h;cases h
 | _,_::_,[],h=>by unfold q0W at h;cases h
 | sg,m::ms,e::es,h=>by unfold q0W at h;simp only[Bool.and_eq_true,Bool.not_eq_true']at h;rw[List.any_cons,h.1.2,q4w h.2];rfl
theorem z9d(ha:SEs G F ms):S1 G F (.lst ms):=by
 refine .of (λ{sg X E e δ r} g hc h=>?_) (λ_ _=>rfl) (λsg e env hc=>?_)
 ·unfold corE at hc;split at hc
  ·rename_i es q;obtain⟨p,rfl⟩:=q6f q;unfold evE at h;exact z5E (λz hz=>ha g hc hz) h
  ·cases hc
 ·unfold corE at hc;split at hc
  ·rename_i q;obtain⟨p,rfl⟩:=q6f q;exact q0h rfl env
  ·cases hc
theorem y0g(ha:SEs G F ms):S1 G F (.tup ms):=by
 refine .of (λ{sg X E e δ r} g hc h=>?_) (λ_ _=>rfl) (λsg e env hc=>?_)
 ·unfold corE at hc;split at hc
  ·rename_i es q;obtain⟨k,p,rfl⟩:=q2Z q;unfold evE at h;exact z6D (λz hz=>ha g hc hz) h
  ·cases hc
 ·unfold corE at hc;split at hc
  ·rename_i q;obtain⟨k,p,rfl⟩:=q2Z q;exact q0h rfl env
  ·cases hc
theorem z8K{f:Nat}(ha:SEs G F ms):S1 G F (.call f ms):=by
 refine .of (λ{sg X E e δ r} g hc h=>?_) (λ_ _=>rfl) (λsg e env hc=>?_)
 ·unfold corE at hc;split at hc
  ·rename_i ef es pos q;have:=q0y q;subst this;rw[Bool.and_eq_true,Bool.and_eq_true]at hc;obtain⟨⟨h1,h2⟩,h3⟩:=hc;split at h1
   ·rename_i x qx;obtain⟨p,rfl⟩:=q0C qx;simp only[Bool.and_eq_true,beq_iff_eq,bne_iff_ne,ne_eq]at h1;obtain⟨k,fa,fd,ps,hr,hm,hk,hb,hl,fo,dk⟩:=g.fns f x h1.1.1;cases es with
    | nil=>cases h2
    | cons y ys=>
     have ns:=q4w h3;rw[List.any_cons,Bool.or_eq_false_iff]at ns;unfold evE at h;exact z2r fo hl hr (g.glo x h1.1.2) hm hk hb g.pas (λz hz=>ha g h3 hz) (beq_eq_false_iff_ne.mpr h1.2) ns.1 ns.2 h
   ·cases h1
  ·cases hc
 ·unfold corE at hc;split at hc
  ·rename_i q;have:=q0y q;subst this;exact q0h rfl env
  ·cases hc
theorem s_bi{f:Bi}(ha:SEs G F ms):S1 G F (.bi f ms):=by
 refine .of (λ{sg X E e δ r} g hc h=>?_) (λ_ _=>rfl) (λsg e env hc=>?_)
 ·unfold corE at hc;split at hc
  ·rename_i ef es pos q;have:=q0y q;subst this;rw[Bool.and_eq_true,Bool.and_eq_true]at hc;obtain⟨⟨h1,h2⟩,h3⟩:=hc;obtain⟨⟨p,rfl⟩,hg,hm⟩:=q4Z g h1;unfold evE at h;cases es with
   | nil=>cases h2
   | cons y ys=>
    have go:q0W sg ms (y::ys)=true->(∀q,evEs G F ms δ=some q->PA X (y::ys) (dA X.D E δ q))/\q0l y=false/\ys.any q0l=false:=λz=>by have ns:=q4w z;rw[List.any_cons,Bool.or_eq_false_iff]at ns;exact⟨λw hw=>ha g z hw,ns.1,ns.2⟩
    cases f with
    | len=>obtain⟨A,s1,s2⟩:=go h3;exact q6N z6M z6s hg hm boot_len (by decide) (by decide) A s1 s2 h
    | min=>obtain⟨A,s1,s2⟩:=go h3;exact q6N (z7C g.calm (by have:=g.hu;omega)) z4M hg hm boot_min (by decide) (by decide) A s1 s2 h
    | max=>obtain⟨A,s1,s2⟩:=go h3;exact q6N (z8v g.calm) z5e hg hm boot_max (by decide) (by decide) A s1 s2 h
    | sum=>obtain⟨A,s1,s2⟩:=go h3;exact q6N (z7u g.calm) z4A hg hm q9I (by decide) (by decide) A s1 s2 h
    | any=>obtain⟨A,s1,s2⟩:=go h3;exact q6N (z7U g.calm) z5U hg hm z0g (by decide) (by decide) A s1 s2 h
    | list=>obtain⟨A,s1,s2⟩:=go h3;exact q9G z5I z2d hg hm boot_list (by decide) (by decide) A s1 s2 h
    | tuple=>obtain⟨A,s1,s2⟩:=go h3;exact q9G z2E z0r hg hm boot_tuple (by decide) (by decide) A s1 s2 h
    | sset=>
     dsimp only at h3;split at h3
     ·rename_i e1 q2;split at h3
      ·rename_i ef' es' pos' q3;have q4:=q0y q3;cases q2;subst q4;rw[Bool.and_eq_true,Bool.and_eq_true]at h3;obtain⟨⟨p',rfl⟩,hg',hm'⟩:=q4Z g h3.1.1;cases es' with
       | nil=>cases h3.1.2
       | cons y' ys'=>
        have ns:=q4w h3.2;rw[List.any_cons,Bool.or_eq_false_iff]at ns;cases ys' with
        | nil=>exact z2h g.calm hg hm hg' hm' (λw hw=>ha g h3.2 hw) ns.1 h
        | cons y2 yr=>
         have z:=beq_iff_eq.mp h3.1.2;simp at z
      ·cases h3
     ·cases h3
  ·cases hc
 ·unfold corE at hc;split at hc
  ·rename_i q;have:=q0y q;subst this;exact q0h rfl env
  ·cases hc
theorem z1h{x:Str}(h:q2t.contains x=true):∃t,q5j x=some t:=by
 have key:∀x∈q2t,∃t,q5j x=some t:=by
  intro x hx;simp only[q2t,List.mem_cons,List.not_mem_nil,or_false]at hx;rcases hx with rfl | rfl | rfl | rfl | rfl | rfl
  ·exact⟨"int",by decide +kernel⟩
  ·exact⟨"bool",by decide +kernel⟩
  ·exact⟨"str",by decide +kernel⟩
  ·exact⟨"list",by decide +kernel⟩
  ·exact⟨"tuple",by decide +kernel⟩
  ·exact⟨"dict",by decide +kernel⟩
 exact key x (List.contains_iff_mem.mp h)
theorem q5A:∀x∈q2t,x ≠ "__name__" /\ (x==("__debug__" : Str))=false:=by
 intro x hx;simp only[q2t,List.mem_cons,List.not_mem_nil,or_false]at hx;rcases hx with rfl | rfl | rfl | rfl | rfl | rfl<;>exact⟨by decide +kernel,by decide +kernel⟩
def z9Z:V->List V->Hp->VK->Prop:=λx xs H Q=>∃i,x=.int i/\xs=[]/\Q (.int (q2O i)) H
theorem z5B(i:Int):((Builtin.Int.intBits i:Nat):Int)=q2O i:=by
 unfold Builtin.Int.intBits q2O;by_cases h:i=0
 ·subst h;rfl
 ·rw[if_neg (by simpa using h),if_neg h];push_cast;rfl
theorem z5M{X:Cx}:MtR X "int.bit_length" z9Z:=by
 intro pins s σ H x xs v us Q I rx rv h;obtain⟨i,rfl,rfl,q⟩:=h;obtain⟨t,rfl⟩:=(show ∃t,v=Value.int i t from rx);cases rv;exact PyProof.Rows.call_int_bit_length ⟨.int (q2O i),H,I.tok _,by rw[←z5B];exact⟨_,rfl⟩,q⟩
theorem z7k{m:Mt}{es:List ME}(ha:S1 G F a):S1 G F (.meth m a es):=by
 refine .of (λ{sg X E e δ r} g hc h=>?_) (λ_ _=>rfl) (λsg e env hc=>?_)
 ·unfold corE at hc;split at hc
  ·rename_i ef pos q;have:=q0y q;subst this;split at hc
   ·rename_i ea n apos q2;have:=q4h q2;subst this;simp only[Bool.and_eq_true,beq_iff_eq]at hc;obtain⟨⟨⟨⟨h1,h2⟩,h3⟩,h4⟩,h5⟩:=hc;subst h1;have hbs:attributeBase ea (z3V m) X.env (eval ea X.env)=eval ea X.env:=by
     rw[Bool.or_eq_true]at h3;rcases h3 with h3 | h3
     ·obtain⟨y,hy⟩:=Option.isSome_iff_exists.mp h3;obtain⟨np,rfl⟩:=q0C hy;rfl
     ·obtain⟨⟨a1,o1,b1⟩,hy⟩:=Option.isSome_iff_exists.mp h3;obtain⟨np,rfl⟩:=q5J hy;rfl
    unfold evE at h;cases m with
    | bitLength=>
     rw[if_pos rfl]at h;have P:=λt (hA:PE X ea t)=>z6P (apos:=apos) (cpos:=pos) PySem.F.plainAttrs_int PySem.F.slot_int_bit_length PySem.F.type_int_bit_length z5M hA hbs (by rw[beq_iff_eq];exact h4)
     cases hra:evE G F a δ with
     | none=>rw[hra]at h;cases h
     | some q=>
      rw[hra]at h;have A:=ha.1 g h2 hra;cases q with
      | ex c=>cases h;exact(P _ A).weak λσ H Q ⟨O,W,R,p⟩=>⟨O,W,R,p⟩
      | ok d dc=>
       have h':mtD .bitLength d=some r:=h;unfold mtD at h';split at h'
       ·rename_i i _;cases h';exact(P _ A).weak λσ H Q ⟨O,W,R,p⟩=>⟨O,W,R,λv H1 s1 g1=>by
         have hv:=g1.int (R.hid.mono s1);subst hv;exact⟨rfl,i,rfl,rfl,p _ H1 s1 q0x⟩⟩
       ·cases h'
    | index=>rw[if_neg (by decide)]at h;cases h
    | get=>rw[if_neg (by decide)]at h;cases h
   ·cases hc
  ·cases hc
 ·unfold corE at hc;split at hc
  ·rename_i q;have:=q0y q;subst this;exact q0h rfl env
  ·cases hc
theorem z9E(ha:S1 G F a)(hb:S1 G F b):S1 G F (.idx a b):=by
 refine .of (λ{sg X E e δ r} g hc h=>?_) (λ_ _=>rfl) (λsg e env hc=>?_)
 ·unfold corE at hc;split at hc
  ·rename_i ef eb pos q;have:=q0y q;subst this;split at hc
   ·rename_i ea n apos q2;have:=q4h q2;subst this;simp only[Bool.and_eq_true,beq_iff_eq,Bool.not_eq_true']at hc;obtain⟨⟨⟨⟨⟨h1,h2⟩,h3⟩,h4⟩,h5⟩,h6⟩:=hc;subst h1;obtain⟨y,hy⟩:=Option.isSome_iff_exists.mp h3;obtain⟨np,rfl⟩:=q0C hy;unfold evE at h;exact z5t g.hu (λz hz=>ha.1 g h2 hz) (λz hz=>hb.1 g h5 hz) rfl (by rw[beq_iff_eq];exact h4) (q0o h6) h
   ·cases hc
  ·cases hc
 ·unfold corE at hc;split at hc
  ·rename_i q;have:=q0y q;subst this;exact q0h rfl env
  ·cases hc
theorem y0a:S1 G F .dc0:=by
 refine .of (λ{sg X E e δ r} g hc h=>?_) (λ_ _=>rfl) (λsg e env hc=>?_)
 ·unfold corE at hc;split at hc
  ·unfold evE at h;cases h;exact z5j
  ·cases hc
 ·unfold corE at hc;split at hc
  ·exact q0h rfl env
  ·cases hc
theorem z9R{ts:List Str}(ha:S1 G F a):S1 G F (.isi a ts):=by
 refine .of (λ{sg X E e δ r} g hc h=>?_) (λ_ _=>rfl) (λsg e env hc=>?_)
 ·unfold corE at hc;split at hc
  ·rename_i ef ea et pos q;have:=q0y q;subst this;simp only[Bool.and_eq_true,Bool.not_eq_true']at hc;obtain⟨⟨⟨⟨h1,h2⟩,h3⟩,h4⟩,h5⟩:=hc;obtain⟨⟨p,rfl⟩,hg,hm⟩:=q4Z g h1;split at h5
   ·rename_i t;simp only[Bool.and_eq_true,beq_iff_eq,List.contains_iff_mem]at h5;obtain⟨⟨⟨k1,k2⟩,k3⟩,k4⟩:=h5;obtain⟨p',rfl⟩:=q0C k1;obtain⟨T,hT⟩:=z1h (List.contains_iff_mem.mpr k4);obtain⟨n1,n2⟩:=q5A t k4;unfold evE at h;exact z5C hT hg hm (g.glo t k2) (g.blt t k3) n1 n2 (λz hz=>ha.1 g h2 hz) h3 h
   ·cases h5
  ·cases hc
 ·unfold corE at hc;split at hc
  ·rename_i q;have:=q0y q;subst this;exact q0h rfl env
  ·cases hc
theorem q2c:∀{ms:List ME} {δ:List Sv} {l:List (DV×Cl)},evEs G F ms δ=some (.ok l)->l.length=ms.length
 | [],_,_,h=>by unfold evEs at h;cases h;rfl
 | m::ms,δ,l,h=>by
  unfold evEs at h;split at h
  ·cases h
  ·cases h
  ·split at h
   ·cases h
   ·cases h
   ·rename_i l' q;cases h;rw[List.length_cons,List.length_cons,q2c q]
theorem q3I:∀{sg:Sg} {ms:List ME} {es:List Expr},q0W sg ms es=true->ms.length=es.length
 | _,[],[],_=>rfl
 | _,[],_::_,h=>by unfold q0W at h;cases h
 | _,_::_,[],h=>by unfold q0W at h;cases h
 | sg,m::ms,e::es,h=>by unfold q0W at h;simp only[Bool.and_eq_true]at h;rw[List.length_cons,List.length_cons,q3I h.2]
theorem z9n(ha:SEs G F ms):S1 G F (.rng ms):=by
 refine⟨λ{sg X E e δ r} g hc h=>?_,λ{sg X E e δ r} g hc h=>?_,λ{sg X E e tg δ r} g hc _ h=>?_⟩
 ·unfold corE at hc;rw[Bool.false_and]at hc;cases hc
 ·unfold corE at hc;rw[Bool.false_and]at hc;cases hc
 ·unfold corE at hc;rw[Bool.true_and]at hc;split at hc
  ·rename_i ef es pos q;have:=q0y q;subst this;rw[Bool.and_eq_true,decide_eq_true_eq]at hc;obtain⟨hc,hle⟩:=hc;rw[Bool.and_eq_true]at hc;obtain⟨⟨p,rfl⟩,hg,hm⟩:=q4Z g hc.1;have l1:=q3I hc.2;have ns:=q4w hc.2;unfold evE at h;cases es with
   | nil=>
    exfalso;cases ms with
    | nil=>unfold evEs at h;cases h
    | cons _ _=>cases l1
   | cons y ys=>
    rw[List.any_cons,Bool.or_eq_false_iff]at ns;cases ys with
    | nil=>exact q9h hg hm (λz hz=>ha g hc.2 hz) ns.1 h λl hl=>by rw[q2c hl,l1];rfl
    | cons z zs=>
     cases zs with
     | nil=>
      have ns2:=ns.2;rw[List.any_cons,Bool.or_eq_false_iff]at ns2;exact q8R hg hm (λz hz=>ha g hc.2 hz) ns.1 ns2.1 h λl hl=>by rw[q2c hl,l1];rfl
     | cons u us=>
      cases us with
      | nil=>
       have ns2:=ns.2;rw[List.any_cons,Bool.or_eq_false_iff]at ns2;have ns3:=ns2.2;rw[List.any_cons,Bool.or_eq_false_iff]at ns3;exact q9f hg hm (λz hz=>ha g hc.2 hz) ns.1 ns2.1 ns3.1 h λl hl=>by rw[q2c hl,l1];rfl
      | cons _ _=>simp at hle
  ·cases hc
theorem s_zp(ha:S1 G F a)(hb:S1 G F b):S1 G F (.zp a b):=by
 refine⟨λ{sg X E e δ r} g hc h=>?_,λ{sg X E e δ r} g hc h=>?_,λ{sg X E e tg δ r} g hc ht h=>?_⟩
 ·unfold corE at hc;rw[Bool.false_and]at hc;cases hc
 ·unfold corE at hc;rw[Bool.false_and]at hc;cases hc
 ·unfold corE at hc;rw[Bool.true_and]at hc;split at hc
  ·rename_i ef ea eb pos q;have:=q0y q;subst this;simp only[Bool.and_eq_true,Bool.not_eq_true']at hc;obtain⟨⟨⟨⟨h1,h2⟩,h3⟩,h4⟩,h5⟩:=hc;obtain⟨⟨p,rfl⟩,hg,hm⟩:=q4Z g h1;have t:=ht rfl;cases q2:q3m tg with
   | none=>rw[q2]at t;cases t
   | some elts=>
    obtain⟨k,tp,rfl⟩:=q2Z q2;unfold evE at h;exact z4W hg hm h4 h5 (λz hz=>ha.1 g h2 hz) (λz hz=>hb.1 g h3 hz) h
  ·cases hc
theorem z9e(ha:S1 G F a):S1 G F (.enu a):=by
 refine⟨λ{sg X E e δ r} g hc h=>?_,λ{sg X E e δ r} g hc h=>?_,λ{sg X E e tg δ r} g hc ht h=>?_⟩
 ·unfold corE at hc;rw[Bool.false_and]at hc;cases hc
 ·unfold corE at hc;rw[Bool.false_and]at hc;cases hc
 ·unfold corE at hc;rw[Bool.true_and]at hc;split at hc
  ·rename_i ef ea pos q;have:=q0y q;subst this;simp only[Bool.and_eq_true,Bool.not_eq_true']at hc;obtain⟨⟨h1,h2⟩,h3⟩:=hc;obtain⟨⟨p,rfl⟩,hg,hm⟩:=q4Z g h1;have t:=ht rfl;cases q2:q3m tg with
   | none=>rw[q2]at t;cases t
   | some elts=>
    obtain⟨k,tp,rfl⟩:=q2Z q2;unfold evE at h;exact z2R hg hm h3 (λz hz=>ha.1 g h2 hz) h
  ·cases hc
theorem z5z{sg:Sg}{X:Cx}{E:St->XK}{e:Expr}{δ:List Sv}{r:Re}{tg:Tg}{fr:List (Option Nat)}{cp:CParts}{tn:List Str}(ha:S1 G F a)(hb:S1 G F b)(g:Good sg G F X E)(hemp:cp.ifs=[])
  (h2:corE sg true b cp.it=true) (hz:isZp b=true->(q3m cp.tg).isSome=true) (h4:q2W sg (q1r sg tn fr) fr cp.sc tg=true) (h5:tgOk ⟨q1r sg tn fr,cp.sc.names,sg.fn,sg.bl,sg.cl,false,true⟩ tg cp.tg=true) (h6:corE ⟨q1r sg tn fr,cp.sc.names,sg.fn,sg.bl,sg.cl,false,true⟩ false a cp.elt=true)
  (h:evE G F (.comp a tg b fr) δ=some r):q1n X E δ cp.tg cp.it cp.ifs cp.elt cp.sc (q1r sg tn fr) fr tg r:=by
 obtain⟨S,nd,sl⟩:=q1u g h4;rw[hemp];unfold evE at h;exact q4S S g.calm nd sl (λz hz'=>hb.2.2 g h2 hz hz') (λC cells s₂ H₂ fp=>z1e (q1y g h4 C cells s₂ H₂ fp) h5) (λδ' r' hr C cells s₂ H₂ fp=>ha.1 (q1y g h4 C cells s₂ H₂ fp) h6 hr) h
theorem z1Y{sg:Sg}{X:Cx}{E:St->XK}{e cd:Expr}{δ:List Sv}{r:Re}{tg:Tg}{fr:List (Option Nat)}{cp:CParts}{tn:List Str}(ha:S1 G F a)(hb:S1 G F b)(hcc:S1 G F c)(g:Good sg G F X E)(hemp:cp.ifs=[cd])
  (h2:corE sg true b cp.it=true) (hz:isZp b=true->(q3m cp.tg).isSome=true) (h4:q2W sg (q1r sg tn fr) fr cp.sc tg=true) (h5:tgOk ⟨q1r sg tn fr,cp.sc.names,sg.fn,sg.bl,sg.cl,false,true⟩ tg cp.tg=true) (h6:corE ⟨q1r sg tn fr,cp.sc.names,sg.fn,sg.bl,sg.cl,false,true⟩ false a cp.elt=true)
  (h7:corE ⟨q1r sg tn fr,cp.sc.names,sg.fn,sg.bl,sg.cl,false,true⟩ false c cd=true) (h:evE G F (.compi a tg b c fr) δ=some r):q1n X E δ cp.tg cp.it cp.ifs cp.elt cp.sc (q1r sg tn fr) fr tg r:=by
 obtain⟨S,nd,sl⟩:=q1u g h4;rw[hemp];unfold evE at h;exact q4k S g.calm nd sl (λz hz'=>hb.2.2 g h2 hz hz') (λC cells s₂ H₂ fp=>z1e (q1y g h4 C cells s₂ H₂ fp) h5) (λδ' r' hr C cells s₂ H₂ fp=>ha.1 (q1y g h4 C cells s₂ H₂ fp) h6 hr)
  (λδ' r' hr C cells s₂ H₂ fp=>hcc.2.1 (q1y g h4 C cells s₂ H₂ fp) h7 hr) h
def q4q(G:Gs)(F:Nat->List DV->Option Ou)(m:ME):Prop:=∀{sg:Sg} {X:Cx} {E:St->XK} {e:Expr} {δ:List Sv} {r:Re},Good sg G F X E->corE sg false m e=true->evE G F m δ=some r ->
 ∃(cp:CParts) (N':List Str) (fr:List (Option Nat)) (tg:Tg) (p:Pos),e=.ListComp cp.elt [⟨cp.tg,cp.it,cp.ifs,0⟩] cp.sc p/\CompScope X.N N' cp.sc X.env.scope fr/\q1n X E δ cp.tg cp.it cp.ifs cp.elt cp.sc N' fr tg r /\
  (∀C cells s₂ H₂ fp,PG (q0v X cp.sc N' C cells s₂ H₂ fp) cp.tg (gT X.K tg))/\q2H cp.it=false
theorem q4q.s1{m:ME}(h:q4q G F m)(hw:∀sg e,corE sg true m e=corE sg false m e)(hl:∀sg e,corE sg false m e=true->(q5m e).isSome=true):S1 G F m:=by
 refine .of (λ{sg X E e δ r} g hc q=>?_) hw (λsg e env hc=>?_)
 ·obtain⟨cp,N',fr,tg,p,rfl,S,P,hG,hs⟩:=h g hc q;exact P.pe S g.calm hG hs
 ·have:=hl sg e hc;cases z:q5m e with
  | none=>rw[z]at this;cases this
  | some cp=>obtain⟨p,rfl⟩:=q4i z;exact q0h rfl env
theorem z4g{tg:Tg}{fr:List (Option Nat)}(ha:S1 G F a)(hb:S1 G F b):q4q G F (.comp a tg b fr):=by
 intro sg X E e δ r g hc h;unfold corE at hc;split at hc
 ·rename_i cp q;obtain⟨p,rfl⟩:=q4i q;simp only[Bool.and_eq_true,Bool.not_eq_true',Bool.or_eq_true]at hc;obtain⟨⟨⟨h1,h2,h3⟩,h4⟩,h5⟩:=hc;split at h5
  ·rename_i tn qt;simp only[Bool.and_eq_true]at h5;refine⟨cp,_,fr,tg,p,rfl,(q1u g h5.1.1).1,z5z (e:=.ListComp cp.elt [⟨cp.tg,cp.it,cp.ifs,0⟩] cp.sc p) ha hb g (List.isEmpty_iff.mp h1) h2 (λz=>?_) h5.1.1 h5.1.2 h5.2 h,λC cells s₂ H₂ fp=>z1e (q1y g h5.1.1 C cells s₂ H₂ fp) h5.1.2,h4⟩;rcases h3 with w | w
   ·rw[z]at w;cases w
   ·exact w
  ·cases h5
 ·cases hc
theorem q9W{tg:Tg}{fr:List (Option Nat)}(ha:S1 G F a)(hb:S1 G F b)(hcc:S1 G F c):q4q G F (.compi a tg b c fr):=by
 intro sg X E e δ r g hc h;unfold corE at hc;split at hc
 ·rename_i cp q;obtain⟨p,rfl⟩:=q4i q;simp only[Bool.and_eq_true,Bool.not_eq_true',Bool.or_eq_true]at hc;obtain⟨⟨⟨h2,h3⟩,h4⟩,h5⟩:=hc;split at h5
  ·rename_i tn ec qt qi;simp only[Bool.and_eq_true]at h5;refine⟨cp,_,fr,tg,p,rfl,(q1u g h5.1.1.1).1,z1Y (e:=.ListComp cp.elt [⟨cp.tg,cp.it,cp.ifs,0⟩] cp.sc p) ha hb hcc g qi h2 (λz=>?_) h5.1.1.1 h5.1.1.2 h5.1.2 h5.2 h,λC cells s₂ H₂ fp=>z1e (q1y g h5.1.1.1 C cells s₂ H₂ fp) h5.1.1.2,h4⟩;rcases h3 with w | w
   ·rw[z]at w;cases w
   ·exact w
  ·cases h5
 ·cases hc
theorem z7m{tg:Tg}{fr:List (Option Nat)}(ha:S1 G F a)(hb:S1 G F b):S1 G F (.comp a tg b fr):=q4q.s1 (λ{sg X E e δ r}=>z4g ha hb) (λ_ _=>rfl) λsg e hc=>by
 unfold corE at hc;split at hc
 ·rename_i q;rw[q];rfl
 ·cases hc
theorem z4N{tg:Tg}{fr:List (Option Nat)}(ha:S1 G F a)(hb:S1 G F b)(hcc:S1 G F c):S1 G F (.compi a tg b c fr):=q4q.s1 (λ{sg X E e δ r}=>q9W ha hb hcc) (λ_ _=>rfl) λsg e hc=>by
 unfold corE at hc;split at hc
 ·rename_i q;rw[q];rfl
 ·cases hc
theorem z9H:SEs G F []:=λ{sg X E es δ r} g hc h=>by
 cases es with
 | nil=>unfold evEs at h;cases h;exact z2J
 | cons _ _=>unfold q0W at hc;cases hc
theorem z7x(ha:S1 G F a)(hb:SEs G F ms):SEs G F (a::ms):=λ{sg X E es δ r} g hc h=>by
 cases es with
 | nil=>unfold q0W at hc;cases hc
 | cons e es=>
  unfold q0W at hc;simp only[Bool.and_eq_true,Bool.not_eq_true']at hc;unfold evEs at h;exact q9P hc.1.2 (λz hz=>ha.1 g hc.1.1 hz) (λz hz=>hb g hc.2 hz) h
theorem z5o:SAnd G F []:=λ{sg X E es δ pos} g hc=>⟨λr h=>(by unfold q3M at h;cases h),λr h=>(by unfold q3M at h;cases h)⟩
theorem z8E:SOr G F []:=λ{sg X E es δ pos} g hc=>⟨λr h=>(by unfold evOr at h;cases h),λr h=>(by unfold evOr at h;cases h)⟩
theorem z2x(ha:S1 G F a)(hb:SAnd G F ms):SAnd G F (a::ms):=λ{sg X E es δ pos} g hc=>by
 cases es with
 | nil=>unfold q0W at hc;cases hc
 | cons e es=>
  unfold q0W at hc;simp only[Bool.and_eq_true,Bool.not_eq_true']at hc;cases ms with
  | nil=>
   cases es with
   | nil=>
    refine⟨λr h=>?_,λr h=>?_⟩
    ·unfold q3M at h;exact z3t (ha.1 g hc.1.1 h)
    ·unfold q3M at h;exact z5A (ha.2.1 g hc.1.1 h)
   | cons _ _=>have:=hc.2;unfold q0W at this;cases this
  | cons m ms=>
   cases es with
   | nil=>have:=hc.2;unfold q0W at this;cases this
   | cons e' es=>
    have B:=@hb sg X E (e'::es) δ pos g hc.2;refine⟨λr h=>?_,λr h=>?_⟩
    ·unfold q3M at h;exact z4v (λz hz=>ha.1 g hc.1.1 hz) (λz hz=>B.1 z hz) h
    ·unfold q3M at h;exact z3o (λz hz=>ha.2.1 g hc.1.1 hz) (λz hz=>B.2 z hz) h
theorem z5V(ha:S1 G F a)(hb:SOr G F ms):SOr G F (a::ms):=λ{sg X E es δ pos} g hc=>by
 cases es with
 | nil=>unfold q0W at hc;cases hc
 | cons e es=>
  unfold q0W at hc;simp only[Bool.and_eq_true,Bool.not_eq_true']at hc;cases ms with
  | nil=>
   cases es with
   | nil=>
    refine⟨λr h=>?_,λr h=>?_⟩
    ·unfold evOr at h;exact z3t (ha.1 g hc.1.1 h)
    ·unfold evOr at h;exact z8g (ha.2.1 g hc.1.1 h)
   | cons _ _=>have:=hc.2;unfold q0W at this;cases this
  | cons m ms=>
   cases es with
   | nil=>have:=hc.2;unfold q0W at this;cases this
   | cons e' es=>
    have B:=@hb sg X E (e'::es) δ pos g hc.2;refine⟨λr h=>?_,λr h=>?_⟩
    ·unfold evOr at h;exact z8e (λz hz=>ha.1 g hc.1.1 hz) (λz hz=>B.1 z hz) h
    ·unfold evOr at h;exact z5Q (λz hz=>ha.2.1 g hc.1.1 hz) (λz hz=>B.2 z hz) h
theorem z9l(ha:SAnd G F ms):S1 G F (.and ms):=by
 refine .of2 (λ{sg X E e δ r} g hc h=>?_) (λ{sg X E e δ r} g hc h=>?_) (λ_ _=>rfl)
 ·unfold corE at hc;split at hc
  ·rename_i o es q;obtain⟨p,rfl⟩:=q3i q;simp only[Bool.and_eq_true,beq_iff_eq]at hc;obtain⟨h1,h2⟩:=hc;subst h1;unfold evE at h;exact(ha g h2).1 r h
  ·cases hc
 ·unfold corE at hc;split at hc
  ·rename_i o es q;obtain⟨p,rfl⟩:=q3i q;simp only[Bool.and_eq_true,beq_iff_eq]at hc;obtain⟨h1,h2⟩:=hc;subst h1;unfold evE at h;exact((ha g h2).2 r h).pt
  ·cases hc
theorem s_or(ha:SOr G F ms):S1 G F (.or ms):=by
 refine .of2 (λ{sg X E e δ r} g hc h=>?_) (λ{sg X E e δ r} g hc h=>?_) (λ_ _=>rfl)
 ·unfold corE at hc;split at hc
  ·rename_i o es q;obtain⟨p,rfl⟩:=q3i q;simp only[Bool.and_eq_true,beq_iff_eq]at hc;obtain⟨h1,h2⟩:=hc;subst h1;unfold evE at h;exact(ha g h2).1 r h
  ·cases hc
 ·unfold corE at hc;split at hc
  ·rename_i o es q;obtain⟨p,rfl⟩:=q3i q;simp only[Bool.and_eq_true,beq_iff_eq]at hc;obtain⟨h1,h2⟩:=hc;subst h1;unfold evE at h;exact((ha g h2).2 r h).pt
  ·cases hc
end
section
variable {G:Gs} {F:Nat->List DV->Option Ou}
mutual
theorem snd:∀m:ME,S1 G F m
 | .var _=>y0m
 | .int _=>z9f
 | .bl _=>s_bl
 | .str _=>y0f
 | .non=>z9w
 | .glb _=>z9u
 | .bin _ a b=>z9K (snd a) (snd b)
 | .not a=>z9c (snd a)
 | .cmp _ a b=>z9L (snd a) (snd b)
 | .chain _ _ a b c=>z6g (snd a) (snd b) (snd c)
 | .and es=>z9l (z4k es)
 | .or es=>s_or (z6T es)
 | .lst es=>z9d (sndL es)
 | .tup es=>y0g (sndL es)
 | .dc0=>y0a
 | .ix a b=>s_ix (snd a) (snd b)
 | .sl a b c=>s_sl (snd a) (snd b) (snd c)
 | .slf a b=>z9p (snd a) (snd b)
 | .slt a b=>z9B (snd a) (snd b)
 | .call _ es=>z8K (sndL es)
 | .bi _ es=>s_bi (sndL es)
 | .isi a _=>z9R (snd a)
 | .meth _ a _=>z7k (snd a)
 | .comp a _ b _=>z7m (snd a) (snd b)
 | .compi a _ b c _=>z4N (snd a) (snd b) (snd c)
 | .idx a b=>z9E (snd a) (snd b)
 | .rng es=>z9n (sndL es)
 | .zp a b=>s_zp (snd a) (snd b)
 | .enu a=>z9e (snd a)
theorem sndL:∀ms:List ME,SEs G F ms
 | []=>z9H
 | a::ms=>z7x (snd a) (sndL ms)
theorem z4k:∀ms:List ME,SAnd G F ms
 | []=>z5o
 | a::ms=>z2x (snd a) (z4k ms)
theorem z6T:∀ms:List ME,SOr G F ms
 | []=>z8E
 | a::ms=>z5V (snd a) (z6T ms)
end
end
end L2
end
noncomputable section
namespace L2
open PySem PySem.Spec PyProof.Rows
section
variable (G:Gs) (F:Nat->List DV->Option Ou) (fu:Nat)
def SS(m:MS):Prop:=∀{sg:Sg} {X:Cx} {E:St->XK} {st:Stmt} {δ:List Sv} {o:Out},Good sg G F X E->corS sg m st=true->evS G F fu m δ=some o->PS X st (dS X.D E δ o)
def SSs(ms:List MS):Prop:=∀{sg:Sg} {X:Cx} {E:St->XK} {sts:List Stmt} {δ:List Sv} {o:Out},Good sg G F X E->q3a sg ms sts=true->evSs G F fu ms δ=some o->PSs X sts (dS X.D E δ o)
end
section
variable {G:Gs} {F:Nat->List DV->Option Ou} {fu:Nat} {e k:ME} {i:Nat}
theorem z7Q:∀{e:ME},z1v e=true->q4q G F e
 | .comp a _ b _,_=>z4g (snd a) (snd b)
 | .compi a _ b c _,_=>q9W (snd a) (snd b) (snd c)
theorem z9F{own:Bool}:SS G F fu (.set i own e):=by
 intro sg X E st δ o g hc h;unfold corS at hc;split at hc
 ·rename_i t v pos;split at hc
  ·rename_i x pt;simp only[Bool.and_eq_true,beq_iff_eq,Bool.or_eq_true,Bool.not_eq_true']at hc;obtain⟨⟨⟨h1,h2⟩,h3⟩,h4⟩:=hc;have l:=g.loc x h2;have hN:X.N[i]? = some x:=by rw[g.N];exact h1
   unfold evS at h;cases hv:q5q v with
   | false=>exact z0G g.nd hN l.1 l.2 (λz hz=>(snd e).1 g h3 hz) (q3C hv) h
   | true=>
    rcases h4 with h4 | h5
    ·rw[hv]at h4;cases h4
    ·cases hr:evE G F e δ with
     | none=>rw[hr]at h;cases h
     | some r=>
      obtain⟨cp,N',fr,tg,p,rfl,S,P,hG,hs⟩:=z7Q h5 g h3 hr;cases hb:(X.env.blockKind == .function&&X.env.kindOf x==some .local&&pt.line==(Expr.ListComp cp.elt [⟨cp.tg,cp.it,cp.ifs,0⟩] cp.sc p).pos.line && !(cp.sc.names.any λ(n,k)=>n==x&&(k == .local||k == .cell)))with
      | false=>
       have hsw:swapsWith (.ListComp cp.elt [⟨cp.tg,cp.it,cp.ifs,0⟩] cp.sc p) (some (.Name x pt)) pos.line X.env=pure false:=(by show(pure (X.env.blockKind == .function&&X.env.kindOf x==some .local&&pt.line==(Expr.ListComp cp.elt [⟨cp.tg,cp.it,cp.ifs,0⟩] cp.sc p).pos.line && !(cp.sc.names.any λ(n,k)=>n==x&&(k == .local||k == .cell))):Sem Bool)=pure false;rw[hb]);exact z0G g.nd hN l.1 l.2 (λz hz=>(snd e).1 g h3 hz) hsw h
      | true=>
       have hsw:swapsWith (.ListComp cp.elt [⟨cp.tg,cp.it,cp.ifs,0⟩] cp.sc p) (some (.Name x pt)) pos.line X.env=pure true:=(by show(pure (X.env.blockKind == .function&&X.env.kindOf x==some .local&&pt.line==(Expr.ListComp cp.elt [⟨cp.tg,cp.it,cp.ifs,0⟩] cp.sc p).pos.line && !(cp.sc.names.any λ(n,k)=>n==x&&(k == .local||k == .cell))):Sem Bool)=pure true;rw[hb]);rw[hr]at h;have h4:X.env.kindOf x=some .local:=by simp only[Bool.and_eq_true,beq_iff_eq]at hb;exact hb.1.1.2
       exact q7I S g.calm g.nd hN h4 P hG hs hsw h
  ·cases hc
 ·cases hc
theorem z9h:SS G F fu (.app i e):=by
 intro sg X E st δ o g hc h;unfold corS at hc;split at hc
 ·rename_i v pos;split at hc
  ·rename_i ef ea cpos q;have:=q0y q;subst this;split at hc
   ·rename_i ob n apos q2;have:=q4h q2;subst this;simp only[Bool.and_eq_true,Bool.not_eq_true']at hc;obtain⟨⟨⟨⟨h1,h2⟩,h3⟩,h4⟩,h5⟩:=hc;split at h2
    ·rename_i x q3;obtain⟨np,rfl⟩:=q0C q3;obtain⟨s1,s2,s3,s4⟩:=q7l g h2;have hn:n = "append":=beq_iff_eq.mp h1;subst hn;unfold evS at h;exact q9m (z0e s1 s2 s3 s4) (λz hz=>(snd e).1 g h3 hz) h4 h5 h
    ·cases h2
   ·cases hc
  ·cases hc
 ·cases hc
theorem z7E:SS G F fu (.seti i k e):=by
 intro sg X E st δ o g hc h;unfold corS at hc;split at hc
 ·rename_i t v pos;split at hc
  ·rename_i ob ek q;obtain⟨sp,rfl⟩:=q1s q;simp only[Bool.and_eq_true,Bool.not_eq_true']at hc;obtain⟨⟨⟨h2,h3⟩,h4⟩,h5⟩:=hc;split at h2
   ·rename_i x q3;obtain⟨np,rfl⟩:=q0C q3;obtain⟨s1,s2,s3,s4⟩:=q7l g h2;unfold evS at h;exact z1y (z0e s1 s2 s3 s4) (λz hz=>(snd e).1 g h5 hz) (λz hz=>(snd k).1 g h3 hz) h4 h
   ·cases h2
  ·cases hc
 ·cases hc
theorem z9X:SS G F fu (.exp e):=by
 intro sg X E st δ o g hc h;unfold corS at hc;split at hc
 ·simp only[Bool.and_eq_true,Bool.not_eq_true']at hc;unfold evS at h;exact z5R (λz hz=>(snd e).1 g hc.1 hz) hc.2 h
 ·cases hc
theorem z9s:SS G F fu (.ret e):=by
 intro sg X E st δ o g hc h;unfold corS at hc;split at hc
 ·unfold evS at h;exact z6t (λz hz=>(snd e).1 g hc hz) h
 ·cases hc
theorem z9x{c:Str}:SS G F fu (.rse c e):=by
 intro sg X E st δ o g hc h;unfold corS at hc;split at hc
 ·rename_i v pos;split at hc
  ·rename_i ef ea cpos q;have:=q0y q;subst this;simp only[Bool.and_eq_true,Bool.not_eq_true',beq_iff_eq,bne_iff_ne,ne_eq]at hc;obtain⟨⟨⟨⟨⟨h0,h1⟩,h2⟩,h3⟩,h4⟩,h5⟩:=hc;obtain⟨np,rfl⟩:=q0C h1;unfold evS at h;exact z1p g.xf g.calm (g.glo c h2) (beq_eq_false_iff_ne.mpr h3) (g.st h0).2.2.2 (λz hz=>(snd e).1 g h4 hz) h5 h
  ·cases hc
 ·cases hc
theorem z9a:SS G F fu (.frz i):=by
 intro sg X E st δ o g hc h;unfold corS at hc;cases hc
variable {a b body:List MS} {c:ME} {tg:Tg}
theorem y0c(ha:SSs G F fu a)(hb:SSs G F fu b):SS G F fu (.iff c a b):=by
 intro sg X E st δ o g hc h;unfold corS at hc;split at hc
 ·simp only[Bool.and_eq_true]at hc;unfold evS at h;exact z7b (λz hz=>(snd c).2.1 g hc.1.1 hz) (λz hz=>ha g hc.1.2 hz) (λz hz=>hb g hc.2 hz) h
 ·cases hc
theorem t_fo(hb:SSs G F fu body):SS G F fu (.fo tg e body):=by
 intro sg X E st δ o g hc h;unfold corS at hc;split at hc
 ·simp only[Bool.and_eq_true,Bool.not_eq_true',Bool.or_eq_true]at hc;obtain⟨⟨⟨⟨h0,h1⟩,h2,h3⟩,h4⟩,h5⟩:=hc;unfold evS at h;exact z5T (g.own h0) g.calm (λz hz=>(snd e).2.2 g h2 (λw=>by
   rcases h3 with q | q
   ·rw[w]at q;cases q
   ·exact q) hz) (z1e g h1) (λδ' o' ho=>hb g h5 ho) h4 h
 ·cases hc
theorem z8y:SSs G F fu []:=by
 intro sg X E sts δ o g hc h;cases sts with
 | nil=>unfold evSs at h;cases h;exact z4s
 | cons a b=>unfold q3a at hc;cases hc
theorem z7X{ms:List MS}(hb:SSs G F fu ms):SSs G F fu (.frz i::ms):=by
 intro sg X E sts δ o g hc h;have hc':q3a sg ms sts=true:=by unfold q3a at hc;exact hc
 unfold evSs at h;have key:evS G F fu (.frz i) δ=(match δ[i]? with | some (.own d)=>some (.nx (δ.set i (.val d))) | _=>some (.nx δ)):=by unfold evS;rfl
 rw[key]at h;cases q:δ[i]? with
 | none=>rw[q]at h;exact hb g hc' h
 | some sv=>
  rw[q]at h;cases sv with
  | own d=>exact q9j q (hb g hc' h)
  | no=>exact hb g hc' h
  | val d=>exact hb g hc' h
  | ot d=>exact hb g hc' h
  | o2 d=>exact hb g hc' h
  | od d=>exact hb g hc' h
theorem q2o{m:MS}{ms:List MS}(ha:SS G F fu m)(hb:SSs G F fu ms)(hm:∀i,m ≠ .frz i):SSs G F fu (m::ms):=by
 intro sg X E sts δ o g hc h;cases sts with
 | nil=>
  exfalso;cases m<;>first | exact hm _ rfl | (unfold q3a at hc;cases hc)
 | cons st sts=>
  have hc':corS sg m st=true/\q3a sg ms sts=true:=(by cases m<;>first | exact absurd rfl (hm _) | (unfold q3a at hc;rw[Bool.and_eq_true]at hc;exact hc));unfold evSs at h;split at h
  ·rename_i δ' q;exact z2q (ha g hc'.1 q) (hb g hc'.2 h)
  ·rename_i hne;have A:=ha g hc'.1 h;cases o with
   | nx δ'=>exact absurd h (hne δ')
   | rt d fr=>exact z7K A
   | rtt d=>exact z6x A
   | ex c δ'=>exact z7d A
end
section
variable {G:Gs} {F:Nat->List DV->Option Ou} {fu:Nat}
mutual
theorem sndS:∀m:MS,SS G F fu m
 | .set _ _ _=>z9F
 | .app _ _=>z9h
 | .seti _ _ _=>z7E
 | .exp _=>z9X
 | .ret _=>z9s
 | .iff _ a b=>y0c (q3E a) (q3E b)
 | .fo _ _ body=>t_fo (q3E body)
 | .rse _ _=>z9x
 | .frz _=>z9a
theorem q3E:∀ms:List MS,SSs G F fu ms
 | []=>z8y
 | .frz _::ms=>z7X (q3E ms)
 | .set i o e::ms=>q2o (sndS (.set i o e)) (q3E ms) (by intro i z;cases z)
 | .app i o::ms=>q2o (sndS (.app i o)) (q3E ms) (by intro i z;cases z)
 | .seti i k o::ms=>q2o (sndS (.seti i k o)) (q3E ms) (by intro i z;cases z)
 | .exp e::ms=>q2o (sndS (.exp e)) (q3E ms) (by intro i z;cases z)
 | .ret e::ms=>q2o (sndS (.ret e)) (q3E ms) (by intro i z;cases z)
 | .iff c a b::ms=>q2o (sndS (.iff c a b)) (q3E ms) (by intro i z;cases z)
 | .fo t i b::ms=>q2o (sndS (.fo t i b)) (q3E ms) (by intro i z;cases z)
 | .rse c e::ms=>q2o (sndS (.rse c e)) (q3E ms) (by intro i z;cases z)
end
end
end L2
end
noncomputable section
namespace L2
open PySem PySem.Spec PyProof.Rows
structure FunD(K:PySem.W.Frag)(x qual:Str)(st:Stmt)(f:Addr)(fd:FuncData):Prop where
 ex:∃(oc:Value) (od:Option Addr) (dV kV doc pm:Value) (an:Option Addr) (cdv ct:Value) (osl:Array (Option Value)),
  fd=PySem.W.fnOf x qual (q1f st) (q0M st) (q0f st) dV kV doc pm an cdv ct/\K.lookup f=some ⟨oc,od,.func fd,osl⟩/\PySem.W.codeIn K cdv qual=true
theorem FunD.okX{P:Program}{w:World}{K:PySem.W.Frag}{mg:Str->Option Value}{base:Heap}{x qual:Str}{st:Stmt}{f:Addr}{fd:FuncData}{N ps:List Str}{k:Nat}{sp:Sp}(F:FunD K x qual st f fd)(S:FnScope N ps (q0f st))(len:∀vs H Q E,sp vs H Q E->vs.length=ps.length)
  (hbody:∀(cdv:Value) (A:Around) (outer:List Env) (s:Shared) (H:Hp) (vs:List V) (Q:VK) (E:XK),Room k (A.deeper (envOfC qual (q0f st) s.heap.objs.size f cdv))->sp vs H Q E ->
   ∃t,PSs (cxD P w K mg base N qual (q0f st) f cdv A outer s H E) (q0M st) t/\t {nx:=λ_ H'=>Q .non H',rt:=Q} (start N vs) H):FnOk P w K mg base (CXx P w base) (k+1) f fd ps sp:=by
 obtain⟨oc,od,dV,kV,doc,pm,an,cdv,ct,osl,rfl,lk,hcd⟩:=F.ex;exact y0e lk hcd S len λA outer s H vs Q E hr hsp=>hbody cdv A outer s H vs Q E hr hsp
def popB(sg:Sg)(v:Expr):Bool:=match q1E v with
 | some (ef,[ea],[],pos)=>(match q4U ef with
  | some (o,n,apos)=>n == "pop" && (match q0Z o with | some x=>q7w sg 1 x | none=>false)&&corE sg false (.int 0) ea && !q0l ea&&apos.endLine==pos.line
  | none=>false)
 | _=>false
def hunC(sg:Sg)(m:ME)(v:Expr):Bool:=match hunB sg 1 v with | some ea=>corE sg false m ea | none=>false
def hm0:ME:=.cmp .Eq (.ix (.var 0) (.int 0)) (.str "end")
def hm1:ME:=.cmp .Eq (.var 1) (.lst [])
def corH(sg:Sg)(b:List Stmt):Bool:=match b with
 | [.If c [.If c2 [.Return (some e1) _] [] _,.Return (some e2) _] [] _,.Assign [.Name x _] e3 _,.Return (some e4) _]=>
  corE sg false hm0 c&&corE sg false hm1 c2&&corE sg false (.var 0) e1&&popB sg e2&&sg.N[2]? == some x&&locB sg x && !q5q e3&&hunC sg (.ix (.var 0) (.int 3)) e3 &&
  (match q3m e4 with
   | some [a,b,c,d,e]=>corE sg false (.str "ask") a&&corE sg false (.ix (.var 0) (.int 1)) b&&corE sg false (.ix (.var 0) (.int 2)) c&&corE sg false (.var 2) d&&hunC sg (.ix (.var 0) (.int 4)) e && !q0l a && !q0l b && !q0l c && !q0l d && !q0l e
   | _=>false)
 | _=>false
def hG:Gs:={con:=[],cls:=[],hun:=true}
structure HStands(K:PySem.W.Frag)(mg:Str->Option Value)(fa:Addr)(fd:FuncData)(ps:List Str):Prop where
 mg:mg q0X=some (.ref fa)
 kp:PySem.W.keepIn K (.ref fa)=true
 bi:q2Q K fd ps []
 np:ps.length=2
 ex:∃qual st N,FunD K q0X qual st fa fd/\FnScope N ps (q0f st)/\N.length=3/\corH ⟨N,(q0f st).names,[],[],[],true,true⟩ (q0M st)=true
theorem z5Z{k:Nat}{d:DV}{l:List DV}:q8N k q5Q [d,.lst l]=(q7o k d l).map λr=>.v r.1 false:=by
 show(if q5Q=q5Q then _ else none)=_;exact if_pos rfl
def hδ(d:DV)(ds:List DV)(x:Sv):List Sv:=[.val d,.own (.lst ds),x]
section
variable {F:Nat->List DV->Option Ou} {d:DV} {ds:List DV} {x:Sv} {s:Str}
end
section
variable {P:Program} {w:World} {K:PySem.W.Frag} {mg:Str->Option Value} {base:Heap} {fa:Addr} {fd:FuncData} {ps:List Str}
end
end L2
end
noncomputable section
namespace L2
open PySem PySem.Spec PyProof.Rows
theorem RSt.start{D:Dm}{H:Hp}{N:List Str}{ds:List DV}{vs:List V}{O:List Addr}{n:Nat}(hn:n=N.length)(r:RepL D (L2.wo O H) ds vs)(ho:Hdn O H):RSt D H (L2.start N vs) (q0n n ds) O []:=by
 subst hn;have ino:∀(i:Nat) ds',(q0n N.length ds)[i]? ≠ some (.own ds'):=λi ds' h=>by
  unfold q0n at h;by_cases hi:i<(ds.map Sv.val).length
  ·rw[List.getElem?_append_left hi,List.getElem?_map]at h;cases q:ds[i]? with
   | none=>rw[q]at h;cases h
   | some d=>rw[q]at h;cases h
  ·rw[List.getElem?_append_right (by omega),List.getElem?_replicate]at h;split at h<;>cases h
 have iot:∀(i:Nat) ds',(q0n N.length ds)[i]? ≠ some (.ot ds'):=λi ds' h=>by
  unfold q0n at h;by_cases hi:i<(ds.map Sv.val).length
  ·rw[List.getElem?_append_left hi,List.getElem?_map]at h;cases q:ds[i]? with
   | none=>rw[q]at h;cases h
   | some d=>rw[q]at h;cases h
  ·rw[List.getElem?_append_right (by omega),List.getElem?_replicate]at h;split at h<;>cases h
 have io2:∀(i:Nat) ds',(q0n N.length ds)[i]? ≠ some (.o2 ds'):=λi ds' h=>by
  unfold q0n at h;by_cases hi:i<(ds.map Sv.val).length
  ·rw[List.getElem?_append_left hi,List.getElem?_map]at h;cases q:ds[i]? with
   | none=>rw[q]at h;cases h
   | some d=>rw[q]at h;cases h
  ·rw[List.getElem?_append_right (by omega),List.getElem?_replicate]at h;split at h<;>cases h
 have iod:∀(i:Nat) ds',(q0n N.length ds)[i]? ≠ some (.od ds'):=λi ds' h=>by
  unfold q0n at h;by_cases hi:i<(ds.map Sv.val).length
  ·rw[List.getElem?_append_left hi,List.getElem?_map]at h;cases q:ds[i]? with
   | none=>rw[q]at h;cases h
   | some d=>rw[q]at h;cases h
  ·rw[List.getElem?_append_right (by omega),List.getElem?_replicate]at h;split at h<;>cases h
 refine⟨λi d h=>?_,λi ds' h=>absurd h (ino i ds'),λi j a d1 d2 h=>absurd h (ino i d1),λi d h=>absurd h (iot i d),λi d h=>absurd h (io2 i d),λi d h=>absurd h (iod i d),?_,⟨λa ha=>ho.ne a (by simpa using ha),Same.refl _,λa ha=>(nomatch ha),λa ha=>(nomatch ha),ho⟩⟩
 ·unfold q0n at h;by_cases hi:i<(ds.map Sv.val).length
  ·rw[List.getElem?_append_left hi,List.getElem?_map]at h;cases q:ds[i]? with
   | none=>rw[q]at h;cases h
   | some d'=>
    rw[q]at h;cases h;obtain⟨v,e1,e2⟩:=r.get q;refine⟨v,?_,by rw[List.append_nil];exact e2⟩;unfold L2.start;rw[List.getElem?_append_left (by rw[List.length_map];exact(List.getElem?_eq_some_iff.mp e1).1),List.getElem?_map,e1];rfl
  ·rw[List.getElem?_append_right (by omega),List.getElem?_replicate]at h;split at h<;>cases h
 ·unfold L2.start q0n;rw[List.length_append,List.length_append,List.length_map,List.length_map,List.length_replicate,List.length_replicate,r.length]
def DfOk(G:Gs)(T:List FD):Prop:=(∀f ds,G.dfl.lookup f=some ds->∃d,T[f]? = some d/\d.dfl=ds/\ds≠[])/\∀f n,G.kws.lookup f=some n->∃d,T[f]? = some d/\d.kn=some n
structure Stands(K:PySem.W.Frag)(mg:Str->Option Value)(fn bl cl:List Str)(d:FD)(x:Str)(fa:Addr)(fd:FuncData)(ps:List Str):Prop where
 dk:(d.dfl≠[]->∃us dvs,q2Q K fd ps us/\Vals dvs us/\∀H,RepL ⟨K,mg⟩ H d.dfl dvs)/\∀n,d.kn=some n->KBinds K fd ps [n] (q3O ps.length) (q3O ps.length)
 mg:mg x=some (.ref fa)
 kp:PySem.W.keepIn K (.ref fa)=true
 bi:q2Q K fd ps []
 np:d.np=ps.length
 ex:∃qual st N,FunD K x qual st fa fd/\FnScope N ps (q0f st)/\d.n=N.length/\q3a ⟨N,(q0f st).names,fn,bl,cl,true,true⟩ d.body (q0M st)=true
section
variable {P:Program} {w:World} {K:PySem.W.Frag} {mg:Str->Option Value} {base:Heap} {G:Gs} {T:List FD} {fu:Nat} {fn bl cl:List Str}
theorem z3P(hT:T.length=fn.length)(hs:∀(i:Nat) d x,T[i]? = some d->fn[i]? = some x->∃fa fd ps,Stands K mg fn bl cl d x fa fd ps)(hbl:∀x∈bl,mg x=none)(hxf:XFacts K mg G cl)
  (hcon:∀x d,G.con.lookup x=some d->∃u v,mg x=some u/\RelV v u/\∀H,Rep ⟨K,mg⟩ H d v) (hdc:∀x kvs,G.dcs.lookup x=some kvs->q9S K w mg x kvs) (hdf:DfOk G T) (hh:G.hun=true->T.length<=q5Q/\∃fa fd ps,mg q0X=some (.ref fa)/\PySem.W.keepIn K (.ref fa)=true/\q2Q K fd ps []/\∀k,FnOk P w K mg base (CXx P w base) k fa fd ps (spH ⟨K,mg⟩ (q7o k))):∀(k i:Nat) d x fa fd ps,T[i]? = some d->fn[i]? = some x->Stands K mg fn bl cl d x fa fd ps ->
  FnOk P w K mg base (CXx P w base) k fa fd ps (spF ⟨K,mg⟩ ps.length (run G T fu k i))
 | 0,i,d,x,fa,fd,ps,h1,h2,S=>by
  refine⟨λvs H Q E h=>?_,λA outer s H args us vs Q E hr he hb hv h=>?_⟩
  ·obtain⟨_,_,_,_,_,_,q,_⟩:=h;cases q
  ·obtain⟨_,_,_,_,_,_,q,_⟩:=h;cases q
 | k+1,i,d,x,fa,fd,ps,h1,h2,S=>by
  obtain⟨qual,st,N,F,FS,hn,hc⟩:=S.ex;refine F.okX FS (λvs H Q E h=>?_) (λcdv A outer s H vs Q E hr h=>?_)
  ·obtain⟨O,ds,o,_,e1,e2,_⟩:=h;rw[e2.length,e1]
  ·obtain⟨O,ds,o,ho,e1,e2,e3,e4⟩:=h;have e3':(match T[i]? with | none=>q8N (k+1) i ds | some fd=>if ds.length=fd.np then Ou.of (evSs G (run G T fu k) fu fd.body (q0n fd.n ds))else none)=some o:=e3;rw[h1]at e3';have e3'':(if ds.length=d.np then Ou.of (evSs G (run G T fu k) fu d.body (q0n d.n ds))else none)=some o:=e3';rw[if_pos (e1.trans S.np.symm)]at e3'';have g:Good ⟨N,(q0f st).names,fn,bl,cl,true,true⟩ G (run G T fu k) (cxD P w K mg base N qual (q0f st) fa cdv A outer s H E) (λ_=>E):=by
    refine⟨rfl,FS.nd,λy hy=>?_,λy hy=>?_,λy hy=>⟨?_,.inl rfl⟩,λy hy=>hy,λy hy=>hy,rfl,hr.units,λf y hy=>?_,hbl,q9p.s,hcon,λ_=>PassesOwn.leaving,hxf,λ_=>⟨rfl,rfl,rfl,q9i⟩,hdc,λz=>by
     obtain⟨hl,fa',fd',ps',s1,s2,s3,s4⟩:=hh z;refine⟨k,fa',fd',ps',q7o k,hr,s1,s2,s3,λd l=>?_,s4 k⟩;cases k with
     | zero=>rfl
     | succ k=>
      show(match T[q5Q]? with | none=>q8N (k+1) q5Q [d,.lst l] | some fd=>if[d,.lst l].length=fd.np then Ou.of (evSs G (run G T fu k) fu fd.body (q0n fd.n [d,.lst l]))else none)=_;rw[List.getElem?_eq_none hl];exact z5Z⟩
    ·unfold visB at hy;simp only[Bool.or_eq_true,beq_iff_eq]at hy;rcases hy with(hy | hy) | hy
     ·exact .inl hy
     ·exact .inr (.inl hy)
     ·exact .inr (.inr hy)
    ·unfold gloB at hy;rw[beq_iff_eq]at hy;exact hy
    ·unfold locB at hy;simp only[Bool.or_eq_true,beq_iff_eq]at hy;exact hy
    ·have hf:f<T.length:=by rw[hT];exact(List.getElem?_eq_some_iff.mp hy).1
     obtain⟨d',hd'⟩:∃d',T[f]? = some d':=⟨_,List.getElem?_eq_getElem hf⟩;obtain⟨fa',fd',ps',S'⟩:=hs f d' y hd' hy;refine⟨k,fa',fd',ps',hr,S'.mg,S'.kp,S'.bi,λds o q=>?_,z3P hT hs hbl hxf hcon hdc hdf hh k f d' y fa' fd' ps' hd' hy S',?_,?_⟩
     rotate_left
     ·intro ds q;obtain⟨d2,q1,q2,q3⟩:=hdf.1 f ds q;rw[hd']at q1;cases q1;have:=S'.dk.1 (by rw[q2];exact q3);rw[q2]at this;exact this
     ·intro n q;obtain⟨d2,q1,q2⟩:=hdf.2 f n q;rw[hd']at q1;cases q1;exact S'.dk.2 n q2
     cases k with
     | zero=>cases q
     | succ k=>
      have q':(match T[f]? with | none=>q8N (k+1) f ds | some fd=>if ds.length=fd.np then Ou.of (evSs G (run G T fu k) fu fd.body (q0n fd.n ds))else none)=some o:=q;rw[hd']at q';have q'':(if ds.length=d'.np then Ou.of (evSs G (run G T fu k) fu d'.body (q0n d'.n ds))else none)=some o:=q';split at q''
      ·rename_i z;rw[z,S'.np]
      ·cases q''
   cases ho':evSs G (run G T fu k) fu d.body (q0n d.n ds)with
   | none=>rw[ho']at e3'';cases e3''
   | some oo=>
    rw[ho']at e3'';refine⟨_,q3E d.body g hc ho',H,O,[],RSt.start hn e2 ho,(λa ha=>(nomatch ha)),ho.ne,Same.refl H,?_⟩;cases oo with
    | nx δ=>cases e3'';exact λσ' H' W R fr sm=>e4 .non H' sm (show Rep ⟨K,mg⟩ (L2.wo O H') .non .non by unfold Rep;rfl)
    | rt d fr=>cases e3'';exact λv H' sm gt=>e4 v H' sm gt
    | rtt d=>cases e3'';exact λv H' sm gt=>e4 v H' sm gt
    | ex c δ=>cases e3'';exact λσ' H' W C hm R fr sm=>e4 H' C hm sm
end
end L2
end
noncomputable section
namespace L2
open PySem PySem.Spec PyProof.Rows
def okD(fn bl cl:List Str)(d:FD)(N ps:List Str)(st:Stmt):Bool:=
 (q0f st).kind == .function && !(q0f st).isCoroutine && !(q0f st).isGenerator&&q4E N&&(N.take ps.length==ps) &&
 ps.all (λx=>(q0f st).names.lookup x==some .local||(q0f st).names.lookup x==some .cell)&&(q0f st).names.all (λy=>!(y.2 == .free)) &&
 d.n==N.length&&d.np==ps.length&&q3a ⟨N,(q0f st).names,fn,bl,cl,true,true⟩ d.body (q0M st)
section
variable {P:Program} {w:World} {K:PySem.W.Frag} {mg:Str->Option Value} {base h:Heap} {G:Gs} {T:List FD} {fu:Nat} {fn bl cl:List Str}
theorem q9k{d:FD}{x:Str}{N ps:List Str}{st:Stmt}{f:Addr}{oc:Value}{od an:Option Addr}{osl:Array (Option Value)}{dV kV doc pm cdv ct:Value}(X:K.In h)(Ns:h.Ns mainGlobals mg)(ok:okD fn bl cl d N ps st=true)
  (a:PySem.W.nsIn K mainGlobals x=some (some (.ref f))) (l:K.lookup f=some ⟨oc,od,.func (PySem.W.fnOf x x (q1f st) (q0M st) (q0f st) dV kV doc pm an cdv ct),osl⟩)
  (c:PySem.W.codeIn K cdv x=true) (k:PySem.W.keepIn K (.ref f)=true)
  (hb:q2Q K (PySem.W.fnOf x x (q1f st) (q0M st) (q0f st) dV kV doc pm an cdv ct) ps [])
  (dk:(d.dfl≠[]->∃us dvs,q2Q K (PySem.W.fnOf x x (q1f st) (q0M st) (q0f st) dV kV doc pm an cdv ct) ps us/\Vals dvs us/\∀H,RepL ⟨K,mg⟩ H d.dfl dvs)/\∀n,d.kn=some n->KBinds K (PySem.W.fnOf x x (q1f st) (q0M st) (q0f st) dV kV doc pm an cdv ct) ps [n] (q3O ps.length) (q3O ps.length)) :
  Stands K mg fn bl cl d x f (PySem.W.fnOf x x (q1f st) (q0M st) (q0f st) dV kV doc pm an cdv ct) ps:=by
 unfold okD at ok;simp only[Bool.and_eq_true,beq_iff_eq,Bool.not_eq_true',List.all_eq_true,Bool.or_eq_true,beq_eq_false_iff_ne]at ok;obtain⟨⟨⟨⟨⟨⟨⟨⟨⟨h1,h2⟩,h3⟩,h4⟩,h5⟩,h6⟩,h7⟩,h8⟩,h9⟩,h10⟩:=ok;exact⟨dk,PySem.W.mg_of X Ns a,k,hb,h9,x,st,N,⟨oc,od,dV,kV,doc,pm,an,cdv,ct,osl,rfl,l,c⟩,⟨h1,h2,h3,q1S h4,h5,h6,h7⟩,h8,h10⟩
theorem q0i{d:FD}{x:Str}{N ps:List Str}{st:Stmt}{f:Addr}{oc:Value}{od an:Option Addr}{osl:Array (Option Value)}{kV doc pm cdv ct:Value}(X:K.In h)(Ns:h.Ns mainGlobals mg)(ok:okD fn bl cl d N ps st=true)
  (a:PySem.W.nsIn K mainGlobals x=some (some (.ref f))) (l:K.lookup f=some ⟨oc,od,.func (PySem.W.fnOf x x (q1f st) (q0M st) (q0f st) .none kV doc pm an cdv ct),osl⟩)
  (c:PySem.W.codeIn K cdv x=true) (k:PySem.W.keepIn K (.ref f)=true)
  (hb:∀(kV doc pm:Value) (an:Option Addr) (cdv ct:Value) (us:List Value),us.length=ps.length->bindArgs (PySem.W.fnOf x x (q1f st) (q0M st) (q0f st) .none kV doc pm an cdv ct) ⟨us,[]⟩=pure (ps.zip us)) (e1:d.dfl=[]:=by rfl) (e2:d.kn=none:=by rfl) :
  Stands K mg fn bl cl d x f (PySem.W.fnOf x x (q1f st) (q0M st) (q0f st) .none kV doc pm an cdv ct) ps:=
 q9k X Ns ok a l c k (.all (hb kV doc pm an cdv ct)) ⟨λz=>absurd e1 z,λn z=>by rw[e2]at z;cases z⟩
theorem z8M{fd:FuncData}{ps:List Str}{n:Str}(h:∀(s:Shared) (us:List Value) (w:Value),K.In s.heap->us.length+1=ps.length->BindsTo s fd ⟨us,[(n,w)]⟩ (ps.zip (us++[w])))(hp:ps≠[]):KBinds K fd ps [n] (q3O ps.length) (q3O ps.length):=by
 refine⟨λs us ws hK hl=>?_,λr q=>z0o r q⟩;unfold q3O at hl ⊢;split at hl
 ·rename_i c;rw[if_pos c];obtain⟨w,rfl⟩:=List.length_eq_one_iff.mp c.2;exact h s us w hK c.1
 ·exact absurd (List.length_eq_zero_iff.mp hl.symm) hp
theorem z5G{G:Gs}{T:List FD}(e1:G.dfl=[]:=by rfl)(e2:G.kws=[]:=by rfl):DfOk G T:=⟨λf ds q=>(by rw[e1]at q;cases q),λf n q=>(by rw[e2]at q;cases q)⟩
theorem z2a{G:Gs}{p:Prop}(e:G.hun=false:=by rfl):G.hun=true->p:=λz=>by rw[e]at z;cases z
def okH(N ps:List Str)(st:Stmt):Bool:=
 (q0f st).kind == .function && !(q0f st).isCoroutine && !(q0f st).isGenerator&&q4E N&&(N.take ps.length==ps) &&
 ps.all (λx=>(q0f st).names.lookup x==some .local||(q0f st).names.lookup x==some .cell)&&(q0f st).names.all (λy=>!(y.2 == .free)) &&
 N.length==3&&ps.length==2&&corH ⟨N,(q0f st).names,[],[],[],true,true⟩ (q0M st)
theorem z6H{N ps:List Str}{st:Stmt}{f:Addr}{oc:Value}{od an:Option Addr}{osl:Array (Option Value)}{kV doc pm cdv ct:Value}(X:K.In h)(Ns:h.Ns mainGlobals mg)(ok:okH N ps st=true)
  (a:PySem.W.nsIn K mainGlobals q0X=some (some (.ref f))) (l:K.lookup f=some ⟨oc,od,.func (PySem.W.fnOf q0X q0X (q1f st) (q0M st) (q0f st) .none kV doc pm an cdv ct),osl⟩)
  (c:PySem.W.codeIn K cdv q0X=true) (k:PySem.W.keepIn K (.ref f)=true)
  (hb:∀(kV doc pm:Value) (an:Option Addr) (cdv ct:Value) (us:List Value),us.length=ps.length->bindArgs (PySem.W.fnOf q0X q0X (q1f st) (q0M st) (q0f st) .none kV doc pm an cdv ct) ⟨us,[]⟩=pure (ps.zip us)) :
  HStands K mg f (PySem.W.fnOf q0X q0X (q1f st) (q0M st) (q0f st) .none kV doc pm an cdv ct) ps:=by
 unfold okH at ok;simp only[Bool.and_eq_true,beq_iff_eq,Bool.not_eq_true',List.all_eq_true,Bool.or_eq_true,beq_eq_false_iff_ne]at ok;obtain⟨⟨⟨⟨⟨⟨⟨⟨⟨h1,h2⟩,h3⟩,h4⟩,h5⟩,h6⟩,h7⟩,h8⟩,h9⟩,h10⟩:=ok;exact⟨PySem.W.mg_of X Ns a,k,.all (hb kV doc pm an cdv ct),h9,q0X,st,N,⟨oc,od,.none,kV,doc,pm,an,cdv,ct,osl,rfl,l,c⟩,⟨h1,h2,h3,q1S h4,h5,h6,h7⟩,h8,h10⟩
def HS(K:PySem.W.Frag)(mg:Str->Option Value)(fn bl cl:List Str)(T:List FD)(fs:List Str):Prop:=∀(i:Nat) d x,T[i]? = some d->fs[i]? = some x->∃fa fd ps,Stands K mg fn bl cl d x fa fd ps
theorem z8D{fs:List Str}:HS K mg fn bl cl [] fs:=λi d x h=>by cases h
theorem q0t{d:FD}{x:Str}{fs:List Str}{fa:Addr}{fd:FuncData}{ps:List Str}(h:Stands K mg fn bl cl d x fa fd ps)(t:HS K mg fn bl cl T fs):HS K mg fn bl cl (d::T) (x::fs):=λi d' x' h1 h2=>by
 cases i with
 | zero=>cases h1;cases h2;exact⟨_,_,_,h⟩
 | succ i=>exact t i d' x' h1 h2
theorem z7c{H:Hp}:L2.wo [] H=H:=by
 funext b
 unfold L2.wo;simp
def HC(K:PySem.W.Frag)(mg:Str->Option Value)(c:List (Str×DV)):Prop:=∀x d,c.lookup x=some d->∃u v,mg x=some u/\RelV v u/\∀H,Rep ⟨K,mg⟩ H d v
theorem z4x:HC K mg []:=λx d h=>by cases h
theorem z8Y{c:List (Str×DV)}{y:Str}{d:DV}(h:∃u v,mg y=some u/\RelV v u/\∀H,Rep ⟨K,mg⟩ H d v)(t:HC K mg c):HC K mg ((y,d)::c):=λx d' q=>by
 rw[List.lookup_cons]at q;split at q
 ·rename_i e;cases q;rw[eq_of_beq e];exact h
 ·exact t x d' q
def OneL(K:PySem.W.Frag)(mg:Str->Option Value)(G:Gs)(cl:List Str)(l:List (Str×List Str)):Prop:=∀c,(l.lookup c).isSome=true->∃C,XOne K mg G cl c C
theorem z5k{cl:List Str}:OneL K mg G cl []:=λc h=>by cases h
theorem q7M{cl:List Str}{c:Str}{b:List Str}{l:List (Str×List Str)}(h:∃C,XOne K mg G cl c C)(t:OneL K mg G cl l):OneL K mg G cl ((c,b)::l):=λc' q=>by
 rw[List.lookup_cons]at q;split at q
 ·rename_i e;rw[eq_of_beq e];exact h
 ·exact t c' q
def AllL(mg:Str->Option Value)(l:List Str):Prop:=∀t∈l,∃Ct,mg t=some (.ref Ct)
theorem z5d:AllL mg []:=λt h=>by cases h
theorem all_cons{t:Str}{l:List Str}(h:∃Ct,mg t=some (.ref Ct))(r:AllL mg l):AllL mg (t::l):=λt' q=>by
 rcases List.mem_cons.mp q with e | e
 ·rw[e];exact h
 ·exact r t' e
def OwnL(K:PySem.W.Frag)(mg:Str->Option Value)(G:Gs)(c:Str)(C:Addr)(l:List Str):Prop:=∀t∈l,∀Ct,mg t=some (.ref Ct)->PySem.W.kitOne K (.ref C) (.ref Ct)=some (q2P G c t)/\(q2P G c t=true->PySem.W.exmOne K (.ref C) (.ref Ct)=some true)
theorem q9T{c:Str}{C:Addr}:OwnL K mg G c C []:=λt h=>by cases h
theorem q3V{c t:Str}{C Ct:Addr}{l:List Str}(m:mg t=some (.ref Ct))(h:PySem.W.kitOne K (.ref C) (.ref Ct)=some (q2P G c t)/\(q2P G c t=true->PySem.W.exmOne K (.ref C) (.ref Ct)=some true))(r:OwnL K mg G c C l):OwnL K mg G c C (t::l):=λt' q Ct' m'=>by
 rcases List.mem_cons.mp q with e | e
 ·subst e;cases m.symm.trans m';exact h
 ·exact r t' e Ct' m'
def spS(K:PySem.W.Frag):Sp:=λvs H Q _=>∃(a:Addr) (ns:List Int),vs=[.ref a]/\ns.length<=63/\SqS K H a (ns.map V.int)/\∀H',Q (.bl true) H'
def DCL(K:PySem.W.Frag)(w:World)(mg:Str->Option Value)(l:List (Str×List (Str×Str))):Prop:=∀x kvs,l.lookup x=some kvs->q9S K w mg x kvs
theorem z4P{w:World}:DCL K w mg []:=λx kvs h=>by cases h
theorem z8W{w:World}{y:Str}{kv:List (Str×Str)}{l:List (Str×List (Str×Str))}(h:q9S K w mg y kv)(t:DCL K w mg l):DCL K w mg ((y,kv)::l):=λx kvs q=>by
 rw[List.lookup_cons]at q;split at q
 ·rename_i e;cases q;rw[beq_iff_eq.mp e];exact h
 ·exact t x kvs q
def KVL(K:PySem.W.Frag)(a:Addr)(l:List (Str×Str)):Prop:=∀k v,l.lookup k=some v->v.length<=sizeLine/\∃t,PySem.W.nsIn K a k=some (some (.str v t))
theorem z9Y{a:Addr}:KVL K a []:=λk v h=>by cases h
theorem z8X{a:Addr}{k v:Str}{t:Tok}{l:List (Str×Str)}(h1:v.length<=sizeLine)(h2:PySem.W.nsIn K a k=some (some (.str v t)))(r:KVL K a l):KVL K a ((k,v)::l):=λk' v' q=>by
 rw[List.lookup_cons]at q;split at q
 ·rename_i e;cases q;rw[beq_iff_eq.mp e];exact⟨h1,t,h2⟩
 ·exact r k' v' q
theorem z2s{k i:Nat}{d:FD}{x p:Str}{fa:Addr}{fd:FuncData}(hT:T.length=fn.length)(hs:HS K mg fn bl cl T fn)(hbl:∀x∈bl,mg x=none)(hxf:XFacts K mg G cl)
  (hcon:∀x d,G.con.lookup x=some d->∃u v,mg x=some u/\RelV v u/\∀H,Rep ⟨K,mg⟩ H d v) (hdc:∀x kvs,G.dcs.lookup x=some kvs->q9S K w mg x kvs) (hdf:DfOk G T) (hh:G.hun=true->T.length<=q5Q/\∃fa fd ps,mg q0X=some (.ref fa)/\PySem.W.keepIn K (.ref fa)=true/\q2Q K fd ps []/\∀k,FnOk P w K mg base (CXx P w base) k fa fd ps (spH ⟨K,mg⟩ (q7o k))) (h1:T[i]? = some d) (h2:fn[i]? = some x) (S:Stands K mg fn bl cl d x fa fd [p])
  (law:∀ns:List Int,ns.length<=63->run G T fu k i [.scr ns]=some (.v (.bl true) false)):FnOk P w K mg base CX0 k fa fd [p] (spS K):=by
 have R:=z3P (P:=P) (w:=w) (base:=base) (fu:=fu) hT hs hbl hxf hcon hdc hdf hh k i d x fa fd [p] h1 h2 S;refine⟨λvs H Q E h=>?_,λA outer s H args us vs Q E hr he hb hv h=>?_⟩
 ·obtain⟨a,ns,rfl,_⟩:=h;rfl
 ·obtain⟨a,ns,rfl,hl,hS,hq⟩:=h;refine codeAny_mono (R.run A outer s H args us [.ref a] Q E0 hr he hb hv ⟨[],[.scr ns],_,(λa ha=>(nomatch ha)),rfl,?_,law ns hl,λv H' _ g=>?_⟩) λr s' q=>?_
  ·refine RepL.one (q2d.mpr ⟨a,rfl,?_⟩);rw[z7c];exact hS
  ·have g':Rep ⟨K,mg⟩ (L2.wo [] H') (.bl true) v:=g;rw[q4y]at g';subst g';exact hq H'
  ·cases r with
   | error e=>
    obtain⟨_,_,_,_,_,_,_,_,_,_,z⟩:=(q:CXx P w base outer H s E0 e s');exact z.elim
   | ok fl=>cases fl<;>first | exact False.elim q | exact q
end
theorem walkE{l:PySem.W.OpenLaw}{q:Program}{loose:List Str}{XP:(Str->Option Value)->Heap->Prop}{YP:World->Heap->Prop}{d:DefRec}{K:Params->PySem.W.Frag}{k:Nat}{p:Str}(hn:l.most=some 63)(hdf:d.params.defaults=[])(hr:Room k callerA)
  (hY:∀(w:World) (h:Heap),YP w h->(K w.params).In h)
  (F:∀(w:World) (mg:Str->Option Value) (fa:Addr) (h:Heap),(K w.params).In h->h.Ns mainGlobals mg->mg d.name=some (.ref fa) ->
   ∃fd:FuncData,(∀(s:Shared) (u:Value),BindsTo s fd ⟨[u],[]⟩ [(p,u)])/\∀base:Heap,(K w.params).In base->base.Ns mainGlobals mg->FnOk l.prog w (K w.params) mg base CX0 k fa fd [p] (spS (K w.params))) :
  PySem.W.WalkO q loose XP YP l.row.toRowW d [] (λf vs=>PySem.call f vs):=
 L2.walk_of (n:=63) (k:=k) (x:=p) (CX:=λ_=>CX0) (sp:=λw=>spS (K w.params)) hn (by decide) hdf hr hY F (λ_ _ a ns hl hO hS=>⟨a,ns,rfl,hl,SqS.of hO hS,λ_=>rfl⟩) λ_ _ _ _ _ z=>z
end L2
end
noncomputable section
namespace rk
def sm(f:Nat->Int):Nat->Int
 | 0=>0
 | n+1=>sm f n+f n
theorem sm_congr{f g:Nat->Int}:∀{n:Nat},(∀i,i<n->f i=g i)->sm f n=sm g n
 | 0,_=>rfl
 | n+1,h=>by show sm f n+f n=sm g n+g n;rw[sm_congr (λi hi=>h i (by omega)),h n (by omega)]
theorem q4t:∀{n:Nat} {f:Nat->Int},(∀i,i<n->f i=0)->sm f n=0
 | 0,_,_=>rfl
 | n+1,f,h=>by show sm f n+f n=0;rw[q4t (λi hi=>h i (by omega)),h n (by omega)];rfl
theorem q1R(a:Int)(f:Nat->Int):∀n,sm (λi=>a*f i) n=a*sm f n
 | 0=>by show(0:Int)=a*0;rw[Int.mul_zero]
 | n+1=>by show sm (λi=>a*f i) n+a*f n=a*(sm f n+f n);rw[q1R a f n,Int.mul_add]
theorem q8C(f g:Nat->Int):∀n,sm (λi=>f i+g i) n=sm f n+sm g n
 | 0=>rfl
 | n+1=>by show sm (λi=>f i+g i) n+(f n+g n)=(sm f n+f n)+(sm g n+g n);rw[q8C f g n];omega
theorem q7U(f g:Nat->Int):∀n,sm (λi=>f i - g i) n=sm f n - sm g n
 | 0=>rfl
 | n+1=>by show sm (λi=>f i - g i) n+(f n - g n)=(sm f n+f n) - (sm g n+g n);rw[q7U f g n];omega
theorem q7H(f:Nat->Nat->Int)(m:Nat):∀n,sm (λi=>sm (f i) m) n=sm (λj=>sm (λi=>f i j) n) m
 | 0=>by symm;exact q4t λ_ _=>rfl
 | n+1=>by show sm (λi=>sm (f i) m) n+sm (f n) m=sm (λj=>sm (λi=>f i j) n+f n j) m;rw[q7H f m n,q8C (λj=>sm (λi=>f i j) n) (λj=>f n j)]
def sk(p i:Nat):Nat:=if i<p then i else i+1
def usk(p i:Nat):Nat:=if i<p then i else i - 1
theorem z6X(p i:Nat):sk p i≠p:=by unfold sk;split<;>omega
theorem z3I(p i:Nat):usk p (sk p i)=i:=by
 unfold usk sk;by_cases h:i<p
 ·rw[if_pos h,if_pos h]
 ·rw[if_neg h,if_neg (by omega)];omega
theorem z9i{p i r:Nat}(h:i<r):sk p i<r+1:=by unfold sk;split<;>omega
theorem z1t(f:Nat->Int)(p:Nat):∀r,p<=r->sm f (r+1)=f p+sm (λi=>f (sk p i)) r
 | 0,h=>by
  have:p=0:=by omega
  subst this;show 0+f 0=f 0+0;omega
 | r+1,h=>by
  show sm f (r+1)+f (r+1)=f p+(sm (λi=>f (sk p i)) r+f (sk p r));by_cases q:p=r+1
  ·subst q;have e:sm (λi=>f (sk (r+1) i)) r=sm f r:=sm_congr λi hi=>by
    show f (sk (r+1) i)=f i;unfold sk;rw[if_pos (by omega)]
   have e2:sk (r+1) r=r:=by unfold sk;rw[if_pos (by omega)]
   rw[e,e2];show sm f r+f r+f (r+1)=_;omega
  ·have e2:sk p r=r+1:=by unfold sk;rw[if_neg (by omega)]
   rw[z1t f p r (by omega),e2];omega
theorem dep:∀(k r:Nat) (A:Nat->Nat->Int),k<r->∃c:Nat->Int,(∃i,i<r/\c i≠0)/\∀j,j<k->sm (λi=>c i*A i j) r=0
 | 0,r,A,h=>⟨λ_=>1,⟨0,h,by decide⟩,λj hj=>absurd hj (Nat.not_lt_zero j)⟩
 | k+1,r,A,h=>by
  by_cases q:∃p,p<r/\A p k≠0
  ·obtain⟨p,hp,hA⟩:=q;obtain⟨r',rfl⟩:∃r',r=r'+1:=⟨r - 1,by omega⟩;obtain⟨c,⟨i,hi,hc⟩,hs⟩:=dep k r' (λi j=>A p k*A (sk p i) j - A (sk p i) k*A p j) (by omega);have key:∀j,sm (λi=>(if i=p then -(sm (λi=>c i*A (sk p i) k) r')else A p k*c (usk p i))*A i j) (r'+1)=sm (λi=>c i*(A p k*A (sk p i) j - A (sk p i) k*A p j)) r':=λj=>by
    rw[z1t _ p r' (by omega)];rw[if_pos rfl];have e:∀i,(if sk p i=p then -(sm (λi=>c i*A (sk p i) k) r')else A p k*c (usk p (sk p i)))=A p k*c i:=λi=>by rw[if_neg (z6X p i),z3I]
    rw[show(λi=>(if sk p i=p then -(sm (λi=>c i*A (sk p i) k) r')else A p k*c (usk p (sk p i)))*A (sk p i) j)=λi=>A p k*c i*A (sk p i) j from funext λi=>by rw[e i]];rw[show(λi=>c i*(A p k*A (sk p i) j - A (sk p i) k*A p j))=λi=>A p k*c i*A (sk p i) j - A p j*(c i*A (sk p i) k)from funext λi=>by
     rw[Int.mul_sub]
     congr 1
     ·rw[←Int.mul_assoc,Int.mul_comm (c i)]
     ·rw[←Int.mul_assoc,Int.mul_comm]]
    rw[q7U (λi=>A p k*c i*A (sk p i) j) (λi=>A p j*(c i*A (sk p i) k)),q1R (A p j) (λi=>c i*A (sk p i) k),Int.neg_mul,Int.mul_comm (sm _ _) (A p j)];omega
   refine⟨λi=>if i=p then -(sm (λi=>c i*A (sk p i) k) r')else A p k*c (usk p i),⟨sk p i,z9i hi,?_⟩,λj hj=>?_⟩
   ·show(if sk p i=p then _ else A p k*c (usk p (sk p i)))≠0;rw[if_neg (z6X p i),z3I];exact Int.mul_ne_zero hA hc
   ·rw[key j];by_cases z:j<k
    ·exact hs j z
    ·have:j=k:=by omega
     subst this;exact q4t λi _=>by show c i*(A p j*A (sk p i) j - A (sk p i) j*A p j)=0;rw[Int.mul_comm (A p j),Int.sub_self,Int.mul_zero]
  ·obtain⟨c,hc,hs⟩:=dep k r A (by omega);refine⟨c,hc,λj hj=>?_⟩;by_cases z:j<k
   ·exact hs j z
   ·have:j=k:=by omega
    subst this;exact q4t λi hi=>by have:A i j=0:=Classical.byContradiction λn=>q ⟨i,hi,n⟩;show c i*A i j=0;rw[this,Int.mul_zero]
theorem z3J(r k:Nat)(A:Nat->Nat->Int):∀(n:Nat) (c:Nat->Int) (i:Nat),i<r->c i≠0->(c i).natAbs<=n->(∀j,j<k->sm (λi=>c i*A i j) r=0)->∃c:Nat->Int,(∃i,i<r/\c i%2=1)/\∀j,j<k->sm (λi=>c i*A i j) r=0
 | 0,c,i,hi,hc,hn,hs=>absurd (Int.natAbs_eq_zero.mp (by omega)) hc
 | n+1,c,i,hi,hc,hn,hs=>by
  by_cases q:∃i,i<r/\c i%2=1
  ·exact⟨c,q,hs⟩
  ·have ev:∀i,i<r->c i=2*(c i/2):=λi hi=>by
    have:¬c i%2=1:=λz=>q ⟨i,hi,z⟩;omega
   refine z3J r k A n (λi=>c i/2) i hi ?_ ?_ λj hj=>?_
   ·have:=ev i hi;intro z;have z':c i/2=0:=z;rw[z']at this;exact hc (by omega)
   ·have:=ev i hi;show(c i/2).natAbs<=n;omega
   ·have e:sm (λi=>c i*A i j) r=2*sm (λi=>c i/2*A i j) r:=by
     rw[←q1R 2 (λi=>c i/2*A i j)];exact sm_congr λi hi=>by show c i*A i j=2*(c i/2*A i j);rw[←Int.mul_assoc,←ev i hi]
    have:=hs j hj;rw[e]at this;show sm (λi=>c i/2*A i j) r=0;omega
theorem z4R{k r:Nat}(A:Nat->Nat->Int)(h:k<r):∃c:Nat->Int,(∃i,i<r/\c i%2=1)/\∀j,j<k->sm (λi=>c i*A i j) r=0:=by
 obtain⟨c,⟨i,hi,hc⟩,hs⟩:=dep k r A h;exact z3J r k A _ c i hi hc (Nat.le_refl _) hs
end rk
end
noncomputable section
namespace rk
structure Pr(P:Int->Prop):Prop where
 zero:P 0
 add:∀{a b},P a->P b->P (a+b)
 mul:∀c {a},P a->P (c*a)
 prime:∀{a b},P (a*b)->P a\/P b
 one:¬P 1
 dep:∀(k r:Nat) (A:Nat->Nat->Int),k<r->∃c:Nat->Int,(∃i,i<r/\¬P (c i))/\∀j,j<k->P (sm (λi=>c i*A i j) r)
def P0(a:Int):Prop:=a=0
def P2(a:Int):Prop:=a%2=0
theorem pr0:Pr P0 where
 zero:=rfl
 add:=λh g=>by show _=_;rw[show _=(0:Int)from h,show _=(0:Int)from g];rfl
 mul:=λc a h=>by show c*a=0;rw[show a=0 from h,Int.mul_zero]
 prime:=λh=>Int.mul_eq_zero.mp h
 one:=by intro h;cases h
 dep:=λk r A h=>by obtain⟨c,⟨i,hi,hc⟩,hs⟩:=rk.dep k r A h;exact⟨c,⟨i,hi,hc⟩,hs⟩
theorem pr2:Pr P2 where
 zero:=rfl
 add:=λ{a b} h g=>by have h':a%2=0:=h;have g':b%2=0:=g;show(a+b)%2=0;omega
 mul:=λc {a} h=>by show c*a%2=0;rw[Int.mul_emod,show a%2=0 from h,Int.mul_zero];rfl
 prime:=λ{a b} h=>by
  have h':a*b%2=0:=h;rw[Int.mul_emod]at h';rcases Int.emod_two_eq a with p | p
  ·exact .inl p
  ·rcases Int.emod_two_eq b with q | q
   ·exact .inr q
   ·rw[p,q]at h';cases h'
 one:=by intro h;cases h
 dep:=λk r A h=>by
  obtain⟨c,⟨i,hi,hc⟩,hs⟩:=z4R A h;refine⟨c,⟨i,hi,λz=>?_⟩,λj hj=>?_⟩
  ·have z':c i%2=0:=z;omega
  ·show _%2=0;rw[hs j hj];rfl
section
variable {P:Int->Prop} (R:Pr P)
include R
theorem Pr.neg{a:Int}(h:P a):P (-a):=by have:=R.mul (-1) h;rw[Int.neg_mul,Int.one_mul]at this;exact this
theorem Pr.sub{a b:Int}(h:P a)(g:P b):P (a - b):=by rw[Int.sub_eq_add_neg];exact R.add h (R.neg g)
theorem Pr.mulr(c:Int){a:Int}(h:P a):P (a*c):=by rw[Int.mul_comm];exact R.mul c h
theorem Pr.sum{f:Nat->Int}{n:Nat}(h:∀i,i<n->P (f i)):P (sm f n):=by
 induction n with
 | zero=>exact R.zero
 | succ n ih=>exact R.add (ih λi hi=>h i (by omega)) (h n (by omega))
end
def Ind(P:Int->Prop)(v:Nat->Nat->Int)(n m:Nat):Prop:=∀c:Nat->Int,(∀j,j<m->P (sm (λi=>c i*v i j) n))->∀i,i<n->P (c i)
def InSp(P:Int->Prop)(w:Nat->Nat->Int)(k m:Nat)(x:Nat->Int):Prop:=∃(d:Int) (a:Nat->Int),¬P d/\∀j,j<m->P (d*x j - sm (λs=>a s*w s j) k)
section
variable {P:Int->Prop} (R:Pr P)
include R
theorem exch{v w:Nat->Nat->Int}{c k m:Nat}(hv:Ind P v c m)(hw:∀i,i<c->InSp P w k m (v i)):c<=k:=by
 refine Nat.le_of_not_lt λlt=>?_;have hw':∀i,∃da:Int×(Nat->Int),i<c->¬P da.1/\∀j,j<m->P (da.1*v i j - sm (λs=>da.2 s*w s j) k):=λi=>by
  by_cases h:i<c
  ·obtain⟨d,a,q⟩:=hw i h;exact⟨(d,a),λ_=>q⟩
  ·exact⟨(0,λ_=>0),λz=>absurd z h⟩
 obtain⟨da,hda'⟩:=Classical.axiomOfChoice hw';obtain⟨d,hd⟩:∃d:Nat->Int,d=λi=>(da i).1:=⟨_,rfl⟩
 obtain⟨a,ha⟩:∃a:Nat->Nat->Int,a=λi=>(da i).2:=⟨_,rfl⟩
 have hda:∀i,i<c->¬P (d i)/\∀j,j<m->P (d i*v i j - sm (λs=>a i s*w s j) k):=λi hi=>by rw[hd,ha];exact hda' i hi
 obtain⟨z,⟨i,hi,hz⟩,hs⟩:=R.dep k c (λi s=>a i s) lt;have q:=hv (λi=>z i*d i) (λj hj=>?_) i hi
 ·rcases R.prime q with q | q
  ·exact hz q
  ·exact(hda i hi).1 q
 ·have e:sm (λi=>z i*d i*v i j) c=sm (λi=>z i*(d i*v i j - sm (λs=>a i s*w s j) k)) c+sm (λs=>w s j*sm (λi=>z i*a i s) c) k:=by
   have e2:sm (λs=>w s j*sm (λi=>z i*a i s) c) k=sm (λi=>z i*sm (λs=>a i s*w s j) k) c:=by
    rw[sm_congr (g:=λs=>sm (λi=>w s j*(z i*a i s)) c) (λs _=>(q1R (w s j) (λi=>z i*a i s) c).symm)];rw[sm_congr (f:=λi=>z i*sm (λs=>a i s*w s j) k) (g:=λi=>sm (λs=>z i*(a i s*w s j)) k) (λi _=>(q1R (z i) (λs=>a i s*w s j) k).symm)];rw[q7H (λi s=>z i*(a i s*w s j)) k c];refine sm_congr λs _=>sm_congr λi _=>?_
    rw[Int.mul_comm (w s j),Int.mul_assoc]
   rw[e2,←q8C];refine sm_congr λi _=>?_
   rw[Int.mul_sub,Int.sub_add_cancel,Int.mul_assoc]
  show P (sm (λi=>z i*d i*v i j) c);rw[e];exact R.add (R.sum λi hi=>R.mul _ ((hda i hi).2 j hj)) (R.sum λs hs'=>R.mul _ (hs s hs'))
theorem q7O{v:Nat->Nat->Int}{b e:Nat->Nat}{n m r k:Nat}(hb:∀t,t<r->b t<n)(hv:Ind P (λt=>v (b t)) r m)(he:∀j,j<m->InSp P (λs i=>v i (e s)) k n (λi=>v i j)):Ind P (λt s=>v (b t) (e s)) r k:=by
 intro z hs t ht;refine hv z (λj hj=>?_) t ht;obtain⟨d,a,hd,ha⟩:=he j hj;have q:P (d*sm (λt=>z t*v (b t) j) r):=by
  have e:d*sm (λt=>z t*v (b t) j) r=sm (λt=>z t*(d*v (b t) j - sm (λs=>a s*v (b t) (e s)) k)) r+sm (λs=>a s*sm (λt=>z t*v (b t) (e s)) r) k:=by
   have e2:sm (λs=>a s*sm (λt=>z t*v (b t) (e s)) r) k=sm (λt=>z t*sm (λs=>a s*v (b t) (e s)) k) r:=by
    rw[sm_congr (g:=λs=>sm (λt=>a s*(z t*v (b t) (e s))) r) (λs _=>(q1R (a s) (λt=>z t*v (b t) (e s)) r).symm)];rw[sm_congr (f:=λt=>z t*sm (λs=>a s*v (b t) (e s)) k) (g:=λt=>sm (λs=>z t*(a s*v (b t) (e s))) k) (λt _=>(q1R (z t) (λs=>a s*v (b t) (e s)) k).symm)];rw[q7H (λt s=>z t*(a s*v (b t) (e s))) k r];refine sm_congr λs _=>sm_congr λt _=>?_
    rw[←Int.mul_assoc,Int.mul_comm (a s),Int.mul_assoc]
   rw[e2,←q8C,←q1R d (λt=>z t*v (b t) j)];refine sm_congr λt _=>?_
   rw[Int.mul_sub,Int.sub_add_cancel,←Int.mul_assoc,Int.mul_comm d,Int.mul_assoc]
  rw[e];exact R.add (R.sum λt ht=>R.mul _ (ha (b t) (hb t ht))) (R.sum λs hs'=>R.mul _ (hs s hs'))
 rcases R.prime q with q | q
 ·exact absurd q hd
 ·exact q
theorem cols{v:Nat->Nat->Int}{b e:Nat->Nat}{n m r k:Nat}(hb:∀t,t<r->b t<n)(hv:Ind P (λt=>v (b t)) r m)(he:∀j,j<m->InSp P (λs i=>v i (e s)) k n (λi=>v i j)):r<=k:=by
 refine Nat.le_of_not_lt λlt=>?_;obtain⟨z,⟨t,ht,hz⟩,hs⟩:=R.dep k r (λt s=>v (b t) (e s)) lt;exact hz (q7O R hb hv he z hs t ht)
end
end rk
end
noncomputable section
namespace rk
variable {α β:Type}
def alt(f:α->List α->Int):List α->Int
 | []=>0
 | c::cs=>f c cs - alt (λd ds=>f d (c::ds)) cs
theorem alt_congr{f g:α->List α->Int}:∀{cs:List α},(∀d ds,ds.length+1=cs.length->f d ds=g d ds)->alt f cs=alt g cs
 | [],_=>rfl
 | c::cs,h=>by unfold alt;rw[h c cs rfl,alt_congr (cs:=cs) λd ds hd=>h d (c::ds) (by rw[List.length_cons,List.length_cons];omega)]
theorem z1E{f g:α->List α->Int}:∀{cs:List α},alt (λd ds=>f d ds+g d ds) cs=alt f cs+alt g cs
 | []=>rfl
 | c::cs=>by unfold alt;rw[z1E];omega
theorem q5F{f g:α->List α->Int}:∀{cs:List α},alt (λd ds=>f d ds - g d ds) cs=alt f cs - alt g cs
 | []=>rfl
 | c::cs=>by unfold alt;rw[q5F];omega
theorem q2T{f:α->List α->Int}(t:Int):∀{cs:List α},alt (λd ds=>t*f d ds) cs=t*alt f cs
 | []=>by unfold alt;omega
 | c::cs=>by unfold alt;rw[q2T t,Int.mul_sub]
theorem q6b:∀{cs:List α},alt (λ_ _=>0) cs=0
 | []=>rfl
 | c::cs=>by unfold alt;rw[q6b];rfl
theorem q8b{F:α->List α->β->List β->Int}:∀{cs:List α} {rs:List β},alt (λd ds=>alt (λs ss=>F d ds s ss) rs) cs=alt (λs ss=>alt (λd ds=>F d ds s ss) cs) rs
 | [],rs=>by show 0=alt (λs ss=>0) rs;rw[q6b]
 | c::cs,rs=>by show alt (λs ss=>F c cs s ss) rs - alt (λd ds=>alt (λs ss=>F d (c::ds) s ss) rs) cs=alt (λs ss=>F c cs s ss - alt (λd ds=>F d (c::ds) s ss) cs) rs;rw[q5F,q8b (cs:=cs)]
theorem q8m{F:α->α->List α->Int}:∀{cs:List α},alt (λd ds=>alt (λd' ds'=>F d d' ds') ds) cs = - alt (λd ds=>alt (λd' ds'=>F d' d ds') ds) cs
 | []=>rfl
 | c::cs=>by show alt (λd' ds'=>F c d' ds') cs - alt (λd ds=>F d c ds - alt (λd' ds'=>F d d' (c::ds')) ds) cs = - (alt (λd' ds'=>F d' c ds') cs - alt (λd ds=>F c d ds - alt (λd' ds'=>F d' d (c::ds')) ds) cs);rw[q5F,q5F,q8m (F:=λd d' ds'=>F d d' (c::ds')) (cs:=cs)];exact(by intro p q r;omega:∀p q r:Int,p - (q - -r) = -(q - (p - r))) _ _ _
abbrev Rw:=Nat->Int
def dt:List Rw->List Nat->Int
 | [],_=>1
 | r::rs,cs=>alt (λd ds=>r d*dt rs ds) cs
def et:List Rw->List Nat->Int
 | _,[]=>1
 | rs,c::cs=>alt (λs ss=>s c*et ss cs) rs
theorem q9q:∀(n:Nat) (rs:List Rw) (cs:List Nat),rs.length=n->cs.length=n->dt rs cs=et rs cs
 | 0,rs,cs,h1,h2=>by rw[List.length_eq_zero_iff.mp h1,List.length_eq_zero_iff.mp h2];rfl
 | n+1,r::rs,c::cs,h1,h2=>by
  have l1:rs.length=n:=Nat.succ.inj h1;have l2:cs.length=n:=Nat.succ.inj h2;show r c*dt rs cs - alt (λd ds=>r d*dt rs (c::ds)) cs=r c*et rs cs - alt (λs ss=>s c*et (r::ss) cs) rs;rw[q9q n rs cs l1 l2];have e1:alt (λd ds=>r d*dt rs (c::ds)) cs=alt (λd ds=>alt (λs ss=>r d*(s c*dt ss ds)) rs) cs:=alt_congr λd ds hd=>by
   rw[q9q n rs (c::ds) l1 (by rw[List.length_cons];omega)];show r d*alt (λs ss=>s c*et ss ds) rs=_;rw[←q2T];refine alt_congr λs ss hs=>?_
   obtain⟨m,rfl⟩:∃m,n=m+1:=⟨n - 1,by omega⟩;rw[q9q m ss ds (by omega) (by omega)]
  have e2:alt (λs ss=>s c*et (r::ss) cs) rs=alt (λs ss=>alt (λd ds=>r d*(s c*dt ss ds)) cs) rs:=alt_congr λs ss hs=>by
   rw[←q9q n (r::ss) cs (by rw[List.length_cons];omega) l2];show s c*alt (λd ds=>r d*dt ss ds) cs=_;rw[←q2T];exact alt_congr λd ds hd=>by rw[Int.mul_left_comm]
  rw[e1,e2,q8b]
 | n+1,[],cs,h1,h2=>by cases h1
 | n+1,r::rs,[],h1,h2=>by cases h2
theorem q6h{P Q:List Rw}{t:Int}(h:∀cs,dt P cs=t*dt Q cs):∀(A:List Rw) (cs:List Nat),dt (A++P) cs=t*dt (A++Q) cs
 | [],cs=>h cs
 | a::A,cs=>by
  show alt (λd ds=>a d*dt (A++P) ds) cs=t*alt (λd ds=>a d*dt (A++Q) ds) cs;rw[←q2T];exact alt_congr λd ds _=>by rw[q6h h A ds,Int.mul_left_comm]
theorem z3u(a b:Rw)(C:List Rw)(cs:List Nat):dt (a::b::C) cs = -1*dt (b::a::C) cs:=by
 show alt (λd ds=>a d*alt (λd' ds'=>b d'*dt C ds') ds) cs = -1*alt (λd ds=>b d*alt (λd' ds'=>a d'*dt C ds') ds) cs;have e1:alt (λd ds=>a d*alt (λd' ds'=>b d'*dt C ds') ds) cs=alt (λd ds=>alt (λd' ds'=>a d*(b d'*dt C ds')) ds) cs:=alt_congr λd ds _=>by rw[q2T]
 have e2:alt (λd ds=>b d*alt (λd' ds'=>a d'*dt C ds') ds) cs=alt (λd ds=>alt (λd' ds'=>a d'*(b d*dt C ds')) ds) cs:=alt_congr λd ds _=>by
  rw[←q2T];exact alt_congr λd' ds' _=>by rw[Int.mul_left_comm]
 rw[e1,e2,q8m];omega
theorem q3x(a:Rw):∀(B C:List Rw) (cs:List Nat),dt (a::(B++C)) cs=(-1)^B.length*dt (B++a::C) cs
 | [],C,cs=>by show dt (a::C) cs=1*dt (a::C) cs;rw[Int.one_mul]
 | b::B,C,cs=>by
  show dt (a::b::(B++C)) cs=(-1)^(B.length+1)*dt ([b]++(B++a::C)) cs;rw[z3u,show b::a::(B++C)=[b]++(a::(B++C))from rfl,q6h (q3x a B C) [b] cs,Int.pow_succ,←Int.mul_assoc]
  congr 1
  rw[Int.mul_comm]
theorem z3R(n:Nat):((-1:Int)^n)*(-1)^n=1:=by
 induction n with
 | zero=>rfl
 | succ n ih=>
  rw[Int.pow_succ,Int.mul_comm _ (-1),Int.mul_assoc,Int.mul_comm ((-1:Int)^n),←Int.mul_assoc,←Int.mul_assoc];show(-1 * -1*(-1)^n)*(-1)^n=1;rw[show(-1:Int) * -1=1 from rfl,Int.one_mul,ih]
theorem z4p(A B C:List Rw)(x y:Rw)(cs:List Nat):dt (A++y::(B++x::C)) cs = - dt (A++x::(B++y::C)) cs:=by
 have h:∀cs,dt (y::(B++x::C)) cs = -1*dt (x::(B++y::C)) cs:=λcs=>by rw[q3x y B (x::C) cs,q3x x B (y::C) cs,q6h (z3u y x C) B cs,←Int.mul_assoc,←Int.mul_assoc,Int.mul_comm ((-1)^B.length) (-1)]
 rw[q6h h A cs];omega
theorem z3l(A C:List Rw)(x:Rw)(t:Int)(cs:List Nat):dt (A++(λc=>t*x c)::C) cs=t*dt (A++x::C) cs:=by
 refine q6h (λcs=>?_) A cs;show alt (λd ds=>t*x d*dt C ds) cs=t*alt (λd ds=>x d*dt C ds) cs;rw[←q2T];exact alt_congr λd ds _=>by rw[Int.mul_assoc]
end rk
end
noncomputable section
namespace rk
def comb:List Int->List Rw->Rw
 | a::z,r::rs=>λc=>a*r c+comb z rs c
 | _,_=>λ_=>0
theorem q4c(z:List Int):comb z []=λ_=>0:=by cases z<;>rfl
theorem q2E:∀(z:List Int) (rs:List Rw) (z':List Int) (rs':List Rw) (c:Nat),z.length=rs.length->comb (z++z') (rs++rs') c=comb z rs c+comb z' rs' c
 | [],[],z',rs',c,_=>by show comb z' rs' c=0+comb z' rs' c;rw[Int.zero_add]
 | a::z,r::rs,z',rs',c,h=>by show a*r c+comb (z++z') (rs++rs') c=a*r c+comb z rs c+comb z' rs' c;rw[q2E z rs z' rs' c (Nat.succ.inj h),Int.add_assoc]
theorem z1j(x y:Rw)(C:List Rw)(cs:List Nat):dt ((λc=>x c+y c)::C) cs=dt (x::C) cs+dt (y::C) cs:=by
 show alt (λd ds=>(x d+y d)*dt C ds) cs=alt (λd ds=>x d*dt C ds) cs+alt (λd ds=>y d*dt C ds) cs;rw[←z1E];exact alt_congr λd ds _=>by rw[Int.add_mul]
theorem q4b(x:Rw)(t:Int)(C:List Rw)(cs:List Nat):dt ((λc=>t*x c)::C) cs=t*dt (x::C) cs:=z3l [] C x t cs
theorem z1n(C:List Rw)(cs:List Nat):dt ((λ_=>0)::C) cs=0:=by
 show alt (λd ds=>0*dt C ds) cs=0;rw[alt_congr (g:=λ_ _=>0) λd ds _=>by rw[Int.zero_mul]];exact q6b
theorem z3z{x:Rw}{C:List Rw}(h:x∈C)(cs:List Nat):dt (x::C) cs=0:=by
 obtain⟨B,D,rfl⟩:=List.append_of_mem h;have:=z4p [] B D x x cs;have e:dt (x::(B++x::D)) cs = - dt (x::(B++x::D)) cs:=this;omega
theorem z1H:∀(z:List Int) (B:List Rw) {C:List Rw} (cs:List Nat),(∀r∈B,r∈C)->dt (comb z B::C) cs=0
 | z,[],C,cs,_=>by rw[q4c];exact z1n C cs
 | [],r::B,C,cs,_=>z1n C cs
 | a::z,r::B,C,cs,h=>by show dt ((λc=>(λc=>a*r c) c+comb z B c)::C) cs=0;rw[z1j (λc=>a*r c) (comb z B),q4b,z3z (h r List.mem_cons_self),z1H z B cs λq hq=>h q (List.mem_cons_of_mem _ hq)];rw[Int.mul_zero];rfl
section
variable {P:Int->Prop} (R:Pr P)
include R
theorem z6I{α:Type}:∀{cs:List α} {f:α->List α->Int},(∀d∈cs,∀ds,P (f d ds))->P (alt f cs):=by
 intro cs
 induction cs with
 | nil=>intro f _;exact R.zero
 | cons c cs ih=>
  intro f h;exact R.sub (h c List.mem_cons_self cs) (ih λd hd ds=>h d (List.mem_cons_of_mem _ hd) (c::ds))
theorem fr_P{x:Rw}{C:List Rw}{cs:List Nat}(h:∀c∈cs,P (x c)):P (dt (x::C) cs):=z6I R λd hd ds=>R.mulr _ (h d hd)
theorem z8u{A C:List Rw}{x:Rw}{cs:List Nat}:P (dt (A++x::C) cs)↔P (dt (x::(A++C)) cs):=by
 constructor
 ·intro h;rw[q3x];exact R.mul _ h
 ·intro h;rw[q3x]at h;have:=R.mul ((-1)^A.length) h;rw[←Int.mul_assoc,z3R,Int.one_mul]at this;exact this
theorem z0n{a:Int}{z:List Int}{x:Rw}{C:List Rw}{cs:List Nat}(ha:¬P a)(h:∀c∈cs,P (comb (a::z) (x::C) c)):P (dt (x::C) cs):=by
 have e:dt (comb (a::z) (x::C)::C) cs=a*dt (x::C) cs:=(by show dt ((λc=>(λc=>a*x c) c+comb z C c)::C) cs=_;rw[z1j (λc=>a*x c) (comb z C),q4b,z1H z C cs λ_ q=>q,Int.add_zero]);have q:P (dt (comb (a::z) (x::C)::C) cs):=fr_P R h;rw[e]at q;rcases R.prime q with q | q
 ·exact absurd q ha
 ·exact q
def Dpd(P:Int->Prop)(rs:List Rw)(cs:List Nat):Prop:=∃z:List Int,z.length=rs.length/\(∃a∈z,¬P a)/\∀c∈cs,P (comb z rs c)
theorem z8R{rs:List Rw}{cs:List Nat}(h:Dpd P rs cs):P (dt rs cs):=by
 obtain⟨z,hl,⟨a,ha,na⟩,hs⟩:=h;obtain⟨zA,zC,rfl⟩:=List.append_of_mem ha;have l1:zA.length<rs.length:=by rw[←hl,List.length_append,List.length_cons];omega
 obtain⟨A,x,C,rfl,hA⟩:∃A x C,rs=A++x::C/\zA.length=A.length:=⟨rs.take zA.length,rs[zA.length],rs.drop (zA.length+1),by
  rw[←List.drop_eq_getElem_cons l1,List.take_append_drop],by rw[List.length_take];omega⟩
 refine(z8u R).mpr (z0n R (z:=zA++zC) na λc hc=>?_);have q:=hs c hc;rw[q2E zA A _ _ c hA]at q;show P (a*x c+comb (zA++zC) (A++C) c);rw[q2E zA A zC C c hA];have e:a*x c+(comb zA A c+comb zC C c)=comb zA A c+comb (a::zC) (x::C) c:=by show _=comb zA A c+(a*x c+comb zC C c);omega
 rw[e];exact q
end
theorem q8i(f:Nat->Int):∀n,sm f (n+1)=f 0+sm (λi=>f (i+1)) n
 | 0=>by show 0+f 0=f 0+0;omega
 | n+1=>by show sm f (n+1)+f (n+1)=f 0+(sm (λi=>f (i+1)) n+f (n+1));rw[q8i f n];omega
theorem z1g(c:Nat):∀(rs:List Rw) (z:Nat->Int),comb ((List.range rs.length).map z) rs c=sm (λi=>z i*(rs.getD i λ_=>0) c) rs.length:=by
 intro rs
 induction rs with
 | nil=>intro z;rfl
 | cons r rs ih=>
  intro z;rw[List.length_cons,q8i,List.range_succ_eq_map,List.map_cons,List.map_map];show z 0*r c+comb ((List.range rs.length).map λi=>z (i+1)) rs c=_;rw[ih λi=>z (i+1)];rfl
def elim(c:Nat)(x y:Rw):Rw:=λd=>x c*y d + -(y c)*x d
theorem z6o(c:Nat)(x y:Rw):elim c x y c=0:=by
 show x c*y c + -(y c)*x c=0;rw[Int.mul_comm (x c),←Int.add_mul,Int.add_right_neg,Int.zero_mul]
theorem z7T(B D:List Rw)(y:Rw)(cs:List Nat):dt (B++y::D) cs=(-1)^B.length*dt (y::(B++D)) cs:=by
 rw[q3x,←Int.mul_assoc,z3R,Int.one_mul]
theorem z2u(c:Nat)(x y:Rw)(B D:List Rw)(cs:List Nat):dt (x::(B++elim c x y::D)) cs=x c*dt (x::(B++y::D)) cs:=by
 have e:∀w,dt (x::(B++w::D)) cs=(-1)^(x::B).length*dt (w::((x::B)++D)) cs:=λw=>z7T (x::B) D w cs;rw[e,e];have e2:dt (elim c x y::((x::B)++D)) cs=x c*dt (y::((x::B)++D)) cs:=by show dt ((λd=>(λd=>x c*y d) d+(λd=>-(y c)*x d) d)::((x::B)++D)) cs=_;rw[z1j (λd=>x c*y d) (λd=>-(y c)*x d),q4b,q4b,z3z (x:=x) (by exact List.mem_append_left _ List.mem_cons_self),Int.mul_zero,Int.add_zero]
 rw[e2,Int.mul_left_comm]
theorem q9V(c:Nat)(x:Rw)(cs:List Nat):∀(D B:List Rw),dt (x::(B++D.map (elim c x))) cs=x c^D.length*dt (x::(B++D)) cs
 | [],B=>by show dt (x::(B++[])) cs=x c^0*_;rw[Int.pow_zero,Int.one_mul]
 | y::D,B=>by have e:=q9V c x cs D (B++[elim c x y]);rw[List.append_assoc,List.append_assoc]at e;show dt (x::(B++([elim c x y]++D.map (elim c x)))) cs=_;rw[e];show _*dt (x::(B++elim c x y::D)) cs=_;rw[z2u,List.length_cons,Int.pow_succ,Int.mul_assoc]
theorem q6i(c:Nat)(x:Rw)(d:Nat):∀(z:List Int) (D:List Rw),comb z (D.map (elim c x)) d=x c*comb z D d + -(comb z D c)*x d
 | z,[]=>by show comb z [] d=_;rw[q4c];show(0:Int)=x c*0 + -0*x d;rw[Int.mul_zero,Int.neg_zero,Int.zero_mul];rfl
 | [],y::D=>by show(0:Int)=x c*0 + -0*x d;rw[Int.mul_zero,Int.neg_zero,Int.zero_mul];rfl
 | a::z,y::D=>by
  show a*(x c*y d + -(y c)*x d)+comb z (D.map (elim c x)) d=x c*(a*y d+comb z D d) + -(a*y c+comb z D c)*x d;rw[q6i c x d z D,Int.mul_add,Int.mul_add,Int.neg_add,Int.add_mul];have e1:a*(x c*y d)=x c*(a*y d):=Int.mul_left_comm ..;have e2:a*(-(y c)*x d) = -(a*y c)*x d:=by rw[←Int.mul_assoc,Int.mul_neg]
  rw[e1,e2];omega
theorem q3u(t:Int)(d:Nat):∀(z:List Int) (D:List Rw),comb (z.map (t * ·)) D d=t*comb z D d
 | z,[]=>by rw[q4c,q4c,Int.mul_zero]
 | [],y::D=>by show(0:Int)=t*0;rw[Int.mul_zero]
 | a::z,y::D=>by show t*a*y d+comb (z.map (t * ·)) D d=t*(a*y d+comb z D d);rw[q3u t d z D,Int.mul_add,Int.mul_assoc]
section
variable {P:Int->Prop} (R:Pr P)
include R
theorem z7e:∀(k:Nat) (rs:List Rw) (cs:List Nat),rs.length=k->cs.length=k->P (dt rs cs)->Dpd P rs cs:=by
 intro k
 induction k with
 | zero=>
  intro rs cs h1 h2 h;rw[List.length_eq_zero_iff.mp h1]at h;exact absurd h R.one
 | succ k ih=>
  intro rs cs h1 h2 h;obtain⟨c,cs',rfl⟩:∃c cs',cs=c::cs':=by
   cases cs with
   | nil=>cases h2
   | cons c cs'=>exact⟨c,cs',rfl⟩
  have l2:cs'.length=k:=Nat.succ.inj h2;by_cases q:∀r∈rs,P (r c)
  ·obtain⟨z,⟨i,hi,hz⟩,hs⟩:=R.dep k rs.length (λi j=>(rs.getD i λ_=>0) (cs'.getD j 0)) (by omega);refine⟨(List.range rs.length).map z,by rw[List.length_map,List.length_range],⟨z i,List.mem_map.mpr ⟨i,List.mem_range.mpr hi,rfl⟩,hz⟩,λd hd=>?_⟩;rw[z1g];rcases List.mem_cons.mp hd with e | hd
   ·subst e;refine R.sum λi hi=>R.mul _ ?_
    rw[List.getD_eq_getElem?_getD,List.getElem?_eq_getElem hi];exact q _ (List.getElem_mem hi)
   ·obtain⟨j,hj,e⟩:=List.getElem_of_mem hd;have:=hs j (by omega);rw[List.getD_eq_getElem?_getD (l:=cs'),List.getElem?_eq_getElem hj]at this;rw[←e];exact this
  ·obtain⟨x,hx,nx⟩:∃x,x∈rs/\¬P (x c):=by
    refine Classical.byContradiction λn=>q λr hr=>Classical.byContradiction λm=>n ⟨r,hr,m⟩
   obtain⟨A,C,rfl⟩:=List.append_of_mem hx;have l1:(A++C).length=k:=by rw[List.length_append]at h1 ⊢;rw[List.length_cons]at h1;omega
   have h3:P (dt (x::(A++C)) (c::cs')):=(z8u R).mp h;have e:=q9V c x (c::cs') (A++C) [];have h4:P (dt (x::(A++C).map (elim c x)) (c::cs')):=(by show P (dt (x::([]++(A++C).map (elim c x))) (c::cs'));rw[e];exact R.mul _ h3);have l3:((A++C).map (elim c x)).length=k:=by rw[List.length_map];exact l1
   have e5:dt (x::(A++C).map (elim c x)) (c::cs')=x c*dt ((A++C).map (elim c x)) cs':=by
    rw[q9q (k+1) _ _ (by rw[List.length_cons,l3]) (by rw[List.length_cons,l2])];show x c*et ((A++C).map (elim c x)) cs' - alt (λs ss=>s c*et (x::ss) cs') ((A++C).map (elim c x))=_;have z:alt (λs ss=>s c*et (x::ss) cs') ((A++C).map (elim c x))=0:=z6I pr0 λs hs ss=>by obtain⟨y,_,rfl⟩:=List.mem_map.mp hs;show elim c x y c*_=0;rw[z6o,Int.zero_mul]
    rw[z,Int.sub_zero,←q9q k _ _ l3 l2]
   rw[e5]at h4;have h6:P (dt ((A++C).map (elim c x)) cs'):=by
    rcases R.prime h4 with w | w
    ·exact absurd w nx
    ·exact w
   obtain⟨z,lz,⟨a,ha,na⟩,hs⟩:=ih _ cs' l3 l2 h6;rw[l3]at lz;have key:∀d∈c::cs',P (-(comb z (A++C) c)*x d+x c*comb z (A++C) d):=λd hd=>by
    rcases List.mem_cons.mp hd with e | hd
    ·subst e;rw[Int.mul_comm (x d),←Int.add_mul,Int.add_left_neg,Int.zero_mul];exact R.zero
    ·have:=hs d hd;rw[q6i,Int.add_comm]at this;exact this
   have lA:((z.take A.length).map (x c * ·)).length=A.length:=(by rw[List.length_map,List.length_take,lz,←l1,List.length_append];omega);have lA':(z.take A.length).length=A.length:=by rw[List.length_map]at lA;exact lA
   refine⟨(z.take A.length).map (x c * ·) ++ -(comb z (A++C) c)::(z.drop A.length).map (x c * ·),?_,⟨x c*a,?_,λw=>?_⟩,λd hd=>?_⟩
   ·rw[List.length_append,lA,List.length_cons,List.length_map,List.length_drop,lz,List.length_append,List.length_cons];rw[List.length_append]at l1;omega
   ·have:a∈z.take A.length++z.drop A.length:=by rw[List.take_append_drop];exact ha
    rcases List.mem_append.mp this with w | w
    ·exact List.mem_append_left _ (List.mem_map.mpr ⟨a,w,rfl⟩)
    ·exact List.mem_append_right _ (List.mem_cons_of_mem _ (List.mem_map.mpr ⟨a,w,rfl⟩))
   ·rcases R.prime w with w | w
    ·exact nx w
    ·exact na w
   ·have q:=key d hd;rw[q2E _ _ _ _ d lA];show P (comb ((z.take A.length).map (x c * ·)) A d+(-(comb z (A++C) c)*x d+comb ((z.drop A.length).map (x c * ·)) C d));rw[q3u,q3u];have e7:comb z (A++C) d=comb (z.take A.length) A d+comb (z.drop A.length) C d:=(by rw[←q2E _ _ _ _ d lA',List.take_append_drop]);rw[e7,Int.mul_add]at q;have e8:∀p q r:Int,p+(q+r)=q+(p+r):=by intro p q r;omega
    rw[e8];exact q
end
end rk
end
noncomputable section
namespace rk
def stz(q:Nat×Rw)(x:Rw):Rw:=λj=>x j*q.2 q.1 - x q.1*q.2 j
def rz(K:List (Nat×Rw))(x:Rw):Rw:=K.foldl (λx q=>stz q x) x
theorem z4S(q:Nat×Rw)(K:List (Nat×Rw))(x:Rw):rz (q::K) x=rz K (stz q x):=rfl
theorem z4a(q:Nat×Rw)(K:List (Nat×Rw))(x:Rw):rz (K++[q]) x=stz q (rz K x):=by unfold rz;rw[List.foldl_append];rfl
theorem z6m(q:Nat×Rw)(c:Nat->Int)(v:Nat->Rw)(n:Nat):stz q (λj=>sm (λi=>c i*v i j) n)=λj=>sm (λi=>c i*stz q (v i) j) n:=by
 funext j
 show sm (λi=>c i*v i j) n*q.2 q.1 - sm (λi=>c i*v i q.1) n*q.2 j=sm (λi=>c i*(v i j*q.2 q.1 - v i q.1*q.2 j)) n;rw[Int.mul_comm,←q1R (q.2 q.1) (λi=>c i*v i j),Int.mul_comm (sm _ _),←q1R (q.2 j) (λi=>c i*v i q.1),←q7U];refine sm_congr λi _=>?_
 rw[Int.mul_sub,Int.mul_left_comm,Int.mul_comm (q.2 q.1),Int.mul_left_comm (q.2 j),Int.mul_comm (q.2 j)]
theorem z7r(K:List (Nat×Rw)):∀(c:Nat->Int) (v:Nat->Rw) (n:Nat),rz K (λj=>sm (λi=>c i*v i j) n)=λj=>sm (λi=>c i*rz K (v i) j) n:=by
 induction K with
 | nil=>intro c v n;rfl
 | cons q K ih=>
  intro c v n;rw[z4S,z6m,ih];rfl
def Nil(m:Nat)(x:Rw):Prop:=∀j,j<m->x j=0
theorem z0O{q:Nat×Rw}{x:Rw}{m:Nat}(hq:q.1<m)(h:Nil m x):Nil m (stz q x):=λj hj=>by
 show x j*_ - x q.1*_=0;rw[h j hj,h q.1 hq,Int.zero_mul,Int.zero_mul];rfl
theorem z2Z{q:Nat×Rw}{m:Nat}:Nil m (stz q q.2):=λj _=>by
 show q.2 j*q.2 q.1 - q.2 q.1*q.2 j=0;rw[Int.mul_comm,Int.sub_self]
def ld(m:Nat)(x:Rw):Nat:=((List.range m).find? λj=>decide (x j≠0)).getD 0
theorem ld_ok{m:Nat}{x:Rw}(h:¬Nil m x):ld m x<m/\x (ld m x)≠0:=by
 cases q:(List.range m).find? λj=>decide (x j≠0)with
 | none=>
  refine absurd (λj hj=>?_) h;have:=List.find?_eq_none.mp q j (List.mem_range.mpr hj);simpa using this
 | some j=>
  have e:ld m x=j:=by unfold ld;rw[q];rfl
  rw[e];refine⟨List.mem_range.mp (List.mem_of_find?_eq_some q),?_⟩;have:=List.find?_some q;simpa using this
instance (m:Nat) (x:Rw):Decidable (Nil m x):=inferInstanceAs (Decidable (∀j,j<m->x j=0))
def kz(v:Nat->Rw)(m:Nat):Nat->List (Nat×(Nat×Rw))
 | 0=>[]
 | n+1=>
  let y:=rz ((kz v m n).map (·.2)) (v n)
  if Nil m y then kz v m n else kz v m n++[(n,(ld m y,y))]
def rkz(v:Nat->Rw)(m n:Nat)(x:Rw):Rw:=rz ((kz v m n).map (·.2)) x
def bz(v:Nat->Rw)(m n:Nat):List Nat:=(kz v m n).map (·.1)
theorem kz_succ(v:Nat->Rw)(m n:Nat):kz v m (n+1)=if Nil m (rkz v m n (v n))then kz v m n else kz v m n++[(n,(ld m (rkz v m n (v n)),rkz v m n (v n)))]:=rfl
theorem q5X(v:Nat->Rw)(m n:Nat):bz v m (n+1)=if Nil m (rkz v m n (v n))then bz v m n else bz v m n++[n]:=by
 unfold bz;rw[kz_succ];split
 ·rfl
 ·rw[List.map_append];rfl
structure Kz(v:Nat->Rw)(m n:Nat):Prop where
 ld:∀q∈kz v m n,q.2.1<m/\q.2.2 q.2.1≠0
 all:∀i,i<n->Nil m (rkz v m n (v i))
 lt:∀i∈bz v m n,i<n
 up:(bz v m n).Pairwise (· < ·)
theorem z1R(v:Nat->Rw)(m:Nat):∀n,Kz v m n
 | 0=>⟨λq h=>absurd h (by simp[kz]),λi h=>absurd h (Nat.not_lt_zero i),λi h=>absurd h (by simp[bz,kz]),.nil⟩
 | n+1=>by
  have I:=z1R v m n;by_cases z:Nil m (rkz v m n (v n))
  ·have e:kz v m (n+1)=kz v m n:=by rw[kz_succ,if_pos z]
   have eb:bz v m (n+1)=bz v m n:=by unfold bz;rw[e]
   have er:∀x,rkz v m (n+1) x=rkz v m n x:=λx=>by unfold rkz;rw[e]
   refine⟨by rw[e];exact I.ld,λi hi=>?_,λi hi=>?_,by rw[eb];exact I.up⟩
   ·rw[er];by_cases q:i<n
    ·exact I.all i q
    ·have:i=n:=by omega
     subst this;exact z
   ·rw[eb]at hi;have:=I.lt i hi;omega
  ·have e:kz v m (n+1)=kz v m n++[(n,(rk.ld m (rkz v m n (v n)),rkz v m n (v n)))]:=by rw[kz_succ,if_neg z]
   have eb:bz v m (n+1)=bz v m n++[n]:=by rw[q5X,if_neg z]
   have er:∀x,rkz v m (n+1) x=stz (rk.ld m (rkz v m n (v n)),rkz v m n (v n)) (rkz v m n x):=λx=>by unfold rkz;rw[e,List.map_append];exact z4a ..
   refine⟨λq hq=>?_,λi hi=>?_,λi hi=>?_,?_⟩
   ·rw[e]at hq;rcases List.mem_append.mp hq with w | w
    ·exact I.ld q w
    ·have:=List.mem_singleton.mp w;subst this;exact ld_ok z
   ·rw[er];by_cases q:i<n
    ·exact z0O (ld_ok z).1 (I.all i q)
    ·have:i=n:=by omega
     subst this;exact z2Z (q:=(rk.ld m (rkz v m i (v i)),rkz v m i (v i)))
   ·rw[eb]at hi;rcases List.mem_append.mp hi with w | w
    ·have:=I.lt i w;omega
    ·have:=List.mem_singleton.mp w;omega
   ·rw[eb,List.pairwise_append];exact⟨I.up,List.pairwise_singleton ..,λa ha b hb=>by
     have:=List.mem_singleton.mp hb;subst this;exact I.lt a ha⟩
theorem z3N(v:Nat->Rw)(m:Nat):∀n,Ind P0 (λt=>v ((bz v m n).getD t 0)) (bz v m n).length m
 | 0=>λc _ i hi=>absurd hi (Nat.not_lt_zero i)
 | n+1=>by
  have I:=z3N v m n;have K:=z1R v m n;by_cases z:Nil m (rkz v m n (v n))
  ·rw[q5X,if_pos z];exact I
  ·rw[q5X,if_neg z];intro c hs;have lo:∀t,t<(bz v m n).length->(bz v m n++[n]).getD t 0=(bz v m n).getD t 0:=λt ht=>by rw[List.getD_eq_getElem?_getD,List.getD_eq_getElem?_getD,List.getElem?_append_left ht]
   have hi:(bz v m n++[n]).getD (bz v m n).length 0=n:=(by rw[List.getD_eq_getElem?_getD,List.getElem?_append_right (Nat.le_refl _),Nat.sub_self];rfl);have hs':∀j,j<m->sm (λt=>c t*v ((bz v m n).getD t 0) j) (bz v m n).length+c (bz v m n).length*v n j=0:=λj hj=>by have:=hs j hj;rw[List.length_append,List.length_singleton]at this;have q:sm (λt=>c t*v ((bz v m n++[n]).getD t 0) j) (bz v m n).length+c (bz v m n).length*v ((bz v m n++[n]).getD (bz v m n).length 0) j=0:=this;rw[hi,sm_congr (g:=λt=>c t*v ((bz v m n).getD t 0) j) λt ht=>by rw[lo t ht]]at q;exact q
   have last:c (bz v m n).length=0:=by
    have e1:Nil m (rkz v m n λj=>sm (λt=>c t*v (if t<(bz v m n).length then(bz v m n).getD t 0 else n) j) ((bz v m n).length+1)):=by
     have:Nil m (λj=>sm (λt=>c t*v (if t<(bz v m n).length then(bz v m n).getD t 0 else n) j) ((bz v m n).length+1)):=λj hj=>by show sm _ (bz v m n).length+c (bz v m n).length*v (if(bz v m n).length<(bz v m n).length then _ else n) j=0;rw[if_neg (Nat.lt_irrefl _),sm_congr (g:=λt=>c t*v ((bz v m n).getD t 0) j) λt ht=>by rw[if_pos ht]];exact hs' j hj
     have gen:∀(K:List (Nat×Rw)) (x:Rw),(∀q∈K,q.1<m)->Nil m x->Nil m (rz K x):=by
      intro K
      induction K with
      | nil=>intro x _ h;exact h
      | cons q K ih=>intro x hq h;exact ih _ (λr hr=>hq r (List.mem_cons_of_mem _ hr)) (z0O (hq q List.mem_cons_self) h)
     exact gen _ _ (λq hq=>by
      obtain⟨q',h1,rfl⟩:=List.mem_map.mp hq;exact(K.ld q' h1).1) this
    have e2:=z7r ((kz v m n).map (·.2)) c (λt=>v (if t<(bz v m n).length then(bz v m n).getD t 0 else n)) ((bz v m n).length+1);have e3:∀j,j<m->c (bz v m n).length*rkz v m n (v n) j=0:=λj hj=>by
     have:=e1 j hj;unfold rkz at this;rw[e2]at this;have q:sm (λt=>c t*rz ((kz v m n).map (·.2)) (v (if t<(bz v m n).length then(bz v m n).getD t 0 else n)) j) (bz v m n).length+c (bz v m n).length*rz ((kz v m n).map (·.2)) (v (if(bz v m n).length<(bz v m n).length then(bz v m n).getD (bz v m n).length 0 else n)) j=0:=this;rw[if_neg (Nat.lt_irrefl _),q4t λt ht=>?_,Int.zero_add]at q
     ·exact q
     ·rw[if_pos ht];have hb:(bz v m n).getD t 0∈bz v m n:=by rw[List.getD_eq_getElem?_getD,List.getElem?_eq_getElem ht];exact List.getElem_mem ht
      have:=K.all _ (K.lt _ hb) j hj;unfold rkz at this;rw[this,Int.mul_zero]
    have p:=ld_ok z;rcases Int.mul_eq_zero.mp (e3 _ p.1)with w | w
    ·exact w
    ·exact absurd w p.2
   intro i hi';rw[List.length_append,List.length_singleton]at hi';by_cases q:i<(bz v m n).length
   ·refine I c (λj hj=>?_) i q;have:=hs' j hj;rw[last,Int.zero_mul,Int.add_zero]at this;exact this
   ·have:i=(bz v m n).length:=by omega
    rw[this];exact last
theorem z1B{l:List Nat}{n t:Nat}(ht:t<l.length):(l++[n]).getD t 0=l.getD t 0:=by
 rw[List.getD_eq_getElem?_getD,List.getD_eq_getElem?_getD,List.getElem?_append_left ht]
theorem z0w{l:List Nat}{n:Nat}:(l++[n]).getD l.length 0=n:=by
 rw[List.getD_eq_getElem?_getD,List.getElem?_append_right (Nat.le_refl _),Nat.sub_self];rfl
theorem z9j{l:List Nat}{n:Nat}(c:Nat->Int)(v:Nat->Rw)(j:Nat):sm (λt=>c t*v ((l++[n]).getD t 0) j) (l++[n]).length=sm (λt=>c t*v (l.getD t 0) j) l.length+c l.length*v n j:=by
 rw[List.length_append,List.length_singleton];show sm (λt=>c t*v ((l++[n]).getD t 0) j) l.length+c l.length*v ((l++[n]).getD l.length 0) j=_;rw[z0w,sm_congr (g:=λt=>c t*v (l.getD t 0) j) λt ht=>by rw[z1B ht]]
theorem q5s(v:Nat->Rw)(m:Nat):∀(n:Nat) (x:Rw),∃(D:Int) (b:Nat->Int),D≠0/\∀j,rkz v m n x j=D*x j - sm (λt=>b t*v ((bz v m n).getD t 0) j) (bz v m n).length
 | 0,x=>⟨1,λ_=>0,by decide,λj=>by show x j=1*x j - 0;omega⟩
 | n+1,x=>by
  by_cases z:Nil m (rkz v m n (v n))
  ·have e:kz v m (n+1)=kz v m n:=by rw[kz_succ,if_pos z]
   obtain⟨D,b,hD,h⟩:=q5s v m n x;refine⟨D,b,hD,λj=>?_⟩;unfold rkz bz;rw[e];exact h j
  ·have e:kz v m (n+1)=kz v m n++[(n,(rk.ld m (rkz v m n (v n)),rkz v m n (v n)))]:=by rw[kz_succ,if_neg z]
   have er:rkz v m (n+1) x=stz (rk.ld m (rkz v m n (v n)),rkz v m n (v n)) (rkz v m n x):=by unfold rkz;rw[e,List.map_append];exact z4a ..
   obtain⟨D,b,hD,h⟩:=q5s v m n x;obtain⟨D',b',hD',h'⟩:=q5s v m n (v n);obtain⟨p,hp⟩:∃p,rk.ld m (rkz v m n (v n))=p:=⟨_,rfl⟩;have hy:=(ld_ok z).2;rw[hp]at er hy;obtain⟨Y,hY⟩:∃Y,rkz v m n (v n) p=Y:=⟨_,rfl⟩;obtain⟨U,hU⟩:∃U,rkz v m n x p=U:=⟨_,rfl⟩;rw[hY]at hy;refine⟨Y*D,λt=>if t<(bz v m n).length then Y*b t - U*b' t else U*D',Int.mul_ne_zero hy hD,λj=>?_⟩;rw[er];show rkz v m n x j*rkz v m n (v n) p - rkz v m n x p*rkz v m n (v n) j=_;rw[hY,hU,h j,h' j,q5X,if_neg z,z9j,if_neg (Nat.lt_irrefl _)];have e9:sm (λt=>(if t<(bz v m n).length then Y*b t - U*b' t else U*D')*v ((bz v m n).getD t 0) j) (bz v m n).length=Y*sm (λt=>b t*v ((bz v m n).getD t 0) j) (bz v m n).length - U*sm (λt=>b' t*v ((bz v m n).getD t 0) j) (bz v m n).length:=by
    rw[←q1R Y (λt=>b t*v ((bz v m n).getD t 0) j),←q1R U (λt=>b' t*v ((bz v m n).getD t 0) j),←q7U];exact sm_congr λt ht=>by rw[if_pos ht,Int.sub_mul,Int.mul_assoc,Int.mul_assoc]
   rw[e9];obtain⟨S,hS⟩:∃S,sm (λt=>b t*v ((bz v m n).getD t 0) j) (bz v m n).length=S:=⟨_,rfl⟩;obtain⟨S',hS'⟩:∃S',sm (λt=>b' t*v ((bz v m n).getD t 0) j) (bz v m n).length=S':=⟨_,rfl⟩;rw[hS,hS',Int.sub_mul,Int.mul_sub,Int.mul_comm (D*x j),Int.mul_comm S,←Int.mul_assoc,←Int.mul_assoc U];omega
theorem y0b(v:Nat->Rw)(m n i:Nat)(hi:i<n):InSp P0 (λs=>v ((bz v m n).getD s 0)) (bz v m n).length m (v i):=by
 obtain⟨D,b,hD,h⟩:=q5s v m n (v i);exact⟨D,b,hD,λj hj=>by rw[←h j];exact(z1R v m n).all i hi j hj⟩
structure Bas(P:Int->Prop)(v:Nat->Rw)(n m:Nat)(b:List Nat):Prop where
 lt:∀i∈b,i<n
 up:b.Pairwise (· < ·)
 ind:Ind P (λt=>v (b.getD t 0)) b.length m
 sp:∀i,i<n->InSp P (λs=>v (b.getD s 0)) b.length m (v i)
theorem bas0(v:Nat->Rw)(n m:Nat):Bas P0 v n m (bz v m n):=⟨(z1R v m n).lt,(z1R v m n).up,z3N v m n,λi hi=>y0b v m n i hi⟩
section
variable {P:Int->Prop} (R:Pr P)
include R
theorem Bas.at{v:Nat->Rw}{n m:Nat}{b:List Nat}(B:Bas P v n m b):∀t,t<b.length->b.getD t 0<n:=λt ht=>B.lt _ (by
 rw[List.getD_eq_getElem?_getD,List.getElem?_eq_getElem ht];exact List.getElem_mem ht)
theorem Bas.len{v:Nat->Rw}{n m:Nat}{b e:List Nat}(B:Bas P v n m b)(C:Bas P (λj i=>v i j) m n e):b.length=e.length:=by
 apply Nat.le_antisymm
 ·exact cols R (v:=v) (b:=λt=>b.getD t 0) (e:=λs=>e.getD s 0) (B.at R) B.ind λj hj=>C.sp j hj
 ·exact cols R (v:=λj i=>v i j) (b:=λt=>e.getD t 0) (e:=λs=>b.getD s 0) (C.at R) C.ind λj hj=>B.sp j hj
theorem q6m{v:Nat->Rw}{b:List Nat}{z:List Int}(hz:z.length=b.length)(c:Nat):comb z (b.map v) c=sm (λt=>z.getD t 0*v (b.getD t 0) c) b.length:=by
 have hz':z=(List.range (b.map v).length).map λt=>z.getD t 0:=by
  apply List.ext_getElem
  ·rw[List.length_map,List.length_range,List.length_map,hz]
  ·intro i h1 h2;rw[List.getElem_map,List.getElem_range,List.getD_eq_getElem?_getD,List.getElem?_eq_getElem h1];rfl
 rw[hz',z1g,List.length_map];refine sm_congr λt ht=>?_
 rw[←List.length_map (f:=v),←hz']
 congr 1
 rw[List.getD_eq_getElem?_getD,List.getD_eq_getElem?_getD,List.getElem?_map,List.getElem?_eq_getElem ht];rfl
theorem Bas.det{v:Nat->Rw}{n m:Nat}{b e:List Nat}(B:Bas P v n m b)(C:Bas P (λj i=>v i j) m n e):¬P (dt (b.map v) e):=by
 intro h;obtain⟨z,hl,⟨a,ha,na⟩,hs⟩:=z7e R b.length (b.map v) e (by rw[List.length_map]) (B.len R C).symm h;rw[List.length_map]at hl;have I:=q7O R (v:=v) (b:=λt=>b.getD t 0) (e:=λs=>e.getD s 0) (n:=n) (m:=m) (k:=e.length) (B.at R) B.ind (λj hj=>C.sp j hj);obtain⟨t,ht,et⟩:=List.getElem_of_mem ha;have q:=I (λt=>z.getD t 0) (λs hs'=>?_) t (by omega)
 ·rw[List.getD_eq_getElem?_getD,List.getElem?_eq_getElem ht]at q;rw[←et]at na;exact na q
 ·have:=hs (e.getD s 0) (by rw[List.getD_eq_getElem?_getD,List.getElem?_eq_getElem hs'];exact List.getElem_mem hs');rw[q6m R hl]at this;exact this
theorem Bas.more{v:Nat->Rw}{n m r:Nat}{b cs:List Nat}(B:Bas P v n m b)(hr:r<n)(hc:∀c∈cs,c<m):P (dt ((b++[r]).map v) cs):=by
 obtain⟨d,a,hd,h⟩:=B.sp r hr;refine z8R R ⟨(List.range b.length).map (λs=>-(a s))++[d],?_,⟨d,List.mem_append_right _ (List.mem_singleton.mpr rfl),hd⟩,λc hc'=>?_⟩
 ·rw[List.length_append,List.length_map,List.length_range,List.length_map,List.length_append];rfl
 ·rw[List.map_append,q2E _ _ _ _ c (by rw[List.length_map,List.length_range,List.length_map]),q6m R (by rw[List.length_map,List.length_range])];have q:=h c (hc c hc');have e:sm (λt=>((List.range b.length).map λs=>-(a s)).getD t 0*v (b.getD t 0) c) b.length = - sm (λs=>a s*v (b.getD s 0) c) b.length:=by
   have e1 : - sm (λs=>a s*v (b.getD s 0) c) b.length=sm (λs=>-1*(a s*v (b.getD s 0) c)) b.length:=(by rw[q1R (-1) (λs=>a s*v (b.getD s 0) c)];omega);rw[e1];refine sm_congr λt ht=>?_;rw[List.getD_eq_getElem?_getD,List.getElem?_map,List.getElem?_range ht];show -(a t)*_=_;rw[Int.neg_mul];omega
  rw[e];show P (- sm (λs=>a s*v (b.getD s 0) c) b.length+(d*v r c+0));have e2:∀p q:Int,-p+(q+0)=q - p:=by intro p q;omega
  rw[e2];exact q
theorem Bas.le{v w:Nat->Rw}{n m n' m':Nat}{b b':List Nat}(B:Bas P v n m b)(B':Bas P w n' m' b')(f g:Nat->Nat)(hf:∀i,i<n'->f i<n)(hg:∀j,j<m'->g j<m)(h:∀i,i<n'->∀j,j<m'->w i j=v (f i) (g j)):b'.length<=b.length:=by
 refine exch R (m:=m') (w:=λs j=>v (b.getD s 0) (g j)) B'.ind λt ht=>?_;have l:=B'.at R t ht;obtain⟨d,a,hd,q⟩:=B.sp (f (b'.getD t 0)) (hf _ l);refine⟨d,a,hd,λj hj=>?_⟩;rw[h _ l j hj];exact q (g j) (hg j hj)
end
end rk
end
noncomputable section
namespace rk
abbrev N2:=Nat×Nat
def px(a b:N2):N2:=(a.1 ^^^ b.1,a.2 ^^^ b.2)
def st(p:N2)(q:N2):N2:=if p.1.testBit q.1.log2 then px p q else p
def red(K:List N2)(p:N2):N2:=K.foldl st p
theorem z6h(a:N2):px a (0,0)=a:=by unfold px;rw[Nat.xor_zero,Nat.xor_zero]
theorem z0X(a b:N2):px a b=px b a:=by unfold px;rw[Nat.xor_comm a.1,Nat.xor_comm a.2]
theorem q2D(a b c:N2):px (px a b) c=px a (px b c):=by unfold px;simp only[Nat.xor_assoc]
theorem z5m(a:N2):px a a=(0,0):=by unfold px;rw[Nat.xor_self,Nat.xor_self]
theorem z8a(a b q:N2):st (px a b) q=px (st a q) (st b q):=by
 have t:(px a b).1.testBit q.1.log2=(a.1.testBit q.1.log2 ^^ b.1.testBit q.1.log2):=Nat.testBit_xor ..;unfold st;rw[t];cases a.1.testBit q.1.log2<;>cases b.1.testBit q.1.log2
 ·rfl
 ·exact q2D a b q
 ·show px (px a b) q=px (px a q) b;rw[q2D,z0X b q,←q2D]
 ·show px a b=px (px a q) (px b q);rw[q2D,←q2D q b q,z0X q b,q2D b q q,z5m,z6h]
theorem z6j(K:List N2):∀a b:N2,red K (px a b)=px (red K a) (red K b):=by
 induction K with
 | nil=>intro a b;rfl
 | cons q K ih=>
  intro a b;show red K (st (px a b) q)=px (red K (st a q)) (red K (st b q));rw[z8a,ih]
theorem q9M(t:Nat)(q:N2):st (0,t) q=(0,t):=by
 unfold st;rw[if_neg];show ¬(Nat.testBit 0 q.1.log2=true);rw[Nat.zero_testBit];decide
theorem q8g(K:List N2)(t:Nat):red K (0,t)=(0,t):=by
 induction K with
 | nil=>rfl
 | cons q K ih=>show red K (st (0,t) q)=_;rw[q9M,ih]
theorem z4I(K:List N2)(q:N2)(p:N2):red (K++[q]) p=st (red K p) q:=by
 unfold red;rw[List.foldl_append];rfl
def xo(L:Nat->Nat)(m:Nat):Nat->Nat
 | 0=>0
 | n+1=>if m.testBit n then xo L m n ^^^ L n else xo L m n
theorem q4f(L:Nat->Nat):∀n,xo L 0 n=0
 | 0=>rfl
 | n+1=>by unfold xo;rw[Nat.zero_testBit,if_neg (by decide),q4f L n]
theorem q6s(L:Nat->Nat)(a b:Nat):∀n,xo L (a ^^^ b) n=xo L a n ^^^ xo L b n
 | 0=>by show 0=0 ^^^ 0;rw[Nat.xor_zero]
 | n+1=>by
  unfold xo;rw[Nat.testBit_xor,q6s L a b n];cases a.testBit n<;>cases b.testBit n
  ·rfl
  ·show(xo L a n ^^^ xo L b n) ^^^ L n=xo L a n ^^^ (xo L b n ^^^ L n);rw[Nat.xor_assoc]
  ·show(xo L a n ^^^ xo L b n) ^^^ L n=(xo L a n ^^^ L n) ^^^ xo L b n;rw[Nat.xor_assoc,Nat.xor_comm (xo L b n),←Nat.xor_assoc]
  ·show xo L a n ^^^ xo L b n=(xo L a n ^^^ L n) ^^^ (xo L b n ^^^ L n);rw[Nat.xor_assoc,Nat.xor_comm (xo L b n) (L n),←Nat.xor_assoc (L n),Nat.xor_self,Nat.zero_xor]
theorem bit1(i j:Nat):(1<<<i).testBit j=decide (i=j):=by
 rw[Nat.one_shiftLeft,Nat.testBit_two_pow]
theorem q8a(L:Nat->Nat)(i:Nat):∀n,xo L (1<<<i) n=if i<n then L i else 0
 | 0=>rfl
 | n+1=>by
  unfold xo;rw[bit1,q8a L i n];by_cases h:i=n
  ·subst h;rw[if_pos (by simp),if_neg (by omega),if_pos (by omega),Nat.zero_xor]
  ·rw[if_neg (by simp[h])];by_cases q:i<n
   ·rw[if_pos q,if_pos (by omega)]
   ·rw[if_neg q,if_neg (by omega)]
def kp(L:Nat->Nat):Nat->List (Nat×N2)
 | 0=>[]
 | n+1=>
  let p:=red ((kp L n).map (·.2)) (L n,0)
  if p.1=0 then kp L n else kp L n++[(n,(p.1,p.2 ||| 1<<<n))]
def rk(L:Nat->Nat)(n:Nat)(p:N2):N2:=red ((kp L n).map (·.2)) p
def bs(L:Nat->Nat)(n:Nat):List Nat:=(kp L n).map (·.1)
theorem kp_succ(L:Nat->Nat)(n:Nat):kp L (n+1)=if(rk L n (L n,0)).1=0 then kp L n else kp L n++[(n,((rk L n (L n,0)).1,(rk L n (L n,0)).2 ||| 1<<<n))]:=rfl
theorem z5D{r:Nat}(h:r≠0):r.testBit r.log2=true:=by
 rw[Nat.testBit_eq_decide_div_mod_eq,decide_eq_true_eq];have h1:=Nat.log2_self_le h;have h2:=Nat.lt_log2_self (n:=r);have:r/2^r.log2=1:=by refine Nat.div_eq_of_lt_le (by omega) ?_;rw[Nat.pow_succ]at h2;omega
 rw[this]
theorem z7g{a i:Nat}(h:a.testBit i=false):a ^^^ (a ||| 1<<<i)=1<<<i:=by
 apply Nat.eq_of_testBit_eq;intro j;rw[Nat.testBit_xor,Nat.testBit_or,bit1];by_cases q:i=j
 ·subst q;rw[h];simp
 ·simp[q]
structure Kp(L:Nat->Nat)(n N:Nat):Prop where
 bs:∀i∈bs L n,i<n/\rk L n (L i,0)=(0,1<<<i)
 all:∀i,i<n->(rk L n (L i,0)).1=0
 sub:∀i j,i<n->(rk L n (L i,0)).2.testBit j=true->j<=i/\j∈rk.bs L n
 mak:∀q∈kp L n,q.2.1=xo L q.2.2 N/\(∀j,q.2.2.testBit j=true->j<=q.1/\j∈rk.bs L n)/\q.1<n
theorem z0u(L:Nat->Nat)(N:Nat):∀(K:List N2) (p:N2),(∀q∈K,q.1=xo L q.2 N)->(red K p).1 ^^^ xo L (red K p).2 N=p.1 ^^^ xo L p.2 N:=by
 intro K
 induction K with
 | nil=>intro p _;rfl
 | cons q K ih=>
  intro p h;show(red K (st p q)).1 ^^^ xo L (red K (st p q)).2 N=_;rw[ih _ (λq' hq=>h q' (List.mem_cons_of_mem _ hq))];unfold st;split
  ·show(p.1 ^^^ q.1) ^^^ xo L (p.2 ^^^ q.2) N=_;rw[q6s,h q List.mem_cons_self,Nat.xor_assoc,Nat.xor_comm (xo L p.2 N),←Nat.xor_assoc (xo L q.2 N),Nat.xor_self,Nat.zero_xor]
  ·rfl
theorem z4T(P:Nat->Prop):∀(K:List N2) (p:N2),(∀q∈K,∀j,q.2.testBit j=true->P j)->(∀j,p.2.testBit j=true->P j)->∀j,(red K p).2.testBit j=true->P j:=by
 intro K
 induction K with
 | nil=>intro p _ h;exact h
 | cons q K ih=>
  intro p h h';refine ih (st p q) (λq' hq=>h q' (List.mem_cons_of_mem _ hq)) λj hj=>?_
  unfold st at hj;split at hj
  ·have e:(px p q).2.testBit j=(p.2.testBit j ^^ q.2.testBit j):=Nat.testBit_xor ..;rw[e]at hj;cases a:p.2.testBit j with
   | true=>exact h' j a
   | false=>
    rw[a,Bool.false_xor]at hj;exact h q List.mem_cons_self j hj
  ·exact h' j hj
theorem q7G(L:Nat->Nat)(n j:Nat)(h:j∈bs L n):j∈bs L (n+1):=by
 unfold bs at h ⊢;rw[kp_succ];split
 ·exact h
 ·rw[List.map_append];exact List.mem_append_left _ h
theorem z2m(L:Nat->Nat)(N:Nat):∀n,n<=N->Kp L n N
 | 0,_=>⟨λi h=>absurd h (by simp[bs,kp]),λi h=>absurd h (Nat.not_lt_zero i),λi j h=>absurd h (Nat.not_lt_zero i),λq h=>absurd h (by simp[kp])⟩
 | n+1,hN=>by
  have I:=z2m L N n (by omega);have sub:∀j,(rk L n (L n,0)).2.testBit j=true->j<n/\j∈bs L n:=by
   intro j hj;refine z4T (λj=>j<n/\j∈bs L n) ((kp L n).map Prod.snd) (L n,0) (λq hq j hj=>?_) (λj hj=>?_) j hj
   ·obtain⟨q',h1,rfl⟩:=List.mem_map.mp hq;obtain⟨_,h2,h3⟩:=I.mak q' h1;have:=h2 j hj;exact⟨by omega,this.2⟩
   ·rw[Nat.zero_testBit]at hj;cases hj
  have inv:=z0u L N ((kp L n).map Prod.snd) (L n,0) (λq hq=>by
   obtain⟨q',h1,rfl⟩:=List.mem_map.mp hq;exact(I.mak q' h1).1)
  have inv':(rk L n (L n,0)).1 ^^^ xo L (rk L n (L n,0)).2 N=L n:=(by have:(rk L n (L n,0)).1 ^^^ xo L (rk L n (L n,0)).2 N=L n ^^^ xo L 0 N:=inv;rw[this,q4f,Nat.xor_zero]);by_cases z:(rk L n (L n,0)).1=0
  ·have e:kp L (n+1)=kp L n:=by rw[kp_succ,if_pos z]
   have er:∀p,rk L (n+1) p=rk L n p:=λp=>by unfold rk;rw[e]
   have eb:bs L (n+1)=bs L n:=by unfold bs;rw[e]
   refine⟨λi hi=>?_,λi hi=>?_,λi j hi hj=>?_,λq hq=>?_⟩
   ·rw[eb]at hi;rw[er];exact⟨by have:=(I.bs i hi).1;omega,(I.bs i hi).2⟩
   ·rw[er];by_cases q:i<n
    ·exact I.all i q
    ·have:i=n:=by omega
     subst this;exact z
   ·rw[er]at hj;rw[eb];by_cases q:i<n
    ·exact I.sub i j q hj
    ·have:i=n:=by omega
     subst this;have:=sub j hj;exact⟨by omega,this.2⟩
   ·rw[e]at hq;rw[eb];obtain⟨h1,h2,h3⟩:=I.mak q hq;exact⟨h1,h2,by omega⟩
  ·obtain⟨p1,p2,hp⟩:∃p1 p2,rk L n (L n,0)=(p1,p2):=⟨_,_,rfl⟩;rw[hp]at z sub inv';have e:kp L (n+1)=kp L n++[(n,(p1,p2 ||| 1<<<n))]:=by rw[kp_succ,hp,if_neg z]
   have er:∀p,rk L (n+1) p=st (rk L n p) (p1,p2 ||| 1<<<n):=λp=>by unfold rk;rw[e,List.map_append];exact z4I ..
   have eb:bs L (n+1)=bs L n++[n]:=by unfold bs;rw[e,List.map_append];rfl
   have new:rk L (n+1) (L n,0)=(0,1<<<n):=by
    rw[er,hp];unfold st;rw[if_pos (z5D z)];show(p1 ^^^ p1,p2 ^^^ (p2 ||| 1<<<n))=_;rw[Nat.xor_self,z7g];cases q:p2.testBit n with
    | false=>rfl
    | true=>have:=(sub n q).1;omega
   have old:∀i,i<n->rk L (n+1) (L i,0)=rk L n (L i,0):=λi hi=>by rw[er];have:=I.all i hi;obtain⟨a,b,hab⟩:∃a b,rk L n (L i,0)=(a,b):=⟨_,_,rfl⟩;rw[hab]at this ⊢;have:a=0:=this;subst this;exact q9M ..
   refine⟨λi hi=>?_,λi hi=>?_,λi j hi hj=>?_,λq hq=>?_⟩
   ·rw[eb]at hi;rcases List.mem_append.mp hi with q | q
    ·have:=I.bs i q;rw[old i this.1];exact⟨by omega,this.2⟩
    ·have:=List.mem_singleton.mp q;subst this;exact⟨by omega,new⟩
   ·by_cases q:i<n
    ·rw[old i q];exact I.all i q
    ·have:i=n:=by omega
     subst this;rw[new]
   ·by_cases q:i<n
    ·rw[old i q]at hj;have:=I.sub i j q hj;exact⟨this.1,q7G L n j this.2⟩
    ·have:i=n:=by omega
     subst this;rw[new]at hj;have hj':(1<<<i).testBit j=true:=hj;rw[bit1,decide_eq_true_eq]at hj';subst hj';exact⟨Nat.le_refl _,by rw[eb];exact List.mem_append_right _ (List.mem_singleton.mpr rfl)⟩
   ·rw[e]at hq;rcases List.mem_append.mp hq with q' | q'
    ·obtain⟨h1,h2,h3⟩:=I.mak q q';exact⟨h1,λj hj=>⟨(h2 j hj).1,q7G L n j (h2 j hj).2⟩,by omega⟩
    ·have:=List.mem_singleton.mp q';subst this;refine⟨?_,λj hj=>?_,Nat.lt_succ_self n⟩
     ·show p1=xo L (p2 ||| 1<<<n) N;have e1:p2 ||| 1<<<n=p2 ^^^ 1<<<n:=by
       apply Nat.eq_of_testBit_eq;intro j;rw[Nat.testBit_xor,Nat.testBit_or,bit1];by_cases q:n=j
       ·subst q;cases q:p2.testBit n with
        | false=>simp
        | true=>have:=(sub n q).1;omega
       ·simp[q]
      have i2:p1 ^^^ xo L p2 N=L n:=inv';rw[e1,q6s,q8a,if_pos (by omega),←i2,Nat.xor_comm p1,←Nat.xor_assoc,Nat.xor_self,Nat.zero_xor]
     ·have hj':(p2 ||| 1<<<n).testBit j=true:=hj;rw[Nat.testBit_or,bit1]at hj';by_cases q:n=j
      ·subst q;exact⟨Nat.le_refl _,by rw[eb];exact List.mem_append_right _ (List.mem_singleton.mpr rfl)⟩
      ·rw[show decide (n=j)=false from decide_eq_false q,Bool.or_false]at hj';have:=sub j hj';exact⟨by show j<=n;omega,q7G L n j this.2⟩
end rk
end
noncomputable section
namespace rk
def xb(f:Nat->Bool):Nat->Bool
 | 0=>false
 | n+1=>xb f n ^^ f n
theorem q3U{f g:Nat->Bool}:∀{n:Nat},(∀i,i<n->f i=g i)->xb f n=xb g n
 | 0,_=>rfl
 | n+1,h=>by show(xb f n ^^ f n)=(xb g n ^^ g n);rw[q3U (λi hi=>h i (by omega)),h n (by omega)]
theorem q7n{f:Nat->Bool}:∀{n:Nat},(∀i,i<n->f i=false)->xb f n=false
 | 0,_=>rfl
 | n+1,h=>by show(xb f n ^^ f n)=false;rw[q7n (λi hi=>h i (by omega)),h n (by omega)];rfl
theorem z3C{f:Nat->Bool}{t:Nat}:∀{n:Nat},t<n->f t=true->(∀i,i<n->i≠t->f i=false)->xb f n=true
 | 0,h,_,_=>absurd h (Nat.not_lt_zero t)
 | n+1,h,ht,ho=>by
  show(xb f n ^^ f n)=true;by_cases q:t=n
  ·subst q;rw[q7n (λi hi=>ho i (by omega) (by omega)),ht];rfl
  ·rw[z3C (t:=t) (by omega) ht (λi hi ne=>ho i (by omega) ne),ho n (by omega) (by omega)];rfl
theorem par(f:Nat->Int):∀n,decide (sm f n%2=1)=xb (λi=>decide (f i%2=1)) n
 | 0=>rfl
 | n+1=>by
  show decide ((sm f n+f n)%2=1)=(xb (λi=>decide (f i%2=1)) n ^^ decide (f n%2=1));rw[←par f n];by_cases a:sm f n%2=1<;>by_cases b:f n%2=1
  ·rw[decide_eq_true a,decide_eq_true b,decide_eq_false (by omega)];rfl
  ·rw[decide_eq_true a,decide_eq_false b,decide_eq_true (by omega)];rfl
  ·rw[decide_eq_false a,decide_eq_true b,decide_eq_true (by omega)];rfl
  ·rw[decide_eq_false a,decide_eq_false b,decide_eq_false (by omega)];rfl
theorem z0C(a b:Int):decide (a*b%2=1)=(decide (a%2=1)&&decide (b%2=1)):=by
 have h:a*b%2=(a%2)*(b%2)%2:=Int.mul_emod a b 2;rcases Int.emod_two_eq a with p | p<;>rcases Int.emod_two_eq b with q | q<;>rw[h,p,q]<;>rfl
def SS(z:Nat->Bool)(b:Nat->Nat):Nat->Nat
 | 0=>0
 | t+1=>if z t then SS z b t ^^^ 1<<<b t else SS z b t
theorem z3O(z:Nat->Bool)(b:Nat->Nat)(i:Nat):∀c,(SS z b c).testBit i=xb (λt=>z t&&decide (b t=i)) c
 | 0=>Nat.zero_testBit i
 | c+1=>by
  show(if z c then SS z b c ^^^ 1<<<b c else SS z b c).testBit i=(xb (λt=>z t&&decide (b t=i)) c ^^ (z c&&decide (b c=i)));rw[←z3O z b i c];cases z c with
  | false=>show _=(_ ^^ false);rw[Bool.xor_false];rfl
  | true=>show(SS z b c ^^^ 1<<<b c).testBit i=_;rw[Nat.testBit_xor,bit1];rfl
theorem q6w(L:Nat->Nat)(z:Nat->Bool)(b:Nat->Nat)(n j:Nat):∀c,(∀t,t<c->b t<n)->(xo L (SS z b c) n).testBit j=xb (λt=>z t&&(L (b t)).testBit j) c
 | 0,_=>by show(xo L 0 n).testBit j=false;rw[q4f,Nat.zero_testBit]
 | c+1,h=>by
  show(xo L (if z c then SS z b c ^^^ 1<<<b c else SS z b c) n).testBit j=(xb (λt=>z t&&(L (b t)).testBit j) c ^^ (z c&&(L (b c)).testBit j));rw[←q6w L z b n j c (λt ht=>h t (by omega))];cases z c with
  | false=>show _=(_ ^^ false);rw[Bool.xor_false];rfl
  | true=>
   show(xo L (SS z b c ^^^ 1<<<b c) n).testBit j=_;rw[q6s,q8a,if_pos (h c (by omega)),Nat.testBit_xor];rfl
theorem z7P(L:Nat->Nat)(n:Nat)(z:Nat->Bool)(b:Nat->Nat):∀c,(∀t,t<c->b t∈bs L n)->rk L n (xo L (SS z b c) n,0)=(0,SS z b c)
 | 0,_=>by show rk L n (xo L 0 n,0)=(0,0);rw[q4f];exact q8g ..
 | c+1,h=>by
  have I:=z7P L n z b c (λt ht=>h t (by omega));show rk L n (xo L (if z c then SS z b c ^^^ 1<<<b c else SS z b c) n,0)=(0,if z c then SS z b c ^^^ 1<<<b c else SS z b c);cases z c with
  | false=>exact I
  | true=>
   show rk L n (xo L (SS z b c ^^^ 1<<<b c) n,0)=(0,SS z b c ^^^ 1<<<b c);have K:=(z2m L n n (Nat.le_refl _)).bs (b c) (h c (by omega));rw[q6s,q8a,if_pos K.1];have e:=z6j ((kp L n).map (·.2)) (xo L (SS z b c) n,0) (L (b c),0);have e2:px (xo L (SS z b c) n,0) (L (b c),0)=(xo L (SS z b c) n ^^^ L (b c),0):=by unfold px;rw[Nat.xor_zero]
   rw[e2]at e;show red ((kp L n).map (·.2)) _=_;rw[e];show px (rk L n (xo L (SS z b c) n,0)) (rk L n (L (b c),0))=_;rw[I,K.2];show(0 ^^^ 0,_)=_;rw[Nat.xor_zero]
theorem q8V(L:Nat->Nat)(n:Nat):∀i∈bs L n,i<n:=λi h=>((z2m L n n (Nat.le_refl _)).bs i h).1
theorem z2D(L:Nat->Nat):∀n,(bs L n).Pairwise (· < ·)
 | 0=>.nil
 | n+1=>by
  have I:=z2D L n;unfold bs at I ⊢;rw[kp_succ];split
  ·exact I
  ·rw[List.map_append,List.pairwise_append];refine⟨I,List.pairwise_singleton ..,λa ha b hb=>?_⟩;have:b=n:=List.mem_singleton.mp hb;subst this;exact q8V L b a ha
theorem alone{L:Nat->Nat}{n m:Nat}{z:Nat->Bool}(hL:∀i,i<n->L i<2^m)(hz:∃t,t<(bs L n).length/\z t=true)(h:∀j,j<m->xb (λt=>z t&&(L ((bs L n).getD t 0)).testBit j) (bs L n).length=false):False:=by
 obtain⟨t,ht,zt⟩:=hz;have hb:∀t,t<(bs L n).length->(bs L n).getD t 0∈bs L n:=λt ht=>by rw[List.getD_eq_getElem?_getD,List.getElem?_eq_getElem ht];exact List.getElem_mem ht
 have hx:xo L (SS z (λt=>(bs L n).getD t 0) (bs L n).length) n=0:=by
  apply Nat.eq_of_testBit_eq;intro j;rw[Nat.zero_testBit,q6w L z _ n j _ (λt ht=>q8V L n _ (hb t ht))];by_cases q:j<m
  ·exact h j q
  ·refine q7n λt ht=>?_;have:(L ((bs L n).getD t 0)).testBit j=false:=Nat.testBit_lt_two_pow (Nat.lt_of_lt_of_le (hL _ (q8V L n _ (hb t ht))) (Nat.pow_le_pow_right (by decide) (by omega)));rw[this,Bool.and_false]
 have e:=z7P L n z (λt=>(bs L n).getD t 0) (bs L n).length hb;rw[hx]at e;have e0:rk L n (0,0)=(0,0):=q8g ..;rw[e0]at e;have e1:SS z (λt=>(bs L n).getD t 0) (bs L n).length=0:=(congrArg Prod.snd e).symm;have e2:=z3O z (λt=>(bs L n).getD t 0) ((bs L n).getD t 0) (bs L n).length;rw[e1,Nat.zero_testBit]at e2;rw[z3C (t:=t) ht (by show(z t&&decide ((bs L n).getD t 0=(bs L n).getD t 0))=true;rw[zt];simp) (λi hi ne=>?_)]at e2
 ·cases e2
 ·have:(bs L n).getD i 0≠(bs L n).getD t 0:=by
   rw[List.getD_eq_getElem?_getD,List.getD_eq_getElem?_getD,List.getElem?_eq_getElem hi,List.getElem?_eq_getElem ht];show(bs L n)[i]≠(bs L n)[t];have P:=List.pairwise_iff_getElem.mp (z2D L n);rcases Nat.lt_or_gt_of_ne ne with q | q
   ·have:=P i t hi ht q;omega
   ·have:=P t i ht hi q;omega
  show(z i&&decide ((bs L n).getD i 0=(bs L n).getD t 0))=false;rw[decide_eq_false this,Bool.and_false]
theorem z0R(a:Int):P2 a↔decide (a%2=1)=false:=by
 show a%2=0↔_;rw[decide_eq_false_iff_not];omega
theorem z0M(L:Nat->Nat)(k j:Nat):∀n,(xo L k n).testBit j=xb (λi=>k.testBit i&&(L i).testBit j) n
 | 0=>Nat.zero_testBit j
 | n+1=>by
  show(if k.testBit n then xo L k n ^^^ L n else xo L k n).testBit j=(xb (λi=>k.testBit i&&(L i).testBit j) n ^^ (k.testBit n&&(L n).testBit j));rw[←z0M L k j n];cases k.testBit n with
  | false=>show _=(_ ^^ false);rw[Bool.xor_false];rfl
  | true=>show(xo L k n ^^^ L n).testBit j=_;rw[Nat.testBit_xor];rfl
theorem z5O(f:Nat->Bool)(n:Nat):∀(b:List Nat),b.Pairwise (· < ·)->(∀i∈b,i<n)->(∀i,i<n->f i=true->i∈b)->xb f n=xb (λt=>f (b.getD t 0)) b.length:=by
 induction n with
 | zero=>
  intro b _ h _;cases b with
  | nil=>rfl
  | cons x b=>exact absurd (h x List.mem_cons_self) (Nat.not_lt_zero x)
 | succ n ih=>
  intro b up h hf;show(xb f n ^^ f n)=_;by_cases q:n∈b
  ·-- the last one
   obtain⟨b',rfl⟩:∃b',b=b'++[n]:=by
    obtain⟨A,C,rfl⟩:=List.append_of_mem q;cases C with
    | nil=>exact⟨A,rfl⟩
    | cons y C=>
     have h1:=(List.pairwise_append.mp up).2.1;have h2:=(List.pairwise_cons.mp h1).1 y List.mem_cons_self;have h3:=h y (List.mem_append_right _ (List.mem_cons_of_mem _ List.mem_cons_self));omega
   have up':=(List.pairwise_append.mp up).1;have lt':∀i∈b',i<n:=λi hi=>(List.pairwise_append.mp up).2.2 i hi n (List.mem_singleton.mpr rfl);rw[ih b' up' lt' (λi hi q=>by
    rcases List.mem_append.mp (hf i (by omega) q)with w | w
    ·exact w
    ·have:=List.mem_singleton.mp w;omega)]
   rw[List.length_append,List.length_singleton];show _=(xb (λt=>f ((b'++[n]).getD t 0)) b'.length ^^ f ((b'++[n]).getD b'.length 0));rw[z0w,q3U (f:=λt=>f ((b'++[n]).getD t 0)) (g:=λt=>f (b'.getD t 0)) λt ht=>by rw[z1B ht]]
  ·have fn:f n=false:=by
    cases w:f n with
    | false=>rfl
    | true=>exact absurd (hf n (by omega) w) q
   rw[fn,Bool.xor_false];refine ih b up (λi hi=>?_) (λi hi w=>hf i (by omega) w);have:=h i hi;rcases Nat.lt_or_ge i n with w | w
   ·exact w
   ·have:i=n:=by omega
    subst this;exact absurd hi q
theorem bas2{v:Nat->Rw}{L:Nat->Nat}{n m:Nat}(hL:∀i,i<n->L i<2^m)(h:∀i,i<n->∀j,j<m->(L i).testBit j=decide (v i j%2=1)):Bas P2 v n m (bs L n):=by
 have hb:∀t,t<(bs L n).length->(bs L n).getD t 0<n:=λt ht=>q8V L n _ (by
  rw[List.getD_eq_getElem?_getD,List.getElem?_eq_getElem ht];exact List.getElem_mem ht)
 refine⟨q8V L n,z2D L n,λc hs i hi=>?_,λi hi=>?_⟩
 ·refine Classical.byContradiction λnc=>?_;have nc':c i%2=1:=by
   have:¬c i%2=0:=nc;omega
  refine alone hL ⟨i,hi,by show decide (c i%2=1)=true;rw[decide_eq_true_eq];exact nc'⟩ (z:=λt=>decide (c t%2=1)) λj hj=>?_;have p:=par (λt=>c t*v ((bs L n).getD t 0) j) (bs L n).length;rw[(z0R _).mp (hs j hj)]at p;rw[p];exact q3U λt ht=>by rw[z0C,h _ (hb t ht) j hj]
 ·have K:=z2m L n n (Nat.le_refl _);have inv:=z0u L n ((kp L n).map Prod.snd) (L i,0) (λq hq=>by
   obtain⟨q',h1,rfl⟩:=List.mem_map.mp hq;exact(K.mak q' h1).1)
  have inv':(rk L n (L i,0)).1 ^^^ xo L (rk L n (L i,0)).2 n=L i ^^^ xo L 0 n:=inv;rw[K.all i hi,Nat.zero_xor,q4f,Nat.xor_zero]at inv';obtain⟨k,hk⟩:∃k,(rk L n (L i,0)).2=k:=⟨_,rfl⟩;rw[hk]at inv';refine⟨1,λs=>if k.testBit ((bs L n).getD s 0)then 1 else 0,pr2.one,λj hj=>?_⟩;rw[z0R,Int.one_mul];have e1:decide (v i j%2=1)=decide (sm (λs=>(if k.testBit ((bs L n).getD s 0)then 1 else 0)*v ((bs L n).getD s 0) j) (bs L n).length%2=1):=by
   rw[←h i hi j hj,←inv',z0M,par,z5O _ n (bs L n) (z2D L n) (q8V L n) (λi' hi' w=>by
    rw[Bool.and_eq_true]at w;exact(K.sub i i' hi (by rw[hk];exact w.1)).2)]
   refine q3U λt ht=>?_;rw[z0C,h _ (hb t ht) j hj];cases k.testBit ((bs L n).getD t 0)<;>rfl
  have e2:=decide_eq_decide.mp e1;have gen:∀a S:Int,(a%2=1↔S%2=1)->decide ((a - S)%2=1)=false:=(by intro a S q;rw[decide_eq_false_iff_not];omega);exact gen _ _ e2
end rk
end
noncomputable section
namespace k44
open PySem L2
def q3c:FD:={n:=3,np:=3,dfl:=[],body:=[.ret (.and [.isi (.var 0) ["int"],.not (.isi (.var 0) ["bool"]),.chain .LtE .LtE (.var 1) (.var 0) (.var 2)])]}
def q3j:FD:={n:=1,np:=1,dfl:=[],body:=[.ret (.bi .tuple [.comp (.bi .tuple [.comp (.ix (.var 0) (.var 1)) (.one 0) (.var 1) [none,some 0]]) (.one 0) (.rng [.bi .len [.ix (.var 0) (.int 0)]]) [none,some 0]])]}
def z3g:FD:={n:=3,np:=3,dfl:=[],body:=[.exp (.call 3 [.var 1,.bi .len [.var 0]]),.exp (.call 3 [.var 2,.bi .len [.ix (.var 0) (.int 0)]]),.ret (.call 5 [.var 0,.call 4 [.var 1],.call 4 [.var 2]])]}
def q1t:FD:={n:=2,np:=2,dfl:=[],body:=[.iff (.not (.call 0 [.var 0,.int 1,.bin .Sub (.bin .LShift (.int 1) (.var 1)) (.int 1)])) [.rse "NoCard" (.str "a set of cards is an int from 1 on with cards of the table alone")] []]}
def q2C:FD:={n:=1,np:=1,dfl:=[],body:=[.ret (.compi (.var 0) (.one 0) (.rng [.meth .bitLength (.var 0) []]) (.bin .BitAnd (.bin .RShift (.var 1) (.var 0)) (.int 1)) [none,some 0])]}
def q2z:FD:={n:=3,np:=3,dfl:=[],body:=[.ret (.bi .tuple [.comp (.bi .tuple [.comp (.ix (.ix (.var 1) (.var 2)) (.var 0)) (.one 0) (.var 1) [none,some 2,some 0]]) (.one 0) (.var 1) [none,some 2,some 0]])]}
def q2k:FD:={n:=1,np:=1,dfl:=[],body:=[.ret (.comp (.idx (.var 1) (.var 0)) (.one 0) (.var 0) [none,some 0])]}
def q1m:FD:={n:=1,np:=1,dfl:=[],body:=[.ret (.call 6 [.call 1 [.var 0]])]}
def q3d:FD:={n:=1,np:=1,dfl:=[],body:=[.ret (.call 5 [.var 0,.bi .sset [.call 6 [.var 0]],.bi .sset [.call 7 [.var 0]]])]}
def z1u:FD:={n:=1,np:=1,dfl:=[],body:=[.ret (.tup [.call 11 [.var 0],.call 11 [.call 1 [.var 0]]])]}
def z0J:FD:={n:=1,np:=1,dfl:=[],body:=[.ret (.bi .len [.call 11 [.var 0]])]}
def q2r:FD:={n:=6,np:=1,dfl:=[],body:=[.set 1 true (.lst []),.set 2 true (.lst []),.fo (.many [3,4]) (.enu (.var 0)) [.set 5 false (.call 12 [.var 4,.var 2]),.iff (.bi .any [.comp (.cmp .NotEq (.var 0) (.int 0)) (.one 0) (.var 5) [none]]) [.app 1 (.var 3),.app 2 (.var 5)] []],.ret (.var 1)]}
def q4G:FD:={n:=6,np:=2,dfl:=[],body:=[.set 2 true (.bi .list [.var 0]),.fo (.one 3) (.var 1) [.set 4 false (.call 13 [.var 3]),.set 5 false (.ix (.var 2) (.var 4)),.set 2 true (.comp (.bin .Sub (.bin .Mult (.var 0) (.ix (.var 2) (.var 3))) (.bin .Mult (.var 4) (.var 1))) (.many [0,1]) (.zp (.var 2) (.var 3)) [none,none,some 3,some 4,some 5])],.ret (.var 2)]}
def q1v:FD:={n:=1,np:=1,dfl:=[],body:=[.ret (.ix (.compi (.var 0) (.many [0,1]) (.enu (.var 0)) (.cmp .NotEq (.var 1) (.int 0)) [none,none]) (.int 0))]}
def q1L:FD:={n:=1,np:=1,dfl:=[],body:=[.ret (.tup [.call 17 [.call 16 [.var 0]],.call 17 [.call 16 [.call 1 [.var 0]]]])]}
def q1J:FD:={n:=1,np:=1,dfl:=[],body:=[.ret (.bi .len [.call 17 [.call 16 [.var 0]]])]}
def q1B:FD:={n:=1,np:=1,dfl:=[],body:=[.ret (.comp (.bi .sum [.comp (.bin .LShift (.bin .Mod (.var 1) (.int 2)) (.var 0)) (.many [0,1]) (.enu (.var 0)) [none,none]]) (.one 0) (.var 0) [none])]}
def q1I:FD:={n:=1,np:=1,dfl:=[],body:=[.ret (.comp (.var 0) (.many [0,1,2]) (.call 18 [.var 0]) [none,none,none])]}
def q2q:FD:={n:=5,np:=1,dfl:=[],body:=[.set 1 true (.lst []),.fo (.many [2,3]) (.enu (.var 0)) [.set 4 false (.call 19 [.var 3,.var 1]),.iff (.cmp .NotEq (.ix (.var 4) (.int 0)) (.int 0)) [.app 1 (.tup [.var 2,.ix (.var 4) (.int 0),.bin .BitOr (.ix (.var 4) (.int 1)) (.bin .LShift (.int 1) (.var 2))])] []],.ret (.var 1)]}
def q1j:FD:={n:=7,np:=2,dfl:=[],body:=[.set 2 false (.var 0),.set 3 false (.int 0),.fo (.many [4,5,6]) (.var 1) [.iff (.cmp .Eq (.bin .BitAnd (.bin .RShift (.var 2) (.bin .Sub (.meth .bitLength (.var 5) []) (.int 1))) (.int 1)) (.int 1)) [.set 2 false (.bin .BitXor (.var 2) (.var 5)),.set 3 false (.bin .BitXor (.var 3) (.var 6))] []],.ret (.tup [.var 2,.var 3])]}
def q1k:FD:={n:=2,np:=2,dfl:=[],body:=[.iff (.cmp .Lt (.var 1) (.bi .len [.var 0])) [.ret (.ix (.var 0) (.var 1))] [],.ret (.int 0)]}
def q2a:FD:={n:=7,np:=2,dfl:=[],body:=[.set 2 true (.lst []),.set 3 false (.var 0),.fo (.one 4) (.rng [.var 1]) [.app 2 (.bin .Mod (.var 3) (.int 306783379)),.set 3 false (.bin .FloorDiv (.var 3) (.int 306783379))],.iff (.cmp .Gt (.var 3) (.int 0)) [.ret (.var 2)] [],.set 5 false (.bin .Add (.bin .Mod (.var 0) (.int 2147483647)) (.int 48271)),.fo (.one 4) (.rng [.var 1]) [.set 5 false (.bin .Mod (.bin .Add (.bin .Add (.bin .Mult (.var 5) (.int 48271)) (.bin .Mult (.var 4) (.var 4))) (.int 11)) (.int 2147483647)),.set 6 false (.bin .Add (.bin .Add (.bin .Mult (.bin .FloorDiv (.var 5) (.int 977)) (.int 16807)) (.bin .Mult (.var 5) (.bin .Add (.bin .Mult (.var 4) (.var 4)) (.int 7)))) (.var 4)),.seti 2 (.var 4) (.bin .FloorDiv (.bin .Mod (.var 6) (.int 2147483587)) (.int 7))],.ret (.var 2)]}
def q2w:FD:={n:=7,np:=2,dfl:=[],body:=[.set 0 true (.comp (.bi .list [.var 0]) (.one 0) (.var 0) [none]),.fo (.one 2) (.rng [.bin .Mod (.ix (.var 1) (.int 0)) (.int 4)]) [.set 3 false (.bin .Mod (.ix (.var 1) (.bin .Add (.int 1) (.var 2))) (.bi .len [.var 0])),.set 4 false (.ix (.var 0) (.bin .Mod (.ix (.var 1) (.bin .Add (.int 5) (.var 2))) (.bi .len [.var 0]))),.set 5 false (.ix (.var 0) (.bin .Mod (.ix (.var 1) (.bin .Add (.int 9) (.var 2))) (.bi .len [.var 0]))),.set 6 false (.bin .Mod (.ix (.var 1) (.bin .Add (.int 13) (.var 2))) (.int 4)),.iff (.cmp .Eq (.var 6) (.int 0)) [.seti 0 (.var 3) (.bi .list [.var 4])] [],.iff (.and [.cmp .Eq (.var 6) (.int 1),.cmp .Lt (.bin .Add (.bi .max [.var 4]) (.bi .max [.var 5])) (.int 10)]) [.seti 0 (.var 3) (.comp (.bin .Add (.var 0) (.var 1)) (.many [0,1]) (.zp (.var 4) (.var 5)) [none,none])] [],.iff (.and [.cmp .Eq (.var 6) (.int 2),.cmp .Lt (.bi .max [.var 4]) (.int 5)]) [.seti 0 (.var 3) (.comp (.bin .Mult (.int 2) (.var 0)) (.one 0) (.var 4) [none])] [],.iff (.cmp .Eq (.var 6) (.int 3)) [.seti 0 (.var 3) (.bin .Mult (.lst [.int 0]) (.bi .len [.var 4]))] []],.ret (.var 0)]}
def q2U:FD:={n:=7,np:=2,dfl:=[],body:=[.set 2 false (.call 21 [.call 20 [.var 0,.int 0],.int 2]),.set 3 false (.bin .Add (.int 1) (.bin .Mod (.ix (.var 2) (.int 0)) (.int 6))),.set 4 false (.bin .Add (.int 1) (.bin .Mod (.ix (.var 2) (.int 1)) (.int 6))),.set 5 true (.comp (.bin .Mod (.var 0) (.var 1)) (.one 0) (.call 21 [.call 20 [.var 0,.int 1],.bin .Mult (.var 3) (.var 4)]) [none,some 1]),.fo (.one 6) (.rng [.bi .min [.bin .Mult (.var 3) (.var 4),.bin .Sub (.bi .len [.var 0]) (.int 5)]]) [.seti 5 (.var 6) (.bin .Mod (.ix (.var 0) (.bin .Add (.int 5) (.var 6))) (.var 1))],.ret (.comp (.sl (.var 1) (.bin .Mult (.var 0) (.var 2)) (.bin .Add (.bin .Mult (.var 0) (.var 2)) (.var 2))) (.one 0) (.rng [.var 3]) [none,some 5,some 4])]}
def q0O:FD:={n:=8,np:=2,dfl:=[],body:=[.iff (.cmp .Eq (.var 0) (.lst [])) [.ret (.int 1)] [],.set 2 false (.int 0),.set 3 false (.int 1),.fo (.one 4) (.rng [.bi .len [.var 1]]) [.set 5 false (.ix (.ix (.var 0) (.int 0)) (.ix (.var 1) (.var 4))),.iff (.cmp .NotEq (.var 5) (.int 0)) [.set 6 false (.bin .Add (.slt (.var 1) (.var 4)) (.slf (.var 1) (.bin .Add (.var 4) (.int 1)))),.set 7 false (.call 24 [.slf (.var 0) (.int 1),.var 6]),.set 2 false (.bin .Add (.var 2) (.bin .Mult (.bin .Mult (.var 3) (.var 5)) (.var 7)))] [],.set 3 false (.bin .Sub (.int 0) (.var 3))],.ret (.var 2)]}
def q1Y:FD:={n:=3,np:=3,dfl:=[],body:=[.ret (.call 24 [.comp (.ix (.var 1) (.var 0)) (.one 0) (.var 1) [none,some 0],.var 2])]}
def q2x:FD:={n:=7,np:=3,dfl:=[],body:=[.set 3 false (.call 25 [.var 0,.ix (.var 1) (.int 0),.ix (.var 1) (.int 1)]),.iff (.or [.cmp .Eq (.var 3) (.int 0),.and [.cmp .Eq (.var 2) (.int 2),.cmp .Eq (.bin .Mod (.var 3) (.int 2)) (.int 0)]]) [.ret (.bl false)] [],.fo (.one 4) (.rng [.bi .len [.var 0]]) [.fo (.one 5) (.rng [.bi .len [.ix (.var 0) (.int 0)]]) [.iff (.and [.cmp .NotIn (.var 4) (.ix (.var 1) (.int 0)),.cmp .NotIn (.var 5) (.ix (.var 1) (.int 1))]) [.set 6 false (.call 25 [.var 0,.bin .Add (.ix (.var 1) (.int 0)) (.lst [.var 4]),.bin .Add (.ix (.var 1) (.int 1)) (.lst [.var 5])]),.iff (.or [.and [.cmp .Eq (.var 2) (.int 0),.cmp .NotEq (.var 6) (.int 0)],.and [.cmp .Eq (.var 2) (.int 2),.cmp .NotEq (.bin .Mod (.var 6) (.int 2)) (.int 0)]]) [.ret (.bl false)] []] []]],.ret (.bl true)]}
def q9n:FD:={n:=9,np:=1,dfl:=[],body:=[.set 1 false (.call 21 [.call 20 [.var 0,.int 2],.int 20]),.set 2 false (.call 23 [.var 0,.ix (.lst [.int 2,.int 4,.int 10]) (.bin .Mod (.ix (.var 1) (.int 17)) (.int 3))]),.iff (.cmp .Gt (.bin .Mod (.ix (.var 1) (.int 18)) (.int 3)) (.int 0)) [.set 2 false (.call 22 [.var 2,.var 1])] [],.set 3 false (.bi .tuple [.comp (.bi .tuple [.var 0]) (.one 0) (.var 2) [none]]),.iff (.or [.not (.call 26 [.var 2,.call 9 [.var 3],.int 0]),.not (.call 26 [.var 2,.call 14 [.var 3],.int 2])]) [.ret (.bl false)] [],.set 4 false (.bin .Add (.int 1) (.bin .Mod (.call 20 [.var 0,.int 3]) (.ix (.lst [.int 1,.int 3,.int 7,.int 15,.int 31,.int 63]) (.bin .Sub (.bi .len [.var 2]) (.int 1))))),.set 5 false (.bin .Add (.int 1) (.bin .Mod (.call 20 [.var 0,.int 4]) (.ix (.lst [.int 1,.int 3,.int 7,.int 15,.int 31,.int 63]) (.bin .Sub (.bi .len [.ix (.var 2) (.int 0)]) (.int 1))))),.set 6 false (.call 2 [.var 3,.var 4,.var 5]),.set 7 false (.call 1 [.var 3]),.iff (.or [.cmp .NotEq (.call 10 [.var 7]) (.call 10 [.var 3]),.cmp .NotEq (.call 15 [.var 7]) (.call 15 [.var 3])]) [.ret (.bl false)] [],.iff (.or [.cmp .Gt (.call 10 [.var 6]) (.call 10 [.var 3]),.cmp .Gt (.call 15 [.var 6]) (.call 15 [.var 3])]) [.ret (.bl false)] [],.set 8 false (.call 8 [.var 3]),.ret (.and [.cmp .Eq (.call 10 [.var 8]) (.call 10 [.var 3]),.cmp .LtE (.call 10 [.var 3]) (.bi .min [.bi .len [.var 8],.bi .len [.ix (.var 8) (.int 0)]])])]}
def T:List FD:=[q3c,q3j,z3g,q1t,q2C,q2z,q2k,q1m,q3d,z1u,z0J,q2r,q4G,q1v,q1L,q1J,q1B,q1I,q2q,q1j,q1k,q2a,q2w,q2U,q0O,q1Y,q2x,q9n]
def G:Gs:={con:=[],cls:=[("TalkError",["ValueError","Exception","BaseException","object"]),("NoCard",["TalkError","ValueError","Exception","BaseException","object"])]}
end k44
namespace k44
open PySem L2
variable {fu k:Nat} {F:Nat->List DV->Option Ou} {δ:List Sv} {ds:List DV} {cl:Cl} {N M:Nat} {R:List (List Int)}
theorem q6P(ns:List Int)(j:Nat):∃v:Int,run G T fu (k+1) 20 [.scr ns,.int j]=some (.v (.int v) false):=by
 rw[q0D (fd:=q1k) rfl rfl];unfold q1k;by_cases h:j<ns.length
 ·refine⟨ns[j],q1c (z1O (q0G (cl:=.strong) ?_) (q1a ?_))⟩
  ·simp[evE,evEs,q0S,q3y,q0n,biOk,biD,lenD,cmpD,h]
  ·simp[evS,evE,q0S,q0n,ixD,q2m,h,Re.thnS,frD,retD,Cl.item]
 ·refine⟨0,q1c (q1C (q0G (cl:=.strong) ?_) (q1a rfl))⟩;simp[evE,evEs,q0S,q3y,q0n,biOk,biD,lenD,cmpD];omega
theorem q6U{F:Nat->List DV->Option Ou}{δ:List Sv}{e:ME}{n:Nat}{cl:Cl}(h:evE G F e δ=some (.ok (.int n) cl))(hn:n<=1000):q0F (evE G F (.rng [e]) δ)=some (.ok (upTo 0 n) .fresh):=by
 show q0F (Rs.thn (evEs G F [e] δ) (λl=>(rngD l).map λds=>.ok (.lst ds) .fresh))=_;rw[q0a h q0d,q3y];have hs:(q1i (n:Int)&&decide ((n:Int)<=(mostLen:Int)))=true:=by rw[Bool.and_eq_true,decide_eq_true_iff];refine⟨?_,Int.le_trans (show(n:Int)<=1000 by omega) (by decide)⟩;unfold q1i;rw[Bool.and_eq_true,decide_eq_true_iff,decide_eq_true_iff];exact⟨Int.le_trans (by decide) (Int.natCast_nonneg n),Int.lt_of_le_of_lt (show(n:Int)<=1000 by omega) (by decide)⟩
 show q0F ((if q1i (n:Int)&&decide ((n:Int)<=(mostLen:Int))then some (upTo 0 (n:Int).toNat)else none).map λds=>.ok (.lst ds) .fresh)=_;rw[if_pos hs,Int.toNat_natCast];rfl
theorem q2A{e:ME}{ds:List DV}{c:Cl}(h:evE G F e δ=some (.ok (.lst ds) c)):evE G F (.bi .tuple [e]) δ=some (.ok (.tup ds) c.item):=by
 show Rs.thn (evEs G F [e] δ) (λl=>q5h l)=_;rw[q0a h q0d];rfl
theorem q4l{e:ME}{ds:List DV}{c:Cl}(h:evE G F e δ=some (.ok (.lst ds) c)):evE G F (.bi .len [e]) δ=some (.ok (.int ds.length) .strong):=by
 show Rs.thn (evEs G F [e] δ) (λl=>lenD l)=_;rw[q0a h q0d];rfl
theorem q4B{e:ME}{ds:List DV}{c:Cl}(h:evE G F e δ=some (.ok (.tup ds) c)):evE G F (.bi .len [e]) δ=some (.ok (.int ds.length) .strong):=by
 show Rs.thn (evEs G F [e] δ) (λl=>lenD l)=_;rw[q0a h q0d];rfl
def iD(r:List Int):List DV:=r.map DV.int
def rL(rows:List (List Int)):DV:=.lst (rows.map λr=>.lst (iD r))
def tT(rows:List (List Int)):DV:=.tup (rows.map λr=>.tup (iD r))
def Rect(n m:Nat)(rows:List (List Int)):Prop:=rows.length=n/\∀r∈rows,r.length=m
def col(rows:List (List Int))(j:Nat):List Int:=rows.map λr=>r.getD j 0
def flip(m:Nat)(rows:List (List Int)):List (List Int):=(List.range m).map (col rows)
theorem q9C{r:List Int}{j:Nat}(h:j<r.length):ixD (.tup (iD r)) (.int j)=some (.int (r.getD j 0)):=by
 have hh:(j:Int)<((r.map DV.int).length:Int):=by rw[List.length_map];exact_mod_cast h
 unfold iD;simp only[ixD,atD,q2m,if_pos (Int.natCast_nonneg j),if_pos hh,Option.bind_some,Int.toNat_natCast,List.getElem?_map,List.getElem?_eq_getElem h,Option.map_some,List.getD_eq_getElem?_getD,Option.getD_some]
theorem q1G{r:List Int}{j:Nat}(h:j<r.length):ixD (.lst (iD r)) (.int j)=some (.int (r.getD j 0)):=by
 have hh:(j:Int)<((r.map DV.int).length:Int):=by rw[List.length_map];exact_mod_cast h
 unfold iD;simp only[ixD,atD,q2m,if_pos (Int.natCast_nonneg j),if_pos hh,Option.bind_some,Int.toNat_natCast,List.getElem?_map,List.getElem?_eq_getElem h,Option.map_some,List.getD_eq_getElem?_getD,Option.getD_some]
def sub(rows:List (List Int))(I J:List Nat):List (List Int):=I.map λi=>J.map λj=>(rows.getD i []).getD j 0
theorem z0t{rows:List (List Int)}{i:Nat}(h:i<rows.length):ixD (tT rows) (.int i)=some (.tup (iD (rows.getD i []))):=by
 have hh:(i:Int)<((rows.map λr=>DV.tup (iD r)).length:Int):=by rw[List.length_map];exact_mod_cast h
 simp only[tT,ixD,atD,q2m,if_pos (Int.natCast_nonneg i),if_pos hh,Option.bind_some,Int.toNat_natCast,List.getElem?_map,List.getElem?_eq_getElem h,Option.map_some,List.getD_eq_getElem?_getD,Option.getD_some]
theorem q5w{rows:List (List Int)}{i:Nat}(h:i<rows.length):rows.getD i []∈rows:=by
 rw[List.getD_eq_getElem?_getD,List.getElem?_eq_getElem h];exact List.getElem_mem h
theorem q4v(n:Nat):∀r:List Int,DV.plains n (iD r)=true
 | []=>by unfold iD;simp[DV.plains]
 | a::r=>by have q:=q4v n r;unfold iD at q ⊢;rw[List.map_cons];unfold DV.plains;rw[q];cases n<;>rfl
theorem z9b{e:ME}{i:Int}{cl:Cl}(h:evE G F e δ=some (.ok (.int i) cl))(h1:i<=1000)(h2 : -1000<=i):q0F (evE G F (.rng [e]) δ)=some (.ok (upTo 0 i.toNat) .fresh):=by
 show q0F (Rs.thn (evEs G F [e] δ) (λl=>(rngD l).map λds=>.ok (.lst ds) .fresh))=_;rw[q0a h q0d,q3y];have hs:(q1i i&&decide (i<=(mostLen:Int)))=true:=by rw[Bool.and_eq_true,decide_eq_true_iff];refine⟨?_,Int.le_trans h1 (by decide)⟩;unfold q1i;rw[Bool.and_eq_true,decide_eq_true_iff,decide_eq_true_iff];exact⟨Int.le_trans (by decide) h2,Int.lt_of_le_of_lt h1 (by decide)⟩
 show q0F ((if q1i i&&decide (i<=(mostLen:Int))then some (upTo 0 i.toNat)else none).map λds=>.ok (.lst ds) .fresh)=_;rw[if_pos hs];rfl
def q5l(n m:Nat)(ws:List Int):List (List Int):=(List.range n).map λj=>(ws.drop (j*m)).take m
theorem q9z{n m:Nat}{ws:List Int}(h:ws.length=n*m):Rect n m (q5l n m ws):=by
 unfold q5l;refine⟨by rw[List.length_map,List.length_range],λr hr=>?_⟩;obtain⟨j,hj,rfl⟩:=List.mem_map.mp hr;have hj':=List.mem_range.mp hj;rw[List.length_take,List.length_drop,h];have:(j+1)*m<=n*m:=Nat.mul_le_mul_right m hj';rw[Nat.add_mul,Nat.one_mul]at this;omega
theorem z9S{a lo hi:ME}{ds:List DV}{c c1 c2:Cl}{l h:Int}(ha:evE G F a δ=some (.ok (.lst ds) c))(hl:evE G F lo δ=some (.ok (.int l) c1))(hh:evE G F hi δ=some (.ok (.int h) c2)):evE G F (.sl a lo hi) δ=some (.ok (.lst (cutD ds (some l) (some h))) (Cl.anew c c)):=by
 unfold evE;rw[ha,q0S,hl,q0S];show Re.thn (evE G F hi δ) _=_;rw[hh];rfl
theorem z4G{ws:List Int}{n m j:Nat}(h:ws.length=n*m)(hj:j<n):cutD (iD ws) (some ((j:Int)*m)) (some ((j:Int)*m+m))=iD ((ws.drop (j*m)).take m):=by
 have e1:((j:Int)*m)=((j*m:Nat):Int):=by push_cast;rfl
 have e2:((j:Int)*m+m)=((j*m+m:Nat):Int):=by push_cast;rfl
 have le:j*m+m<=n*m:=(by have:(j+1)*m<=n*m:=Nat.mul_le_mul_right m hj;rw[Nat.add_mul,Nat.one_mul]at this;exact this);have len:(iD ws).length=n*m:=by unfold iD;rw[List.length_map,h]
 unfold cutD slIx;rw[e2,e1];simp only[len];rw[if_neg (by omega),if_neg (by omega),Int.toNat_natCast,Int.toNat_natCast,Nat.min_eq_left le,Nat.min_eq_left (show j*m<=n*m by omega),show j*m+m - j*m=m by omega];unfold iD;rw[←List.map_drop,←List.map_take]
theorem q6x{n j:Nat}(h:j<n):q2m n (j:Int)=some j:=by
 unfold q2m;rw[if_pos (Int.natCast_nonneg j),if_pos (by omega),Int.toNat_natCast]
theorem z3Q{F:Nat->List DV->Option Ou}{δ:List Sv}{es:List ME}{l:List (DV×Cl)}(h:evEs G F es δ=some (.ok l)):evE G F (.bi .min es) δ=minD l:=by
 have e:evE G F (.bi .min es) δ=Rs.thn (evEs G F es δ) (λl=>minD l):=rfl;rw[e,h];rfl
theorem q6K{n m:Nat}{rows:List (List Int)}(R:Rect n m rows):Rect m n (flip m rows):=by
 unfold flip;refine⟨by rw[List.length_map,List.length_range],λr hr=>?_⟩;obtain⟨j,hj,rfl⟩:=List.mem_map.mp hr;unfold col;rw[List.length_map,R.1]
theorem z4Y{rows:List (List Int)}{i:Nat}(h:i<rows.length):ixD (rL rows) (.int i)=some (.lst (iD (rows.getD i []))):=by
 have hh:(i:Int)<((rows.map λr=>DV.lst (iD r)).length:Int):=by rw[List.length_map];exact_mod_cast h
 simp only[rL,ixD,atD,q2m,if_pos (Int.natCast_nonneg i),if_pos hh,Option.bind_some,Int.toNat_natCast,List.getElem?_map,List.getElem?_eq_getElem h,Option.map_some,List.getD_eq_getElem?_getD,Option.getD_some]
theorem q9B{F:Nat->List DV->Option Ou}{δ:List Sv}{es:List ME}{l:List (DV×Cl)}(h:evEs G F es δ=some (.ok l))(hl:l.length<=mostLen)(hs:stros l=true):evE G F (.lst es) δ=some (.ok (.lst (l.map (·.1))) .fresh):=by
 have e:evE G F (.lst es) δ=Rs.thn (evEs G F es δ) (λl=>if l.length<=mostLen then some (.ok (.lst (l.map (·.1))) (if stros l then .fresh else .weak))else none):=rfl;rw[e,h,q3y,if_pos hl,hs];rfl
def nD(l:List Nat):List DV:=l.map λ(j:Nat)=>DV.int (j:Int)
theorem q8k{α:Type}[BEq α][LawfulBEq α]{f:α->DV}(hf:∀a b,deq (f a) (f b)=(a==b))(r:α):∀{l:List α},r∈l->q3P (f r) (l.map f)=some (l.idxOf r)
 | a::l,hm=>by
  rw[List.map_cons];unfold q3P;rw[hf,List.idxOf_cons];cases hb:(a==r)with
  | true=>rfl
  | false=>
   have h2:r∈l:=by
    rcases List.mem_cons.mp hm with e | e
    ·subst e;simp at hb
    ·exact e
   rw[q8k hf r h2];rfl
theorem z1q:∀a b:List Int,deqs (iD a) (iD b)=(a==b)
 | [],[]=>rfl
 | [],_::_=>rfl
 | _::_,[]=>rfl
 | x::a,y::b=>by have ih:=z1q a b;unfold iD at ih ⊢;rw[List.map_cons,List.map_cons];unfold deqs;rw[ih];unfold deq;rfl
theorem y0i(a b:List Int):deq (.tup (iD a)) (.tup (iD b))=(a==b):=z1q a b
theorem q6O{n:Nat}:∀{l:List DV},(∀d∈l,d.plain n=true)->DV.plains n l=true
 | [],_=>by unfold DV.plains;rfl
 | d::r,h=>by unfold DV.plains;rw[h d (List.mem_cons_self ..),q6O λx hx=>h x (List.mem_cons_of_mem _ hx)];rfl
theorem q9X(n:Nat)(a:List Int):DV.plain (n+1) (.tup (iD a))=true:=q4v n a
theorem z2K(n:Nat)(rows:List (List Int)):DV.plains (n+1) (rows.map λr=>.tup (iD r))=true:=q6O λd hd=>by
 obtain⟨r,_,rfl⟩:=List.mem_map.mp hd;exact q9X n r
theorem z9Q{rows:List (List Int)}{r:List Int}(h:r∈rows)(hl:rows.length<=1000):idxD (.tup (rows.map λr=>.tup (iD r))) (.tup (iD r))=some (.int (rows.idxOf r:Nat)):=by
 unfold idxD;dsimp only;rw[q9X 59,z2K 59,decide_eq_true (by rw[List.length_map];exact Nat.le_trans hl (by decide)),q8k (f:=λr=>.tup (iD r)) y0i r h];rfl
theorem z6V{a b:ME}{x y d:DV}{cx cy:Cl}(ha:evE G F a δ=some (.ok x cx))(hs:seqB x=true)(hb:evE G F b δ=some (.ok y cy))(h:idxD x y=some d):evE G F (.idx a b) δ=some (.ok d .strong):=by
 show Re.thn (evE G F a δ) (λx _=>if seqB x then Re.thn (evE G F b δ) λy _=>(idxD x y).map λd=>.ok d .strong else none)=_;rw[ha,q0S,if_pos hs,hb,q0S,h];rfl
theorem q4A{α:Type}{g:DV->Option Rc}{h f:α->DV}:∀{l:List α},(∀a∈l,g (h a)=some (.item (f a)))->q0K g (l.map h)=some (l.map f)
 | [],_=>rfl
 | a::r,q=>by rw[List.map_cons,List.map_cons];unfold q0K;rw[q a (List.mem_cons_self ..)];show(match q0K g (r.map h)with | none=>none | some xs=>some (f a::xs))=_;rw[q4A λx hx=>q x (List.mem_cons_of_mem _ hx)]
theorem q0B{α:Type}{l:List α}{h f:α->DV}{elt it:ME}{tg:Tg}{fr:List (Option Nat)}(hw:q0F (evE G F it δ)=some (.ok (l.map h) cl))(hc:cl ≠ .weak)(hl:l.length<=mostLen)
  (q:∀a∈l,∃δ' c,tg.bind (h a) (q0Q fr δ)=some δ'/\evE G F elt δ'=some (.ok (f a) c)/\stro (f a) c=true):evE G F (.comp elt tg it fr) δ=some (.ok (.lst (l.map f)) .fresh):=by
 show Ri.thn (q0F (evE G F it δ)) (λds c=>if c=.weak\/mostLen<ds.length then none else q1z (q0K (λd=>(tg.bind d (q0Q fr δ)).bind λδ'=>Rc.of (evE G F elt δ')) ds))=_;rw[hw,q7t,if_neg (by rintro(z | z);exact hc z;rw[List.length_map]at z;omega),q4A (f:=f) (λa ha=>?_)]
 ·rfl
 ·obtain⟨δ',c,e1,e2,e3⟩:=q a ha;rw[e1,Option.bind_some,e2];show(if stro (f a) c then some (Rc.item (f a))else none)=_;rw[if_pos e3]
theorem z8B{rows:List (List Int)}{j:Nat}{d:DV}{h:List Int->DV}(hl:rows.length<=1000)(w:q0F (evE G F (.var 1) [.val (.int (j:Int)),.val d])=some (.ok (rows.map h) .strong))(hh:∀r∈rows,ixD (h r) (.int j)=some (.int (r.getD j 0))):evE G F (.comp (.ix (.var 0) (.var 1)) (.one 0) (.var 1) [none,some 0]) [.val (.int j),.val d]=some (.ok (.lst (iD (col rows j))) .fresh):=by
 rw[q0B (h:=h) (f:=λr=>.int (r.getD j 0)) w (by decide) (Nat.le_trans hl (by decide)) λr hr=>⟨[.val (h r),.val (.int j)],.strong,rfl,q0V (cx:=.strong) (q0b rfl) (q0b rfl) (hh r hr),rfl⟩];unfold iD col;rw[List.map_map];rfl
theorem z9k(rows:List (List Int))(m j:Nat)(hm:∀r∈rows,r.length=m)(hj:j<m)(hl:rows.length<=1000):evE G F (.comp (.ix (.var 0) (.var 1)) (.one 0) (.var 1) [none,some 0]) [.val (.int j),.val (tT rows)]=some (.ok (.lst (iD (col rows j))) .fresh):=z8B hl rfl λr hr=>q9C (by rw[hm r hr];exact hj)
theorem z9M{e:ME}{c:Cl}{n:Nat}(h:evE G F e δ=some (.ok (.int (n:Int)) c))(hn:n<=1000):q0F (evE G F (.rng [e]) δ)=some (.ok ((List.range n).map λ(j:Nat)=>DV.int (j:Int)) .fresh):=by
 rw[q6U h hn];unfold L2.upTo
 congr 2
 apply List.map_congr_left;intro j _
 congr 1
 omega
theorem q3o(rows:List (List Int))(n m:Nat)(R:Rect n m rows)(hn:0<n)(hn2:n<=1000)(hm2:m<=1000):run G T fu (k+1) 1 [tT rows]=some (.v (tT (flip m rows)) false):=by
 rw[q0D (fd:=q3j) rfl rfl];have r0:0<rows.length:=by rw[R.1];exact hn
 have hl:=q4B (F:=run G T fu k) (δ:=q0n 1 [tT rows]) (q0V (a:=.var 0) (b:=.int 0) (cx:=.strong) (q0b rfl) (q0c (i:=((0:Nat):Int))) (z0t r0));rw[show(iD (rows.getD 0 [])).length=m by unfold iD;rw[List.length_map];exact R.2 _ (q5w r0)]at hl;have cm:=q0B (elt:=.bi .tuple [.comp (.ix (.var 0) (.var 1)) (.one 0) (.var 1) [none,some 0]]) (tg:=.one 0) (fr:=[none,some 0]) (f:=λj=>.tup (iD (col rows j))) (z9M hl hm2) (by decide) (by rw[List.length_range];exact Nat.le_trans hm2 (by decide)) λj hj=>
  ⟨[.val (.int j),.val (tT rows)],.strong,rfl,q2A (z9k rows m j R.2 (List.mem_range.mp hj) (by rw[R.1];exact hn2)),rfl⟩
 unfold q3j;refine q1c (q1a (q0J (cl:=.strong) ((q2A cm).trans ?_)));unfold tT flip;rw[List.map_map];rfl
theorem q5r(rows:List (List Int))(n m:Nat)(R:Rect n m rows)(I J:List Nat)(hI:∀i∈I,i<n)(hJ:∀j∈J,j<m)(lI:I.length<=1000)(lJ:J.length<=1000):run G T fu (k+1) 5 [tT rows,.lst (nD I),.lst (nD J)]=some (.v (tT (sub rows I J)) false):=by
 rw[q0D (fd:=q2z) rfl rfl];have cm:=q0B (F:=run G T fu k) (δ:=q0n 3 [tT rows,.lst (nD I),.lst (nD J)]) (l:=I) (h:=λ(i:Nat)=>.int (i:Int)) (f:=λi=>.tup (iD (J.map λj=>(rows.getD i []).getD j 0))) (elt:=.bi .tuple [.comp (.ix (.ix (.var 1) (.var 2)) (.var 0)) (.one 0) (.var 1) [none,some 2,some 0]]) (tg:=.one 0) (it:=.var 1) (fr:=[none,some 2,some 0]) (cl:=.strong) rfl (by decide) (Nat.le_trans lI (by decide)) λi hi=>by
  refine⟨[.val (.int (i:Int)),.val (.lst (nD J)),.val (tT rows)],.strong,rfl,q2A (c:=.fresh) ?_,rfl⟩;have hr:i<rows.length:=by rw[R.1];exact hI i hi
  rw[q0B (h:=λ(j:Nat)=>.int (j:Int)) (f:=λj=>.int ((rows.getD i []).getD j 0)) (cl:=.strong) (l:=J) rfl (by decide) (Nat.le_trans lJ (by decide)) λj hj=>⟨[.val (.int (j:Int)),.val (tT rows),.val (.int (i:Int))],.strong,rfl,q0V (cx:=.strong) (q0V (cx:=.strong) (q0b rfl) (q0b rfl) (z0t hr)) (q0b rfl) (q9C (by rw[R.2 _ (q5w hr)];exact hJ j hj)),rfl⟩];unfold iD;rw[List.map_map];rfl
 unfold q2z;refine q1c (q1a (q0J (cl:=.strong) ((q2A cm).trans ?_)));unfold tT sub;rw[List.map_map];rfl
def kI(rows:List (List Int)):List Int:=rows.map λr=>((rows.idxOf r:Nat):Int)
theorem q4s(rows:List (List Int))(hl:rows.length<=1000):run G T fu (k+1) 6 [tT rows]=some (.v (.lst (iD (kI rows))) true):=by
 rw[q0D (fd:=q2k) rfl rfl];unfold q2k;have e:=q0B (F:=run G T fu k) (δ:=q0n 1 [tT rows]) (elt:=.idx (.var 1) (.var 0)) (tg:=.one 0) (it:=.var 0) (fr:=[none,some 0]) (l:=rows) (h:=λr=>.tup (iD r)) (f:=λr=>.int ((rows.idxOf r:Nat):Int)) (cl:=.strong) rfl (by decide) (Nat.le_trans hl (by decide)) (λr hr=>⟨[.val (.tup (iD r)),.val (tT rows)],.strong,rfl,z6V (q0b rfl) rfl (q0b rfl) (z9Q hr hl),rfl⟩);have e2:(rows.map λr=>DV.int ((rows.idxOf r:Nat):Int))=iD (kI rows):=by unfold iD kI;rw[List.map_map];rfl
 rw[e2]at e;exact q1c (q1a (q0J e))
theorem q7c{x y:Int}:∀{l:List Int},y∈insI x l↔y=x\/y∈l
 | []=>by simp[insI]
 | z::l=>by
  unfold insI;split
  ·simp
  ·rw[List.mem_cons,q7c,List.mem_cons];constructor<;>(rintro(h | h | h)<;>simp[h])
theorem q5t{y:Int}:∀{l:List Int},y∈q3B l↔y∈l
 | []=>Iff.rfl
 | z::l=>by unfold q3B;rw[q7c,q5t,List.mem_cons]
theorem z3v{y:Int}:∀{l σ:List Int},y∈l.foldl dk σ↔y∈σ\/y∈l
 | [],σ=>by simp
 | z::l,σ=>by
  rw[List.foldl_cons,z3v,List.mem_cons];unfold dk;split
  ·rename_i h;constructor
   ·rintro(q | q)
    ·exact .inl q
    ·exact .inr (.inr q)
   ·rintro(q | q | q)
    ·exact .inl q
    ·rw[q];exact .inl h
    ·exact .inr q
  ·rw[List.mem_append,List.mem_singleton,or_assoc]
theorem q8B:∀{l σ:List Int},(l.foldl dk σ).length<=σ.length+l.length
 | [],σ=>by simp
 | z::l,σ=>by
  rw[List.foldl_cons,List.length_cons];have:=q8B (l:=l) (σ:=dk σ z);have h2:(dk σ z).length<=σ.length+1:=by unfold dk;split<;>simp
  omega
theorem q5P:∀r:List Int,ints? (iD r)=some r
 | []=>rfl
 | x::r=>by show(ints? (iD r)).map (x :: ·)=_;rw[q5P r];rfl
theorem z0B{e:ME}{r:List Int}{c:Cl}(h:evE G F e δ=some (.ok (.lst (iD r)) c))(hl:r.length<=60):evE G F (.bi .sset [e]) δ=some (.ok (.lst (iD (q3B (r.foldl dk [])))) .fresh):=by
 show Rs.thn (evEs G F [e] δ) (λl=>z2l l)=_;rw[q0a h q0d];show(match ints? (iD r)with
  | some ns=>if ns.length<4000/\(ns.foldl dk []).length<64 then some (Re.ok (.lst ((q3B (ns.foldl dk [])).map DV.int)) .fresh)else none
  | none=>none)=_
 rw[q5P];have:=q8B (l:=r) (σ:=[]);rw[List.length_nil]at this;exact if_pos ⟨by omega,by omega⟩
section
variable {G:Gs} {a b:ME} {r:List ME} {cx:Cl} {o:Option Re}
end
section
variable {G:Gs} {a b:ME} {r:List ME} {cx:Cl} {o:Option Re}
end
section
variable {G:Gs} {a b:ME} {r:List ME} {cx:Cl} {o:Option Re}
end
section
variable {G:Gs} {a b:ME} {r:List ME} {cx:Cl} {o:Option Re}
theorem q5C{tg:Tg}{body:List Sv->Option Out}{d:DV}{r:List DV}{δ1 δ2:List Sv}(h1:tg.bind d δ=some δ1)(h2:body δ1=some (.nx δ2)):q0N tg body (d::r) δ=q0N tg body r δ2:=by
 show(match tg.bind d δ with | none=>none | some δ1=>match body δ1 with | some (.nx δ2)=>q0N tg body r δ2 | o=>o)=_;rw[h1];show(match body δ1 with | some (.nx δ2)=>q0N tg body r δ2 | o=>o)=_;rw[h2]
end
section
variable {G:Gs} {a b:ME} {r:List ME} {cx:Cl} {o:Option Re}
end
section
variable {G:Gs} {a b:ME} {r:List ME} {cx:Cl} {o:Option Re}
end
theorem z0H:∀{a b:List Int},a.Pairwise (· < ·)->b.Pairwise (· < ·)->(∀x,x∈a↔x∈b)->a=b
 | [],[],_,_,_=>rfl
 | [],y::b,_,_,h=>absurd ((h y).mpr (List.mem_cons_self ..)) (by simp)
 | x::a,[],_,_,h=>absurd ((h x).mp (List.mem_cons_self ..)) (by simp)
 | x::a,y::b,ha,hb,h=>by
  rw[List.pairwise_cons]at ha hb;have e:x=y:=by
   rcases List.mem_cons.mp ((h x).mp (List.mem_cons_self ..))with z | z
   ·exact z
   ·rcases List.mem_cons.mp ((h y).mpr (List.mem_cons_self ..))with w | w
    ·exact w.symm
    ·have h1:=ha.1 y w;have h2:=hb.1 x z;omega
  subst e;rw[z0H ha.2 hb.2 λz=>?_];constructor
  ·intro q;rcases List.mem_cons.mp ((h z).mp (List.mem_cons_of_mem _ q))with w | w
   ·subst w;exact absurd (ha.1 _ q) (by omega)
   ·exact w
  ·intro q;rcases List.mem_cons.mp ((h z).mpr (List.mem_cons_of_mem _ q))with w | w
   ·subst w;exact absurd (hb.1 _ q) (by omega)
   ·exact w
theorem q8D{x:Int}:∀{l:List Int},l.Pairwise (· < ·)->x∉l->(insI x l).Pairwise (· < ·)
 | [],_,_=>by simp[insI]
 | y::l,h,hx=>by
  rw[List.pairwise_cons]at h;unfold insI;split
  ·rename_i q;rw[List.pairwise_cons];refine⟨λz hz=>?_,List.pairwise_cons.mpr h⟩;rcases List.mem_cons.mp hz with w | w
   ·rw[w];exact q
   ·have:=h.1 z w;omega
  ·rename_i q;rw[List.pairwise_cons];refine⟨λz hz=>?_,q8D h.2 λw=>hx (List.mem_cons_of_mem _ w)⟩;rcases q7c.mp hz with w | w
   ·subst w;have:z≠y:=λe=>hx (by rw[e];exact List.mem_cons_self ..)
    omega
   ·exact h.1 z w
theorem q6p:∀{l:List Int},l.Nodup->(q3B l).Pairwise (· < ·)
 | [],_=>List.Pairwise.nil
 | x::l,h=>by
  rw[List.nodup_cons]at h;exact q8D (q6p h.2) λz=>h.1 (q5t.mp z)
theorem q7T:∀{l σ:List Int},σ.Nodup->(l.foldl dk σ).Nodup
 | [],_,h=>h
 | x::l,σ,h=>by
  rw[List.foldl_cons];refine q7T ?_;unfold dk;split
  ·exact h
  ·rename_i q;rw[List.nodup_append];refine⟨h,by simp,λa ha b hb e=>?_⟩;rw[List.mem_singleton]at hb;subst hb e;exact q ha
theorem z7D{l t:List Int}(ht:t.Pairwise (· < ·))(h:∀x,x∈l↔x∈t):q3B (l.foldl dk [])=t:=
 z0H (q6p (q7T List.nodup_nil)) ht λx=>by rw[q5t,z3v,←h];simp
def nI(l:List Nat):List Int:=l.map λ(j:Nat)=>(j:Int)
theorem z9W(l:List Nat):iD (nI l)=nD l:=by unfold iD nI nD;rw[List.map_map];rfl
theorem q7F(p:Nat->Bool)(n:Nat):(nI ((List.range n).filter p)).Pairwise (· < ·):=by
 unfold nI;rw[List.pairwise_map];refine List.Pairwise.filter _ (List.Pairwise.imp ?_ List.pairwise_lt_range);intro a b h;omega
theorem z7W{l:List Nat}{x:Int}:x∈nI l↔∃j∈l,(j:Int)=x:=by unfold nI;rw[List.mem_map]
def FI(rows:List (List Int)):List Nat:=(List.range rows.length).filter λr=>rows.idxOf (rows.getD r [])==r
theorem z4b{rows:List (List Int)}{r:List Int}(h:r∈rows):rows.idxOf r<rows.length:=List.idxOf_lt_length_of_mem h
theorem z5f{rows:List (List Int)}{r:List Int}(h:r∈rows):rows.getD (rows.idxOf r) []=r:=by
 have hl:=z4b h;rw[List.getD_eq_getElem?_getD,List.getElem?_eq_getElem hl,Option.getD_some];exact List.getElem_idxOf hl
theorem q9t(rows:List (List Int)):q3B ((kI rows).foldl dk [])=nI (FI rows):=by
 refine z7D (q7F _ _) λx=>?_;rw[z7W];unfold kI FI;rw[List.mem_map];constructor
 ·rintro⟨r,hr,rfl⟩
  refine⟨rows.idxOf r,List.mem_filter.mpr ⟨List.mem_range.mpr (z4b hr),?_⟩,rfl⟩;rw[z5f hr,beq_iff_eq]
 ·rintro⟨j,hj,rfl⟩
  obtain⟨h1,h2⟩:=List.mem_filter.mp hj;exact⟨rows.getD j [],q5w (List.mem_range.mp h1),by rw[beq_iff_eq.mp h2]⟩
theorem z3f{rows:List (List Int)}{i:Nat}(h:i∈FI rows):i<rows.length:=List.mem_range.mp (List.mem_filter.mp h).1
theorem q8w(rows:List (List Int)):(FI rows).length<=rows.length:=by
 unfold FI;have:=List.length_filter_le (λr=>rows.idxOf (rows.getD r [])==r) (List.range rows.length)
 rwa [List.length_range]at this
theorem z8T{rows:List (List Int)}(h:0<rows.length):0<(FI rows).length:=by
 refine List.length_pos_of_mem (a:=0) (List.mem_filter.mpr ⟨List.mem_range.mpr h,?_⟩);cases rows with
 | nil=>cases h
 | cons r rs=>simp
theorem z3W(rows:List (List Int)):(kI rows).length=rows.length:=by unfold kI;rw[List.length_map]
theorem q4P(rows:List (List Int))(n m:Nat)(R:Rect n m rows)(hn:0<n)(hn2:n<=1000)(hm2:m<=1000):run G T fu (k+2) 7 [tT rows]=some (.v (.lst (iD (kI (flip m rows)))) true):=by
 rw[q0D (fd:=q1m) rfl rfl];unfold q1m;have R':=q6K R;exact q1c (q1a (q0J (q0e (l:=[(tT (flip m rows),.strong)]) (q0a (q0e (l:=[(tT rows,.strong)]) rfl rfl (q3o rows n m R hn hn2 hm2)) q0d) rfl (q4s (flip m rows) (by rw[R'.1];exact hm2)))))
theorem z0v(rows:List (List Int))(n m:Nat)(R:Rect n m rows)(hn:0<n)(hn2:n<=60)(hm2:m<=60):run G T fu (k+3) 8 [tT rows]=some (.v (tT (sub rows (FI rows) (FI (flip m rows)))) false):=by
 rw[q0D (fd:=q3d) rfl rfl];unfold q3d;have R':=q6K R;have e1:=z0B (F:=run G T fu (k+2)) (δ:=[.val (tT rows)]) (e:=.call 6 [.var 0]) (r:=kI rows) (q0e (l:=[(tT rows,.strong)]) rfl rfl (q4s (k:=k+1) rows (by rw[R.1];omega))) (by rw[z3W,R.1];exact hn2);have e2:=z0B (F:=run G T fu (k+2)) (δ:=[.val (tT rows)]) (e:=.call 7 [.var 0]) (r:=kI (flip m rows)) (q0e (l:=[(tT rows,.strong)]) rfl rfl (q4P rows n m R hn (by omega) (by omega))) (by rw[z3W,R'.1];exact hm2);rw[q9t,z9W]at e1 e2;have e3:=q5r (fu:=fu) (k:=k+1) rows n m R (FI rows) (FI (flip m rows)) (λi hi=>by have:=z3f hi;rw[R.1]at this;exact this) (λj hj=>by have:=z3f hj;rw[R'.1]at this;exact this) (by have:=q8w rows;rw[R.1]at this;omega) (by have:=q8w (flip m rows);rw[R'.1]at this;omega);exact q1c (q1a (q0J (q0e (l:=[(tT rows,.strong),(.lst (nD (FI rows)),.fresh),(.lst (nD (FI (flip m rows))),.fresh)]) (q0a (q0b rfl) (q0a e1 (q0a e2 q0d))) rfl e3)))
theorem b_le{a b:ME}{i j:Int}{cx cy:Cl}(ha:evE G F a δ=some (.ok (.int i) cx))(hb:evE G F b δ=some (.ok (.int j) cy)):evE G F (.cmp .LtE a b) δ=some (.ok (.bl (decide (i<=j))) .strong):=q1W ha hb rfl
def sm(a b:Nat):Bool:=decide (a<6)&&decide (b<6)
theorem q6v{α:Type}{g:DV->Option Rc}{h f:α->DV}{p:α->Bool}:∀{l:List α},(∀a∈l,g (h a)=some (if p a then .item (f a)else .skip))->q0K g (l.map h)=some ((l.filter p).map f)
 | [],_=>rfl
 | a::l,q=>by
  have h0:=q a (List.mem_cons_self ..);have ih:=q6v (g:=g) (h:=h) (f:=f) (p:=p) (l:=l) λb hb=>q b (List.mem_cons_of_mem _ hb);cases e:p a with
  | true=>
   rw[e]at h0;show(match g (h a)with | none=>none | some .skip=>q0K g (l.map h) | some (.item x)=>match q0K g (l.map h)with | none=>none | some xs=>some (x::xs))=_;rw[h0,List.filter_cons_of_pos e,List.map_cons];show(match q0K g (l.map h)with | none=>none | some xs=>some (f a::xs))=_;rw[ih]
  | false=>
   rw[e]at h0;show(match g (h a)with | none=>none | some .skip=>q0K g (l.map h) | some (.item x)=>match q0K g (l.map h)with | none=>none | some xs=>some (x::xs))=_;rw[h0,List.filter_cons_of_neg (by rw[e];simp)];exact ih
theorem z0V{α:Type}{l:List α}{h f:α->DV}{p:α->Bool}{elt it cd:ME}{tg:Tg}{fr:List (Option Nat)}(hw:q0F (evE G F it δ)=some (.ok (l.map h) cl))(hc:cl ≠ .weak)(hl:l.length<=mostLen)
  (q:∀a∈l,∃δ',tg.bind (h a) (q0Q fr δ)=some δ'/\tstD (evE G F cd δ')=some (.ok (p a))/\∃c,evE G F elt δ'=some (.ok (f a) c)/\stro (f a) c=true):evE G F (.compi elt tg it cd fr) δ=some (.ok (.lst ((l.filter p).map f)) .fresh):=by
 show Ri.thn (q0F (evE G F it δ)) (λds c=>if c=.weak\/mostLen<ds.length then none else q1z (q0K (λd=>(tg.bind d (q0Q fr δ)).bind λδ'=>Rc.test (tstD (evE G F cd δ')) (Rc.of (evE G F elt δ'))) ds))=_;rw[hw,q7t,if_neg (by rintro(z | z);exact hc z;rw[List.length_map]at z;omega),q6v (f:=f) (p:=p) (λa ha=>?_)]
 ·rfl
 ·obtain⟨δ',e1,e2,c,e3,e4⟩:=q a ha;rw[e1,Option.bind_some,e2,e3];cases p a with
  | false=>rfl
  | true=>
   show(if stro (f a) c then some (Rc.item (f a))else none)=_;rw[if_pos e4];rfl
theorem q4u{x:Int}:isiD G (.int x) ["int"]=some true:=rfl
theorem q3K{x:Int}:isiD G (.int x) ["bool"]=some false:=rfl
theorem q7Q{x a b:Int}:run G T fu (k+1) 0 [.int x,.int a,.int b]=some (.v (.bl (decide (a<=x)&&decide (x<=b))) false):=by
 rw[q0D (fd:=q3c) rfl rfl];by_cases h1:a<=x
 ·simp[q3c,q0n,evSs,evS,evE,q3M,Re.thnS,q0S,q4u,q3K,andD,q1Z,cmpD,h1,Ou.of,frD,retD,Cl.item]
 ·simp[q3c,q0n,evSs,evS,evE,q3M,Re.thnS,q0S,q4u,q3K,andD,q1Z,cmpD,h1,Ou.of,frD,retD,Cl.item]
theorem q7W(r o:Nat):Builtin.bitAnd r o=((r &&& o:Nat):Int):=by
 unfold Builtin.bitAnd;rw[decide_eq_true (Int.natCast_nonneg r),decide_eq_true (Int.natCast_nonneg o)];rfl
theorem z4l(o i:Nat):Builtin.bitAnd ((o:Int)/2^((i:Int).toNat)) 1=if o.testBit i then 1 else 0:=by
 have e:(o:Int)/2^((i:Int).toNat)=((o/2^i:Nat):Int):=(by rw[Int.toNat_natCast];push_cast;rfl);rw[e,show(1:Int)=((1:Nat):Int)from rfl,q7W,Nat.and_one_is_mod,Nat.testBit_eq_decide_div_mod_eq];have:o/2^i%2=0\/o/2^i%2=1:=by omega
 rcases this with h | h<;>rw[h]<;>rfl
def cs(c:Nat):List Nat:=(List.range (c.log2+1)).filter c.testBit
theorem q5a(c:Nat)(h0:0<c)(h:c<2^64):run G T fu (k+1) 4 [.int c]=some (.v (.lst (nD (cs c))) true):=by
 rw[q0D (fd:=q2C) rfl rfl];have hb:q2O (c:Int)=((c.log2+1:Nat):Int):=by unfold q2O;rw[if_neg (by omega),Int.natAbs_natCast];push_cast;rfl
 have hl:c.log2<64:=(Nat.log2_lt (by omega)).mpr h;have hm:evE G (run G T fu k) (.meth .bitLength (.var 0) []) (q0n 1 [.int c])=some (.ok (.int ((c.log2+1:Nat):Int)) .strong):=(by rw[←hb];rfl);have cm:=z2F (G:=G) (F:=run G T fu k) (δ:=q0n 1 [.int c]) (elt:=.var 0) (tg:=.one 0) (it:=.rng [.meth .bitLength (.var 0) []]) (cd:=.bin .BitAnd (.bin .RShift (.var 1) (.var 0)) (.int 1)) (fr:=[none,some 0]) (p:=λd=>match d with | .int i=>c.testBit i.toNat | _=>false) (cl:=.fresh) (ds:=upTo 0 (c.log2+1))
  (q6U hm (by omega)) (by decide) (by unfold L2.upTo;rw[List.length_map,List.length_range];exact Nat.le_trans (show c.log2+1<=64 by omega) (by decide)) (λd hd=>by
   obtain⟨j,hj,rfl⟩:=z2v hd;rw[show(0:Int)+(j:Int)=j by omega];refine⟨[.val (.int j),.val (.int c)],rfl,?_,rfl⟩;have e1:evE G (run G T fu k) (.bin .RShift (.var 1) (.var 0)) [.val (.int j),.val (.int c)]=some (.ok (.int ((c:Int)/2^((j:Int).toNat))) .strong):=q1o (q0b rfl) (q0b rfl) (show(if 0<=(j:Int)then some (Re.ok (.int ((c:Int)/2^((j:Int).toNat))) Cl.strong)else none)=_ from if_pos (Int.natCast_nonneg j));have e2:evE G (run G T fu k) (.bin .BitAnd (.bin .RShift (.var 1) (.var 0)) (.int 1)) [.val (.int j),.val (.int c)]=some (.ok (.int (if c.testBit j then 1 else 0)) .strong):=q1o e1 q0c (by rw[←z4l];rfl);have tt:∀t:Bool,tstD (some (Re.ok (DV.int (if t=true then 1 else 0)) Cl.strong))=some (Rt.ok t):=λt=>by cases t<;>rfl
   rw[e2];refine(tt _).trans ?_;show _=some (Rt.ok (c.testBit (j:Int).toNat));rw[Int.toNat_natCast])
 have hf:(upTo 0 (c.log2+1)).filter (λd=>match d with | .int i=>c.testBit i.toNat | _=>false)=nD (cs c):=by
  unfold L2.upTo nD cs;rw[List.filter_map];have:((λd=>match d with | DV.int i=>c.testBit i.toNat | _=>false) ∘ λ(i:Nat)=>DV.int (0+(i:Int)))=c.testBit:=by
   funext j
   show c.testBit ((0:Int)+(j:Int)).toNat=_;rw[show((0:Int)+(j:Int)).toNat=j by omega]
  rw[this];apply List.map_congr_left;intro j _;show DV.int _=DV.int _
  congr 1
  omega
 rw[hf]at cm;unfold q2C;exact q1c (q1a (q0J cm))
theorem z6d{n:Nat}(hn:n<=1000){e:ME}{cl:Cl}(h:evE G F e δ=some (.ok (.int n) cl)):evE G F (.bin .Sub (.bin .LShift (.int 1) e) (.int 1)) δ=some (.ok (.int (((2^n:Nat):Int) - 1)) .strong):=by
 refine q7E (cx:=.strong) (q1o q0c h ?_) q0c;show(if 0<=(n:Int)/\(n:Int)<=1000000/\(1:Int).natAbs<2^64 then some (Re.ok (.int (1*2^(n:Int).toNat)) Cl.strong)else none)=_;rw[if_pos ⟨Int.natCast_nonneg n,by omega,by decide⟩,Int.toNat_natCast,Int.one_mul]
 push_cast
 rfl
theorem q9L{d:DV}{n:Nat}(hn:n<=1000){t:Bool}(h:run G T fu (k+1) 0 [d,.int 1,.int (((2^n:Nat):Int) - 1)]=some (.v (.bl t) false)):run G T fu (k+2) 3 [d,.int n]=if t then some (.v .non false)else some (.x "NoCard"):=by
 rw[q0D (fd:=q1t) rfl rfl];unfold q1t;have c:=q0e (G:=G) (F:=run G T fu (k+1)) (δ:=q0n 2 [d,.int n]) (f:=0) (es:=[.var 0,.int 1,.bin .Sub (.bin .LShift (.int 1) (.var 1)) (.int 1)]) (q0a (q0b rfl) (q0a q0c (q0a (z6d hn (q0b rfl)) q0d))) rfl h;have q:=z1A c;cases t with
 | true=>exact z9I (q1C (q0G q) rfl)
 | false=>
  have e:evSs G (run G T fu (k+1)) fu [.iff (.not (.call 0 [.var 0,.int 1,.bin .Sub (.bin .LShift (.int 1) (.var 1)) (.int 1)])) [.rse "NoCard" (.str "a set of cards is an int from 1 on with cards of the table alone")] []] (q0n 2 [d,.int n])=some (.ex "NoCard" (q0n 2 [d,.int n])):=by
   have z:=q9a (G:=G) (F:=run G T fu (k+1)) (fu:=fu) (a:=[.rse "NoCard" (.str "a set of cards is an int from 1 on with cards of the table alone")]) (b:=[]) (q0G q);rw[if_pos (show(!false)=true from rfl)]at z;have r:evSs G (run G T fu (k+1)) fu [.rse "NoCard" (.str "a set of cards is an int from 1 on with cards of the table alone")] (q0n 2 [d,.int n])=some (.ex "NoCard" (q0n 2 [d,.int n])):=by rfl
   rw[r]at z;unfold evSs;rw[z]
  show Ou.of (evSs G (run G T fu (k+1)) fu _ (q0n 2 [d,.int n]))=_;rw[e];rfl
theorem z7Y{c n j:Nat}(h:c<2^n)(hj:j∈cs c):j<n:=by
 unfold cs at hj;rw[List.mem_filter]at hj;by_cases q:j<n
 ·exact q
 ·have z:=Nat.testBit_lt_two_pow (Nat.lt_of_lt_of_le h (Nat.pow_le_pow_right (by decide) (show n<=j by omega)));rw[z]at hj;cases hj.2
theorem z4i{c:Nat}(h0:0<c)(h:c<2^64):(cs c).length<=1000:=by
 have hl:c.log2<64:=(Nat.log2_lt (by omega)).mpr h;unfold cs;exact Nat.le_trans (List.length_filter_le _ _) (by rw[List.length_range];omega)
theorem z9m(rows:List (List Int))(n m a b:Nat)(R:Rect n m rows)(hn:0<n)(hn2:n<=64)(hm2:m<=64)(a0:0<a)(a1:a<2^n)(b0:0<b)(b1:b<2^m):run G T fu (k+3) 2 [tT rows,.int a,.int b]=some (.v (tT (sub rows (cs a) (cs b))) false):=by
 rw[q0D (fd:=z3g) rfl rfl];obtain⟨r0,rest,rfl⟩:∃r0 rest,rows=r0::rest:=by
  cases rows with
  | nil=>have:=R.1;simp at this;omega
  | cons a b=>exact⟨a,b,rfl⟩
 have hr0:r0.length=m:=R.2 r0 (List.mem_cons_self ..);have a2:a<2^64:=Nat.lt_of_lt_of_le a1 (Nat.pow_le_pow_right (by decide) hn2);have b2:b<2^64:=Nat.lt_of_lt_of_le b1 (Nat.pow_le_pow_right (by decide) hm2);have l1:evE G (run G T fu (k+2)) (.bi .len [.var 0]) (q0n 3 [tT (r0::rest),.int a,.int b])=some (.ok (.int (n:Nat)) .strong):=(by have q:=q4B (F:=run G T fu (k+2)) (δ:=q0n 3 [tT (r0::rest),.int a,.int b]) (e:=.var 0) (ds:=(r0::rest).map λr=>.tup (iD r)) (c:=.strong) rfl;rw[List.length_map,R.1]at q;exact q);have l2:evE G (run G T fu (k+2)) (.bi .len [.ix (.var 0) (.int 0)]) (q0n 3 [tT (r0::rest),.int a,.int b])=some (.ok (.int (m:Nat)) .strong):=(by have e:evE G (run G T fu (k+2)) (.ix (.var 0) (.int 0)) (q0n 3 [tT (r0::rest),.int a,.int b])=some (.ok (.tup (iD r0)) .strong):=q0V (x:=tT (r0::rest)) (y:=.int 0) (q0b rfl) q0c (z0t (rows:=r0::rest) (i:=0) (by simp));have q:=q4B e;rw[show(iD r0).length=m by unfold iD;rw[List.length_map,hr0]]at q;exact q);have c1:=q9L (fu:=fu) (k:=k) (d:=.int a) (n:=n) (t:=true) (by omega) (by rw[q7Q,decide_eq_true (by omega),decide_eq_true (by omega)];rfl);have c2:=q9L (fu:=fu) (k:=k) (d:=.int b) (n:=m) (t:=true) (by omega) (by rw[q7Q,decide_eq_true (by omega),decide_eq_true (by omega)];rfl);have g:=q5r (fu:=fu) (k:=k+1) (r0::rest) n m R (cs a) (cs b) (λi hi=>z7Y a1 hi) (λj hj=>z7Y b1 hj) (z4i a0 a2) (z4i b0 b2);unfold z3g;exact q1c (q0m (z3L (q0e (q0a (q0b rfl) (q0a l1 q0d)) rfl c1)) (q0m (z3L (q0e (q0a (q0b rfl) (q0a l2 q0d)) rfl c2)) (q1a (q0J (q0e (q0a (q0b rfl) (q0a (q0e (q0a (q0b rfl) q0d) rfl (q5a a a0 a2)) (q0a (q0e (q0a (q0b rfl) q0d) rfl (q5a b b0 b2)) q0d))) rfl g)))))
def cd(n:Nat):Nat->List Int
 | 0=>[]
 | l+1=>((n/2^l%2:Nat):Int)::cd n l
theorem z4n{e:ME}{i:Int}(h:evE G F e δ=some (.ok (.int i) cl)):evE G F (.meth .bitLength e []) δ=some (.ok (.int (q2O i)) .strong):=by
 unfold evE;rw[if_pos rfl,h];rfl
def hd(l:List Nat):DV:=match l with | []=>.non | c::_=>.int c
theorem q9O{e:ME}(h:evE G F e δ=some (.ok (.lst ds) .strong)):evE G F (.bi .list [e]) δ=some (.ok (.lst ds) .fresh):=by
 have q:evE G F (.bi .list [e]) δ=Rs.thn (evEs G F [e] δ) (λl=>q8T l):=rfl;rw[q,q0a h q0d];rfl
section
variable {G:Gs} {F:Nat->List DV->Option Ou} {δ:List Sv} {fu:Nat} {d:DV} {r:List MS}
end
theorem at0{c:List Int}{cs:List (List Int)}:ixD (rL (c::cs)) (.int 0)=some (.lst (iD c)):=z4Y (rows:=c::cs) (i:=0) (by simp)
end k44
end
noncomputable section
namespace k44
open PySem L2
def hv(R:Nat):List Nat:=((List.range (R - 1)).map (· + 1)).filter λh=>h &&& R==h&&decide (h<R - h)
variable {fu k:Nat} {F:Nat->List DV->Option Ou} {δ:List Sv} {ds:List DV} {cl:Cl} {N M:Nat} {R C:Nat}
end k44
end
noncomputable section
namespace k44
open PySem L2
variable {G:Gs} {F:Nat->List DV->Option Ou} {fu k:Nat} {δ:List Sv}
abbrev rw'(r:List Int):rk.Rw:=λj=>r.getD j 0
theorem q3Y{α:Type}(h:α->DV):∀(l:List α) (n:Nat),enuD n (l.map h)=(List.range l.length).map λi=>.tup [.int ((n+i:Nat):Int),(l.map h).getD i .non]:=by
 intro l
 induction l with
 | nil=>intro n;rfl
 | cons a l ih=>
  intro n;rw[List.length_cons,List.range_succ_eq_map,List.map_cons,List.map_cons,List.map_map];show .tup [.int (n:Int),h a]::enuD (n+1) (l.map h)=_;rw[ih (n+1)]
  congr 1
  refine List.map_congr_left λi _=>?_;show _=DV.tup [.int ((n+(i+1):Nat):Int),_];rw[show n+1+i=n+(i+1) by omega];rfl
theorem z7F{e:ME}{r:List Int}(h:evE G F e δ=some (.ok (.lst (iD r)) .strong)):q0F (evE G F (.enu e) δ)=some (.ok ((List.range r.length).map λ(i:Nat)=>.tup [.int (i:Int),.int (r.getD i 0)]) .strong):=by
 have q:evE G F (.enu e) δ=Re.thn (evE G F e δ) (λx c=>q6R x c):=by rw[evE]
 rw[q,h];show some (Ri.ok (enuD 0 (iD r)) .strong)=_;unfold iD;rw[q3Y]
 congr 2
 refine List.map_congr_left λi hi=>?_;have:=List.mem_range.mp hi;rw[Nat.zero_add,List.getD_eq_getElem?_getD,List.getD_eq_getElem?_getD,List.getElem?_map,List.getElem?_eq_getElem this];rfl
theorem q7j{p:Nat->Bool}:∀{l:List Nat} {a:Nat} {r:List Nat},l.filter p=a::r->l.find? p=some a:=by
 intro l
 induction l with
 | nil=>intro a r h;cases h
 | cons x l ih=>
  intro a r h;rw[List.find?_cons];cases q:p x with
  | true=>rw[List.filter_cons_of_pos q]at h;cases h;rfl
  | false=>rw[List.filter_cons_of_neg (by rw[q];decide)]at h;exact ih h
theorem z7B{r:List Int}(hl:r.length<=1000)(h0:¬rk.Nil r.length (rw' r)):run k44.G T fu (k+1) 13 [.lst (iD r)]=some (.v (.int (rk.ld r.length (rw' r):Nat)) false):=by
 have c1:∀F:Nat->List DV->Option Ou,evE k44.G F (.compi (.var 0) (.many [0,1]) (.enu (.var 0)) (.cmp .NotEq (.var 1) (.int 0)) [none,none]) [.val (.lst (iD r))]=some (.ok (.lst (((List.range r.length).filter λj=>decide (rw' r j≠0)).map λ(j:Nat)=>DV.int (j:Int))) .fresh):=λF=>
  z0V (h:=λ(i:Nat)=>DV.tup [.int (i:Int),.int (r.getD i 0)]) (f:=λ(j:Nat)=>DV.int (j:Int)) (p:=λj=>decide (rw' r j≠0)) (z7F (q0b rfl)) (by decide) (by rw[List.length_range];exact Nat.le_trans hl (by decide)) λi hi=>⟨[.val (.int (i:Int)),.val (.int (r.getD i 0))],rfl,by
   rw[q0G (x:=decide (rw' r i≠0)) (q1W (q0b rfl) q0c ?_)];show some (!decide (r.getD i 0=0))=some (decide (r.getD i 0≠0));rw[decide_not],.strong,q0b rfl,rfl⟩
 obtain⟨h1,h2⟩:=rk.ld_ok h0;have hm:rk.ld r.length (rw' r)∈(List.range r.length).filter λj=>decide (rw' r j≠0):=List.mem_filter.mpr ⟨List.mem_range.mpr h1,by rw[decide_eq_true_eq];exact h2⟩
 cases q:(List.range r.length).filter λj=>decide (rw' r j≠0)with
 | nil=>rw[q]at hm;cases hm
 | cons a t=>
  have e:rk.ld r.length (rw' r)=a:=by unfold rk.ld;rw[q7j q];rfl
  rw[q0D (fd:=q1v) rfl rfl];refine q1c (q1a (q0J (cl:=Cl.item .fresh) (q0V (c1 _) q0c ?_)));rw[q,e];have:=q1G (r:=(a::t).map λ(j:Nat)=>(j:Int)) (j:=0) (by rw[List.length_map,List.length_cons];omega);unfold iD at this;rw[List.map_map]at this;exact this
theorem q9Y{i j:Int}(h1:i.natAbs<2^2000)(h2:j.natAbs<2^2000):q4R i j=true:=by
 unfold q4R;rw[decide_eq_true h1,decide_eq_true h2,Bool.and_self,Bool.or_true]
def stL(w x:List Int):List Int:=(List.range x.length).map λj=>rk.stz (rk.ld w.length (rw' w),rw' w) (rw' x) j
def rdL(K:List (List Int))(x:List Int):List Int:=K.foldl (λx w=>stL w x) x
theorem q4D(w x:List Int):(stL w x).length=x.length:=by unfold stL;rw[List.length_map,List.length_range]
theorem q9F:∀(x w:List Int),x.length=w.length->zpD (iD x) (iD w)=(List.range x.length).map λ(i:Nat)=>DV.tup [.int (x.getD i 0),.int (w.getD i 0)]:=by
 intro x
 induction x with
 | nil=>intro w h;rfl
 | cons a x ih=>
  intro w h;cases w with
  | nil=>cases h
  | cons b w=>
   rw[List.length_cons,List.range_succ_eq_map,List.map_cons,List.map_map];show DV.tup [.int a,.int b]::zpD (iD x) (iD w)=_;rw[ih w (Nat.succ.inj h)];rfl
def Bd(e:Nat)(x:List Int):Prop:=∀a∈x,a.natAbs<2^e
theorem Bd.at{e:Nat}{x:List Int}(h:Bd e x)(j:Nat):(x.getD j 0).natAbs<2^e:=by
 rw[List.getD_eq_getElem?_getD];cases q:x[j]? with
 | none=>exact Nat.two_pow_pos e
 | some a=>exact h a (List.mem_of_getElem? q)
theorem z6N{a b c d:Int}{e f:Nat}(ha:a.natAbs<2^e)(hb:b.natAbs<2^f)(hc:c.natAbs<2^e)(hd:d.natAbs<2^f):(a*b - c*d).natAbs<2^(e+f+1):=by
 have h1:(a*b).natAbs<=2^(e+f):=(by rw[Int.natAbs_mul,Nat.pow_add];exact Nat.mul_le_mul (Nat.le_of_lt ha) (Nat.le_of_lt hb));have h2:(c*d).natAbs<2^(e+f):=(by rw[Int.natAbs_mul,Nat.pow_add];exact Nat.mul_lt_mul'' hc hd);have h3:=Int.natAbs_sub_le (a*b) (c*d);rw[Nat.pow_succ];omega
theorem z7N{e f:Nat}{w x:List Int}(hw:Bd f w)(hx:Bd e x):Bd (e+f+1) (stL w x):=λa ha=>by
 obtain⟨j,_,rfl⟩:=List.mem_map.mp ha;exact z6N (hx.at j) (hw.at _) (hx.at _) (hw.at j)
end k44
end
noncomputable section
namespace k44
open PySem L2
variable {G:Gs} {F:Nat->List DV->Option Ou} {fu k:Nat} {δ:List Sv}
def RdOk:List (List Int)->List Int->Prop
 | [],_=>True
 | w::K,x=>(w.length=x.length/\¬rk.Nil w.length (rw' w)/\Bd 2000 x/\Bd 2000 w)/\RdOk K (stL w x)
theorem z2z{e:ME}{ds:List DV}(h:evE G F e δ=some (.ok (.tup ds) .strong)):evE G F (.bi .list [e]) δ=some (.ok (.lst ds) .fresh):=by
 show Rs.thn (evEs G F [e] δ) (λl=>biD .list l)=_;rw[q0a h q0d];rfl
theorem zp_w{a b:ME}{x w:List Int}(ha:evE G F a δ=some (.ok (.lst (iD x)) .top))(hb:evE G F b δ=some (.ok (.lst (iD w)) .strong))(h:x.length=w.length):q0F (evE G F (.zp a b) δ)=some (.ok ((List.range x.length).map λ(i:Nat)=>DV.tup [.int (x.getD i 0),.int (w.getD i 0)]) .top):=by
 have q:evE G F (.zp a b) δ=Re.thn (evE G F a δ) (λx c=>Re.thn (evE G F b δ) λy c'=>zipD x y c c'):=by rw[evE]
 rw[q,ha,q0S,hb,q0S];show some (Ri.ok (zpD (iD x) (iD w)) .top)=_;rw[q9F x w h]
abbrev rS(l:DV)(K:List (List Int))(x:List Int)(a b c:Sv):List Sv:=[.val l,.val (rL K),.own (.lst (iD x)),a,b,c]
def rB:List MS:=[.set 4 false (.call 13 [.var 3]),.set 5 false (.ix (.var 2) (.var 4)),.set 2 true (.comp (.bin .Sub (.bin .Mult (.var 0) (.ix (.var 2) (.var 3))) (.bin .Mult (.var 4) (.var 1))) (.many [0,1]) (.zp (.var 2) (.var 3)) [none,none,some 3,some 4,some 5])]
theorem r_in{l:DV}{K:List (List Int)}{w x:List Int}{b c:Sv}(hl:x.length<=1000)(h:w.length=x.length/\¬rk.Nil w.length (rw' w)/\Bd 2000 x/\Bd 2000 w):∃b' c',evSs k44.G (run k44.G T fu (k+1)) fu rB (rS l K x (.val (.lst (iD w))) b c)=some (.nx (rS l K (stL w x) (.val (.lst (iD w))) b' c')):=by
 obtain⟨h1,h2,h3,h4⟩:=h;obtain⟨p,hp⟩:∃p,rk.ld w.length (rw' w)=p:=⟨_,rfl⟩;have pl:=rk.ld_ok h2;rw[hp]at pl;have c1:evE k44.G (run k44.G T fu (k+1)) (.call 13 [.var 3]) (rS l K x (.val (.lst (iD w))) b c)=some (.ok (.int (p:Nat)) .strong):=by have:=z7B (fu:=fu) (k:=k) (r:=w) (by omega) h2;rw[hp]at this;exact q0e (q0a (q0b rfl) q0d) rfl this
 have c2:evE k44.G (run k44.G T fu (k+1)) (.ix (.var 2) (.var 4)) (rS l K x (.val (.lst (iD w))) (.val (.int (p:Nat))) c)=some (.ok (.int (x.getD p 0)) (Cl.item .top)):=q0V (q1e rfl) (q0b rfl) (q1G (by omega));have c3:evE k44.G (run k44.G T fu (k+1)) (.comp (.bin .Sub (.bin .Mult (.var 0) (.ix (.var 2) (.var 3))) (.bin .Mult (.var 4) (.var 1))) (.many [0,1]) (.zp (.var 2) (.var 3)) [none,none,some 3,some 4,some 5]) (rS l K x (.val (.lst (iD w))) (.val (.int (p:Nat))) (.val (.int (x.getD p 0))))=some (.ok (.lst (iD (stL w x))) .fresh):=(by have:=q0B (F:=run k44.G T fu (k+1)) (it:=.zp (.var 2) (.var 3)) (δ:=rS l K x (.val (.lst (iD w))) (.val (.int (p:Nat))) (.val (.int (x.getD p 0)))) (l:=List.range x.length) (h:=λ(i:Nat)=>DV.tup [.int (x.getD i 0),.int (w.getD i 0)]) (f:=λ(i:Nat)=>DV.int (x.getD i 0*w.getD p 0 - x.getD p 0*w.getD i 0)) (elt:=.bin .Sub (.bin .Mult (.var 0) (.ix (.var 2) (.var 3))) (.bin .Mult (.var 4) (.var 1))) (tg:=.many [0,1]) (fr:=[none,none,some 3,some 4,some 5]) (zp_w (q1e rfl) (q0b rfl) h1.symm) (by decide) (by rw[List.length_range];exact Nat.le_trans hl (by decide)) λi hi=>⟨[.val (.int (x.getD i 0)),.val (.int (w.getD i 0)),.val (.lst (iD w)),.val (.int (p:Nat)),.val (.int (x.getD p 0))],.strong,rfl,q7E (q3s (q0b rfl) (q0V (q0b rfl) (q0b rfl) (q1G pl.1)) (q9Y (h3.at i) (h4.at p))) (q3s (q0b rfl) (q0b rfl) (q9Y (h3.at p) (h4.at i))),rfl⟩;rw[this];unfold stL iD;rw[hp,List.map_map];rfl);exact⟨_,_,q0m (q0p c1 rfl) (q0m (q0p c2 rfl) (q0m (q3p c3) rfl))⟩
theorem z4m{l:DV}{K0:List (List Int)}:∀(K:List (List Int)) (x:List Int) (a b c:Sv),x.length<=1000->RdOk K x->∃a' b' c',q0N (.one 3) (λδ'=>evSs k44.G (run k44.G T fu (k+1)) fu rB δ') (K.map λw=>.lst (iD w)) (rS l K0 x a b c)=some (.nx (rS l K0 (rdL K x) a' b' c'))
 | [],x,a,b,c,_,_=>⟨a,b,c,rfl⟩
 | w::K,x,a,b,c,hl,h=>by obtain⟨b1,c1,e⟩:=r_in (fu:=fu) (k:=k) (l:=l) (K:=K0) (b:=b) (c:=c) hl h.1;obtain⟨a',b',c',e'⟩:=z4m K (stL w x) (.val (.lst (iD w))) b1 c1 (by rw[q4D];exact hl) h.2;refine⟨a',b',c',?_⟩;show q0N (.one 3) _ (.lst (iD w)::K.map λw=>.lst (iD w)) _=_;rw[q5C (δ1:=rS l K0 x (.val (.lst (iD w))) b c) rfl e];exact e'
theorem z0i{K:List (List Int)}{x:List Int}(hl:x.length<=1000)(h:RdOk K x):run k44.G T fu (k+2) 12 [.tup (iD x),rL K]=some (.v (.lst (iD (rdL K x))) true):=by
 obtain⟨a',b',c',e⟩:=z4m (fu:=fu) (k:=k) (l:=.tup (iD x)) (K0:=K) K x .no .no .no hl h;rw[q0D (fd:=q4G) rfl rfl];refine q1c (q0m (q3p (z2z (q0b rfl))) ?_);exact q3N (ds:=K.map λw=>.lst (iD w)) (cl:=.strong) rfl (.inl rfl) e (q1a (q0J (cl:=.top) (q1e rfl)))
end k44
end
noncomputable section
namespace k44
open PySem L2
variable {F:Nat->List DV->Option Ou} {fu k:Nat} {δ:List Sv}
theorem z9G{w x:List Int}(h:w.length=x.length):rw' (stL w x)=rk.stz (rk.ld w.length (rw' w),rw' w) (rw' x):=by
 funext j
 show(stL w x).getD j 0=rk.stz (rk.ld w.length (rw' w),rw' w) (rw' x) j;by_cases q:j<x.length
 ·rw[List.getD_eq_getElem?_getD];unfold stL;rw[List.getElem?_map,List.getElem?_range q];rfl
 ·have e1:(stL w x).getD j 0=0:=by rw[List.getD_eq_getElem?_getD,List.getElem?_eq_none (by rw[q4D];omega)];rfl
  have e2:x.getD j 0=0:=by rw[List.getD_eq_getElem?_getD,List.getElem?_eq_none (by omega)];rfl
  have e3:w.getD j 0=0:=by rw[List.getD_eq_getElem?_getD,List.getElem?_eq_none (by omega)];rfl
  rw[e1];show 0=x.getD j 0*_ - _*w.getD j 0;rw[e2,e3,Int.zero_mul,Int.mul_zero];rfl
theorem q5z:∀(K:List (List Int)) (x:List Int),(rdL K x).length=x.length
 | [],x=>rfl
 | w::K,x=>by show(rdL K (stL w x)).length=_;rw[q5z K,q4D]
def kq(w:List Int):Nat×rk.Rw:=(rk.ld w.length (rw' w),rw' w)
theorem z7i:∀(K:List (List Int)) (x:List Int),(∀w∈K,w.length=x.length)->rw' (rdL K x)=rk.rz (K.map kq) (rw' x)
 | [],x,_=>rfl
 | w::K,x,h=>by show rw' (rdL K (stL w x))=rk.rz (K.map kq) (rk.stz (kq w) (rw' x));rw[z7i K (stL w x) λw' hw=>by rw[q4D];exact h w' (List.mem_cons_of_mem _ hw),z9G (h w List.mem_cons_self)];rfl
def ex(s:Nat):Nat:=5*2^s - 1
theorem z5p(s:Nat):ex s+ex s+1=ex (s+1):=by
 unfold ex;have:=Nat.two_pow_pos s;rw[Nat.pow_succ];omega
theorem q8u{s:Nat}(h:s<=8):ex s<=2000:=by
 unfold ex;have:2^s<=2^8:=Nat.pow_le_pow_right (by decide) h;have e:2^8=256:=by decide
 omega
theorem Bd.mono{e f:Nat}{x:List Int}(h:Bd e x)(q:e<=f):Bd f x:=λa ha=>Nat.lt_of_lt_of_le (h a ha) (Nat.pow_le_pow_right (by decide) q)
theorem z8F:∀(K:List (List Int)) (s:Nat) (x:List Int),Bd (ex s) x->(∀i w,K[i]? = some w->w.length=x.length/\¬rk.Nil w.length (rw' w)/\Bd (ex (s+i)) w)->s+K.length<=8->RdOk K x/\Bd (ex (s+K.length)) (rdL K x)
 | [],s,x,hx,_,_=>⟨trivial,hx⟩
 | w::K,s,x,hx,h,hs=>by
  obtain⟨h1,h2,h3⟩:=h 0 w rfl;rw[List.length_cons]at hs;have I:=z8F K (s+1) (stL w x) (by rw[←z5p];exact z7N h3 hx) (λi w' hw=>by
   obtain⟨q1,q2,q3⟩:=h (i+1) w' hw;rw[q4D];exact⟨q1,q2,by rw[show s+1+i=s+(i+1) by omega];exact q3⟩) (by omega)
  refine⟨⟨⟨h1,h2,hx.mono (q8u (by omega)),h3.mono (q8u (by omega))⟩,I.1⟩,?_⟩;have:=I.2;rw[List.length_cons,show s+(K.length+1)=s+1+K.length by omega];exact this
def kl(rows:List (List Int))(m:Nat):Nat->List (Nat×List Int)
 | 0=>[]
 | n+1=>
  let y:=rdL ((kl rows m n).map (·.2)) (rows.getD n [])
  if rk.Nil m (rw' y)then kl rows m n else kl rows m n++[(n,y)]
def vv(rows:List (List Int)):Nat->rk.Rw:=λi=>rw' (rows.getD i [])
structure Kl(rows:List (List Int))(m n:Nat):Prop where
 len:(kl rows m n).length<=n
 ok:∀(i:Nat) q,(kl rows m n)[i]? = some q->q.2.length=m/\¬rk.Nil m (rw' q.2)/\Bd (ex i) q.2
 eq:rk.kz (vv rows) m n=(kl rows m n).map λq=>(q.1,kq q.2)
theorem Kl.all{rows:List (List Int)}{m n:Nat}(I:Kl rows m n):∀q∈kl rows m n,q.2.length=m:=λq hq=>by
 obtain⟨i,hi,e⟩:=List.getElem_of_mem hq;exact(I.ok i q (by rw[List.getElem?_eq_getElem hi,e])).1
theorem q2l{rows:List (List Int)}{N m n:Nat}(R:Rect N m rows)(h:n<N):rows.getD n []∈rows/\(rows.getD n []).length=m:=by
 have hn:n<rows.length:=by rw[R.1];exact h
 have:rows.getD n []∈rows:=by rw[List.getD_eq_getElem?_getD,List.getElem?_eq_getElem hn];exact List.getElem_mem hn
 exact⟨this,R.2 _ this⟩
theorem Kl.red{rows:List (List Int)}{N m n:Nat}(R:Rect N m rows)(h9:∀r∈rows,∀x∈r,0<=x/\x<=9)(I:Kl rows m n)(hn:n<N)(h8:N<=8):RdOk ((kl rows m n).map (·.2)) (rows.getD n [])/\Bd (ex (kl rows m n).length) (rdL ((kl rows m n).map (·.2)) (rows.getD n []))/\rw' (rdL ((kl rows m n).map (·.2)) (rows.getD n []))=rk.rkz (vv rows) m n (vv rows n):=by
 obtain⟨r1,r2⟩:=q2l R hn;have:=z8F ((kl rows m n).map (·.2)) 0 (rows.getD n []) (λa ha=>by
  have:=h9 _ r1 a ha;show a.natAbs<2^4;have e:2^4=16:=by decide
  omega) (λi w hw=>by
   rw[List.getElem?_map]at hw;obtain⟨q,hq,rfl⟩:=Option.map_eq_some_iff.mp hw;obtain⟨q1,q2,q3⟩:=I.ok i q hq;rw[r2,Nat.zero_add];exact⟨q1,by rw[q1];exact q2,q3⟩) (by rw[List.length_map];have:=I.len;omega)
 rw[List.length_map,Nat.zero_add]at this;refine⟨this.1,this.2,?_⟩;rw[z7i _ _ λw hw=>by
  obtain⟨q,hq,rfl⟩:=List.mem_map.mp hw;rw[r2];exact I.all q hq]
 unfold rk.rkz;rw[I.eq,List.map_map,List.map_map];rfl
theorem q5u(rows:List (List Int))(m n:Nat):kl rows m (n+1)=if rk.Nil m (rw' (rdL ((kl rows m n).map (·.2)) (rows.getD n [])))then kl rows m n else kl rows m n++[(n,rdL ((kl rows m n).map (·.2)) (rows.getD n []))]:=rfl
theorem z4Z{rows:List (List Int)}{N m:Nat}(R:Rect N m rows)(h9:∀r∈rows,∀x∈r,0<=x/\x<=9)(h8:N<=8):∀n,n<=N->Kl rows m n
 | 0,_=>⟨Nat.le_refl _,λi q h=>(by have h':([]:List (Nat×List Int))[i]? = some q:=h;rw[List.getElem?_nil]at h';cases h'),rfl⟩
 | n+1,hn=>by
  have I:=z4Z R h9 h8 n (by omega);obtain⟨_,b,e⟩:=I.red R h9 (by omega) h8;obtain⟨_,r2⟩:=q2l (n:=n) R (by omega);by_cases z:rk.Nil m (rw' (rdL ((kl rows m n).map (·.2)) (rows.getD n [])))
  ·have k1:kl rows m (n+1)=kl rows m n:=by rw[q5u,if_pos z]
   refine⟨by rw[k1];have:=I.len;omega,by rw[k1];exact I.ok,?_⟩;rw[k1,rk.kz_succ,if_pos (by rw[←e];exact z)];exact I.eq
  ·have k1:kl rows m (n+1)=kl rows m n++[(n,rdL ((kl rows m n).map (·.2)) (rows.getD n []))]:=by rw[q5u,if_neg z]
   refine⟨by rw[k1,List.length_append,List.length_singleton];have:=I.len;omega,λi q h=>?_,?_⟩
   ·rw[k1]at h;by_cases w:i<(kl rows m n).length
    ·rw[List.getElem?_append_left w]at h;exact I.ok i q h
    ·rw[List.getElem?_append_right (by omega)]at h;have hi:i=(kl rows m n).length:=by
      refine Classical.byContradiction λne=>?_;rw[List.getElem?_eq_none (by rw[List.length_singleton];omega)]at h;cases h
     subst hi;rw[Nat.sub_self]at h;cases h;exact⟨by rw[q5z,r2],z,b⟩
   ·rw[k1,rk.kz_succ,if_neg (by rw[←e];exact z),List.map_append,I.eq,←e];show _++[(n,(rk.ld m (rw' _),rw' _))]=_++[(n,kq _)];unfold kq;rw[q5z,r2]
end k44
end
noncomputable section
namespace k44
open PySem L2
variable {F:Nat->List DV->Option Ou} {fu k:Nat} {δ:List Sv}
theorem z3T:∀(y:List Int),DV.immuts (iD y)=true
 | []=>rfl
 | a::y=>by show(DV.immut (.int a)&&DV.immuts (iD y))=true;rw[z3T y];rfl
theorem q4Y{α:Type}(f:α->Bool):∀(l:List α),bools? (l.map λa=>DV.bl (f a))=some (l.map f)
 | []=>rfl
 | a::l=>by show(bools? (l.map λa=>DV.bl (f a))).map (f a :: ·)=_;rw[q4Y f l];rfl
theorem z4w{α:Type}{f:α->Bool}{l:List α}{e:ME}{c:Cl}(h:evE G F e δ=some (.ok (.lst (l.map λa=>.bl (f a))) c)):evE G F (.bi .any [e]) δ=some (.ok (.bl (l.any f)) .strong):=by
 show Rs.thn (evEs G F [e] δ) (λl=>anyD l)=_;rw[q0a h q0d];show(bools? (l.map λa=>DV.bl (f a))).map (λbs=>Re.ok (.bl (bs.any id)) .strong)=_;rw[q4Y];show some (Re.ok (.bl ((l.map f).any id)) .strong)=_;rw[List.any_map];rfl
theorem z6v{m:Nat}{y:List Int}(hy:y.length=m):y.any (λa=>decide (a≠0)) = !decide (rk.Nil m (rw' y)):=by
 by_cases z:rk.Nil m (rw' y)
 ·rw[decide_eq_true z];show _=false;rw[List.any_eq_false];intro a ha;obtain⟨j,hj,e⟩:=List.getElem_of_mem ha;have:=z j (by omega);have this:y.getD j 0=0:=this;rw[List.getD_eq_getElem?_getD,List.getElem?_eq_getElem hj]at this;have:y[j]=0:=this;rw[e]at this;simp[this]
 ·rw[decide_eq_false z];show _=true;rw[List.any_eq_true];obtain⟨h1,h2⟩:=rk.ld_ok z;have hj:rk.ld m (rw' y)<y.length:=by omega
  refine⟨y[rk.ld m (rw' y)],List.getElem_mem hj,?_⟩;rw[decide_eq_true_eq];have h2:y.getD (rk.ld m (rw' y)) 0≠0:=h2;rw[List.getD_eq_getElem?_getD,List.getElem?_eq_getElem hj]at h2;exact h2
abbrev bS(rows:List (List Int))(m n:Nat)(a b c:Sv):List Sv:=[.val (tT rows),.own (.lst (nD ((kl rows m n).map (·.1)))),.own (rL ((kl rows m n).map (·.2))),a,b,c]
def bB:List MS:=[.set 5 false (.call 12 [.var 4,.var 2]),.iff (.bi .any [.comp (.cmp .NotEq (.var 0) (.int 0)) (.one 0) (.var 5) [none]]) [.app 1 (.var 3),.app 2 (.var 5)] []]
theorem b_in{rows:List (List Int)}{N m n:Nat}(R:Rect N m rows)(h9:∀r∈rows,∀x∈r,0<=x/\x<=9)(h8:N<=8)(m8:m<=1000)(hn:n<N)(c:Sv):∃c',evSs G (run G T fu (k+2)) fu bB (bS rows m n (.val (.int (n:Int))) (.val (.tup (iD (rows.getD n [])))) c)=some (.nx (bS rows m (n+1) (.val (.int (n:Int))) (.val (.tup (iD (rows.getD n [])))) c')):=by
 have I:=z4Z R h9 h8 n (by omega);obtain⟨r1,_,_⟩:=I.red R h9 hn h8;obtain⟨_,r2⟩:=q2l R hn;have len:=I.len;obtain⟨y,hy⟩:∃y,rdL ((kl rows m n).map (·.2)) (rows.getD n [])=y:=⟨_,rfl⟩;have ly:y.length=m:=by rw[←hy,q5z,r2]
 have c1:evE G (run G T fu (k+2)) (.call 12 [.var 4,.var 2]) (bS rows m n (.val (.int (n:Int))) (.val (.tup (iD (rows.getD n [])))) c)=some (.ok (.lst (iD y)) .fresh):=(by have e:=z0i (fu:=fu) (k:=k) (by rw[r2];exact m8) r1;rw[hy]at e;exact z2V (q0a (q0b rfl) (q0a (q1e rfl) q0d)) e (z3T y));have c2:evE G (run G T fu (k+2)) (.bi .any [.comp (.cmp .NotEq (.var 0) (.int 0)) (.one 0) (.var 5) [none]]) (bS rows m n (.val (.int (n:Int))) (.val (.tup (iD (rows.getD n [])))) (.val (.lst (iD y))))=some (.ok (.bl (!decide (rk.Nil m (rw' y)))) .strong):=(by rw[←z6v ly];refine z4w (f:=λa=>decide (a≠0)) (l:=y) (c:=.fresh) (q0B (h:=DV.int) (f:=λa=>DV.bl (decide (a≠0))) (cl:=.strong) rfl (by decide) (by rw[ly];exact Nat.le_trans m8 (by decide)) λa _=>⟨[.val (.int a)],.strong,rfl,q1W (q0b rfl) q0c ?_,rfl⟩);show some (!decide (a=0))=some (decide (a≠0));rw[decide_not]);refine⟨.val (.lst (iD y)),q0m (q0p c1 rfl) ?_⟩;by_cases z:rk.Nil m (rw' y)
 ·rw[decide_eq_true z]at c2;refine q1C (q0G c2) ?_;have e:kl rows m (n+1)=kl rows m n:=by rw[q5u,hy,if_pos z]
  show _=some (Out.nx (bS rows m (n+1) _ _ _));unfold bS;rw[e];rfl
 ·rw[decide_eq_false z]at c2;have e:kl rows m (n+1)=kl rows m n++[(n,y)]:=by rw[q5u,hy,if_neg z]
  have e1:nD ((kl rows m (n+1)).map (·.1))=nD ((kl rows m n).map (·.1))++[.int (n:Int)]:=(by unfold nD;rw[e,List.map_append,List.map_append];rfl);have e2:rL ((kl rows m (n+1)).map (·.2))=.lst (((kl rows m n).map (·.2)).map (λr=>DV.lst (iD r))++[.lst (iD y)]):=(by unfold rL;rw[e,List.map_append,List.map_append];rfl);have l1:(nD ((kl rows m n).map (·.1))).length<mostLen:=(by unfold nD;rw[List.length_map,List.length_map];exact Nat.lt_of_le_of_lt (show _<=8 by omega) (by decide));have l2:(((kl rows m n).map (·.2)).map (λr=>DV.lst (iD r))).length<mostLen:=(by rw[List.length_map,List.length_map];exact Nat.lt_of_le_of_lt (show _<=8 by omega) (by decide));refine q5p (q0G c2) (q0m (q7S (ds:=nD ((kl rows m n).map (·.1))) rfl (q0b rfl) rfl l1) (q0m (q7S (ds:=((kl rows m n).map (·.2)).map λr=>DV.lst (iD r)) rfl (q0b rfl) rfl l2) rfl)) ?_;show _=some (Out.nx (bS rows m (n+1) _ _ _));unfold bS;rw[e1,e2];rfl
theorem z3E{rows:List (List Int)}{N m:Nat}(R:Rect N m rows)(h9:∀r∈rows,∀x∈r,0<=x/\x<=9)(h8:N<=8)(m8:m<=1000):∀n,n<=N->∃a b c,q0N (.many [3,4]) (λδ'=>evSs G (run G T fu (k+2)) fu bB δ') ((List.range n).map λ(i:Nat)=>DV.tup [.int (i:Int),.tup (iD (rows.getD i []))]) (bS rows m 0 .no .no .no)=some (.nx (bS rows m n a b c))
 | 0,_=>⟨_,_,_,rfl⟩
 | n+1,hn=>by obtain⟨a,b,c,e⟩:=z3E R h9 h8 m8 n (by omega);obtain⟨c',e'⟩:=b_in (fu:=fu) (k:=k) R h9 h8 m8 (n:=n) (by omega) c;refine⟨.val (.int (n:Int)),.val (.tup (iD (rows.getD n []))),c',?_⟩;rw[List.range_succ,List.map_append,q2u e];exact q5k (δ1:=bS rows m n (.val (.int (n:Int))) (.val (.tup (iD (rows.getD n [])))) c) rfl e'
theorem z7q{rows:List (List Int)}{e:ME}(h:evE G F e δ=some (.ok (tT rows) .strong)):q0F (evE G F (.enu e) δ)=some (.ok ((List.range rows.length).map λ(i:Nat)=>DV.tup [.int (i:Int),.tup (iD (rows.getD i []))]) .strong):=by
 have q:evE G F (.enu e) δ=Re.thn (evE G F e δ) (λx c=>q6R x c):=by rw[evE]
 rw[q,h];show some (Ri.ok (enuD 0 (rows.map λr=>DV.tup (iD r))) .strong)=_;rw[q3Y]
 congr 2
 refine List.map_congr_left λi hi=>?_;have:=List.mem_range.mp hi;rw[Nat.zero_add,List.getD_eq_getElem?_getD,List.getD_eq_getElem?_getD,List.getElem?_map,List.getElem?_eq_getElem this];rfl
def bl0(rows:List (List Int))(m:Nat):List Nat:=rk.bz (vv rows) m rows.length
theorem q2s{rows:List (List Int)}{N m:Nat}(R:Rect N m rows)(h9:∀r∈rows,∀x∈r,0<=x/\x<=9)(h8:N<=8)(m8:m<=1000):run G T fu (k+3) 11 [tT rows]=some (.v (.lst (nD (bl0 rows m))) true):=by
 obtain⟨a,b,c,e⟩:=z3E (fu:=fu) (k:=k) R h9 h8 m8 N (Nat.le_refl _);have I:=z4Z R h9 h8 N (Nat.le_refl _);have eb:bl0 rows m=(kl rows m N).map (·.1):=by unfold bl0 rk.bz;rw[R.1,I.eq,List.map_map];rfl
 rw[q0D (fd:=q2r) rfl rfl,eb];refine q1c (q0m (q3p (d:=.lst []) rfl) (q0m (q3p (d:=.lst []) rfl) ?_));refine q3N (ds:=(List.range N).map λ(i:Nat)=>DV.tup [.int (i:Int),.tup (iD (rows.getD i []))]) (cl:=.strong) ?_ (.inl rfl) e (q1a (q0J (cl:=.top) (q1e rfl)));have:=z7q (F:=run G T fu (k+2)) (δ:=bS rows m 0 .no .no .no) (rows:=rows) (e:=.var 0) (q0b rfl);rw[R.1]at this;exact this
end k44
end
noncomputable section
namespace k44
open PySem L2
variable {F:Nat->List DV->Option Ou} {fu k:Nat} {δ:List Sv}
def W9(rows:List (List Int)):Prop:=∀r∈rows,∀x∈r,0<=x/\x<=9
theorem q3l{rows:List (List Int)}{n m:Nat}(R:Rect n m rows):Rect m n (flip m rows):=by
 refine⟨by unfold flip;rw[List.length_map,List.length_range],λr hr=>?_⟩;obtain⟨j,_,rfl⟩:=List.mem_map.mp hr;unfold col;rw[List.length_map];exact R.1
theorem z3y{rows:List (List Int)}{m:Nat}(h:W9 rows):W9 (flip m rows):=λr hr x hx=>by
 obtain⟨j,_,rfl⟩:=List.mem_map.mp hr;obtain⟨q,hq,rfl⟩:=List.mem_map.mp hx;rw[List.getD_eq_getElem?_getD];cases w:q[j]? with
 | none=>exact⟨Int.le_refl _,by decide⟩
 | some a=>exact h q hq a (List.mem_of_getElem? w)
theorem q6g{rows:List (List Int)}{n m:Nat}(R:Rect n m rows)(h9:W9 rows)(h8:n<=8)(m8:m<=1000):run G T fu (k+4) 10 [tT rows]=some (.v (.int ((bl0 rows m).length:Nat)) false):=by
 rw[q0D (fd:=z0J) rfl rfl];have e:=q4l (F:=run G T fu (k+3)) (δ:=[.val (tT rows)]) (q0e (q0a (q0b (n:=0) rfl) q0d) rfl (q2s (fu:=fu) (k:=k) R h9 h8 m8));have l:(nD (bl0 rows m)).length=(bl0 rows m).length:=by unfold nD;rw[List.length_map]
 rw[l]at e;exact q1c (q1a (q0J e))
theorem z7V{rows:List (List Int)}{n m:Nat}(R:Rect n m rows)(h9:W9 rows)(hn:0<n)(h8:n<=8)(m8:m<=8):run G T fu (k+4) 9 [tT rows]=some (.v (.tup [.lst (nD (bl0 rows m)),.lst (nD (bl0 (flip m rows) n))]) false):=by
 rw[q0D (fd:=z1u) rfl rfl];have e1:evE G (run G T fu (k+3)) (.call 11 [.var 0]) [.val (tT rows)]=some (.ok (.lst (nD (bl0 rows m))) .fresh):=q0e (q0a (q0b (n:=0) rfl) q0d) rfl (q2s (fu:=fu) (k:=k) R h9 h8 (by omega));have e2:evE G (run G T fu (k+3)) (.call 1 [.var 0]) [.val (tT rows)]=some (.ok (tT (flip m rows)) .strong):=q0e (q0a (q0b (n:=0) rfl) q0d) rfl (q3o (fu:=fu) (k:=k+2) rows n m R hn (by omega) (by omega));have e3:evE G (run G T fu (k+3)) (.call 11 [.call 1 [.var 0]]) [.val (tT rows)]=some (.ok (.lst (nD (bl0 (flip m rows) n))) .fresh):=q0e (q0a e2 q0d) rfl (q2s (fu:=fu) (k:=k) (q3l R) (z3y h9) m8 (by omega));exact q1c (q1a (q0J (q8p (q0a e1 (q0a e3 q0d)) (show(2:Nat)<=mostLen by decide) rfl)))
end k44
end
noncomputable section
namespace k44
open PySem L2
variable {F:Nat->List DV->Option Ou} {fu k:Nat} {δ:List Sv}
theorem bnot(i:Int):Builtin.bitNot i = -i - 1:=by unfold Builtin.bitNot;omega
theorem z1o(a b:Nat):Builtin.bitOr (a:Int) (b:Int)=((a ||| b:Nat):Int):=by
 unfold Builtin.bitOr Builtin.bitAnd;rw[bnot (a:Int),bnot (b:Int),decide_eq_false (show ¬(0:Int) <= -(a:Int) - 1 by omega),decide_eq_false (show ¬(0:Int) <= -(b:Int) - 1 by omega)];show Builtin.bitNot (Builtin.bitNot (((Builtin.bitNot (-(a:Int) - 1)).toNat ||| (Builtin.bitNot (-(b:Int) - 1)).toNat:Nat):Int))=_;rw[bnot (-(a:Int) - 1),bnot (-(b:Int) - 1),show(-(-(a:Int) - 1) - 1).toNat=a by omega,show(-(-(b:Int) - 1) - 1).toNat=b by omega,bnot,bnot];omega
theorem q8d:∀(n a b:Nat),a<2^n->b<2^n->a ||| b=(a ^^^ b)+(a &&& b)
 | 0,a,b,ha,hb=>by
  have:a=0:=by rw[Nat.pow_zero]at ha;omega
  have:b=0:=by rw[Nat.pow_zero]at hb;omega
  subst a;subst b;rfl
 | n+1,a,b,ha,hb=>by
  have I:=q8d n (a/2) (b/2) (by rw[Nat.pow_succ]at ha;omega) (by rw[Nat.pow_succ]at hb;omega);have e:∀x:Nat,x=2*(x/2)+x%2:=λx=>by omega
  rw[e (a ||| b),e (a ^^^ b),e (a &&& b),Nat.or_div_two,Nat.xor_div_two,Nat.and_div_two,I];have m:(a ||| b)%2=(a ^^^ b)%2+(a &&& b)%2:=by
   have h1:=Nat.or_mod_two_pow (a:=a) (b:=b) (n:=1);have h2:=Nat.xor_mod_two_pow (a:=a) (b:=b) (n:=1);have h3:=Nat.and_mod_two_pow (a:=a) (b:=b) (n:=1);rw[Nat.pow_one]at h1 h2 h3;rw[h1,h2,h3];rcases Nat.mod_two_eq_zero_or_one a with p | p<;>rcases Nat.mod_two_eq_zero_or_one b with q | q<;>rw[p,q]<;>rfl
  omega
theorem q8o(a b:Nat):Builtin.bitXor (a:Int) (b:Int)=((a ^^^ b:Nat):Int):=by
 unfold Builtin.bitXor;rw[z1o,q7W];have:=q8d (a+b) a b (Nat.lt_of_lt_of_le Nat.lt_two_pow_self (Nat.pow_le_pow_right (by decide) (by omega))) (Nat.lt_of_lt_of_le Nat.lt_two_pow_self (Nat.pow_le_pow_right (by decide) (by omega)));omega
abbrev K3:=Nat×rk.N2
def k3(q:K3):DV:=.tup [.int (q.1:Nat),.int (q.2.1:Nat),.int (q.2.2:Nat)]
abbrev tS(l kd:DV)(p:rk.N2)(a b c:Sv):List Sv:=[.val l,.val kd,.val (.int (p.1:Nat)),.val (.int (p.2:Nat)),a,b,c]
def tB:List MS:=[.iff (.cmp .Eq (.bin .BitAnd (.bin .RShift (.var 2) (.bin .Sub (.meth .bitLength (.var 5) []) (.int 1))) (.int 1)) (.int 1)) [.set 2 false (.bin .BitXor (.var 2) (.var 5)),.set 3 false (.bin .BitXor (.var 3) (.var 6))] []]
theorem t_in{l kd:DV}{p:rk.N2}{q:K3}(hq:q.2.1≠0):evSs G F fu tB (tS l kd p (.val (.int (q.1:Nat))) (.val (.int (q.2.1:Nat))) (.val (.int (q.2.2:Nat))))=some (.nx (tS l kd (rk.st p q.2) (.val (.int (q.1:Nat))) (.val (.int (q.2.1:Nat))) (.val (.int (q.2.2:Nat))))):=by
 have hb:q2O ((q.2.1:Nat):Int)=((q.2.1.log2+1:Nat):Int):=(by unfold q2O;rw[if_neg (by omega),Int.natAbs_natCast];rfl);have c1:∀δ:List Sv,δ[5]? = some (.val (.int (q.2.1:Nat)))->evE G F (.bin .Sub (.meth .bitLength (.var 5) []) (.int 1)) δ=some (.ok (.int ((q.2.1.log2:Nat):Int)) .strong):=λδ h=>by have:=q7E (z4n (q0b h)) (q0c (G:=G) (F:=F) (δ:=δ) (i:=1));rw[hb,show((q.2.1.log2+1:Nat):Int) - 1=((q.2.1.log2:Nat):Int) by omega]at this;exact this
 have c2:evE G F (.bin .RShift (.var 2) (.bin .Sub (.meth .bitLength (.var 5) []) (.int 1))) (tS l kd p (.val (.int (q.1:Nat))) (.val (.int (q.2.1:Nat))) (.val (.int (q.2.2:Nat))))=some (.ok (.int (((p.1:Nat):Int)/2^(((q.2.1.log2:Nat):Int).toNat))) .strong):=q1o (q0b rfl) (c1 _ rfl) (show(if 0<=((q.2.1.log2:Nat):Int)then some (Re.ok (.int (((p.1:Nat):Int)/2^(((q.2.1.log2:Nat):Int).toNat))) Cl.strong)else none)=_ from if_pos (Int.natCast_nonneg _));have c3:evE G F (.cmp .Eq (.bin .BitAnd (.bin .RShift (.var 2) (.bin .Sub (.meth .bitLength (.var 5) []) (.int 1))) (.int 1)) (.int 1)) (tS l kd p (.val (.int (q.1:Nat))) (.val (.int (q.2.1:Nat))) (.val (.int (q.2.2:Nat))))=some (.ok (.bl (p.1.testBit q.2.1.log2)) .strong):=(by have:=b_eq (q1o c2 q0c (show binD .BitAnd _ _ _ _=some (Re.ok (.int (if p.1.testBit q.2.1.log2 then 1 else 0)) .strong) by rw[←z4l];rfl)) (q0c (G:=G) (F:=F) (δ:=tS l kd p (.val (.int (q.1:Nat))) (.val (.int (q.2.1:Nat))) (.val (.int (q.2.2:Nat)))) (i:=1));rw[this];cases p.1.testBit q.2.1.log2<;>rfl);have x1:evE G F (.bin .BitXor (.var 2) (.var 5)) (tS l kd p (.val (.int (q.1:Nat))) (.val (.int (q.2.1:Nat))) (.val (.int (q.2.2:Nat))))=some (.ok (.int ((p.1 ^^^ q.2.1:Nat):Int)) .strong):=(by rw[←q8o];exact q1o (q0b rfl) (q0b rfl) rfl);have x2:evE G F (.bin .BitXor (.var 3) (.var 6)) (tS l kd (p.1 ^^^ q.2.1,p.2) (.val (.int (q.1:Nat))) (.val (.int (q.2.1:Nat))) (.val (.int (q.2.2:Nat))))=some (.ok (.int ((p.2 ^^^ q.2.2:Nat):Int)) .strong):=(by rw[←q8o];exact q1o (q0b rfl) (q0b rfl) rfl);unfold rk.st;cases z:p.1.testBit q.2.1.log2 with
 | false=>
  rw[z]at c3;exact q1C (q0G c3) rfl
 | true=>
  rw[z]at c3;exact q5p (q0G c3) (q0m (q0p x1 rfl) (q0m (q0p x2 rfl) rfl)) rfl
theorem z3X{l kd:DV}:∀(K:List K3) (p:rk.N2) (a b c:Sv),(∀q∈K,q.2.1≠0)->∃a' b' c',q0N (.many [4,5,6]) (λδ'=>evSs G F fu tB δ') (K.map k3) (tS l kd p a b c)=some (.nx (tS l kd (rk.red (K.map (·.2)) p) a' b' c'))
 | [],p,a,b,c,_=>⟨a,b,c,rfl⟩
 | q::K,p,a,b,c,h=>by
  obtain⟨a',b',c',e⟩:=z3X K (rk.st p q.2) (.val (.int (q.1:Nat))) (.val (.int (q.2.1:Nat))) (.val (.int (q.2.2:Nat))) λr hr=>h r (List.mem_cons_of_mem _ hr)
  refine⟨a',b',c',?_⟩;show q0N _ _ (k3 q::K.map k3) _=_;rw[q5C (δ1:=tS l kd p (.val (.int (q.1:Nat))) (.val (.int (q.2.1:Nat))) (.val (.int (q.2.2:Nat)))) rfl (t_in (h q List.mem_cons_self))];exact e
theorem q8M{K:List K3}{x:Nat}(h:∀q∈K,q.2.1≠0):run G T fu (k+1) 19 [.int (x:Nat),.lst (K.map k3)]=some (.v (.tup [.int ((rk.red (K.map (·.2)) (x,0)).1:Nat),.int ((rk.red (K.map (·.2)) (x,0)).2:Nat)]) false):=by
 obtain⟨a',b',c',e⟩:=z3X (F:=run G T fu k) (fu:=fu) (l:=.int (x:Nat)) (kd:=.lst (K.map k3)) K (x,0) .no .no .no h;rw[q0D (fd:=q1j) rfl rfl];refine q1c (q0m (q0p (q0b rfl) rfl) (q0m (q0p (q0c (i:=0)) rfl) ?_));exact q3N (ds:=K.map k3) (cl:=.strong) rfl (.inl rfl) e (q1a (q0J (q8p (q0a (q0b rfl) (q0a (q0b rfl) q0d)) (show(2:Nat)<=mostLen by decide) rfl)))
end k44
end
noncomputable section
namespace k44
open PySem L2
variable {F:Nat->List DV->Option Ou} {fu k:Nat} {δ:List Sv}
theorem z4t(L:Nat->Nat):∀n,∀q∈rk.kp L n,q.2.1≠0
 | 0,q,h=>absurd h (by simp[rk.kp])
 | n+1,q,h=>by
  rw[rk.kp_succ]at h;split at h
  ·exact z4t L n q h
  ·rename_i z;rcases List.mem_append.mp h with w | w
   ·exact z4t L n q w
   ·have:=List.mem_singleton.mp w;subst this;exact z
theorem z0y(L:Nat->Nat):∀n,(rk.kp L n).length<=n
 | 0=>Nat.le_refl _
 | n+1=>by
  rw[rk.kp_succ];have:=z0y L n;split
  ·omega
  ·rw[List.length_append,List.length_singleton];omega
abbrev LL(ls:List Nat):Nat->Nat:=λi=>ls.getD i 0
abbrev kS(ls:List Nat)(n:Nat)(a b c:Sv):List Sv:=[.val (.lst (nD ls)),.own (.lst ((rk.kp (LL ls) n).map k3)),a,b,c]
def kB:List MS:=[.set 4 false (.call 19 [.var 3,.var 1]),.iff (.cmp .NotEq (.ix (.var 4) (.int 0)) (.int 0)) [.app 1 (.tup [.var 2,.ix (.var 4) (.int 0),.bin .BitOr (.ix (.var 4) (.int 1)) (.bin .LShift (.int 1) (.var 2))])] []]
theorem k_in{ls:List Nat}{n:Nat}(hn:n<64)(c:Sv):∃c',evSs G (run G T fu (k+1)) fu kB (kS ls n (.val (.int (n:Nat))) (.val (.int (ls.getD n 0:Nat))) c)=some (.nx (kS ls (n+1) (.val (.int (n:Nat))) (.val (.int (ls.getD n 0:Nat))) c')):=by
 obtain⟨p,hp⟩:∃p,rk.rk (LL ls) n (LL ls n,0)=p:=⟨_,rfl⟩;have e0:=q8M (fu:=fu) (k:=k) (K:=rk.kp (LL ls) n) (x:=ls.getD n 0) (z4t (LL ls) n);have e0:run G T fu (k+1) 19 [.int (ls.getD n 0:Nat),.lst ((rk.kp (LL ls) n).map k3)]=some (.v (.tup [.int (p.1:Nat),.int (p.2:Nat)]) false):=by rw[e0];show some (Ou.v (.tup [.int ((rk.rk (LL ls) n (LL ls n,0)).1:Nat),.int ((rk.rk (LL ls) n (LL ls n,0)).2:Nat)]) false)=_;rw[hp]
 have c1:evE G (run G T fu (k+1)) (.call 19 [.var 3,.var 1]) (kS ls n (.val (.int (n:Nat))) (.val (.int (ls.getD n 0:Nat))) c)=some (.ok (.tup [.int (p.1:Nat),.int (p.2:Nat)]) .weak):=z2M (q0a (q0b rfl) (q0a (q1e rfl) q0d)) rfl e0;obtain⟨d,hd⟩:∃d,kS ls n (.val (.int (n:Nat))) (.val (.int (ls.getD n 0:Nat))) (.val (.tup [.int (p.1:Nat),.int (p.2:Nat)]))=d:=⟨_,rfl⟩;have v4:evE G (run G T fu (k+1)) (.var 4) d=some (.ok (.tup [.int (p.1:Nat),.int (p.2:Nat)]) .strong):=by rw[←hd];exact q0b rfl
 have v2:evE G (run G T fu (k+1)) (.var 2) d=some (.ok (.int (n:Nat)) .strong):=by rw[←hd];exact q0b rfl
 have i0:evE G (run G T fu (k+1)) (.ix (.var 4) (.int 0)) d=some (.ok (.int (p.1:Nat)) .strong):=q0V v4 q0c rfl;have i1:evE G (run G T fu (k+1)) (.ix (.var 4) (.int 1)) d=some (.ok (.int (p.2:Nat)) .strong):=q0V v4 q0c rfl;have c2:evE G (run G T fu (k+1)) (.cmp .NotEq (.ix (.var 4) (.int 0)) (.int 0)) d=some (.ok (.bl (!decide (((p.1:Nat):Int)=0))) .strong):=q1W i0 q0c rfl;have sh:evE G (run G T fu (k+1)) (.bin .LShift (.int 1) (.var 2)) d=some (.ok (.int ((1<<<n:Nat):Int)) .strong):=(by refine(q1o q0c v2 (show binD .LShift (.int 1) (.int (n:Nat)) .strong .strong=some (Re.ok (.int (1*2^((n:Int).toNat))) .strong)from if_pos ⟨Int.natCast_nonneg n,by omega,by decide⟩)).trans ?_;rw[Int.toNat_natCast,Int.one_mul,Nat.one_shiftLeft,Int.natCast_pow];rfl);have bo:evE G (run G T fu (k+1)) (.bin .BitOr (.ix (.var 4) (.int 1)) (.bin .LShift (.int 1) (.var 2))) d=some (.ok (.int ((p.2 ||| 1<<<n:Nat):Int)) .strong):=(by rw[←z1o];exact q1o i1 sh rfl);have tp:evE G (run G T fu (k+1)) (.tup [.var 2,.ix (.var 4) (.int 0),.bin .BitOr (.ix (.var 4) (.int 1)) (.bin .LShift (.int 1) (.var 2))]) d=some (.ok (k3 (n,(p.1,p.2 ||| 1<<<n))) .strong):=q8p (q0a v2 (q0a i0 (q0a bo q0d))) (show(3:Nat)<=mostLen by decide) rfl;refine⟨.val (.tup [.int (p.1:Nat),.int (p.2:Nat)]),q0m (q0p c1 rfl) ?_⟩;show evSs G (run G T fu (k+1)) fu _ (kS ls n (.val (.int (n:Nat))) (.val (.int (ls.getD n 0:Nat))) (.val (.tup [.int (p.1:Nat),.int (p.2:Nat)])))=_;by_cases z:p.1=0
 ·rw[decide_eq_true (by omega)]at c2;rw[hd];refine q1C (q0G c2) ?_;have e:rk.kp (LL ls) (n+1)=rk.kp (LL ls) n:=by rw[rk.kp_succ,hp,if_pos z]
  rw[←hd];unfold kS;rw[e];rfl
 ·rw[decide_eq_false (by omega)]at c2;have e:rk.kp (LL ls) (n+1)=rk.kp (LL ls) n++[(n,(p.1,p.2 ||| 1<<<n))]:=by rw[rk.kp_succ,hp,if_neg z]
  have l1:((rk.kp (LL ls) n).map k3).length<mostLen:=(by rw[List.length_map];exact Nat.lt_of_le_of_lt (z0y (LL ls) n) (Nat.lt_of_lt_of_le hn (by decide)));rw[hd];refine q5p (q0G c2) (q0m (q7S (ds:=(rk.kp (LL ls) n).map k3) (by rw[←hd];rfl) tp rfl l1) rfl) ?_;rw[←hd];unfold kS;rw[e,List.map_append];rfl
theorem z3G{ls:List Nat}:∀n,n<=64->∃a b c,q0N (.many [2,3]) (λδ'=>evSs G (run G T fu (k+1)) fu kB δ') ((List.range n).map λ(i:Nat)=>DV.tup [.int (i:Int),.int ((ls.getD i 0:Nat):Int)]) (kS ls 0 .no .no .no)=some (.nx (kS ls n a b c))
 | 0,_=>⟨_,_,_,rfl⟩
 | n+1,hn=>by obtain⟨a,b,c,e⟩:=z3G (ls:=ls) n (by omega);obtain⟨c',e'⟩:=k_in (fu:=fu) (k:=k) (ls:=ls) (n:=n) (by omega) c;refine⟨.val (.int (n:Nat)),.val (.int (ls.getD n 0:Nat)),c',?_⟩;rw[List.range_succ,List.map_append,q2u e];exact q5k (δ1:=kS ls n (.val (.int (n:Nat))) (.val (.int (ls.getD n 0:Nat))) c) rfl e'
theorem z8I{ls:List Nat}{e:ME}(h:evE G F e δ=some (.ok (.lst (nD ls)) .strong)):q0F (evE G F (.enu e) δ)=some (.ok ((List.range ls.length).map λ(i:Nat)=>DV.tup [.int (i:Int),.int ((ls.getD i 0:Nat):Int)]) .strong):=by
 have q:evE G F (.enu e) δ=Re.thn (evE G F e δ) (λx c=>q6R x c):=by rw[evE]
 rw[q,h];show some (Ri.ok (enuD 0 (ls.map λ(j:Nat)=>DV.int (j:Int))) .strong)=_;rw[q3Y]
 congr 2
 refine List.map_congr_left λi hi=>?_;have:=List.mem_range.mp hi;rw[Nat.zero_add,List.getD_eq_getElem?_getD,List.getD_eq_getElem?_getD,List.getElem?_map,List.getElem?_eq_getElem this];rfl
theorem z7n{ls:List Nat}(hl:ls.length<=64):run G T fu (k+2) 18 [.lst (nD ls)]=some (.v (.lst ((rk.kp (LL ls) ls.length).map k3)) true):=by
 obtain⟨a,b,c,e⟩:=z3G (fu:=fu) (k:=k) (ls:=ls) ls.length hl;rw[q0D (fd:=q2q) rfl rfl];refine q1c (q0m (q3p (d:=.lst []) rfl) ?_);exact q3N (cl:=.strong) (z8I (δ:=kS ls 0 .no .no .no) (q0b rfl)) (.inl rfl) e (q1a (q0J (cl:=.top) (q1e rfl)))
theorem z1r{ls:List Nat}(hl:ls.length<=64):run G T fu (k+3) 17 [.lst (nD ls)]=some (.v (.lst (nD (rk.bs (LL ls) ls.length))) true):=by
 rw[q0D (fd:=q1I) rfl rfl];have c1:evE G (run G T fu (k+2)) (.call 18 [.var 0]) [.val (.lst (nD ls))]=some (.ok (.lst ((rk.kp (LL ls) ls.length).map k3)) .fresh):=q0e (q0a (q0b (n:=0) rfl) q0d) rfl (z7n (fu:=fu) (k:=k) hl);have c2:=q0B (F:=run G T fu (k+2)) (δ:=[.val (.lst (nD ls))]) (it:=.call 18 [.var 0]) (l:=rk.kp (LL ls) ls.length) (h:=k3) (f:=λq=>DV.int (q.1:Nat)) (elt:=.var 0) (tg:=.many [0,1,2]) (fr:=[none,none,none]) (cl:=.fresh) (by rw[c1];rfl) (by decide) (Nat.le_trans (z0y _ _) (Nat.le_trans hl (by decide))) λq _=>⟨[.val (.int (q.1:Nat)),.val (.int (q.2.1:Nat)),.val (.int (q.2.2:Nat))],.strong,rfl,q0b rfl,rfl⟩
 have e:(rk.kp (LL ls) ls.length).map (λq=>DV.int (q.1:Nat))=nD (rk.bs (LL ls) ls.length):=(by unfold nD rk.bs;rw[List.map_map];rfl);rw[e]at c2;exact q1c (q1a (q0J c2))
end k44
end
noncomputable section
namespace k44
open PySem L2
variable {F:Nat->List DV->Option Ou} {fu k:Nat} {δ:List Sv}
def tw:List Int->Nat
 | []=>0
 | a::r=>(a%2).toNat+2*tw r
theorem z3H:∀(r:List Int) (j:Nat),(tw r).testBit j=decide (r.getD j 0%2=1)
 | [],j=>by show Nat.testBit 0 j=_;rw[Nat.zero_testBit];rfl
 | a::r,j=>by
  have h0:0<=a%2:=Int.emod_nonneg a (by decide);have h1:a%2<2:=Int.emod_lt_of_pos a (by decide);cases j with
  | zero=>
   rw[Nat.testBit_zero];show decide ((((a%2).toNat+2*tw r)%2)=1)=decide (a%2=1);rw[decide_eq_decide];omega
  | succ j=>
   rw[Nat.testBit_succ];have e:tw (a::r)/2=tw r:=by show((a%2).toNat+2*tw r)/2=tw r;omega
   rw[e,z3H r j];rfl
theorem z6W:∀(r:List Int),tw r<2^r.length
 | []=>by decide
 | a::r=>by have:=z6W r;have h1:a%2<2:=Int.emod_lt_of_pos a (by decide);rw[List.length_cons,Nat.pow_succ];show(a%2).toNat+2*tw r<_;omega
def tws(r:List Int)(o:Nat):List Int:=(List.range r.length).map λj=>r.getD j 0%2*2^(o+j)
theorem z3n(a:Int)(r:List Int)(o:Nat):tws (a::r) o=(a%2*2^o)::tws r (o+1):=by
 unfold tws;rw[List.length_cons,List.range_succ_eq_map,List.map_cons,List.map_map]
 congr 1
 refine List.map_congr_left λj _=>?_;show(a::r).getD (j+1) 0%2*2^(o+(j+1))=r.getD j 0%2*2^(o+1+j);rw[show o+(j+1)=o+1+j by omega];rfl
theorem z4f:∀(r:List Int) (o:Nat),(tws r o).sum=(tw r:Int)*2^o
 | [],o=>by show(0:Int)=0*2^o;rw[Int.zero_mul]
 | a::r,o=>by
  rw[z3n,List.sum_cons,z4f r (o+1)];have h0:0<=a%2:=Int.emod_nonneg a (by decide);have e:((tw (a::r):Nat):Int)=a%2+2*(tw r:Int):=by show(((a%2).toNat+2*tw r:Nat):Int)=_;omega
  rw[e,Int.add_mul,Int.pow_succ,Int.mul_comm ((2:Int)^o) 2,←Int.mul_assoc,Int.mul_comm (tw r:Int) 2]
theorem z4D{e:ME}{r:List Int}{c:Cl}(h:evE G F e δ=some (.ok (.lst (iD r)) c)):evE G F (.bi .sum [e]) δ=some (.ok (.int r.sum) .strong):=by
 show Rs.thn (evEs G F [e] δ) (λl=>sumD l)=_;rw[q0a h q0d];show(ints? (iD r)).map (λns=>Re.ok (.int ns.sum) .strong)=_;rw[q5P];rfl
theorem z7G{r:List Int}{e:ME}(h:evE G F e δ=some (.ok (.tup (iD r)) .strong)):q0F (evE G F (.enu e) δ)=some (.ok ((List.range r.length).map λ(i:Nat)=>.tup [.int (i:Int),.int (r.getD i 0)]) .strong):=by
 have q:evE G F (.enu e) δ=Re.thn (evE G F e δ) (λx c=>q6R x c):=by rw[evE]
 rw[q,h];show some (Ri.ok (enuD 0 (iD r)) .strong)=_;unfold iD;rw[q3Y]
 congr 2
 refine List.map_congr_left λi hi=>?_;have:=List.mem_range.mp hi;rw[Nat.zero_add,List.getD_eq_getElem?_getD,List.getD_eq_getElem?_getD,List.getElem?_map,List.getElem?_eq_getElem this];rfl
theorem z8L{r:List Int}(hl:r.length<=64):evE G F (.bi .sum [.comp (.bin .LShift (.bin .Mod (.var 1) (.int 2)) (.var 0)) (.many [0,1]) (.enu (.var 0)) [none,none]]) [.val (.tup (iD r))]=some (.ok (.int (tw r:Nat)) .strong):=by
 have c1:=q0B (F:=F) (δ:=[.val (.tup (iD r))]) (it:=.enu (.var 0)) (l:=List.range r.length) (h:=λ(i:Nat)=>DV.tup [.int (i:Int),.int (r.getD i 0)]) (f:=λ(i:Nat)=>DV.int (r.getD i 0%2*2^(0+i))) (elt:=.bin .LShift (.bin .Mod (.var 1) (.int 2)) (.var 0)) (tg:=.many [0,1]) (fr:=[none,none]) (cl:=.strong) (z7G (q0b rfl)) (by decide) (by rw[List.length_range];exact Nat.le_trans hl (by decide)) λi hi=>⟨[.val (.int (i:Int)),.val (.int (r.getD i 0))],.strong,rfl,by
  have hi':=List.mem_range.mp hi;have h0:0<=r.getD i 0%2:=Int.emod_nonneg _ (by decide);have h1:r.getD i 0%2<2:=Int.emod_lt_of_pos _ (by decide);refine(q1o (q1N (q0b rfl) q0c (by decide)) (q0b rfl) (show binD .LShift (.int (r.getD i 0%2)) (.int (i:Int)) .strong .strong=some (Re.ok (.int (r.getD i 0%2*2^((i:Int).toNat))) .strong)from if_pos ⟨Int.natCast_nonneg i,by omega,Nat.lt_of_lt_of_le (show(r.getD i 0%2).natAbs<2 by omega) (by decide)⟩)).trans ?_;rw[Int.toNat_natCast,Nat.zero_add],rfl⟩
 have e:(List.range r.length).map (λ(i:Nat)=>DV.int (r.getD i 0%2*2^(0+i)))=iD (tws r 0):=(by unfold tws iD;rw[List.map_map];rfl);rw[e]at c1;have s:=z4D c1;rw[z4f,Int.pow_zero,Int.mul_one]at s;exact s
theorem z5b{rows:List (List Int)}{n m:Nat}(R:Rect n m rows)(hn:n<=64)(hm:m<=64):run G T fu (k+1) 16 [tT rows]=some (.v (.lst (nD (rows.map tw))) true):=by
 rw[q0D (fd:=q1B) rfl rfl];have c:=q0B (F:=run G T fu k) (δ:=[.val (tT rows)]) (it:=.var 0) (l:=rows) (h:=λr=>DV.tup (iD r)) (f:=λr=>DV.int (tw r:Nat)) (elt:=.bi .sum [.comp (.bin .LShift (.bin .Mod (.var 1) (.int 2)) (.var 0)) (.many [0,1]) (.enu (.var 0)) [none,none]]) (tg:=.one 0) (fr:=[none]) (cl:=.strong) rfl (by decide) (by rw[R.1];exact Nat.le_trans hn (by decide)) λr hr=>⟨[.val (.tup (iD r))],.strong,rfl,z8L (by rw[R.2 r hr];exact hm),rfl⟩
 have e:rows.map (λr=>DV.int (tw r:Nat))=nD (rows.map tw):=by unfold nD;rw[List.map_map];rfl
 rw[e]at c;exact q1c (q1a (q0J c))
def bl2(rows:List (List Int)):List Nat:=rk.bs (LL (rows.map tw)) rows.length
theorem z4u{rows:List (List Int)}{n m:Nat}(R:Rect n m rows)(hn:n<=64)(hm:m<=64){e:ME}(h:evE G (run G T fu (k+3)) e δ=some (.ok (tT rows) .strong)):evE G (run G T fu (k+3)) (.call 17 [.call 16 [e]]) δ=some (.ok (.lst (nD (bl2 rows))) .fresh):=by
 have c1:evE G (run G T fu (k+3)) (.call 16 [e]) δ=some (.ok (.lst (nD (rows.map tw))) .fresh):=q0e (q0a h q0d) rfl (z5b (fu:=fu) (k:=k+2) R hn hm);have:=z1r (fu:=fu) (k:=k) (ls:=rows.map tw) (by rw[List.length_map,R.1];exact hn);rw[List.length_map]at this;exact q0e (q0a c1 q0d) rfl this
theorem q7A{rows:List (List Int)}{n m:Nat}(R:Rect n m rows)(hn:n<=64)(hm:m<=64):run G T fu (k+4) 15 [tT rows]=some (.v (.int ((bl2 rows).length:Nat)) false):=by
 rw[q0D (fd:=q1J) rfl rfl];have e:=q4l (z4u (fu:=fu) (k:=k) (δ:=[.val (tT rows)]) (e:=.var 0) R hn hm (q0b rfl));have l:(nD (bl2 rows)).length=(bl2 rows).length:=by unfold nD;rw[List.length_map]
 rw[l]at e;exact q1c (q1a (q0J e))
theorem z4L{rows:List (List Int)}{n m:Nat}(R:Rect n m rows)(h0:0<n)(hn:n<=64)(hm:m<=64):run G T fu (k+4) 14 [tT rows]=some (.v (.tup [.lst (nD (bl2 rows)),.lst (nD (bl2 (flip m rows)))]) false):=by
 rw[q0D (fd:=q1L) rfl rfl];have e1:=z4u (fu:=fu) (k:=k) (δ:=[.val (tT rows)]) (e:=.var 0) R hn hm (q0b rfl);have e2:evE G (run G T fu (k+3)) (.call 1 [.var 0]) [.val (tT rows)]=some (.ok (tT (flip m rows)) .strong):=q0e (q0a (q0b (n:=0) rfl) q0d) rfl (q3o (fu:=fu) (k:=k+2) rows n m R h0 (by omega) (by omega));have e3:=z4u (fu:=fu) (k:=k) (δ:=[.val (tT rows)]) (q3l R) hm hn e2;exact q1c (q1a (q0J (q8p (q0a e1 (q0a e3 q0d)) (show(2:Nat)<=mostLen by decide) rfl)))
theorem q5Z{rows:List (List Int)}{n m:Nat}(R:Rect n m rows):rk.Bas rk.P0 (vv rows) n m (bl0 rows m):=by
 unfold bl0;rw[R.1];exact rk.bas0 ..
theorem q7d{rows:List (List Int)}{n m:Nat}(R:Rect n m rows):rk.Bas rk.P2 (vv rows) n m (bl2 rows):=by
 have at':∀i,i<n->LL (rows.map tw) i=tw (rows.getD i []):=λi hi=>by
  have hi':i<rows.length:=by rw[R.1];exact hi
  show(rows.map tw).getD i 0=_;rw[List.getD_eq_getElem?_getD,List.getD_eq_getElem?_getD,List.getElem?_map,List.getElem?_eq_getElem hi'];rfl
 unfold bl2;rw[R.1];refine rk.bas2 (λi hi=>?_) λi hi j hj=>?_
 ·rw[at' i hi];have:=z6W (rows.getD i []);rw[(q2l R hi).2]at this;exact this
 ·rw[at' i hi];exact z3H _ j
end k44
end
noncomputable section
namespace k44
open PySem L2
variable {F:Nat->List DV->Option Ou} {fu k:Nat} {δ:List Sv} {ds:List DV}
theorem z4h{a b:ME}{c c1:Cl}{h:Nat}(ha:evE G F a δ=some (.ok (.lst ds) c))(hh:evE G F b δ=some (.ok (.int (h:Int)) c1)):evE G F (.slf a b) δ=some (.ok (.lst (ds.drop h)) (Cl.anew c c)):=by
 have e:evE G F (.slf a b) δ=Re.thn (evE G F a δ) (λx cx=>Re.thn (evE G F b δ) λl _=>match l with | .int l=>(slD x (some l) none).map (λd=>Re.ok d (slCl x cx)) | _=>none):=by rw[evE]<;>rfl
 rw[e,ha,q0S,hh,q0S];show some (Re.ok (.lst (cutD ds (some (h:Int)) none)) (Cl.anew c c))=_
 congr 3
 unfold cutD slIx;dsimp only;rw[if_neg (by omega),Int.toNat_natCast];by_cases z:h<=ds.length
 ·rw[Nat.min_eq_left z,List.take_of_length_le (by rw[List.length_drop];exact Nat.le_refl _)]
 ·rw[Nat.min_eq_right (by omega),List.drop_of_length_le (Nat.le_refl _),List.drop_of_length_le (by omega),List.take_nil]
theorem z8S{a b:ME}{c c1:Cl}{h:Nat}(ha:evE G F a δ=some (.ok (.lst ds) c))(hh:evE G F b δ=some (.ok (.int (h:Int)) c1)):evE G F (.slt a b) δ=some (.ok (.lst (ds.take h)) (Cl.anew c c)):=by
 have e:evE G F (.slt a b) δ=Re.thn (evE G F a δ) (λx cx=>Re.thn (evE G F b δ) λl _=>match l with | .int l=>(slD x none (some l)).map (λd=>Re.ok d (slCl x cx)) | _=>none):=by rw[evE]<;>rfl
 rw[e,ha,q0S,hh,q0S];show some (Re.ok (.lst (cutD ds none (some (h:Int)))) (Cl.anew c c))=_
 congr 3
 unfold cutD slIx;dsimp only;rw[if_neg (by omega),Int.toNat_natCast,List.drop_zero,Nat.sub_zero];by_cases z:h<=ds.length
 ·rw[Nat.min_eq_left z]
 ·rw[Nat.min_eq_right (by omega),List.take_length,List.take_of_length_le (by omega)]
theorem z4q{a b:ME}{x y:List DV}{cx cy:Cl}(ha:evE G F a δ=some (.ok (.lst x) cx))(hb:evE G F b δ=some (.ok (.lst y) cy))(h:x.length+y.length<=1000):evE G F (.bin .Add a b) δ=some (.ok (.lst (x++y)) (Cl.anew cx cy)):=
 q1o ha hb (if_pos (Nat.le_trans h (by decide)))
theorem z4j{rows:List (List Int)}:cmpD .Eq (rL rows) (.lst [])=some rows.isEmpty:=by
 have p:(rL rows).plain 60=true:=by
  show DV.plains 59 (rows.map λr=>.lst (iD r))=true
  induction rows with
  | nil=>rfl
  | cons r rows ih=>
   show(DV.plains 58 (r.map DV.int)&&DV.plains 59 (rows.map λr=>.lst (iD r)))=true;rw[ih,Bool.and_true]
   clear ih
   induction r with
   | nil=>rfl
   | cons x r ih=>show(true&&DV.plains 58 (r.map DV.int))=true;rw[ih];rfl
 show(if((rL rows).plain 60&&(DV.lst []).plain 60)=true then some (deq (rL rows) (.lst []))else none)=_;rw[p,if_pos (show(true&&DV.plain 60 (DV.lst []))=true by rfl)];cases rows<;>rfl
theorem z9t{cs:List Nat}{j:Nat}(h:j<cs.length):ixD (.lst (nD cs)) (.int (j:Int))=some (.int ((cs.getD j 0:Nat):Int)):=by
 show atD (nD cs) (j:Int)=_;unfold atD nD;rw[List.length_map,q6x h,Option.bind_some,List.getElem?_map,List.getElem?_eq_getElem h,List.getD_eq_getElem?_getD,List.getElem?_eq_getElem h];rfl
theorem z5Y{r:List Int}{rows:List (List Int)}:ixD (rL (r::rows)) (.int 0)=some (.lst (iD r)):=by
 show atD (.lst (iD r)::rows.map λr=>.lst (iD r)) (((0:Nat):Int))=_;unfold atD;rw[q6x (by rw[List.length_cons];omega)];rfl
abbrev dS(R C:DV)(A s:Int)(a b c d:Sv):List Sv:=[.val R,.val C,.val (.int A),.val (.int s),a,b,c,d]
def dB:List MS:=[.set 5 false (.ix (.ix (.var 0) (.int 0)) (.ix (.var 1) (.var 4))),.iff (.cmp .NotEq (.var 5) (.int 0)) [.set 6 false (.bin .Add (.slt (.var 1) (.var 4)) (.slf (.var 1) (.bin .Add (.var 4) (.int 1)))),.set 7 false (.call 24 [.slf (.var 0) (.int 1),.var 6]),.set 2 false (.bin .Add (.var 2) (.bin .Mult (.bin .Mult (.var 3) (.var 5)) (.var 7)))] [],.set 3 false (.bin .Sub (.int 0) (.var 3))]
theorem d_in{r:List Int}{rows:List (List Int)}{pre suf:List Nat}{x:Nat}{A s:Int}{b c d:Sv}{f:List Nat->Int}(hs:s=1\/s = -1)(hx:x<r.length)(h9:∀a∈r,0<=a/\a<=9)(hl:(pre++x::suf).length<=64)
  (hF:F 24 [rL rows,.lst (nD (pre++suf))]=some (.v (.int (f (pre++suf))) false)) :
  ∃b' c' d',evSs G F fu dB (dS (rL (r::rows)) (.lst (nD (pre++x::suf))) A s (.val (.int (pre.length:Nat))) b c d)=some (.nx (dS (rL (r::rows)) (.lst (nD (pre++x::suf))) (A+s*(rw' r x*f (pre++suf))) (-s) (.val (.int (pre.length:Nat))) b' c' d')):=by
 have hj:pre.length<(pre++x::suf).length:=by rw[List.length_append,List.length_cons];omega
 have gx:(pre++x::suf).getD pre.length 0=x:=by rw[List.getD_eq_getElem?_getD,List.getElem?_append_right (Nat.le_refl _),Nat.sub_self];rfl
 have w9:0<=rw' r x/\rw' r x<=9:=(by show 0<=r.getD x 0/\r.getD x 0<=9;rw[List.getD_eq_getElem?_getD,List.getElem?_eq_getElem hx];exact h9 _ (List.getElem_mem hx));have c1:evE G F (.ix (.ix (.var 0) (.int 0)) (.ix (.var 1) (.var 4))) (dS (rL (r::rows)) (.lst (nD (pre++x::suf))) A s (.val (.int (pre.length:Nat))) b c d)=some (.ok (.int (rw' r x)) .strong):=(by have a1:=z9t hj;rw[gx]at a1;exact q0V (cx:=.strong) (q0V (cx:=.strong) (q0b rfl) q0c z5Y) (q0V (cx:=.strong) (q0b rfl) (q0b rfl) a1) (q1G hx));obtain⟨D,hD⟩:∃D,dS (rL (r::rows)) (.lst (nD (pre++x::suf))) A s (.val (.int (pre.length:Nat))) (.val (.int (rw' r x))) c d=D:=⟨_,rfl⟩;have c2:evE G F (.cmp .NotEq (.var 5) (.int 0)) D=some (.ok (.bl (!decide (rw' r x=0))) .strong):=by rw[←hD];exact q1W (q0b rfl) q0c rfl
 have sg:∀(A':Int) (b c d:Sv),evS G F fu (.set 3 false (.bin .Sub (.int 0) (.var 3))) (dS (rL (r::rows)) (.lst (nD (pre++x::suf))) A' s (.val (.int (pre.length:Nat))) b c d)=some (.nx (dS (rL (r::rows)) (.lst (nD (pre++x::suf))) A' (-s) (.val (.int (pre.length:Nat))) b c d)):=λA' b c d=>by have:=q0p (fu:=fu) (i:=3) (q7E (q0c (G:=G) (F:=F) (i:=0) (δ:=dS (rL (r::rows)) (.lst (nD (pre++x::suf))) A' s (.val (.int (pre.length:Nat))) b c d)) (q0b (n:=3) (d:=.int s) rfl)) rfl;rw[Int.zero_sub]at this;exact this
 by_cases z:rw' r x=0
 ·rw[decide_eq_true z]at c2;refine⟨.val (.int (rw' r x)),c,d,q0m (q0p c1 rfl) ?_⟩;show evSs G F fu _ (dS (rL (r::rows)) (.lst (nD (pre++x::suf))) A s (.val (.int (pre.length:Nat))) (.val (.int (rw' r x))) c d)=_;rw[hD];refine q1C (q0G c2) ?_;rw[←hD,show A+s*(rw' r x*f (pre++suf))=A by rw[z,Int.zero_mul,Int.mul_zero,Int.add_zero]];exact q0m (sg A _ _ _) rfl
 ·rw[decide_eq_false z]at c2;have j1:evE G F (.bin .Add (.var 4) (.int 1)) D=some (.ok (.int ((pre.length+1:Nat):Int)) .strong):=by
   have:=q2v (q0b (G:=G) (F:=F) (n:=4) (d:=.int (pre.length:Nat)) (δ:=D) (by rw[←hD];rfl)) (q0c (i:=1));rw[show((pre.length:Nat):Int)+1=((pre.length+1:Nat):Int) by omega]at this;exact this
  have v1:evE G F (.var 1) D=some (.ok (.lst (nD (pre++x::suf))) .strong):=by rw[←hD];exact q0b rfl
  have v4:evE G F (.var 4) D=some (.ok (.int (pre.length:Nat)) .strong):=by rw[←hD];exact q0b rfl
  have a2:=z4q (z8S v1 v4) (z4h v1 j1) (by
   unfold nD;rw[List.length_take,List.length_drop,List.length_map];omega)
  have e2:(nD (pre++x::suf)).take pre.length++(nD (pre++x::suf)).drop (pre.length+1)=nD (pre++suf):=(by unfold nD;rw[←List.map_take,←List.map_drop,←List.map_append,List.take_left,←List.drop_drop,List.drop_left];rfl);rw[e2]at a2;obtain⟨D2,hD2⟩:∃D2,dS (rL (r::rows)) (.lst (nD (pre++x::suf))) A s (.val (.int (pre.length:Nat))) (.val (.int (rw' r x))) (.val (.lst (nD (pre++suf)))) d=D2:=⟨_,rfl⟩;have a1:evE G F (.slf (.var 0) (.int 1)) D2=some (.ok (rL rows) (Cl.anew .strong .strong)):=by rw[←hD2];exact z4h (ds:=(r::rows).map λr=>DV.lst (iD r)) (h:=1) (c:=.strong) (q0b rfl) q0c
  have cl:evE G F (.call 24 [.slf (.var 0) (.int 1),.var 6]) D2=some (.ok (.int (f (pre++suf))) .strong):=q0e (q0a a1 (q0a (by rw[←hD2];exact q0b rfl) q0d)) rfl hF;obtain⟨D3,hD3⟩:∃D3,dS (rL (r::rows)) (.lst (nD (pre++x::suf))) A s (.val (.int (pre.length:Nat))) (.val (.int (rw' r x))) (.val (.lst (nD (pre++suf)))) (.val (.int (f (pre++suf))))=D3:=⟨_,rfl⟩;have m1:evE G F (.bin .Mult (.var 3) (.var 5)) D3=some (.ok (.int (s*rw' r x)) .strong):=(by rw[←hD3];refine q3s (q0b rfl) (q0b rfl) ?_;refine q9Y (Nat.lt_of_lt_of_le (show s.natAbs<2^4 by rw[show 2^4=16 from rfl];rcases hs with q | q<;>rw[q]<;>decide) (Nat.pow_le_pow_right (by decide) (by decide))) (Nat.lt_of_lt_of_le (show(rw' r x).natAbs<2^4 by rw[show 2^4=16 from rfl];omega) (Nat.pow_le_pow_right (by decide) (by decide))));have m2:evE G F (.bin .Mult (.bin .Mult (.var 3) (.var 5)) (.var 7)) D3=some (.ok (.int (s*rw' r x*f (pre++suf))) .strong):=by
   refine q3s m1 (by rw[←hD3];exact q0b rfl) ?_;unfold q4R;have b : -9<=s*rw' r x/\s*rw' r x<=9:=by rcases hs with q | q<;>rw[q]<;>omega
   rw[decide_eq_true (show -(2^64)<s*rw' r x by have:(2:Int)^64=18446744073709551616:=(by decide);omega),decide_eq_true (show s*rw' r x<2^64 by have:(2:Int)^64=18446744073709551616:=(by decide);omega)];rfl
  have m3:evE G F (.bin .Add (.var 2) (.bin .Mult (.bin .Mult (.var 3) (.var 5)) (.var 7))) D3=some (.ok (.int (A+s*(rw' r x*f (pre++suf)))) .strong):=(by rw[←Int.mul_assoc];exact q2v (by rw[←hD3];exact q0b rfl) m2);refine⟨.val (.int (rw' r x)),.val (.lst (nD (pre++suf))),.val (.int (f (pre++suf))),q0m (q0p c1 rfl) ?_⟩;show evSs G F fu _ (dS (rL (r::rows)) (.lst (nD (pre++x::suf))) A s (.val (.int (pre.length:Nat))) (.val (.int (rw' r x))) c d)=_;rw[hD];refine q5p (q0G c2) (q0m (δ':=D2) (by rw[q0p a2 rfl,←hD,←hD2];rfl) (q0m (δ':=D3) (by rw[q0p cl rfl,←hD2,←hD3];rfl) (q0m (δ':=dS (rL (r::rows)) (.lst (nD (pre++x::suf))) (A+s*(rw' r x*f (pre++suf))) s (.val (.int (pre.length:Nat))) (.val (.int (rw' r x))) (.val (.lst (nD (pre++suf)))) (.val (.int (f (pre++suf))))) (by rw[q0p m3 rfl,←hD3];rfl) rfl))) (q0m (sg _ _ _ _) rfl)
end k44
end
noncomputable section
namespace k44
open PySem L2
variable {F:Nat->List DV->Option Ou} {fu k:Nat} {δ:List Sv} {ds:List DV}
theorem z3S{r:List Int}{rows:List (List Int)}{f:List Nat->Int}(h9:∀a∈r,0<=a/\a<=9){cs:List Nat}(hF:∀l:List Nat,(∀x∈l,x∈cs)->l.length<=64->F 24 [rL rows,.lst (nD l)]=some (.v (.int (f l)) false))(hl:cs.length<=64)(hx:∀x∈cs,x<r.length) :
  ∀(suf pre:List Nat) (A s:Int) (a b c d:Sv),cs=pre++suf->(s=1\/s = -1)->∃s' a' b' c' d',q0N (.one 4) (λδ'=>evSs G F fu dB δ') ((List.range' pre.length suf.length).map λ(i:Nat)=>DV.int (i:Int)) (dS (rL (r::rows)) (.lst (nD cs)) A s a b c d)=some (.nx (dS (rL (r::rows)) (.lst (nD cs)) (A+s*rk.alt (λx ds=>rw' r x*f (pre++ds)) suf) s' a' b' c' d'))
 | [],pre,A,s,a,b,c,d,e,hs=>⟨s,a,b,c,d,by
  show some (Out.nx (dS (rL (r::rows)) (.lst (nD cs)) A s a b c d))=_;rw[show A+s*rk.alt (λx ds=>rw' r x*f (pre++ds)) []=A by show A+s*0=A;rw[Int.mul_zero,Int.add_zero]]⟩
 | x::suf,pre,A,s,a,b,c,d,e,hs=>by
  have hsub:∀y∈pre++suf,y∈cs:=λy hy=>by
   rw[e];rcases List.mem_append.mp hy with q | q
   ·exact List.mem_append_left _ q
   ·exact List.mem_append_right _ (List.mem_cons_of_mem _ q)
  have ll:(pre++suf).length<=64:=by rw[e,List.length_append,List.length_cons]at hl;rw[List.length_append];omega
  obtain⟨b1,c1,d1,e1⟩:=d_in (F:=F) (fu:=fu) (r:=r) (rows:=rows) (pre:=pre) (suf:=suf) (x:=x) (A:=A) (s:=s) (b:=b) (c:=c) (d:=d) (f:=f) hs (hx x (by rw[e];exact List.mem_append_right _ List.mem_cons_self)) h9 (by rw[←e];exact hl) (hF _ hsub ll);rw[←e]at e1;obtain⟨s',a',b',c',d',e2⟩:=z3S h9 hF hl hx suf (pre++[x]) (A+s*(rw' r x*f (pre++suf))) (-s) (.val (.int (pre.length:Nat))) b1 c1 d1 (by rw[e,List.append_assoc];rfl) (by rcases hs with q | q<;>rw[q];exact .inr rfl;exact .inl rfl);refine⟨s',a',b',c',d',?_⟩;rw[List.length_cons,List.range'_succ,List.map_cons];rw[q5C (δ1:=dS (rL (r::rows)) (.lst (nD cs)) A s (.val (.int (pre.length:Nat))) b c d) rfl e1];rw[List.length_append,List.length_singleton]at e2;rw[e2];have q:A+s*(rw' r x*f (pre++suf)) + -s*rk.alt (λx_1 ds=>rw' r x_1*f (pre++[x]++ds)) suf=A+s*rk.alt (λx ds=>rw' r x*f (pre++ds)) (x::suf):=by show _=A+s*(rw' r x*f (pre++suf) - rk.alt (λy ds=>rw' r y*f (pre++(x::ds))) suf);rw[rk.alt_congr (f:=λx_1 ds=>rw' r x_1*f (pre++[x]++ds)) (g:=λy ds=>rw' r y*f (pre++(x::ds))) λy ds _=>by rw[List.append_assoc];rfl];rw[Int.mul_sub,Int.neg_mul];omega
  rw[q]
theorem z8j:∀(rows:List (List Int)) (cs:List Nat),(∀r∈rows,∀c∈cs,c<r.length)->W9 rows->cs.length<=64->run G T fu (k+rows.length+1) 24 [rL rows,.lst (nD cs)]=some (.v (.int (rk.dt (rows.map rw') cs)) false)
 | [],cs,_,_,_=>by rw[q0D (fd:=q0O) rfl rfl];exact q1c (z1O (q0G (q1W (x:=rL []) (y:=.lst []) (cy:=.fresh) (q0b rfl) rfl (z4j (rows:=[])))) (q1a (q0J q0c)))
 | r::rows,cs,hc,h9,hl=>by
  have hF:∀l:List Nat,(∀x∈l,x∈cs)->l.length<=64->run G T fu (k+rows.length+1) 24 [rL rows,.lst (nD l)]=some (.v (.int (rk.dt (rows.map rw') l)) false):=λl h1 h2=>z8j rows l (λq hq c hc'=>hc q (List.mem_cons_of_mem _ hq) c (h1 c hc')) (λq hq=>h9 q (List.mem_cons_of_mem _ hq)) h2;obtain⟨s',a',b',c',d',e⟩:=z3S (F:=run G T fu (k+rows.length+1)) (fu:=fu) (r:=r) (rows:=rows) (f:=λl=>rk.dt (rows.map rw') l) (h9 r List.mem_cons_self) hF hl (hc r List.mem_cons_self) cs [] 0 1 .no .no .no .no rfl (.inl rfl);rw[List.length_cons,show k+(rows.length+1)+1=(k+rows.length+1)+1 by omega,q0D (fd:=q0O) rfl rfl];have c0:evE G (run G T fu (k+rows.length+1)) (.cmp .Eq (.var 0) (.lst [])) (q0n 8 [rL (r::rows),.lst (nD cs)])=some (.ok (.bl false) .strong):=q1W (x:=rL (r::rows)) (y:=.lst []) (cx:=.strong) (cy:=.fresh) (q0b rfl) rfl (z4j (rows:=r::rows));refine q1c (q1C (q0G c0) (q0m (q0p (q0c (i:=0)) rfl) (q0m (q0p (q0c (i:=1)) rfl) ?_)));have w:q0F (evE G (run G T fu (k+rows.length+1)) (.rng [.bi .len [.var 1]]) (dS (rL (r::rows)) (.lst (nD cs)) 0 1 .no .no .no .no))=some (.ok ((List.range' 0 cs.length).map λ(i:Nat)=>DV.int (i:Int)) .fresh):=by
   have h:=q4l (F:=run G T fu (k+rows.length+1)) (e:=.var 1) (δ:=dS (rL (r::rows)) (.lst (nD cs)) 0 1 .no .no .no .no) (ds:=nD cs) (c:=.strong) (q0b rfl);have l:(nD cs).length=cs.length:=by unfold nD;rw[List.length_map]
   rw[l]at h;rw[q6U h (by omega)];unfold L2.upTo;rw[List.range_eq_range']
   congr 2
   refine List.map_congr_left λi _=>?_;rw[Int.zero_add]
  refine q3N w (.inr rfl) e (q1a ?_);have r1:=q0J (fu:=fu) (q0b (G:=G) (F:=run G T fu (k+rows.length+1)) (n:=2) (δ:=dS (rL (r::rows)) (.lst (nD cs)) (0+1*rk.alt (λx ds=>rw' r x*rk.dt (rows.map rw') ([]++ds)) cs) s' a' b' c' d') (d:=.int (0+1*rk.alt (λx ds=>rw' r x*rk.dt (rows.map rw') ([]++ds)) cs)) rfl);refine r1.trans ?_;rw[Int.zero_add,Int.one_mul];rfl
end k44
end
noncomputable section
namespace k44
open PySem L2
variable {F:Nat->List DV->Option Ou} {fu k:Nat} {δ:List Sv} {ds:List DV}
theorem q9D{rows:List (List Int)}{i:Nat}(h:i<rows.length):ixD (rL rows) (.int (i:Int))=some (.lst (iD (rows.getD i []))):=by
 show atD (rows.map λr=>.lst (iD r)) (i:Int)=_;unfold atD;rw[List.length_map,q6x h,Option.bind_some,List.getElem?_map,List.getElem?_eq_getElem h,List.getD_eq_getElem?_getD,List.getElem?_eq_getElem h];rfl
theorem q8n{rows:List (List Int)}{n m:Nat}{I J:List Nat}(R:Rect n m rows)(h9:W9 rows)(hI:∀i∈I,i<n)(hJ:∀j∈J,j<m)(lI:I.length<=64)(lJ:J.length<=64):run G T fu (k+I.length+2) 25 [rL rows,.lst (nD I),.lst (nD J)]=some (.v (.int (rk.dt (I.map (vv rows)) J)) false):=by
 rw[q0D (fd:=q1Y) rfl rfl];have c:=q0B (F:=run G T fu (k+I.length+1)) (δ:=[.val (rL rows),.val (.lst (nD I)),.val (.lst (nD J))]) (it:=.var 1) (l:=I) (h:=λ(i:Nat)=>DV.int (i:Int)) (f:=λi=>DV.lst (iD (rows.getD i []))) (elt:=.ix (.var 1) (.var 0)) (tg:=.one 0) (fr:=[none,some 0]) (cl:=.strong) rfl (by decide) (Nat.le_trans lI (by decide)) λi hi=>⟨[.val (.int (i:Int)),.val (rL rows)],.strong,rfl,q0V (cx:=.strong) (q0b rfl) (q0b rfl) (q9D (by rw[R.1];exact hI i hi)),rfl⟩
 have e:I.map (λi=>DV.lst (iD (rows.getD i [])))=(I.map λi=>rows.getD i []).map λr=>DV.lst (iD r):=by rw[List.map_map];rfl
 rw[e]at c;have d:=z8j (fu:=fu) (k:=k) (I.map λi=>rows.getD i []) J (λr hr c hc=>by
  obtain⟨i,hi,rfl⟩:=List.mem_map.mp hr;rw[(q2l R (hI i hi)).2];exact hJ c hc) (λr hr=>by
  obtain⟨i,hi,rfl⟩:=List.mem_map.mp hr;exact h9 _ (q2l R (hI i hi)).1) lJ
 rw[List.length_map]at d;have e2:(I.map λi=>rows.getD i []).map rw'=I.map (vv rows):=by rw[List.map_map];rfl
 rw[e2]at d;exact q1c (q1a (q0J (q0e (q0a c (q0a (q0b rfl) q0d)) rfl d)))
end k44
end
noncomputable section
namespace k44
open PySem L2
variable {F:Nat->List DV->Option Ou} {fu k:Nat} {δ:List Sv} {ds:List DV}
theorem q6C:∀(I:List Nat),DV.plains 60 (nD I)=true
 | []=>rfl
 | i::I=>by show(true&&DV.plains 60 (nD I))=true;rw[q6C I];rfl
theorem z0h(r:Int)(I:List Nat):∃t,cmpD .NotIn (.int r) (.lst (nD I))=some t:=by
 refine⟨!(nD I).any λd=>deq d (.int r),?_⟩;show(if(DV.plain 60 (.int r)&&DV.plains 60 (nD I))=true then some (!(nD I).any λd=>deq d (.int r))else none)=_;rw[q6C,if_pos (show(DV.plain 60 (.int r)&&true)=true by rfl)]
def Ok1(y own:Int):Prop:=own≠0/\(y=2->own%2≠0)
def Ok2(y z:Int):Prop:=(y=0->z=0)/\(y=2->z%2=0)
theorem no1{i:Nat}{y own:Int}(hy:y=0\/y=2)(h:Ok1 y own)(h2:evE G F (.var 2) δ=some (.ok (.int y) .strong))(h3:evE G F (.var i) δ=some (.ok (.int own) .strong)):evE G F (.or [.cmp .Eq (.var i) (.int 0),.and [.cmp .Eq (.var 2) (.int 2),.cmp .Eq (.bin .Mod (.var i) (.int 2)) (.int 0)]]) δ=some (.ok (.bl false) .strong):=by
 have a:=b_eq h3 (q0c (i:=0));rw[show(own==0)=false from beq_eq_false_iff_ne.mpr h.1]at a;refine q3z a ?_;have b:=b_eq h2 (q0c (i:=2));rcases hy with q | q
 ·rw[q,show((0:Int)==2)=false from rfl]at b;exact q3T (t:=true) b
 ·rw[q,show((2:Int)==2)=true from rfl]at b;refine q3X b ?_;have c:=b_eq (q1N h3 (q0c (i:=2)) (by decide)) (q0c (i:=0));rw[show(own%2==0)=false from beq_eq_false_iff_ne.mpr (h.2 q)]at c;exact c
theorem z1Z{a b:ME}{i j:Int}{cx cy:Cl}(ha:evE G F a δ=some (.ok (.int i) cx))(hb:evE G F b δ=some (.ok (.int j) cy)):evE G F (.cmp .NotEq a b) δ=some (.ok (.bl (!decide (i=j))) .strong):=q1W ha hb rfl
theorem no2{i:Nat}{y z:Int}(hy:y=0\/y=2)(h:Ok2 y z)(h2:evE G F (.var 2) δ=some (.ok (.int y) .strong))(h3:evE G F (.var i) δ=some (.ok (.int z) .strong)):evE G F (.or [.and [.cmp .Eq (.var 2) (.int 0),.cmp .NotEq (.var i) (.int 0)],.and [.cmp .Eq (.var 2) (.int 2),.cmp .NotEq (.bin .Mod (.var i) (.int 2)) (.int 0)]]) δ=some (.ok (.bl false) .strong):=by
 have a:=b_eq h2 (q0c (i:=0));have b:=b_eq h2 (q0c (i:=2));rcases hy with q | q
 ·rw[q,show((0:Int)==0)=true from rfl]at a;rw[q,show((0:Int)==2)=false from rfl]at b;have c:=z1Z h3 (q0c (i:=0));rw[decide_eq_true (h.1 q)]at c;exact q3z (q3X a c) (q3T (t:=true) b)
 ·rw[q,show((2:Int)==0)=false from rfl]at a;rw[q,show((2:Int)==2)=true from rfl]at b;have c:=z1Z (q1N h3 (q0c (i:=2)) (by decide)) (q0c (i:=0));rw[decide_eq_true (h.2 q)]at c;exact q3z (q3T (t:=true) a) (q3X b c)
abbrev gS(rows:List (List Int))(I J:List Nat)(y own:Int)(a b c:Sv):List Sv:=[.val (rL rows),.val (.tup [.lst (nD I),.lst (nD J)]),.val (.int y),.val (.int own),a,b,c]
def gI:List MS:=[.iff (.and [.cmp .NotIn (.var 4) (.ix (.var 1) (.int 0)),.cmp .NotIn (.var 5) (.ix (.var 1) (.int 1))]) [.set 6 false (.call 25 [.var 0,.bin .Add (.ix (.var 1) (.int 0)) (.lst [.var 4]),.bin .Add (.ix (.var 1) (.int 1)) (.lst [.var 5])]),.iff (.or [.and [.cmp .Eq (.var 2) (.int 0),.cmp .NotEq (.var 6) (.int 0)],.and [.cmp .Eq (.var 2) (.int 2),.cmp .NotEq (.bin .Mod (.var 6) (.int 2)) (.int 0)]]) [.ret (.bl false)] []] []]
def gO:List MS:=[.fo (.one 5) (.rng [.bi .len [.ix (.var 0) (.int 0)]]) gI]
theorem and2{a b:ME}{s t:Bool}(ha:evE G F a δ=some (.ok (.bl s) .strong))(hb:evE G F b δ=some (.ok (.bl t) .strong)):evE G F (.and [a,b]) δ=some (.ok (.bl (s&&t)) .strong):=by
 cases s with
 | true=>exact q3X ha hb
 | false=>exact q3T (t:=true) ha
theorem g_in{rows:List (List Int)}{n m:Nat}{I J:List Nat}{y own:Int}(R:Rect n m rows)(h9:W9 rows)(hI:∀i∈I,i<n)(hJ:∀j∈J,j<m)(lI:I.length<=60)(lJ:J.length<=60)(hy:y=0\/y=2){r c:Nat}(hr:r<n)(hc:c<m)(h:Ok2 y (rk.dt ((I++[r]).map (vv rows)) (J++[c])))(z:Sv):∃z',evSs G (run G T fu (k+(I++[r]).length+2)) fu gI (gS rows I J y own (.val (.int (r:Int))) (.val (.int (c:Int))) z)=some (.nx (gS rows I J y own (.val (.int (r:Int))) (.val (.int (c:Int))) z')):=by
 obtain⟨N,hN⟩:∃N,k+(I++[r]).length+2=N:=⟨_,rfl⟩;have sq:=q8n (fu:=fu) (k:=k) (I:=I++[r]) (J:=J++[c]) R h9 (λi hi=>by
  rcases List.mem_append.mp hi with q | q
  ·exact hI i q
  ·rw[List.mem_singleton.mp q];exact hr) (λj hj=>by
  rcases List.mem_append.mp hj with q | q
  ·exact hJ j q
  ·rw[List.mem_singleton.mp q];exact hc) (by rw[List.length_append,List.length_singleton];omega) (by rw[List.length_append,List.length_singleton];omega)
 rw[hN]at sq ⊢;obtain⟨D,hD⟩:∃D,gS rows I J y own (.val (.int (r:Int))) (.val (.int (c:Int))) z=D:=⟨_,rfl⟩;have i0:evE G (run G T fu N) (.ix (.var 1) (.int 0)) D=some (.ok (.lst (nD I)) .strong):=by rw[←hD];exact q0V (cx:=.strong) (q0b rfl) q0c rfl
 have i1:evE G (run G T fu N) (.ix (.var 1) (.int 1)) D=some (.ok (.lst (nD J)) .strong):=by rw[←hD];exact q0V (cx:=.strong) (q0b rfl) q0c rfl
 have v4:evE G (run G T fu N) (.var 4) D=some (.ok (.int (r:Int)) .strong):=by rw[←hD];exact q0b rfl
 have v5:evE G (run G T fu N) (.var 5) D=some (.ok (.int (c:Int)) .strong):=by rw[←hD];exact q0b rfl
 have v0:evE G (run G T fu N) (.var 0) D=some (.ok (rL rows) .strong):=by rw[←hD];exact q0b rfl
 obtain⟨s,hs⟩:=z0h (r:Int) I;obtain⟨t,ht⟩:=z0h (c:Int) J;have c0:=and2 (q1W v4 i0 hs) (q1W v5 i1 ht);have app:∀(l:List Nat) (x:Nat),nD l++[DV.int (x:Int)]=nD (l++[x]):=λl x=>by unfold nD;rw[List.map_append];rfl
 have l4:evE G (run G T fu N) (.bin .Add (.ix (.var 1) (.int 0)) (.lst [.var 4])) D=some (.ok (.lst (nD (I++[r]))) (Cl.anew .strong .fresh)):=(by rw[←app];exact z4q i0 (q9B (q0a v4 q0d) (show(1:Nat)<=mostLen by decide) rfl) (by unfold nD;rw[List.length_map];show I.length+1<=1000;omega));have l5:evE G (run G T fu N) (.bin .Add (.ix (.var 1) (.int 1)) (.lst [.var 5])) D=some (.ok (.lst (nD (J++[c]))) (Cl.anew .strong .fresh)):=(by rw[←app];exact z4q i1 (q9B (q0a v5 q0d) (show(1:Nat)<=mostLen by decide) rfl) (by unfold nD;rw[List.length_map];show J.length+1<=1000;omega));have cl:=q0e (q0a v0 (q0a l4 (q0a l5 q0d))) rfl sq;cases st:(s&&t)with
 | false=>
  rw[st]at c0;exact⟨z,by rw[hD];exact q1C (q0G c0) rfl⟩
 | true=>
  rw[st]at c0;refine⟨.val (.int (rk.dt ((I++[r]).map (vv rows)) (J++[c]))),?_⟩;rw[hD];refine q5p (q0G c0) (q0m (δ':=gS rows I J y own (.val (.int (r:Int))) (.val (.int (c:Int))) (.val (.int (rk.dt ((I++[r]).map (vv rows)) (J++[c]))))) (by rw[q0p cl rfl,←hD];rfl) (q1C (q0G (no2 (i:=6) hy h (q0b rfl) (q0b rfl))) rfl)) rfl
end k44
end
noncomputable section
namespace k44
open PySem L2
variable {F:Nat->List DV->Option Ou} {fu k:Nat} {δ:List Sv} {ds:List DV}
theorem z0U{rows:List (List Int)}{e:ME}{c:Cl}(h:evE G F e δ=some (.ok (rL rows) c)):evE G F (.bi .len [e]) δ=some (.ok (.int (rows.length:Nat)) .strong):=by
 have:=q4l (ds:=rows.map λr=>DV.lst (iD r)) h;rw[List.length_map]at this;exact this
theorem q9R{r:List Int}{e:ME}{c:Cl}(h:evE G F e δ=some (.ok (.lst (iD r)) c)):evE G F (.bi .len [e]) δ=some (.ok (.int (r.length:Nat)) .strong):=by
 have:=q4l h;unfold iD at this;rw[List.length_map]at this;exact this
theorem z5v{rows:List (List Int)}{n m:Nat}{I J:List Nat}{y:Int}(R:Rect n m rows)(h9:W9 rows)(n0:0<n)(n8:n<=60)(m8:m<=60)(hI:∀i∈I,i<n)(hJ:∀j∈J,j<m)(lI:I.length<=60)(lJ:J.length<=60)(hy:y=0\/y=2)(h1:Ok1 y (rk.dt (I.map (vv rows)) J))(h2:∀r,r<n->∀c,c<m->Ok2 y (rk.dt ((I++[r]).map (vv rows)) (J++[c]))):run G T fu (k+I.length+4) 26 [rL rows,.tup [.lst (nD I),.lst (nD J)],.int y]=some (.v (.bl true) false):=by
 rw[q0D (fd:=q2x) rfl rfl];have sq:=q8n (fu:=fu) (k:=k+1) (I:=I) (J:=J) R h9 hI hJ (by omega) (by omega);rw[show k+1+I.length+2=k+I.length+3 by omega]at sq;obtain⟨own,ho⟩:∃own,rk.dt (I.map (vv rows)) J=own:=⟨_,rfl⟩;rw[ho]at sq h1;have gin:∀r,r<n->∀c,c<m->∀z:Sv,∃z',evSs G (run G T fu (k+I.length+3)) fu gI (gS rows I J y own (.val (.int (r:Int))) (.val (.int (c:Int))) z)=some (.nx (gS rows I J y own (.val (.int (r:Int))) (.val (.int (c:Int))) z')):=λr hr c hc z=>by have:=g_in (fu:=fu) (k:=k) (own:=own) R h9 hI hJ lI lJ hy hr hc (h2 r hr c hc) z;rw[show k+(I++[r]).length+2=k+I.length+3 by rw[List.length_append,List.length_singleton];omega]at this;exact this
 obtain⟨N,hN⟩:∃N,k+I.length+3=N:=⟨_,rfl⟩;rw[hN]at sq gin ⊢;have c1:evE G (run G T fu N) (.call 25 [.var 0,.ix (.var 1) (.int 0),.ix (.var 1) (.int 1)]) [.val (rL rows),.val (.tup [.lst (nD I),.lst (nD J)]),.val (.int y),.no,.no,.no,.no]=some (.ok (.int own) .strong):=q0e (q0a (q0b rfl) (q0a (q0V (cx:=.strong) (q0b rfl) q0c rfl) (q0a (q0V (cx:=.strong) (q0b rfl) q0c rfl) q0d))) rfl sq;have rowLen:∀(a b c:Sv),q0F (evE G (run G T fu N) (.rng [.bi .len [.ix (.var 0) (.int 0)]]) (gS rows I J y own a b c))=some (.ok (upTo 0 m) .fresh):=λa b c=>by have e:=q0V (G:=G) (F:=run G T fu N) (a:=.var 0) (b:=.int 0) (δ:=gS rows I J y own a b c) (x:=rL rows) (cx:=.strong) (q0b rfl) (q0c (i:=((0:Nat):Int))) (q9D (by rw[R.1];exact n0));have l:=q9R e;rw[(q2l R n0).2]at l;exact q6U l (by omega)
 have outer:∃δ',q0N (.one 4) (λδ'=>evSs G (run G T fu N) fu gO δ') (upTo 0 n) (gS rows I J y own .no .no .no)=some (.nx δ')/\∃a b c,δ'=gS rows I J y own a b c:=by
  refine q1w (i:=4) (I:=λ_ δ=>∃a b c,δ=gS rows I J y own a b c) n 0 (λr hr δ Iv=>?_) ⟨_,_,_,rfl⟩;obtain⟨a,b,c,rfl⟩:=Iv;rw[Int.zero_add];have inner:∃δ',q0N (.one 5) (λδ'=>evSs G (run G T fu N) fu gI δ') (upTo 0 m) (gS rows I J y own (.val (.int (r:Int))) b c)=some (.nx δ')/\∃b c,δ'=gS rows I J y own (.val (.int (r:Int))) b c:=by refine q1w (i:=5) (I:=λ_ δ=>∃b c,δ=gS rows I J y own (.val (.int (r:Int))) b c) m 0 (λq hq δ Iv=>?_) ⟨_,_,rfl⟩;obtain⟨b',c',rfl⟩:=Iv;rw[Int.zero_add];obtain⟨z',e⟩:=gin r hr q hq c';exact⟨_,e,_,_,rfl⟩
  obtain⟨δ',e,b',c',rfl⟩:=inner;exact⟨_,q3N (rowLen _ _ _) (.inr rfl) e rfl,_,_,_,rfl⟩
 obtain⟨δ',e,a',b',c',rfl⟩:=outer;have w:q0F (evE G (run G T fu N) (.rng [.bi .len [.var 0]]) (gS rows I J y own .no .no .no))=some (.ok (upTo 0 n) .fresh):=by have l:=z0U (F:=run G T fu N) (rows:=rows) (e:=.var 0) (c:=.strong) (δ:=gS rows I J y own .no .no .no) (q0b rfl);rw[R.1]at l;exact q6U l (by omega)
 exact q1c (q0m (δ':=gS rows I J y own .no .no .no) (q0p c1 rfl) (q1C (q0G (no1 (i:=3) hy h1 (q0b rfl) (q0b rfl))) (q3N w (.inr rfl) e (q1a (q0J (cl:=.strong) rfl)))))
theorem z3Z{rows:List (List Int)}{n m:Nat}(R:Rect n m rows)(h9:W9 rows)(n0:0<n)(n8:n<=60)(m8:m<=60){P:Int->Prop}(Pp:rk.Pr P){I J:List Nat}{y:Int}(hy:y=0\/y=2)(B:rk.Bas P (vv rows) n m I)(C:rk.Bas P (λj i=>vv rows i j) m n J)(k1:∀a,¬P a->Ok1 y a)(k2:∀a,P a->Ok2 y a)(lI:I.length<=60)(lJ:J.length<=60):run G T fu (k+I.length+4) 26 [rL rows,.tup [.lst (nD I),.lst (nD J)],.int y]=some (.v (.bl true) false):=
 z5v R h9 n0 n8 m8 B.lt C.lt lI lJ hy (k1 _ (B.det Pp C)) λr hr c hc=>k2 _ (B.more Pp hr λj hj=>by
  rcases List.mem_append.mp hj with q | q
  ·exact C.lt j q
  ·rw[List.mem_singleton.mp q];exact hc)
end k44
end
noncomputable section
namespace k44
open PySem L2
variable {fu k:Nat}
theorem q6A{P:Int->Prop}{v w:Nat->rk.Rw}{n m:Nat}{b:List Nat}(h:∀i,i<n->∀j,j<m->v i j=w i j)(B:rk.Bas P v n m b):rk.Bas P w n m b:=by
 have at':∀t,t<b.length->b.getD t 0<n:=λt ht=>B.lt _ (by
  rw[List.getD_eq_getElem?_getD,List.getElem?_eq_getElem ht];exact List.getElem_mem ht)
 refine⟨B.lt,B.up,λc hs i hi=>B.ind c (λj hj=>?_) i hi,λi hi=>?_⟩
 ·have:=hs j hj;rw[rk.sm_congr (g:=λt=>c t*v (b.getD t 0) j) λt ht=>by rw[h _ (at' t ht) j hj]]at this;exact this
 ·obtain⟨d,a,hd,q⟩:=B.sp i hi;refine⟨d,a,hd,λj hj=>?_⟩;have:=q j hj;rw[h i hi j hj,rk.sm_congr (g:=λs=>a s*w (b.getD s 0) j) λt ht=>by show a t*v (b.getD t 0) j=_;rw[h _ (at' t ht) j hj]]at this;exact this
theorem q5g:∀(n:Nat) (b:List Nat),b.Pairwise (· < ·)->(∀i∈b,i<n)->b.length<=n
 | 0,b,_,h=>by
  cases b with
  | nil=>exact Nat.le_refl _
  | cons x b=>exact absurd (h x List.mem_cons_self) (Nat.not_lt_zero x)
 | n+1,b,up,h=>by
  by_cases q:n∈b
  ·obtain⟨A,C,rfl⟩:=List.append_of_mem q;have hC:C=[]:=by
    cases C with
    | nil=>rfl
    | cons y C=>
     have h1:=(List.pairwise_append.mp up).2.1;have h2:=(List.pairwise_cons.mp h1).1 y List.mem_cons_self;have h3:=h y (List.mem_append_right _ (List.mem_cons_of_mem _ List.mem_cons_self));omega
   subst hC;have:=q5g n A (List.pairwise_append.mp up).1 λi hi=>(List.pairwise_append.mp up).2.2 i hi n List.mem_cons_self
   rw[List.length_append,List.length_singleton];omega
  ·have:=q5g n b up λi hi=>by
    have:=h i hi;rcases Nat.lt_or_ge i n with w | w
    ·exact w
    ·have:i=n:=by omega
     subst this;exact absurd hi q
   omega
theorem q5M{rows:List (List Int)}{n m:Nat}(R:Rect n m rows):∀j,j<m->∀i,i<n->vv (flip m rows) j i=vv rows i j:=λj hj i hi=>by
 have hi':i<rows.length:=by rw[R.1];exact hi
 have e:(flip m rows).getD j []=col rows j:=(by unfold flip;rw[List.getD_eq_getElem?_getD,List.getElem?_map,List.getElem?_range hj];rfl);show((flip m rows).getD j []).getD i 0=(rows.getD i []).getD j 0;rw[e];unfold col;rw[List.getD_eq_getElem?_getD,List.getElem?_map,List.getElem?_eq_getElem hi',List.getD_eq_getElem?_getD (l:=rows),List.getElem?_eq_getElem hi'];rfl
section
variable {rows:List (List Int)} {n m:Nat} (R:Rect n m rows)
include R
theorem z3A:rk.Bas rk.P0 (λj i=>vv rows i j) m n (bl0 (flip m rows) n):=q6A (q5M R) (q5Z (q3l R))
theorem z3F:rk.Bas rk.P2 (λj i=>vv rows i j) m n (bl2 (flip m rows)):=q6A (q5M R) (q7d (q3l R))
theorem len0:(bl0 rows m).length<=n:=q5g n _ (q5Z R).up (q5Z R).lt
theorem len2:(bl2 rows).length<=n:=q5g n _ (q7d R).up (q7d R).lt
theorem z6E:(bl0 rows m).length=(bl0 (flip m rows) n).length:=(q5Z R).len rk.pr0 (z3A R)
theorem z6Q:(bl2 rows).length=(bl2 (flip m rows)).length:=(q7d R).len rk.pr2 (z3F R)
end
end k44
end
noncomputable section
namespace k44
open PySem L2
variable {F:Nat->List DV->Option Ou} {fu k:Nat} {δ:List Sv}
theorem q6M{i j:Int}(h1 : -(2^62)<j)(h2:j<2^62):q4R i j=true:=by
 unfold q4R;have e1:(2:Int)^62=4611686018427387904:=(by decide);have e2:(2:Int)^64=18446744073709551616:=(by decide);rw[decide_eq_true (show -(2^64)<j by omega),decide_eq_true (show j<2^64 by omega)];rw[Bool.and_self,Bool.or_true,Bool.true_or]
abbrev sS(c n:Int)(xs:List Int)(a b d e:Sv):List Sv:=[.val (.int c),.val (.int n),.own (.lst (iD xs)),a,b,d,e]
theorem z8O(xs:List Int)(x:Int):iD xs++[DV.int x]=iD (xs++[x]):=by unfold iD;rw[List.map_append];rfl
def s1:List MS:=[.app 2 (.bin .Mod (.var 3) (.int 306783379)),.set 3 false (.bin .FloorDiv (.var 3) (.int 306783379))]
def s2:List MS:=[.set 5 false (.bin .Mod (.bin .Add (.bin .Add (.bin .Mult (.var 5) (.int 48271)) (.bin .Mult (.var 4) (.var 4))) (.int 11)) (.int 2147483647)),.set 6 false (.bin .Add (.bin .Add (.bin .Mult (.bin .FloorDiv (.var 5) (.int 977)) (.int 16807)) (.bin .Mult (.var 5) (.bin .Add (.bin .Mult (.var 4) (.var 4)) (.int 7)))) (.var 4)),.seti 2 (.var 4) (.bin .FloorDiv (.bin .Mod (.var 6) (.int 2147483587)) (.int 7))]
theorem q6a(c:Int)(n:Nat)(hn:n<=100):∃xs:List Int,xs.length=n/\run G T fu (k+1) 21 [.int c,.int (n:Int)]=some (.v (.lst (iD xs)) true):=by
 rw[q0D (fd:=q2a) rfl rfl];have w:∀(xs:List Int) (a b d e:Sv),q0F (evE G (run G T fu k) (.rng [.var 1]) (sS c n xs a b d e))=some (.ok (upTo 0 n) .fresh):=λxs a b d e=>q6U (q0b rfl) (by omega)
 have l1:∃δ',q0N (.one 4) (λδ'=>evSs G (run G T fu k) fu s1 δ') (upTo 0 n) (sS c n [] (.val (.int c)) .no .no .no)=some (.nx δ')/\∃xs r b,xs.length=n/\δ'=sS c n xs (.val (.int r)) b .no .no:=(by refine q1w (i:=4) (I:=λj δ=>∃xs r b,xs.length=j/\δ=sS c n xs (.val (.int r)) b .no .no) n 0 (λj hj δ Iv=>?_) ⟨[],c,.no,rfl,rfl⟩;obtain⟨xs,r,b,hl,rfl⟩:=Iv;refine⟨sS c n (xs++[r%306783379]) (.val (.int (r/306783379))) (.val (.int (0+(j:Int)))) .no .no,?_,xs++[r%306783379],_,_,by rw[List.length_append,hl];rfl,rfl⟩;refine q0m (δ':=sS c n (xs++[r%306783379]) (.val (.int r)) (.val (.int (0+(j:Int)))) .no .no) ?_ (q0m (q0p (z6q (q0b rfl) q0c (by decide)) rfl) rfl);have:=q7S (fu:=fu) (G:=G) (F:=run G T fu k) (i:=2) (δ:=sS c n xs (.val (.int r)) (.val (.int (0+(j:Int)))) .no .no) (ds:=iD xs) rfl (q1N (q0b (n:=3) (d:=.int r) rfl) (q0c (i:=306783379)) (by decide)) rfl (by unfold iD;rw[List.length_map,hl];exact Nat.lt_of_lt_of_le (show j<1000 by omega) (by decide));rw[z8O]at this;exact this);obtain⟨δ',e1,xs,r,b,hx,rfl⟩:=l1;have c0:=b_gt (G:=G) (F:=run G T fu k) (δ:=sS c n xs (.val (.int r)) b .no .no) (q0b (n:=3) (d:=.int r) rfl) (q0c (i:=0));by_cases z:0<r
 ·rw[decide_eq_true z]at c0;exact⟨xs,hx,q1c (q0m (q3p (d:=.lst []) rfl) (q0m (q0p (q0b rfl) rfl) (q3N (w [] _ _ _ _) (.inr rfl) e1 (z1O (q0G c0) (q1a (q0J (cl:=.top) (q1e rfl)))))))⟩
 ·rw[decide_eq_false z]at c0;have l2:∃δ',q0N (.one 4) (λδ'=>evSs G (run G T fu k) fu s2 δ') (upTo 0 n) (sS c n xs (.val (.int r)) b (.val (.int (c%2147483647+48271))) .no)=some (.nx δ')/\∃xs b q e,xs.length=n/\δ'=sS c n xs (.val (.int r)) b q e:=by
   have:=q1w (i:=4) (body:=λδ'=>evSs G (run G T fu k) fu s2 δ') (I:=λ_ δ=>∃xs b q e,xs.length=n/\δ=sS c n xs (.val (.int r)) b (.val (.int q)) e) n 0 (λj hj δ Iv=>?_) (δ:=sS c n xs (.val (.int r)) b (.val (.int (c%2147483647+48271))) .no) ⟨xs,b,_,.no,hx,rfl⟩
   ·obtain⟨δ',h1,ys,b',q,e',hl,h2⟩:=this;exact⟨δ',h1,ys,b',_,e',hl,h2⟩
   ·obtain⟨ys,b',q,e',hl,rfl⟩:=Iv;rw[Int.zero_add];have e2:(2:Int)^62=4611686018427387904:=(by decide);have jj:((j:Int)*(j:Int))<=10000:=by
     have h1:j*j<=100*100:=Nat.mul_le_mul (by omega) (by omega);have:((j*j:Nat):Int)<=10000:=by omega
     rw[Int.natCast_mul]at this;exact this
    have j0:0<=(j:Int)*(j:Int):=Int.mul_nonneg (Int.natCast_nonneg j) (Int.natCast_nonneg j);obtain⟨D,hD⟩:∃D,sS c n ys (.val (.int r)) (.val (.int (j:Int))) (.val (.int q)) e'=D:=⟨_,rfl⟩;have v4:evE G (run G T fu k) (.var 4) D=some (.ok (.int (j:Int)) .strong):=by rw[←hD];exact q0b rfl
    have v5:evE G (run G T fu k) (.var 5) D=some (.ok (.int q) .strong):=by rw[←hD];exact q0b rfl
    have a1:=q1N (q2v (q2v (q3s v5 (q0c (i:=48271)) (q6M (by omega) (by omega))) (q3s v4 v4 (q6M (by omega) (by omega)))) (q0c (i:=11))) (q0c (i:=2147483647)) (by decide);obtain⟨p,hp⟩:∃p,(q*48271+(j:Int)*(j:Int)+11)%2147483647=p:=⟨_,rfl⟩;rw[hp]at a1;obtain⟨D2,hD2⟩:∃D2,sS c n ys (.val (.int r)) (.val (.int (j:Int))) (.val (.int p)) e'=D2:=⟨_,rfl⟩;have w4:evE G (run G T fu k) (.var 4) D2=some (.ok (.int (j:Int)) .strong):=by rw[←hD2];exact q0b rfl
    have w5:evE G (run G T fu k) (.var 5) D2=some (.ok (.int p) .strong):=by rw[←hD2];exact q0b rfl
    have a2:=q2v (q2v (q3s (z6q w5 (q0c (i:=977)) (by decide)) (q0c (i:=16807)) (q6M (by omega) (by omega))) (q3s w5 (q2v (q3s w4 w4 (q6M (by omega) (by omega))) (q0c (i:=7))) (q6M (by omega) (by omega)))) w4;obtain⟨u,hu⟩:∃u,p/977*16807+p*((j:Int)*(j:Int)+7)+(j:Int)=u:=⟨_,rfl⟩;rw[hu]at a2;refine⟨sS c n (ys.set j (u%2147483587/7)) (.val (.int r)) (.val (.int (j:Int))) (.val (.int p)) (.val (.int u)),?_,ys.set j (u%2147483587/7),_,_,_,by rw[List.length_set];exact hl,rfl⟩;show evSs G (run G T fu k) fu s2 (sS c n ys (.val (.int r)) (.val (.int (j:Int))) (.val (.int q)) e')=_;rw[hD];refine q0m (δ':=D2) (by rw[q0p a1 rfl,←hD,←hD2];rfl) (q0m (δ':=sS c n ys (.val (.int r)) (.val (.int (j:Int))) (.val (.int p)) (.val (.int u))) (by rw[q0p a2 rfl,←hD2];rfl) (q0m ?_ rfl));have st:=q7y (fu:=fu) (G:=G) (F:=run G T fu k) (i:=2) (k:=.var 4) (δ:=sS c n ys (.val (.int r)) (.val (.int (j:Int))) (.val (.int p)) (.val (.int u))) (ds:=iD ys) (j:=j) rfl (z6q (q1N (q0b (n:=6) (d:=.int u) rfl) (q0c (i:=2147483587)) (by decide)) (q0c (i:=7)) (by decide)) (q0b rfl) rfl (q6x (by unfold iD;rw[List.length_map,hl];exact hj));have es:(iD ys).set j (DV.int (u%2147483587/7))=iD (ys.set j (u%2147483587/7)):=by unfold iD;rw[List.map_set]
    rw[es]at st;exact st
  obtain⟨δ',e2,ys,b',q,e',hy,rfl⟩:=l2;exact⟨ys,hy,q1c (q0m (q3p (d:=.lst []) rfl) (q0m (q0p (q0b rfl) rfl) (q3N (w [] _ _ _ _) (.inr rfl) e1 (q1C (q0G c0) (q0m (q0p (q2v (q1N (q0b rfl) q0c (by decide)) q0c) rfl) (q3N (w xs _ _ _ _) (.inr rfl) e2 (q1a (q0J (cl:=.top) (q1e rfl)))))))))⟩
end k44
end
noncomputable section
namespace k44
open PySem L2
variable {F:Nat->List DV->Option Ou} {fu k:Nat} {δ:List Sv}
theorem z5i{n m:Nat}{ws:List Int}(h:∀x∈ws,0<=x/\x<=9):W9 (q5l n m ws):=λr hr x hx=>by
 obtain⟨i,_,rfl⟩:=List.mem_map.mp hr;exact h x (List.mem_of_mem_drop (List.mem_of_mem_take hx))
abbrev wS(ns xs:List Int)(tp:Int)(n m:Nat)(x y:Sv):List Sv:=[.val (.scr ns),.val (.int tp),.val (.lst (iD xs)),.val (.int (n:Int)),.val (.int (m:Int)),x,y]
theorem z8P(ns:List Int)(hns:ns.length<=63)(tp:Int)(htp:0<tp)(tp10:tp<=10):∃(n m:Nat) (rows:List (List Int)),0<n/\n<=6/\0<m/\m<=6/\Rect n m rows/\W9 rows/\run G T fu (k+2) 23 [.scr ns,.int tp]=some (.v (rL rows) true):=by
 obtain⟨v0,c0⟩:=q6P (fu:=fu) (k:=k) ns 0;obtain⟨v1,c1⟩:=q6P (fu:=fu) (k:=k) ns 1;obtain⟨xs,hx,st0⟩:=q6a (fu:=fu) (k:=k) v0 2 (by omega);have m9:∀x:Int,0<=x%tp/\x%tp<=9:=λx=>⟨Int.emod_nonneg x (by omega),by have:=Int.emod_lt_of_pos x htp;omega⟩
 obtain⟨n,hn⟩:∃n:Nat,1+xs.getD 0 0%6=(n:Int):=⟨(1+xs.getD 0 0%6).toNat,by omega⟩;obtain⟨m,hm⟩:∃m:Nat,1+xs.getD 1 0%6=(m:Int):=⟨(1+xs.getD 1 0%6).toNat,by omega⟩;have n5:n<=6:=by omega
 have m5:m<=6:=by omega
 have nm:n*m<=36:=Nat.mul_le_mul n5 m5;have e62:(2:Int)^62=4611686018427387904:=(by decide);obtain⟨ws0,hw0,st1⟩:=q6a (fu:=fu) (k:=k) v1 (n*m) (by omega);have mk1:q4R (n:Int) (m:Int)=true:=q6M (by omega) (by omega);have cm:=q0B (F:=run G T fu (k+1)) (δ:=wS ns xs tp n m .no .no) (elt:=.bin .Mod (.var 0) (.var 1)) (tg:=.one 0) (it:=.call 21 [.call 20 [.var 0,.int 1],.bin .Mult (.var 3) (.var 4)]) (fr:=[none,some 1]) (l:=ws0) (h:=DV.int) (f:=λx=>DV.int (x%tp)) (cl:=.fresh)
  (by
   have q:=q0e (G:=G) (F:=run G T fu (k+1)) (δ:=wS ns xs tp n m .no .no) (f:=21) (q0a (q0e (f:=20) (q0a (q0b (n:=0) (d:=.scr ns) rfl) (q0a (q0c (i:=1)) q0d)) rfl c1) (q0a (q3s (q0b (n:=3) (d:=.int n) rfl) (q0b (n:=4) (d:=.int m) rfl) mk1) q0d)) rfl (by rw[show((n:Int)*(m:Int))=((n*m:Nat):Int) by push_cast;rfl];exact st1);rw[q];rfl) (by decide) (by rw[hw0];exact Nat.le_trans nm (by decide)) (λx _=>⟨[.val (.int x),.val (.int tp)],.strong,rfl,q1N (q0b rfl) (q0b rfl) htp,rfl⟩)
 have cm':ws0.map (λx=>DV.int (x%tp))=iD (ws0.map λx=>x%tp):=by unfold iD;rw[List.map_map];rfl
 rw[cm']at cm;obtain⟨b,hb,hb1,hb2⟩:∃b:Int,(if(ns.length:Int) - 5<(n:Int)*m then(ns.length:Int) - 5 else(n:Int)*m)=b/\b<=((n*m:Nat):Int)/\b<=(ns.length:Int) - 5:=by refine⟨_,rfl,?_,?_⟩<;>split<;>push_cast<;>omega
 have hb3 : -1000<=b:=(by rw[←hb];have:(0:Int)<=(n:Int)*m:=Int.mul_nonneg (Int.natCast_nonneg n) (Int.natCast_nonneg m);split<;>omega);obtain⟨δ1,l1,ws,z,hw,hw9,rfl⟩:=q1w (i:=6) (I:=λ_ δ=>∃(ws:List Int) (z:Sv),ws.length=n*m/\(∀x∈ws,0<=x/\x<=9)/\δ=wS ns xs tp n m (.own (.lst (iD ws))) z)
  (body:=λδ'=>evSs G (run G T fu (k+1)) fu [.seti 5 (.var 6) (.bin .Mod (.ix (.var 0) (.bin .Add (.int 5) (.var 6))) (.var 1))] δ') b.toNat 0 (δ:=wS ns xs tp n m (.own (.lst (iD (ws0.map λx=>x%tp)))) .no)
  (λj hj δ I=>by
   obtain⟨ws,z,hw,hw9,rfl⟩:=I;rw[show(0:Int)+(j:Int)=j by omega];have h3:5+j<ns.length:=by omega
   have hv:ixD (.scr ns) (.int (5+(j:Int)))=some (.int ns[5+j]):=(by rw[show(5:Int)+(j:Int)=((5+j:Nat):Int) by push_cast;rfl];show((q2m ns.length ((5+j:Nat):Int)).bind λj=>ns[j]?).map DV.int=_;rw[q6x h3,Option.bind_some,List.getElem?_eq_getElem h3];rfl);refine⟨_,q0m (q7y (ds:=iD ws) (d:=.int (ns[5+j]%tp)) (cl:=.strong) (n:=j) (cx:=.strong) (j:=j) rfl (q1N (q0V (q0b rfl) (q2v q0c (q0b rfl)) hv) (q0b rfl) htp) (q0b rfl) rfl (q6x (by unfold iD;rw[List.length_map,hw];omega))) rfl,ws.set j (ns[5+j]%tp),.val (.int j),by rw[List.length_set];exact hw,λx hx=>(List.mem_or_eq_of_mem_set hx).elim (hw9 x) (λe=>e▸m9 _),?_⟩;unfold iD;rw[List.map_set];rfl) ⟨ws0.map λx=>x%tp,.no,by rw[List.length_map];exact hw0,λx hx=>by obtain⟨y,_,rfl⟩:=List.mem_map.mp hx;exact m9 y,rfl⟩
 have em:evE G (run G T fu (k+1)) (.bi .min [.bin .Mult (.var 3) (.var 4),.bin .Sub (.bi .len [.var 0]) (.int 5)]) (wS ns xs tp n m (.own (.lst (iD (ws0.map λx=>x%tp)))) .no)=some (.ok (.int b) .strong):=(by have e1:evE G (run G T fu (k+1)) (.bi .len [.var 0]) (wS ns xs tp n m (.own (.lst (iD (ws0.map λx=>x%tp)))) .no)=some (.ok (.int ns.length) .strong):=rfl;rw[z3Q (q0a (q3s (q0b (n:=3) (d:=.int n) rfl) (q0b (n:=4) (d:=.int m) rfl) mk1) (q0a (q7E e1 (q0c (i:=5))) q0d)),←hb];rfl);have rt:=q0B (F:=run G T fu (k+1)) (δ:=wS ns xs tp n m (.own (.lst (iD ws))) z) (elt:=.sl (.var 1) (.bin .Mult (.var 0) (.var 2)) (.bin .Add (.bin .Mult (.var 0) (.var 2)) (.var 2))) (tg:=.one 0) (it:=.rng [.var 3]) (fr:=[none,some 5,some 4]) (l:=List.range n) (h:=λ(i:Nat)=>DV.int (0+(i:Int))) (f:=λj=>.lst (iD ((ws.drop (j*m)).take m))) (cl:=.fresh)
  (q6U (q0b rfl) (by omega)) (by decide) (by rw[List.length_range];exact Nat.le_trans n5 (by decide)) (λj hj=>by
   have hj:=List.mem_range.mp hj;have mk2:q4R (j:Int) (m:Int)=true:=q6M (by omega) (by omega);refine⟨[.val (.int j),.own (.lst (iD ws)),.val (.int m)],.fresh,by rw[show(0:Int)+(j:Int)=j by omega];rfl,?_,rfl⟩;rw[←z4G hw hj];exact z9S (q1e rfl) (q3s (q0b rfl) (q0b rfl) mk2) (q2v (q3s (q0b rfl) (q0b rfl) mk2) (q0b rfl)))
 have hf:(List.range n).map (λj=>DV.lst (iD ((ws.drop (j*m)).take m)))=(q5l n m ws).map λr=>.lst (iD r):=by unfold q5l;rw[List.map_map];rfl
 rw[hf]at rt;refine⟨n,m,q5l n m ws,by omega,n5,by omega,m5,q9z hw,z5i hw9,?_⟩;rw[q0D (fd:=q2U) rfl rfl];have q0:=q0e (G:=G) (F:=run G T fu (k+1)) (δ:=[.val (.scr ns),.val (.int tp),.no,.no,.no,.no,.no]) (f:=21) (q0a (q0e (f:=20) (q0a (q0b (n:=0) (d:=.scr ns) rfl) (q0a (q0c (i:=0)) q0d)) rfl c0) (q0a (q0c (i:=2)) q0d)) rfl st0;have at0:=q1G (r:=xs) (j:=0) (by omega);have at1:=q1G (r:=xs) (j:=1) (by omega);refine q1c (q0m (q0p q0 rfl) (q0m (q0p (d:=.int n) (cl:=.strong) (by rw[←hn];exact q2v q0c (q1N (q0V (cx:=.strong) (q0b rfl) q0c at0) q0c (by decide))) rfl) (q0m (q0p (d:=.int m) (cl:=.strong) (by rw[←hm];exact q2v q0c (q1N (q0V (cx:=.strong) (q0b rfl) q0c at1) q0c (by decide))) rfl) (q0m (q3p cm) (q3N (z9b em (by omega) hb3) (.inr rfl) l1 (q1a (q0J rt)))))))
end k44
end
noncomputable section
namespace k44
open PySem L2
variable {F:Nat->List DV->Option Ou} {fu k:Nat} {δ:List Sv} {cl:Cl}
theorem z5r{e:ME}{n:Int}{ns:List Int}(h:evE G F e δ=some (.ok (.lst (iD (n::ns))) cl)):evE G F (.bi .max [e]) δ=some (.ok (.int (maxI n ns)) .strong):=by
 show Rs.thn (evEs G F [e] δ) (λl=>maxD l)=_;rw[q0a h q0d];show(match ints? (iD (n::ns))with
  | some (n::r)=>some (Re.ok (.int (maxI n r)) .strong)
  | _=>none)=_
 rw[q5P]
theorem q7u:∀(r:List Int) (m:Int),m<=maxI m r/\∀x∈r,x<=maxI m r
 | [],m=>⟨Int.le_refl _,λx h=>absurd h (by simp)⟩
 | y::r,m=>by
  have I:=q7u r (if m<y then y else m);show m<=maxI (if m<y then y else m) r/\_;refine⟨?_,λx hx=>?_⟩
  ·have:=I.1;split at this<;>omega
  ·show x<=maxI (if m<y then y else m) r;rcases List.mem_cons.mp hx with q | q
   ·have:=I.1;rw[q];split at this<;>omega
   ·exact I.2 x q
theorem z4X{e:ME}{r:List Int}(h0:0<r.length)(h:evE G F e δ=some (.ok (.lst (iD r)) cl)):∃M,evE G F (.bi .max [e]) δ=some (.ok (.int M) .strong)/\∀x∈r,x<=M:=by
 cases r with
 | nil=>cases h0
 | cons a r=>exact⟨_,z5r h,λx hx=>by
   rcases List.mem_cons.mp hx with q | q
   ·rw[q];exact(q7u r a).1
   ·exact(q7u r a).2 x q⟩
theorem z9v{a b:ME}{x w:List Int}(ha:evE G F a δ=some (.ok (.lst (iD x)) .strong))(hb:evE G F b δ=some (.ok (.lst (iD w)) .strong))(h:x.length=w.length):q0F (evE G F (.zp a b) δ)=some (.ok ((List.range x.length).map λ(i:Nat)=>DV.tup [.int (x.getD i 0),.int (w.getD i 0)]) .strong):=by
 have q:evE G F (.zp a b) δ=Re.thn (evE G F a δ) (λx c=>Re.thn (evE G F b δ) λy c'=>zipD x y c c'):=by rw[evE]
 rw[q,ha,q0S,hb,q0S];show some (Ri.ok (zpD (iD x) (iD w)) .strong)=_;rw[q9F x w h]
def Rw9(n m:Nat)(rows:List (List Int)):Prop:=Rect n m rows/\W9 rows
theorem z6R{n m i:Nat}{rows:List (List Int)}{y:List Int}(h:Rw9 n m rows)(hy:y.length=m)(h9:∀x∈y,0<=x/\x<=9):Rw9 n m (rows.set i y):=by
 refine⟨⟨by rw[List.length_set];exact h.1.1,λr hr=>?_⟩,λr hr=>?_⟩
 ·rcases List.mem_or_eq_of_mem_set hr with q | q
  ·exact h.1.2 r q
  ·rw[q];exact hy
 ·rcases List.mem_or_eq_of_mem_set hr with q | q
  ·exact h.2 r q
  ·rw[q];exact h9
abbrev xS(rows:List (List Int))(xs:List Int)(a:Sv)(i:Nat)(r r':List Int)(w:Int):List Sv:=[.own (rL rows),.val (.lst (iD xs)),a,.val (.int (i:Int)),.val (.lst (iD r)),.val (.lst (iD r')),.val (.int w)]
theorem x_if{rows:List (List Int)}{n m i:Nat}{xs r r':List Int}{w:Int}{a:Sv}{c e:ME}{t:Bool}(h:Rw9 n m rows)(hi:i<n)(hc:evE G F c (xS rows xs a i r r' w)=some (.ok (.bl t) .strong))(he:t=true->∃y,evE G F e (xS rows xs a i r r' w)=some (.ok (.lst (iD y)) .fresh)/\y.length=m/\∀x∈y,0<=x/\x<=9):∃rows',Rw9 n m rows'/\evS G F fu (.iff c [.seti 0 (.var 3) e] []) (xS rows xs a i r r' w)=some (.nx (xS rows' xs a i r r' w)):=by
 cases t with
 | false=>exact⟨rows,h,by rw[q9a (q0G hc)];rfl⟩
 | true=>
  obtain⟨y,e1,e2,e3⟩:=he rfl;refine⟨rows.set i y,z6R h e2 e3,?_⟩;rw[q9a (q0G hc),if_pos rfl];have st:=q7y (fu:=fu) (G:=G) (F:=F) (i:=0) (k:=.var 3) (δ:=xS rows xs a i r r' w) (ds:=rows.map λr=>DV.lst (iD r)) (n:=(i:Int)) (j:=i) rfl e1 (q0b rfl) rfl (q6x (by rw[List.length_map,h.1.1];exact hi));refine q0m st ?_;have es:(rows.map λr=>DV.lst (iD r)).set i (.lst (iD y))=(rows.set i y).map λr=>DV.lst (iD r):=by rw[List.map_set]
  show some (Out.nx ((xS rows xs a i r r' w).set 0 (.own (.lst ((rows.map λr=>DV.lst (iD r)).set i (.lst (iD y)))))))=_;rw[es];rfl
theorem y0n{rows:List (List Int)}{n m i:Nat}{xs r r':List Int}{w:Int}{a:Sv}(h:Rw9 n m rows)(m0:0<m)(m8:m<=8)(hi:i<n)(hr:r.length=m)(hr':r'.length=m)(r9:∀x∈r,0<=x/\x<=9)(r9':∀x∈r',0<=x/\x<=9):∃rows',Rw9 n m rows'/\evSs G F fu [.iff (.cmp .Eq (.var 6) (.int 0)) [.seti 0 (.var 3) (.bi .list [.var 4])] [],.iff (.and [.cmp .Eq (.var 6) (.int 1),.cmp .Lt (.bin .Add (.bi .max [.var 4]) (.bi .max [.var 5])) (.int 10)]) [.seti 0 (.var 3) (.comp (.bin .Add (.var 0) (.var 1)) (.many [0,1]) (.zp (.var 4) (.var 5)) [none,none])] [],.iff (.and [.cmp .Eq (.var 6) (.int 2),.cmp .Lt (.bi .max [.var 4]) (.int 5)]) [.seti 0 (.var 3) (.comp (.bin .Mult (.int 2) (.var 0)) (.one 0) (.var 4) [none])] [],.iff (.cmp .Eq (.var 6) (.int 3)) [.seti 0 (.var 3) (.bin .Mult (.lst [.int 0]) (.bi .len [.var 4]))] []] (xS rows xs a i r r' w)=some (.nx (xS rows' xs a i r r' w)):=by
 have e62:(2:Int)^62=4611686018427387904:=(by decide);obtain⟨rows1,h1,s1⟩:=x_if (fu:=fu) (F:=F) (rows:=rows) (xs:=xs) (r:=r) (r':=r') (w:=w) (a:=a) (c:=.cmp .Eq (.var 6) (.int 0)) (e:=.bi .list [.var 4]) h hi (b_eq (q0b rfl) q0c) λ_=>⟨r,q9O (q0b rfl),hr,r9⟩;obtain⟨rows2,h2,s2⟩:∃rows',Rw9 n m rows'/\evS G F fu (.iff (.and [.cmp .Eq (.var 6) (.int 1),.cmp .Lt (.bin .Add (.bi .max [.var 4]) (.bi .max [.var 5])) (.int 10)]) [.seti 0 (.var 3) (.comp (.bin .Add (.var 0) (.var 1)) (.many [0,1]) (.zp (.var 4) (.var 5)) [none,none])] []) (xS rows1 xs a i r r' w)=some (.nx (xS rows' xs a i r r' w)):=by
  obtain⟨M,q1,q2⟩:=z4X (F:=F) (e:=.var 4) (δ:=xS rows1 xs a i r r' w) (r:=r) (by omega) (cl:=.strong) (q0b rfl);obtain⟨M',q3,q4⟩:=z4X (F:=F) (e:=.var 5) (δ:=xS rows1 xs a i r r' w) (r:=r') (by omega) (cl:=.strong) (q0b rfl);refine x_if h1 hi (and2 (b_eq (q0b rfl) q0c) (b_lt (q2v q1 q3) q0c)) λht=>?_
  rw[Bool.and_eq_true,decide_eq_true_eq]at ht;have c:=q0B (F:=F) (δ:=xS rows1 xs a i r r' w) (it:=.zp (.var 4) (.var 5)) (l:=List.range r.length) (h:=λ(i:Nat)=>DV.tup [.int (r.getD i 0),.int (r'.getD i 0)]) (f:=λ(i:Nat)=>DV.int (r.getD i 0+r'.getD i 0)) (elt:=.bin .Add (.var 0) (.var 1)) (tg:=.many [0,1]) (fr:=[none,none]) (cl:=.strong) (z9v (q0b rfl) (q0b rfl) (by omega)) (by decide) (by rw[List.length_range,hr];exact Nat.le_trans m8 (by decide)) λj _=>⟨[.val (.int (r.getD j 0)),.val (.int (r'.getD j 0))],.strong,rfl,q2v (q0b rfl) (q0b rfl),rfl⟩
  refine⟨(List.range r.length).map λi=>r.getD i 0+r'.getD i 0,by rw[c];unfold iD;rw[List.map_map];rfl,by rw[List.length_map,List.length_range,hr],λx hx=>?_⟩;obtain⟨j,hj,rfl⟩:=List.mem_map.mp hx;have hj:=List.mem_range.mp hj;have g1:r.getD j 0∈r:=by rw[List.getD_eq_getElem?_getD,List.getElem?_eq_getElem hj];exact List.getElem_mem hj
  have g2:r'.getD j 0∈r':=by rw[List.getD_eq_getElem?_getD,List.getElem?_eq_getElem (show j<r'.length by omega)];exact List.getElem_mem _
  have:=q2 _ g1;have:=q4 _ g2;have:=r9 _ g1;have:=r9' _ g2;have:=ht.2;omega
 obtain⟨rows3,h3,s3⟩:∃rows',Rw9 n m rows'/\evS G F fu (.iff (.and [.cmp .Eq (.var 6) (.int 2),.cmp .Lt (.bi .max [.var 4]) (.int 5)]) [.seti 0 (.var 3) (.comp (.bin .Mult (.int 2) (.var 0)) (.one 0) (.var 4) [none])] []) (xS rows2 xs a i r r' w)=some (.nx (xS rows' xs a i r r' w)):=by
  obtain⟨M,q1,q2⟩:=z4X (F:=F) (e:=.var 4) (δ:=xS rows2 xs a i r r' w) (r:=r) (by omega) (cl:=.strong) (q0b rfl);refine x_if h2 hi (and2 (b_eq (q0b rfl) q0c) (b_lt q1 q0c)) λht=>?_
  rw[Bool.and_eq_true,decide_eq_true_eq]at ht;have c:=q0B (F:=F) (δ:=xS rows2 xs a i r r' w) (it:=.var 4) (l:=r) (h:=DV.int) (f:=λx=>DV.int (2*x)) (elt:=.bin .Mult (.int 2) (.var 0)) (tg:=.one 0) (fr:=[none]) (cl:=.strong) rfl (by decide) (by rw[hr];exact Nat.le_trans m8 (by decide)) λx hx=>⟨[.val (.int x)],.strong,rfl,q3s q0c (q0b rfl) (q6M (by have:=r9 x hx;omega) (by have:=r9 x hx;omega)),rfl⟩
  refine⟨r.map λx=>2*x,by rw[c];unfold iD;rw[List.map_map];rfl,by rw[List.length_map,hr],λx hx=>?_⟩;obtain⟨y,hy,rfl⟩:=List.mem_map.mp hx;have:=q2 _ hy;have:=r9 _ hy;have:=ht.2;omega
 obtain⟨rows4,h4,s4⟩:∃rows',Rw9 n m rows'/\evS G F fu (.iff (.cmp .Eq (.var 6) (.int 3)) [.seti 0 (.var 3) (.bin .Mult (.lst [.int 0]) (.bi .len [.var 4]))] []) (xS rows3 xs a i r r' w)=some (.nx (xS rows' xs a i r r' w)):=by
  refine x_if h3 hi (b_eq (q0b rfl) q0c) λ_=>⟨List.replicate m 0,?_,List.length_replicate,λx hx=>by rw[(List.mem_replicate.mp hx).2];exact⟨Int.le_refl _,by decide⟩⟩;have l:=q9R (F:=F) (e:=.var 4) (r:=r) (c:=.strong) (δ:=xS rows3 xs a i r r' w) (q0b rfl);rw[hr]at l;have ls:=q9B (F:=F) (δ:=xS rows3 xs a i r r' w) (q0a (q0c (i:=0)) q0d) (show(1:Nat)<=mostLen by decide) rfl;refine(q1o ls l (show binD .Mult (.lst [.int 0]) (.int (m:Int)) .fresh .strong=some (Re.ok (.lst (List.replicate (m:Int).toNat [DV.int 0]).flatten) (Cl.anew .fresh .fresh))from if_pos ⟨?_,by omega,by omega⟩)).trans ?_
  ·rw[Int.toNat_natCast];have:∀q:Nat,(List.replicate q [DV.int 0]).flatten=iD (List.replicate q 0):=λq=>by
    induction q with
    | zero=>rfl
    | succ q ih=>rw[List.replicate_succ,List.flatten_cons,ih,List.replicate_succ];rfl
   rw[this];rfl
  ·rw[Int.toNat_natCast];show 1*m<=mostLen;exact Nat.le_trans (show 1*m<=8 by omega) (by decide)
 exact⟨rows4,h4,q0m s1 (q0m s2 (q0m s3 (q0m s4 rfl)))⟩
end k44
end
noncomputable section
namespace k44
open PySem L2
variable {F:Nat->List DV->Option Ou} {fu k:Nat} {δ:List Sv} {cl:Cl}
abbrev yS(rows:List (List Int))(xs:List Int)(a b c d e:Sv):List Sv:=[.own (rL rows),.val (.lst (iD xs)),a,b,c,d,e]
theorem z6p{rows:List (List Int)}{n m:Nat}{xs:List Int}(h:Rw9 n m rows)(n0:0<n)(n8:n<=8)(m0:0<m)(m8:m<=8)(hx:xs.length=20):∃rows',Rw9 n m rows'/\run G T fu (k+1) 22 [rL rows,.lst (iD xs)]=some (.v (rL rows') true):=by
 have c0:=q0B (F:=run G T fu k) (δ:=q0n 7 [rL rows,.lst (iD xs)]) (it:=.var 0) (l:=rows) (h:=λr=>DV.lst (iD r)) (f:=λr=>DV.lst (iD r)) (elt:=.bi .list [.var 0]) (tg:=.one 0) (fr:=[none]) (cl:=.strong) rfl (by decide) (by rw[h.1.1];exact Nat.le_trans n8 (by decide)) λr _=>⟨[.val (.lst (iD r))],.fresh,rfl,q9O (q0b rfl),rfl⟩;have atx:∀(i:Nat) (j:Nat),i+j<20->∀{F:Nat->List DV->Option Ou} {δ:List Sv},evE G F (.var 1) δ=some (.ok (.lst (iD xs)) .strong)->evE G F (.var 2) δ=some (.ok (.int (j:Int)) .strong)->evE G F (.ix (.var 1) (.bin .Add (.int (i:Int)) (.var 2))) δ=some (.ok (.int (xs.getD (i+j) 0)) .strong):=λi j hij F δ h1 h2=>by have:=q1G (r:=xs) (j:=i+j) (by omega);rw[Int.natCast_add]at this;exact q0V (cx:=.strong) h1 (q2v q0c h2) this
 have pick:∀(v:Int) (rows:List (List Int)),Rw9 n m rows->∃j:Nat,v%(n:Int)=(j:Int)/\j<n:=λv rows _=>by have h1:=Int.emod_nonneg v (b:=(n:Int)) (by omega);have h2:=Int.emod_lt_of_pos v (b:=(n:Int)) (by omega);exact⟨(v%n).toNat,by omega,by omega⟩
 have hq0:0<=xs.getD 0 0%4/\xs.getD 0 0%4<4:=by omega
 obtain⟨q,hq,hq4⟩:∃q:Nat,xs.getD 0 0%4=(q:Int)/\q<4:=⟨(xs.getD 0 0%4).toNat,by omega,by omega⟩;have w:q0F (evE G (run G T fu k) (.rng [.bin .Mod (.ix (.var 1) (.int 0)) (.int 4)]) (yS rows xs .no .no .no .no .no))=some (.ok (upTo 0 q) .fresh):=by have a0:=q1G (r:=xs) (j:=0) (by omega);have:=q1N (q0V (G:=G) (F:=run G T fu k) (cx:=.strong) (δ:=yS rows xs .no .no .no .no .no) (q0b (n:=1) (d:=.lst (iD xs)) rfl) (q0c (i:=((0:Nat):Int))) a0) (q0c (i:=4)) (by decide);rw[hq]at this;exact q6U this (by omega)
 have loop:∃δ',q0N (.one 2) (λδ'=>evSs G (run G T fu k) fu ([.set 3 false (.bin .Mod (.ix (.var 1) (.bin .Add (.int 1) (.var 2))) (.bi .len [.var 0])),.set 4 false (.ix (.var 0) (.bin .Mod (.ix (.var 1) (.bin .Add (.int 5) (.var 2))) (.bi .len [.var 0]))),.set 5 false (.ix (.var 0) (.bin .Mod (.ix (.var 1) (.bin .Add (.int 9) (.var 2))) (.bi .len [.var 0]))),.set 6 false (.bin .Mod (.ix (.var 1) (.bin .Add (.int 13) (.var 2))) (.int 4)),.iff (.cmp .Eq (.var 6) (.int 0)) [.seti 0 (.var 3) (.bi .list [.var 4])] [],.iff (.and [.cmp .Eq (.var 6) (.int 1),.cmp .Lt (.bin .Add (.bi .max [.var 4]) (.bi .max [.var 5])) (.int 10)]) [.seti 0 (.var 3) (.comp (.bin .Add (.var 0) (.var 1)) (.many [0,1]) (.zp (.var 4) (.var 5)) [none,none])] [],.iff (.and [.cmp .Eq (.var 6) (.int 2),.cmp .Lt (.bi .max [.var 4]) (.int 5)]) [.seti 0 (.var 3) (.comp (.bin .Mult (.int 2) (.var 0)) (.one 0) (.var 4) [none])] [],.iff (.cmp .Eq (.var 6) (.int 3)) [.seti 0 (.var 3) (.bin .Mult (.lst [.int 0]) (.bi .len [.var 4]))] []]:List MS) δ') (upTo 0 q) (yS rows xs .no .no .no .no .no)=some (.nx δ')/\∃rows' a b c d e,Rw9 n m rows'/\δ'=yS rows' xs a b c d e:=by
  refine q1w (i:=2) (I:=λ_ δ=>∃rows' a b c d e,Rw9 n m rows'/\δ=yS rows' xs a b c d e) q 0 (λj hj δ Iv=>?_) ⟨rows,_,_,_,_,_,h,rfl⟩;obtain⟨rw1,a,b,c,d,e,h1,rfl⟩:=Iv;rw[Int.zero_add];have ln:∀(a b c d e:Sv),evE G (run G T fu k) (.bi .len [.var 0]) (yS rw1 xs a b c d e)=some (.ok (.int (n:Int)) .strong):=λa b c d e=>by have:=z0U (F:=run G T fu k) (rows:=rw1) (e:=.var 0) (c:=.top) (δ:=yS rw1 xs a b c d e) (q1e rfl);rw[h1.1.1]at this;exact this
  obtain⟨i1,p1,l1⟩:=pick (xs.getD (1+j) 0) rw1 h1;obtain⟨i5,p5,l5⟩:=pick (xs.getD (5+j) 0) rw1 h1;obtain⟨i9,p9,l9⟩:=pick (xs.getD (9+j) 0) rw1 h1;have g1:=q1N (atx 1 j (by omega) (F:=run G T fu k) (δ:=yS rw1 xs (.val (.int (j:Int))) b c d e) (q0b rfl) (q0b rfl)) (ln _ _ _ _ _) (by omega);rw[p1]at g1;have g5:=q1N (atx 5 j (by omega) (F:=run G T fu k) (δ:=yS rw1 xs (.val (.int (j:Int))) (.val (.int (i1:Int))) c d e) (q0b rfl) (q0b rfl)) (ln _ _ _ _ _) (by omega);rw[p5]at g5;obtain⟨r5,r5'⟩:=q2l h1.1 l5;obtain⟨r9,r9'⟩:=q2l h1.1 l9;have k5:=q0V (cx:=.top) (q1e (G:=G) (F:=run G T fu k) (n:=0) (d:=rL rw1) (δ:=yS rw1 xs (.val (.int (j:Int))) (.val (.int (i1:Int))) c d e) rfl) g5 (q9D (by rw[h1.1.1];exact l5));have g9:=q1N (atx 9 j (by omega) (F:=run G T fu k) (δ:=yS rw1 xs (.val (.int (j:Int))) (.val (.int (i1:Int))) (.val (.lst (iD (rw1.getD i5 [])))) d e) (q0b rfl) (q0b rfl)) (ln _ _ _ _ _) (by omega);rw[p9]at g9;have k9:=q0V (cx:=.top) (q1e (G:=G) (F:=run G T fu k) (n:=0) (d:=rL rw1) (δ:=yS rw1 xs (.val (.int (j:Int))) (.val (.int (i1:Int))) (.val (.lst (iD (rw1.getD i5 [])))) d e) rfl) g9 (q9D (by rw[h1.1.1];exact l9));have g13:=q1N (atx 13 j (by omega) (F:=run G T fu k) (δ:=yS rw1 xs (.val (.int (j:Int))) (.val (.int (i1:Int))) (.val (.lst (iD (rw1.getD i5 [])))) (.val (.lst (iD (rw1.getD i9 [])))) e) (q0b rfl) (q0b rfl)) (q0c (i:=4)) (by decide);obtain⟨rw2,h2,s⟩:=y0n (F:=run G T fu k) (fu:=fu) (rows:=rw1) (xs:=xs) (i:=i1) (r:=rw1.getD i5 []) (r':=rw1.getD i9 []) (w:=xs.getD (13+j) 0%4) (a:=.val (.int (j:Int))) h1 m0 m8 l1 r5' r9' (h1.2 _ r5) (h1.2 _ r9);exact⟨_,q0m (q0p g1 rfl) (q0m (q0p k5 rfl) (q0m (q0p k9 rfl) (q0m (q0p g13 rfl) s))),rw2,_,_,_,_,_,h2,rfl⟩
 obtain⟨δ',e,rows',a,b,c,d,e',h',rfl⟩:=loop;refine⟨rows',h',?_⟩;rw[q0D (fd:=q2w) rfl rfl];exact q1c (q0m (q3p c0) (q3N w (.inr rfl) e (q1a (q0J (cl:=.top) (q1e rfl)))))
end k44
end
noncomputable section
namespace k44
open PySem L2
theorem z4d{rows:List (List Int)}{I J:List Nat}:∀i,i<I.length->∀j,j<J.length->vv (sub rows I J) i j=vv rows (I.getD i 0) (J.getD j 0):=λi hi j hj=>by
 have e:(sub rows I J).getD i []=J.map λj=>(rows.getD (I.getD i 0) []).getD j 0:=by unfold sub;rw[List.getD_eq_getElem?_getD,List.getElem?_map,List.getElem?_eq_getElem hi,List.getD_eq_getElem?_getD (l:=I),List.getElem?_eq_getElem hi];rfl
 show((sub rows I J).getD i []).getD j 0=(rows.getD (I.getD i 0) []).getD (J.getD j 0) 0;rw[e,List.getD_eq_getElem?_getD,List.getElem?_map,List.getElem?_eq_getElem hj,List.getD_eq_getElem?_getD (l:=J),List.getElem?_eq_getElem hj];rfl
theorem q7K{I:List Nat}{i:Nat}(h:i<I.length):I.getD i 0∈I:=by
 rw[List.getD_eq_getElem?_getD,List.getElem?_eq_getElem h];exact List.getElem_mem h
theorem q5V{P:Int->Prop}(Pp:rk.Pr P){rows:List (List Int)}{n m:Nat}{I J b b':List Nat}(hI:∀i∈I,i<n)(hJ:∀j∈J,j<m)(B:rk.Bas P (vv rows) n m b)(B':rk.Bas P (vv (sub rows I J)) I.length J.length b'):b'.length<=b.length:=
 B.le Pp B' (λi=>I.getD i 0) (λj=>J.getD j 0) (λi hi=>hI _ (q7K hi)) (λj hj=>hJ _ (q7K hj)) z4d
theorem z1z{P:Int->Prop}(Pp:rk.Pr P){rows:List (List Int)}{n m:Nat}{I J b b':List Nat}(B:rk.Bas P (vv rows) n m b)(B':rk.Bas P (vv (sub rows I J)) I.length J.length b')(f g:Nat->Nat)(hf:∀i,i<n->f i<I.length)(hg:∀j,j<m->g j<J.length)(h:∀i,i<n->∀j,j<m->vv rows i j=vv rows (I.getD (f i) 0) (J.getD (g j) 0)):b.length<=b'.length:=
 B'.le Pp B f g hf hg λi hi j hj=>by rw[z4d _ (hf i hi) _ (hg j hj)];exact h i hi j hj
end k44
end
noncomputable section
namespace k44
open PySem L2
theorem z8z{rows:List (List Int)}{i:Nat}(h:i<rows.length):∃p,p<(FI rows).length/\(FI rows).getD p 0<rows.length/\rows.getD ((FI rows).getD p 0) []=rows.getD i []:=by
 have hm:rows.getD i []∈rows:=by rw[List.getD_eq_getElem?_getD,List.getElem?_eq_getElem h];exact List.getElem_mem h
 obtain⟨r,hr⟩:∃r,rows.idxOf (rows.getD i [])=r:=⟨_,rfl⟩;have hl:r<rows.length:=by rw[←hr];exact List.idxOf_lt_length_of_mem hm
 have e:rows.getD r []=rows.getD i []:=(by rw[List.getD_eq_getElem?_getD,List.getElem?_eq_getElem hl];show rows[r]=_;have:rows[rows.idxOf (rows.getD i [])]'(by rw[hr];exact hl)=rows.getD i []:=List.getElem_idxOf _;simp only[hr]at this;exact this);have hF:r∈FI rows:=(by unfold FI;refine List.mem_filter.mpr ⟨List.mem_range.mpr hl,?_⟩;rw[e,hr];exact beq_self_eq_true r);obtain⟨p,hp,ep⟩:=List.getElem_of_mem hF;have eg:(FI rows).getD p 0=r:=by rw[List.getD_eq_getElem?_getD,List.getElem?_eq_getElem hp];exact ep
 exact⟨p,hp,by rw[eg];exact hl,by rw[eg];exact e⟩
theorem z0c{P:Int->Prop}(Pp:rk.Pr P){rows:List (List Int)}{n m:Nat}(R:Rect n m rows){b b':List Nat}(B:rk.Bas P (vv rows) n m b)(B':rk.Bas P (vv (sub rows (FI rows) (FI (flip m rows)))) (FI rows).length (FI (flip m rows)).length b'):b.length=b'.length:=by
 have fl:=q3l R;have h1:∀i,∃p,i<n->p<(FI rows).length/\(FI rows).getD p 0<n/\rows.getD ((FI rows).getD p 0) []=rows.getD i []:=λi=>by
  by_cases q:i<n
  ·obtain⟨p,a,c,d⟩:=z8z (rows:=rows) (i:=i) (by rw[R.1];exact q);rw[R.1]at c;exact⟨p,λ_=>⟨a,c,d⟩⟩
  ·exact⟨0,λz=>absurd z q⟩
 have h2:∀j,∃p,j<m->p<(FI (flip m rows)).length/\(FI (flip m rows)).getD p 0<m/\(flip m rows).getD ((FI (flip m rows)).getD p 0) []=(flip m rows).getD j []:=λj=>by
  by_cases q:j<m
  ·obtain⟨p,a,c,d⟩:=z8z (rows:=flip m rows) (i:=j) (by rw[fl.1];exact q);rw[fl.1]at c;exact⟨p,λ_=>⟨a,c,d⟩⟩
  ·exact⟨0,λz=>absurd z q⟩
 obtain⟨f,hf⟩:=Classical.axiomOfChoice h1;obtain⟨g,hg⟩:=Classical.axiomOfChoice h2;apply Nat.le_antisymm
 ·refine z1z Pp B B' f g (λi hi=>(hf i hi).1) (λj hj=>(hg j hj).1) λi hi j hj=>?_;have r1:vv rows ((FI rows).getD (f i) 0)=vv rows i:=by
   show rw' (rows.getD ((FI rows).getD (f i) 0) [])=rw' (rows.getD i []);rw[(hf i hi).2.2]
  have c1:vv (flip m rows) ((FI (flip m rows)).getD (g j) 0)=vv (flip m rows) j:=(by show rw' ((flip m rows).getD ((FI (flip m rows)).getD (g j) 0) [])=rw' ((flip m rows).getD j []);rw[(hg j hj).2.2]);rw[r1,←q5M R j hj i hi,←c1,q5M R _ (hg j hj).2.1 i hi]
 ·exact q5V Pp (λi hi=>by rw[←R.1];exact z3f hi) (λj hj=>by rw[←fl.1];exact z3f hj) B B'
end k44
end
noncomputable section
namespace k44
open PySem L2
variable {F:Nat->List DV->Option Ou} {fu k:Nat} {δ:List Sv}
theorem z8c(rows:List (List Int))(I J:List Nat):Rect I.length J.length (sub rows I J):=by
 refine⟨by unfold sub;rw[List.length_map],λr hr=>?_⟩;obtain⟨i,_,rfl⟩:=List.mem_map.mp hr;rw[List.length_map]
theorem z7o{rows:List (List Int)}{n m:Nat}(R:Rect n m rows)(h9:W9 rows)(I J:List Nat):W9 (sub rows I J):=λr hr x hx=>by
 obtain⟨i,_,rfl⟩:=List.mem_map.mp hr;obtain⟨j,_,rfl⟩:=List.mem_map.mp hx;by_cases hi:i<n
 ·rw[List.getD_eq_getElem?_getD];cases q:(rows.getD i [])[j]? with
  | none=>exact⟨Int.le_refl _,by decide⟩
  | some a=>exact h9 _ (q2l R hi).1 a (List.mem_of_getElem? q)
 ·have e:rows.getD i []=[]:=by rw[List.getD_eq_getElem?_getD,List.getElem?_eq_none (by rw[R.1];omega)];rfl
  rw[e];have e2:([]:List Int).getD j 0=0:=rfl;rw[e2];exact⟨Int.le_refl _,by decide⟩
theorem q8Z{a n:Nat}(h:a<2^n):∀i∈cs a,i<n:=λi hi=>by
 have:=(List.mem_filter.mp hi).2;refine Classical.byContradiction λz=>?_;rw[Nat.testBit_lt_two_pow (Nat.lt_of_lt_of_le h (Nat.pow_le_pow_right (by decide) (by omega)))]at this;cases this
theorem z3q(c:Int){n:Nat}(n0:0<n)(n6:n<=6):∃a:Nat,0<a/\a<2^n/\∃M:Int,0<M/\ixD (.lst [.int 1,.int 3,.int 7,.int 15,.int 31,.int 63]) (.int ((n:Int) - 1))=some (.int M)/\1+c%M=(a:Int):=by
 have:∃M:Int,0<M/\M=2^n - 1/\ixD (.lst [.int 1,.int 3,.int 7,.int 15,.int 31,.int 63]) (.int ((n:Int) - 1))=some (.int M):=by
  have:n=1\/n=2\/n=3\/n=4\/n=5\/n=6:=by omega
  rcases this with q | q | q | q | q | q<;>subst q
  ·exact⟨1,by decide,by decide,rfl⟩
  ·exact⟨3,by decide,by decide,rfl⟩
  ·exact⟨7,by decide,by decide,rfl⟩
  ·exact⟨15,by decide,by decide,rfl⟩
  ·exact⟨31,by decide,by decide,rfl⟩
  ·exact⟨63,by decide,by decide,rfl⟩
 obtain⟨M,h0,hM,hi⟩:=this;have b1:=Int.emod_nonneg c (b:=M) (by omega);have b2:=Int.emod_lt_of_pos c h0;refine⟨(1+c%M).toNat,by omega,?_,M,h0,hi,by omega⟩;have e:((2^n:Nat):Int)=2^n:=by rw[Int.natCast_pow];rfl
 omega
theorem z9r{rows:List (List Int)}{n m i:Nat}(R:Rect n m rows)(hn:n<=1000)(h:evE G F (.var i) δ=some (.ok (rL rows) .strong)):evE G F (.bi .tuple [.comp (.bi .tuple [.var 0]) (.one 0) (.var i) [none]]) δ=some (.ok (tT rows) .strong):=by
 have c:=q0B (F:=F) (δ:=δ) (it:=.var i) (l:=rows) (h:=λr=>DV.lst (iD r)) (f:=λr=>DV.tup (iD r)) (elt:=.bi .tuple [.var 0]) (tg:=.one 0) (fr:=[none]) (cl:=.strong) (by rw[h];rfl) (by decide) (by rw[R.1];exact Nat.le_trans hn (by decide)) λr _=>⟨[.val (.lst (iD r))],.strong,rfl,q2A (c:=.strong) (q0b rfl),rfl⟩;exact q2A c
end k44
end
noncomputable section
namespace k44
open PySem L2
variable {fu:Nat}
abbrev F9(fu:Nat):Nat->List DV->Option Ou:=run G T fu 59
theorem g0{rows:List (List Int)}{n m:Nat}(R:Rect n m rows)(h9:W9 rows)(n0:0<n)(n8:n<=8)(m8:m<=8):run G T fu 59 26 [rL rows,.tup [.lst (nD (bl0 rows m)),.lst (nD (bl0 (flip m rows) n))],.int 0]=some (.v (.bl true) false):=by
 have l:=len0 R;have:=z3Z (fu:=fu) (k:=55 - (bl0 rows m).length) R h9 n0 (by omega) (by omega) rk.pr0 (.inl rfl) (q5Z R) (z3A R) (y:=0) (λa h=>⟨h,λz=>(by cases z)⟩) (λa h=>⟨λ_=>h,λz=>(by cases z)⟩) (by omega) (by rw[←z6E R];omega);rw[show 55 - (bl0 rows m).length+(bl0 rows m).length+4=59 by omega]at this;exact this
theorem g2{rows:List (List Int)}{n m:Nat}(R:Rect n m rows)(h9:W9 rows)(n0:0<n)(n8:n<=8)(m8:m<=8):run G T fu 59 26 [rL rows,.tup [.lst (nD (bl2 rows)),.lst (nD (bl2 (flip m rows)))],.int 2]=some (.v (.bl true) false):=by
 have l:=len2 R;have:=z3Z (fu:=fu) (k:=55 - (bl2 rows).length) R h9 n0 (by omega) (by omega) rk.pr2 (.inr rfl) (q7d R) (z3F R) (y:=2) (λa h=>⟨λz=>h (by rw[z];rfl),λ_=>h⟩) (λa h=>⟨λz=>(by cases z),λ_=>h⟩) (by omega) (by rw[←z6Q R];omega);rw[show 55 - (bl2 rows).length+(bl2 rows).length+4=59 by omega]at this;exact this
abbrev lS(ns xs:List Int)(rows:List (List Int))(a b c d e f:Sv):List Sv:=[.val (.scr ns),.val (.lst (iD xs)),.val (rL rows),a,b,c,d,e,f]
def lT:List MS:=q9n.body.drop 3
theorem tail(ns:List Int)(xs:List Int){rows:List (List Int)}{n m:Nat}(R:Rect n m rows)(h9:W9 rows)(n0:0<n)(n6:n<=6)(m0:0<m)(m6:m<=6):evSs G (F9 fu) fu lT (lS ns xs rows .no .no .no .no .no .no)=some (.rt (.bl true) false):=by
 obtain⟨v3,c3⟩:=q6P (fu:=fu) (k:=58) ns 3;obtain⟨v4,c4⟩:=q6P (fu:=fu) (k:=58) ns 4;obtain⟨a,a0,a1,M,M0,Mi,Ma⟩:=z3q v3 n0 n6;obtain⟨b,b0,b1,M',M0',Mi',Mb⟩:=z3q v4 m0 m6;have tb:=z9r (F:=F9 fu) (i:=2) (δ:=lS ns xs rows .no .no .no .no .no .no) R (by omega) (q0b rfl);obtain⟨D3,hD3⟩:∃D,lS ns xs rows (.val (tT rows)) .no .no .no .no .no=D:=⟨_,rfl⟩;have x2:evE G (F9 fu) (.var 2) D3=some (.ok (rL rows) .strong):=by rw[←hD3];exact q0b rfl
 have x3:evE G (F9 fu) (.var 3) D3=some (.ok (tT rows) .strong):=by rw[←hD3];exact q0b rfl
 have k0:=q0e (q0a x2 (q0a (q0e (f:=9) (q0a x3 q0d) rfl (z7V (fu:=fu) (k:=55) R h9 n0 (by omega) (by omega))) (q0a (q0c (i:=0)) q0d))) rfl (g0 (fu:=fu) R h9 n0 (by omega) (by omega));have k2:=q0e (q0a x2 (q0a (q0e (f:=14) (q0a x3 q0d) rfl (z4L (fu:=fu) (k:=55) R n0 (by omega) (by omega))) (q0a (q0c (i:=2)) q0d))) rfl (g2 (fu:=fu) R h9 n0 (by omega) (by omega));have o1:evE G (F9 fu) (.or [.not (.call 26 [.var 2,.call 9 [.var 3],.int 0]),.not (.call 26 [.var 2,.call 14 [.var 3],.int 2])]) D3=some (.ok (.bl false) .strong):=q3z (z1A k0) (z1A k2);have s4:evE G (F9 fu) (.bin .Add (.int 1) (.bin .Mod (.call 20 [.var 0,.int 3]) (.ix (.lst [.int 1,.int 3,.int 7,.int 15,.int 31,.int 63]) (.bin .Sub (.bi .len [.var 2]) (.int 1))))) D3=some (.ok (.int (a:Int)) .strong):=(by have l:=z0U x2;rw[R.1]at l;have i:=q0V (cx:=.fresh) (x:=.lst [.int 1,.int 3,.int 7,.int 15,.int 31,.int 63]) (a:=.lst [.int 1,.int 3,.int 7,.int 15,.int 31,.int 63]) (G:=G) (F:=F9 fu) (δ:=D3) rfl (q7E l (q0c (i:=1))) Mi;rw[←Ma];exact q2v q0c (q1N (q0e (q0a (by rw[←hD3];exact q0b rfl) (q0a (q0c (i:=3)) q0d)) rfl c3) i M0));obtain⟨D4,hD4⟩:∃D,lS ns xs rows (.val (tT rows)) (.val (.int (a:Int))) .no .no .no .no=D:=⟨_,rfl⟩;have s5:evE G (F9 fu) (.bin .Add (.int 1) (.bin .Mod (.call 20 [.var 0,.int 4]) (.ix (.lst [.int 1,.int 3,.int 7,.int 15,.int 31,.int 63]) (.bin .Sub (.bi .len [.ix (.var 2) (.int 0)]) (.int 1))))) D4=some (.ok (.int (b:Int)) .strong):=by have e:=q0V (G:=G) (F:=F9 fu) (a:=.var 2) (b:=.int 0) (δ:=D4) (x:=rL rows) (cx:=.strong) (by rw[←hD4];exact q0b rfl) (q0c (i:=((0:Nat):Int))) (q9D (by rw[R.1];exact n0));have l:=q9R e;rw[(q2l R n0).2]at l;have i:=q0V (cx:=.fresh) (x:=.lst [.int 1,.int 3,.int 7,.int 15,.int 31,.int 63]) (a:=.lst [.int 1,.int 3,.int 7,.int 15,.int 31,.int 63]) (G:=G) (F:=F9 fu) (δ:=D4) rfl (q7E l (q0c (i:=1))) Mi';rw[←Mb];exact q2v q0c (q1N (q0e (q0a (by rw[←hD4];exact q0b rfl) (q0a (q0c (i:=4)) q0d)) rfl c4) i M0')
 obtain⟨D5,hD5⟩:∃D,lS ns xs rows (.val (tT rows)) (.val (.int (a:Int))) (.val (.int (b:Int))) .no .no .no=D:=⟨_,rfl⟩;have s6:evE G (F9 fu) (.call 2 [.var 3,.var 4,.var 5]) D5=some (.ok (tT (sub rows (cs a) (cs b))) .strong):=by rw[←hD5];exact q0e (q0a (q0b rfl) (q0a (q0b rfl) (q0a (q0b rfl) q0d))) rfl (z9m (fu:=fu) (k:=56) rows n m a b R n0 (by omega) (by omega) a0 a1 b0 b1)
 obtain⟨D8,hD8⟩:∃D,lS ns xs rows (.val (tT rows)) (.val (.int (a:Int))) (.val (.int (b:Int))) (.val (tT (sub rows (cs a) (cs b)))) (.val (tT (flip m rows))) .no=D:=⟨_,rfl⟩;have s7:evE G (F9 fu) (.call 1 [.var 3]) (lS ns xs rows (.val (tT rows)) (.val (.int (a:Int))) (.val (.int (b:Int))) (.val (tT (sub rows (cs a) (cs b)))) .no .no)=some (.ok (tT (flip m rows)) .strong):=q0e (q0a (q0b rfl) q0d) rfl (q3o (fu:=fu) (k:=58) rows n m R n0 (by omega) (by omega));have Rs:=z8c rows (cs a) (cs b);have la:(cs a).length<=n:=q5g n _ ((List.pairwise_lt_range).filter _) (q8Z a1);have lb:(cs b).length<=m:=q5g m _ ((List.pairwise_lt_range).filter _) (q8Z b1);have rT0:=q0e (G:=G) (F:=F9 fu) (δ:=D8) (f:=10) (q0a (show evE G (F9 fu) (.var 3) D8=some (.ok (tT rows) .strong) by rw[←hD8];exact q0b rfl) q0d) rfl (q6g (fu:=fu) (k:=55) R h9 (by omega) (by omega));have rT2:=q0e (G:=G) (F:=F9 fu) (δ:=D8) (f:=15) (q0a (show evE G (F9 fu) (.var 3) D8=some (.ok (tT rows) .strong) by rw[←hD8];exact q0b rfl) q0d) rfl (q7A (fu:=fu) (k:=55) R (by omega) (by omega));have rF0:=q0e (G:=G) (F:=F9 fu) (δ:=D8) (f:=10) (q0a (show evE G (F9 fu) (.var 7) D8=some (.ok (tT (flip m rows)) .strong) by rw[←hD8];exact q0b rfl) q0d) rfl (q6g (fu:=fu) (k:=55) (q3l R) (z3y h9) (by omega) (by omega));have rF2:=q0e (G:=G) (F:=F9 fu) (δ:=D8) (f:=15) (q0a (show evE G (F9 fu) (.var 7) D8=some (.ok (tT (flip m rows)) .strong) by rw[←hD8];exact q0b rfl) q0d) rfl (q7A (fu:=fu) (k:=55) (q3l R) (by omega) (by omega));have rP0:=q0e (G:=G) (F:=F9 fu) (δ:=D8) (f:=10) (q0a (show evE G (F9 fu) (.var 6) D8=some (.ok (tT (sub rows (cs a) (cs b))) .strong) by rw[←hD8];exact q0b rfl) q0d) rfl (q6g (fu:=fu) (k:=55) Rs (z7o R h9 _ _) (by omega) (by omega));have rP2:=q0e (G:=G) (F:=F9 fu) (δ:=D8) (f:=15) (q0a (show evE G (F9 fu) (.var 6) D8=some (.ok (tT (sub rows (cs a) (cs b))) .strong) by rw[←hD8];exact q0b rfl) q0d) rfl (q7A (fu:=fu) (k:=55) Rs (by omega) (by omega));have o2:evE G (F9 fu) (.or [.cmp .NotEq (.call 10 [.var 7]) (.call 10 [.var 3]),.cmp .NotEq (.call 15 [.var 7]) (.call 15 [.var 3])]) D8=some (.ok (.bl false) .strong):=by have q0:=z1Z rF0 rT0;rw[decide_eq_true (show(((bl0 (flip m rows) n).length:Nat):Int)=((bl0 rows m).length:Nat) by rw[z6E R])]at q0;have q2:=z1Z rF2 rT2;rw[decide_eq_true (show(((bl2 (flip m rows)).length:Nat):Int)=((bl2 rows).length:Nat) by rw[z6Q R])]at q2;exact q3z q0 q2
 have o3:evE G (F9 fu) (.or [.cmp .Gt (.call 10 [.var 6]) (.call 10 [.var 3]),.cmp .Gt (.call 15 [.var 6]) (.call 15 [.var 3])]) D8=some (.ok (.bl false) .strong):=(by have q0:=b_gt rP0 rT0;rw[decide_eq_false (by have:=q5V rk.pr0 (q8Z a1) (q8Z b1) (q5Z R) (q5Z Rs);omega)]at q0;have q2:=b_gt rP2 rT2;rw[decide_eq_false (by have:=q5V rk.pr2 (q8Z a1) (q8Z b1) (q7d R) (q7d Rs);omega)]at q2;exact q3z q0 q2);have s8:evE G (F9 fu) (.call 8 [.var 3]) D8=some (.ok (tT (sub rows (FI rows) (FI (flip m rows)))) .strong):=q0e (q0a (show evE G (F9 fu) (.var 3) D8=some (.ok (tT rows) .strong) by rw[←hD8];exact q0b rfl) q0d) rfl (z0v (fu:=fu) (k:=56) rows n m R n0 (by omega) (by omega));obtain⟨K,hK⟩:∃K,sub rows (FI rows) (FI (flip m rows))=K:=⟨_,rfl⟩;have Rk:Rect (FI rows).length (FI (flip m rows)).length K:=by rw[←hK];exact z8c ..
 have K9:W9 K:=by rw[←hK];exact z7o R h9 _ _
 have lI:(FI rows).length<=n:=by have:=q8w rows;rw[R.1]at this;exact this
 have lJ:(FI (flip m rows)).length<=m:=by have:=q8w (flip m rows);rw[(q3l R).1]at this;exact this
 have pI:0<(FI rows).length:=z8T (by rw[R.1];exact n0);have eq:=z0c rk.pr0 R (q5Z R) (by rw[hK];exact q5Z Rk);have le1:=len0 Rk;have le2:(bl0 K (FI (flip m rows)).length).length<=(FI (flip m rows)).length:=by rw[z6E Rk];exact len0 (q3l Rk)
 rw[hK]at s8;obtain⟨D9,hD9⟩:∃D,lS ns xs rows (.val (tT rows)) (.val (.int (a:Int))) (.val (.int (b:Int))) (.val (tT (sub rows (cs a) (cs b)))) (.val (tT (flip m rows))) (.val (tT K))=D:=⟨_,rfl⟩;have y3:evE G (F9 fu) (.var 3) D9=some (.ok (tT rows) .strong):=by rw[←hD9];exact q0b rfl
 have y8:evE G (F9 fu) (.var 8) D9=some (.ok (tT K) .strong):=by rw[←hD9];exact q0b rfl
 have z3:=q0e (f:=10) (q0a y3 q0d) rfl (q6g (fu:=fu) (k:=55) R h9 (by omega) (by omega));have z8:=q0e (f:=10) (q0a y8 q0d) rfl (q6g (fu:=fu) (k:=55) Rk K9 (by omega) (by omega));have n1:evE G (F9 fu) (.bi .len [.var 8]) D9=some (.ok (.int ((FI rows).length:Nat)) .strong):=(by have:=q4B (ds:=K.map λr=>DV.tup (iD r)) y8;rw[List.length_map,Rk.1]at this;exact this);have at0:ixD (tT K) (.int 0)=some (.tup (iD (K.getD 0 []))):=by
  have h:0<K.length:=by rw[Rk.1];exact pI
  show atD (K.map λr=>.tup (iD r)) ((0:Nat):Int)=_;unfold atD;rw[List.length_map,q6x h,Option.bind_some,List.getElem?_map,List.getElem?_eq_getElem h,List.getD_eq_getElem?_getD,List.getElem?_eq_getElem h];rfl
 have n2:evE G (F9 fu) (.bi .len [.ix (.var 8) (.int 0)]) D9=some (.ok (.int ((FI (flip m rows)).length:Nat)) .strong):=(by have:=q4B (q0V (cx:=.strong) y8 q0c at0);unfold iD at this;rw[List.length_map,(q2l Rk pI).2]at this;exact this);have mn:∃q:Int,evE G (F9 fu) (.bi .min [.bi .len [.var 8],.bi .len [.ix (.var 8) (.int 0)]]) D9=some (.ok (.int q) .strong)/\(((bl0 rows m).length:Nat):Int)<=q:=(by refine⟨if(((FI (flip m rows)).length:Nat):Int)<((FI rows).length:Nat)then(((FI (flip m rows)).length:Nat):Int)else((FI rows).length:Nat),?_,by split<;>omega⟩;rw[z3Q (q0a n1 (q0a n2 q0d))];rfl);obtain⟨q,mn1,mn2⟩:=mn;have f1:=b_eq z8 z3;rw[show((((bl0 K (FI (flip m rows)).length).length:Nat):Int)==((bl0 rows m).length:Nat))=true by rw[←eq];exact beq_self_eq_true _]at f1;have f2:=b_le z3 mn1;rw[decide_eq_true mn2]at f2;have fin:=and2 f1 f2;unfold lT q9n;simp only[List.drop_succ_cons,List.drop_zero];exact q0m (δ':=D3) (by rw[q0p tb rfl,←hD3];rfl) (q1C (q0G o1) (q0m (δ':=D4) (by rw[q0p s4 rfl,←hD3,←hD4];rfl) (q0m (δ':=D5) (by rw[q0p s5 rfl,←hD4,←hD5];rfl) (q0m (δ':=lS ns xs rows (.val (tT rows)) (.val (.int (a:Int))) (.val (.int (b:Int))) (.val (tT (sub rows (cs a) (cs b)))) .no .no) (by rw[q0p s6 rfl,←hD5];rfl) (q0m (δ':=D8) (by rw[q0p s7 rfl,←hD8];rfl) (q1C (q0G o2) (q1C (q0G o3) (q0m (δ':=D9) (by rw[q0p s8 rfl,←hD8,←hD9];rfl) (q1a (q0J fin))))))))))
theorem z4O(ns:List Int)(hns:ns.length<=63):run G T 100 60 27 [.scr ns]=some (.v (.bl true) false):=by
 obtain⟨v2,c2⟩:=q6P (fu:=100) (k:=58) ns 2;obtain⟨xs,hx,st⟩:=q6a (fu:=100) (k:=58) v2 20 (by omega);have a17:=q1G (r:=xs) (j:=17) (by omega);have a18:=q1G (r:=xs) (j:=18) (by omega);obtain⟨tp,t0,t10,ht⟩:∃tp:Int,0<tp/\tp<=10/\ixD (.lst [.int 2,.int 4,.int 10]) (.int (xs.getD 17 0%3))=some (.int tp):=by
  have:xs.getD 17 0%3=0\/xs.getD 17 0%3=1\/xs.getD 17 0%3=2:=by omega
  rcases this with h | h | h<;>rw[h]
  ·exact⟨2,by decide,by decide,rfl⟩
  ·exact⟨4,by decide,by decide,rfl⟩
  ·exact⟨10,by decide,by decide,rfl⟩
 obtain⟨n,m,rows,n0,n6,m0,m6,R,h9,er⟩:=z8P (fu:=100) (k:=57) ns hns tp t0 t10;obtain⟨rows',hr',em⟩:=z6p (fu:=100) (k:=58) (rows:=rows) (xs:=xs) ⟨R,h9⟩ n0 (by omega) m0 (by omega) hx;have s1:evE G (F9 100) (.call 21 [.call 20 [.var 0,.int 2],.int 20]) (q0n 9 [.scr ns])=some (.ok (.lst (iD xs)) .fresh):=q0e (q0a (q0e (f:=20) (q0a (q0b (n:=0) (d:=.scr ns) rfl) (q0a (q0c (i:=2)) q0d)) rfl c2) (q0a (q0c (i:=20)) q0d)) rfl st;have s2:evE G (F9 100) (.call 23 [.var 0,.ix (.lst [.int 2,.int 4,.int 10]) (.bin .Mod (.ix (.var 1) (.int 17)) (.int 3))]) [.val (.scr ns),.val (.lst (iD xs)),.no,.no,.no,.no,.no,.no,.no]=some (.ok (rL rows) .fresh):=q0e (q0a (q0b rfl) (q0a (q0V (cx:=.fresh) (x:=.lst [.int 2,.int 4,.int 10]) rfl (q1N (q0V (cx:=.strong) (q0b rfl) q0c a17) q0c (by decide)) ht) q0d)) rfl er;have c:=b_gt (G:=G) (F:=F9 100) (δ:=lS ns xs rows .no .no .no .no .no .no) (q1N (q0V (cx:=.strong) (q0b (n:=1) (d:=.lst (iD xs)) rfl) (q0c (i:=((18:Nat):Int))) a18) (q0c (i:=3)) (by decide)) (q0c (i:=0));rw[q0D (fd:=q9n) rfl rfl];unfold q9n;refine q1c (q0m (q0p s1 rfl) (q0m (q0p s2 rfl) ?_));cases t:decide (0<xs.getD 18 0%3)with
 | true=>
  rw[t]at c;exact q5p (q0G c) (q0m (q0p (q0e (f:=22) (q0a (q0b rfl) (q0a (q0b rfl) q0d)) rfl em) rfl) rfl) (tail ns xs hr'.1 hr'.2 n0 n6 m0 m6)
 | false=>
  rw[t]at c;exact q1C (q0G c) (tail ns xs R h9 n0 n6 m0 m6)
end k44
end
noncomputable section
namespace k44
open PySem PySem.W L2 PySem.Spec PyProof.Rows
theorem lnS{α:Type}{us:List α}{n:Nat}(h:us.length=n+1):∃a r,us=a::r/\r.length=n:=by cases us with | nil=>cases h | cons a r=>exact⟨a,r,rfl,Nat.succ.inj h⟩
theorem ln0{α:Type}{us:List α}(h:us.length=0):us=[]:=List.length_eq_zero_iff.mp h
theorem ln1{α:Type}{us:List α}(h:us.length=1):∃a0,us=[a0]:=by obtain⟨_,_,rfl,h0⟩:=lnS h;obtain rfl:=ln0 h0;exact⟨_,rfl⟩
theorem ln2{α:Type}{us:List α}(h:us.length=2):∃a0 a1,us=[a0,a1]:=by obtain⟨_,_,rfl,h0⟩:=lnS h;obtain⟨_,_,rfl,h1⟩:=lnS h0;obtain rfl:=ln0 h1;exact⟨_,_,rfl⟩
theorem ln3{α:Type}{us:List α}(h:us.length=3):∃a0 a1 a2,us=[a0,a1,a2]:=by obtain⟨_,_,rfl,h0⟩:=lnS h;obtain⟨_,_,rfl,h1⟩:=lnS h0;obtain⟨_,_,rfl,h2⟩:=lnS h1;obtain rfl:=ln0 h2;exact⟨_,_,_,rfl⟩
def fn:List Str:=["is_int","flipped","cut","check_cards","cards_in","crossing","row_kinds","column_kinds","trimmed","base","rank","base_lines","reduced","leading_place","base_in_twos","rank_in_twos","lines_in_twos","base_indexes","kept_lines","reduced_in_twos","_law_cell_at","_law_stream","_law_mixed","_law_rows","_law_determinant","_law_square","_law_great","law"]
def bl:List Str:=["isinstance","int","bool","tuple","range","len","sorted","set","enumerate","any","list","zip","sum","max","min"]
def cl:List Str:=["TalkError","NoCard"]
theorem ok0:okD fn bl cl q3c ["thing","least","most"] ["thing","least","most"] (top 1)=true:=by decide +kernel
theorem ok1:okD fn bl cl q3j ["table"] ["table"] (top 6)=true:=by decide +kernel
theorem ok2:okD fn bl cl z3g ["table","rows","columns"] ["table","rows","columns"] (top 7)=true:=by decide +kernel
theorem ok3:okD fn bl cl q1t ["cards","size"] ["cards","size"] (top 8)=true:=by decide +kernel
theorem ok4:okD fn bl cl q2C ["cards"] ["cards"] (top 9)=true:=by decide +kernel
theorem ok5:okD fn bl cl q2z ["table","rows","columns"] ["table","rows","columns"] (top 10)=true:=by decide +kernel
theorem ok6:okD fn bl cl q2k ["table"] ["table"] (top 11)=true:=by decide +kernel
theorem ok7:okD fn bl cl q1m ["table"] ["table"] (top 12)=true:=by decide +kernel
theorem ok8:okD fn bl cl q3d ["table"] ["table"] (top 13)=true:=by decide +kernel
theorem ok9:okD fn bl cl z1u ["table"] ["table"] (top 15)=true:=by decide +kernel
theorem ok10:okD fn bl cl z0J ["table"] ["table"] (top 16)=true:=by decide +kernel
theorem ok11:okD fn bl cl q2r ["lines","found","kept","index","line","rest"] ["lines"] (top 17)=true:=by decide +kernel
theorem ok12:okD fn bl cl q4G ["line","kept","rest","other","place","taken"] ["line","kept"] (top 18)=true:=by decide +kernel
theorem ok13:okD fn bl cl q1v ["line"] ["line"] (top 19)=true:=by decide +kernel
theorem ok14:okD fn bl cl q1L ["table"] ["table"] (top 21)=true:=by decide +kernel
theorem ok15:okD fn bl cl q1J ["table"] ["table"] (top 22)=true:=by decide +kernel
theorem ok16:okD fn bl cl q1B ["table"] ["table"] (top 23)=true:=by decide +kernel
theorem ok17:okD fn bl cl q1I ["lines"] ["lines"] (top 24)=true:=by decide +kernel
theorem ok18:okD fn bl cl q2q ["lines","kept","index","line","rest"] ["lines"] (top 25)=true:=by decide +kernel
theorem ok19:okD fn bl cl q1j ["line","kept","left","taken","index","rest","makers"] ["line","kept"] (top 26)=true:=by decide +kernel
theorem ok20:okD fn bl cl q1k ["_law_script","_law_k"] ["_law_script","_law_k"] (top 28)=true:=by decide +kernel
theorem ok21:okD fn bl cl q2a ["_law_cell","_law_many","_law_found","_law_rest","_law_k","_law_number","_law_mixed_here"] ["_law_cell","_law_many"] (top 29)=true:=by decide +kernel
theorem ok22:okD fn bl cl q2w ["_law_rows_here","_law_xs","_law_k","_law_at","_law_one","_law_other","_law_way"] ["_law_rows_here","_law_xs"] (top 30)=true:=by decide +kernel
theorem ok23:okD fn bl cl q2U ["_law_script","_law_most","_law_xs","_law_many","_law_wide","_law_words","_law_k"] ["_law_script","_law_most"] (top 31)=true:=by decide +kernel
theorem ok24:okD fn bl cl q0O ["_law_rows_here","_law_columns","_law_found","_law_sign","_law_k","_law_word","_law_left","_law_part"] ["_law_rows_here","_law_columns"] (top 32)=true:=by decide +kernel
theorem ok25:okD fn bl cl q1Y ["_law_rows_here","_law_some","_law_columns"] ["_law_rows_here","_law_some","_law_columns"] (top 33)=true:=by decide +kernel
theorem ok26:okD fn bl cl q2x ["_law_rows_here","_law_found","_law_by","_law_own","_law_r","_law_c","_law_more"] ["_law_rows_here","_law_found","_law_by"] (top 34)=true:=by decide +kernel
theorem ok27:okD fn bl cl q9n ["_law_script","_law_xs","_law_rows_here","_law_table","_law_some","_law_columns","_law_part","_law_there","_law_kinds"] ["_law_script"] (top 35)=true:=by decide +kernel
abbrev ck(P:Params)(x:Str)(f:Addr)(i:Nat)(dV pm:Value)(cd:Addr):Prop:=(nsIn (kK P) mainGlobals x,(kK P).lookup f,codeIn (kK P) (.ref cd) x,keepIn (kK P) (.ref f))=(some (some (.ref f)),some (fo x i dV pm cd),true,true)
theorem ck4{P:Params}{x:Str}{f:Addr}{i:Nat}{dV pm:Value}{cd:Addr}(q:ck P x f i dV pm cd):nsIn (kK P) mainGlobals x=some (some (.ref f))/\(kK P).lookup f=some (fo x i dV pm cd)/\codeIn (kK P) (.ref cd) x=true/\keepIn (kK P) (.ref f)=true:=by
 obtain⟨a,b⟩:=Prod.mk.inj q;obtain⟨b,c⟩:=Prod.mk.inj b;exact⟨a,b,Prod.mk.inj c⟩
theorem zz(P:Params):bl.map (nsIn (kK P) mainGlobals)=bl.map λ_=>some none:=by kernel_rfl
open PySem.W
theorem all_mk{l:OpenLaw}{w:World}{h:Heap}{mg:Str->Option Value}{fa:Addr}(X:(kK w.params).In h)(Ns:h.Ns mainGlobals mg)(hfa:mg "law" = some (.ref fa)):∃fd:FuncData,(∀(s:Shared) (v:Value),BindsTo s fd ⟨[v],[]⟩ [("_law_script",v)])/\∀base:Heap,(kK w.params).In base->base.Ns mainGlobals mg->FnOk l.prog w (kK w.params) mg base CX0 60 fa fd ["_law_script"] (spS (kK w.params)):=by
 obtain⟨a0,l0,c0,k0⟩:=ck4 (P:=w.params) (x:="is_int") (f:=21) (i:=1) (dV:=.none) (pm:=(.str "talkleast.checks" 187)) (cd:=20) (by kernel_rfl);have S0:=q0i X Ns ok0 a0 l0 c0 k0 λ_ _ _ _ _ _ us hl=>by obtain⟨_,_,_,rfl⟩:=ln3 hl;rfl
 obtain⟨a1,l1,c1,k1⟩:=ck4 (P:=w.params) (x:="flipped") (f:=51) (i:=6) (dV:=.none) (pm:=(.str "talkleast.tables" 234)) (cd:=50) (by kernel_rfl);have S1:=q0i X Ns ok1 a1 l1 c1 k1 λ_ _ _ _ _ _ us hl=>by obtain⟨_,rfl⟩:=ln1 hl;rfl
 obtain⟨a2,l2,c2,k2⟩:=ck4 (P:=w.params) (x:="cut") (f:=58) (i:=7) (dV:=.none) (pm:=(.str "talkleast.tables" 234)) (cd:=57) (by kernel_rfl);have S2:=q0i X Ns ok2 a2 l2 c2 k2 λ_ _ _ _ _ _ us hl=>by obtain⟨_,_,_,rfl⟩:=ln3 hl;rfl
 obtain⟨a3,l3,c3,k3⟩:=ck4 (P:=w.params) (x:="check_cards") (f:=65) (i:=8) (dV:=.none) (pm:=(.str "talkleast.tables" 234)) (cd:=64) (by kernel_rfl);have S3:=q0i X Ns ok3 a3 l3 c3 k3 λ_ _ _ _ _ _ us hl=>by obtain⟨_,_,rfl⟩:=ln2 hl;rfl
 obtain⟨a4,l4,c4,k4⟩:=ck4 (P:=w.params) (x:="cards_in") (f:=70) (i:=9) (dV:=.none) (pm:=(.str "talkleast.tables" 234)) (cd:=69) (by kernel_rfl);have S4:=q0i X Ns ok4 a4 l4 c4 k4 λ_ _ _ _ _ _ us hl=>by obtain⟨_,rfl⟩:=ln1 hl;rfl
 obtain⟨a5,l5,c5,k5⟩:=ck4 (P:=w.params) (x:="crossing") (f:=75) (i:=10) (dV:=.none) (pm:=(.str "talkleast.tables" 234)) (cd:=74) (by kernel_rfl);have S5:=q0i X Ns ok5 a5 l5 c5 k5 λ_ _ _ _ _ _ us hl=>by obtain⟨_,_,_,rfl⟩:=ln3 hl;rfl
 obtain⟨a6,l6,c6,k6⟩:=ck4 (P:=w.params) (x:="row_kinds") (f:=80) (i:=11) (dV:=.none) (pm:=(.str "talkleast.tables" 234)) (cd:=79) (by kernel_rfl);have S6:=q0i X Ns ok6 a6 l6 c6 k6 λ_ _ _ _ _ _ us hl=>by obtain⟨_,rfl⟩:=ln1 hl;rfl
 obtain⟨a7,l7,c7,k7⟩:=ck4 (P:=w.params) (x:="column_kinds") (f:=87) (i:=12) (dV:=.none) (pm:=(.str "talkleast.tables" 234)) (cd:=86) (by kernel_rfl);have S7:=q0i X Ns ok7 a7 l7 c7 k7 λ_ _ _ _ _ _ us hl=>by obtain⟨_,rfl⟩:=ln1 hl;rfl
 obtain⟨a8,l8,c8,k8⟩:=ck4 (P:=w.params) (x:="trimmed") (f:=94) (i:=13) (dV:=.none) (pm:=(.str "talkleast.tables" 234)) (cd:=93) (by kernel_rfl);have S8:=q0i X Ns ok8 a8 l8 c8 k8 λ_ _ _ _ _ _ us hl=>by obtain⟨_,rfl⟩:=ln1 hl;rfl
 obtain⟨a9,l9,c9,k9⟩:=ck4 (P:=w.params) (x:="base") (f:=101) (i:=15) (dV:=.none) (pm:=(.str "talkleast.ranks" 291)) (cd:=100) (by kernel_rfl);have S9:=q0i X Ns ok9 a9 l9 c9 k9 λ_ _ _ _ _ _ us hl=>by obtain⟨_,rfl⟩:=ln1 hl;rfl
 obtain⟨a10,l10,c10,k10⟩:=ck4 (P:=w.params) (x:="rank") (f:=108) (i:=16) (dV:=.none) (pm:=(.str "talkleast.ranks" 291)) (cd:=107) (by kernel_rfl);have S10:=q0i X Ns ok10 a10 l10 c10 k10 λ_ _ _ _ _ _ us hl=>by obtain⟨_,rfl⟩:=ln1 hl;rfl
 obtain⟨a11,l11,c11,k11⟩:=ck4 (P:=w.params) (x:="base_lines") (f:=113) (i:=17) (dV:=.none) (pm:=(.str "talkleast.ranks" 291)) (cd:=112) (by kernel_rfl);have S11:=q0i X Ns ok11 a11 l11 c11 k11 λ_ _ _ _ _ _ us hl=>by obtain⟨_,rfl⟩:=ln1 hl;rfl
 obtain⟨a12,l12,c12,k12⟩:=ck4 (P:=w.params) (x:="reduced") (f:=118) (i:=18) (dV:=.none) (pm:=(.str "talkleast.ranks" 291)) (cd:=117) (by kernel_rfl);have S12:=q0i X Ns ok12 a12 l12 c12 k12 λ_ _ _ _ _ _ us hl=>by obtain⟨_,_,rfl⟩:=ln2 hl;rfl
 obtain⟨a13,l13,c13,k13⟩:=ck4 (P:=w.params) (x:="leading_place") (f:=123) (i:=19) (dV:=.none) (pm:=(.str "talkleast.ranks" 291)) (cd:=122) (by kernel_rfl);have S13:=q0i X Ns ok13 a13 l13 c13 k13 λ_ _ _ _ _ _ us hl=>by obtain⟨_,rfl⟩:=ln1 hl;rfl
 obtain⟨a14,l14,c14,k14⟩:=ck4 (P:=w.params) (x:="base_in_twos") (f:=130) (i:=21) (dV:=.none) (pm:=(.str "talkleast.twos" 325)) (cd:=129) (by kernel_rfl);have S14:=q0i X Ns ok14 a14 l14 c14 k14 λ_ _ _ _ _ _ us hl=>by obtain⟨_,rfl⟩:=ln1 hl;rfl
 obtain⟨a15,l15,c15,k15⟩:=ck4 (P:=w.params) (x:="rank_in_twos") (f:=137) (i:=22) (dV:=.none) (pm:=(.str "talkleast.twos" 325)) (cd:=136) (by kernel_rfl);have S15:=q0i X Ns ok15 a15 l15 c15 k15 λ_ _ _ _ _ _ us hl=>by obtain⟨_,rfl⟩:=ln1 hl;rfl
 obtain⟨a16,l16,c16,k16⟩:=ck4 (P:=w.params) (x:="lines_in_twos") (f:=142) (i:=23) (dV:=.none) (pm:=(.str "talkleast.twos" 325)) (cd:=141) (by kernel_rfl);have S16:=q0i X Ns ok16 a16 l16 c16 k16 λ_ _ _ _ _ _ us hl=>by obtain⟨_,rfl⟩:=ln1 hl;rfl
 obtain⟨a17,l17,c17,k17⟩:=ck4 (P:=w.params) (x:="base_indexes") (f:=147) (i:=24) (dV:=.none) (pm:=(.str "talkleast.twos" 325)) (cd:=146) (by kernel_rfl);have S17:=q0i X Ns ok17 a17 l17 c17 k17 λ_ _ _ _ _ _ us hl=>by obtain⟨_,rfl⟩:=ln1 hl;rfl
 obtain⟨a18,l18,c18,k18⟩:=ck4 (P:=w.params) (x:="kept_lines") (f:=154) (i:=25) (dV:=.none) (pm:=(.str "talkleast.twos" 325)) (cd:=153) (by kernel_rfl);have S18:=q0i X Ns ok18 a18 l18 c18 k18 λ_ _ _ _ _ _ us hl=>by obtain⟨_,rfl⟩:=ln1 hl;rfl
 obtain⟨a19,l19,c19,k19⟩:=ck4 (P:=w.params) (x:="reduced_in_twos") (f:=161) (i:=26) (dV:=.none) (pm:=(.str "talkleast.twos" 325)) (cd:=160) (by kernel_rfl);have S19:=q0i X Ns ok19 a19 l19 c19 k19 λ_ _ _ _ _ _ us hl=>by obtain⟨_,_,rfl⟩:=ln2 hl;rfl
 obtain⟨a20,l20,c20,k20⟩:=ck4 (P:=w.params) (x:="_law_cell_at") (f:=168) (i:=28) (dV:=.none) (pm:=(.str "law_talkleast_k44_whole_ranks" 377)) (cd:=167) (by kernel_rfl);have S20:=q0i X Ns ok20 a20 l20 c20 k20 λ_ _ _ _ _ _ us hl=>by obtain⟨_,_,rfl⟩:=ln2 hl;rfl
 obtain⟨a21,l21,c21,k21⟩:=ck4 (P:=w.params) (x:="_law_stream") (f:=175) (i:=29) (dV:=.none) (pm:=(.str "law_talkleast_k44_whole_ranks" 377)) (cd:=174) (by kernel_rfl);have S21:=q0i X Ns ok21 a21 l21 c21 k21 λ_ _ _ _ _ _ us hl=>by obtain⟨_,_,rfl⟩:=ln2 hl;rfl
 obtain⟨a22,l22,c22,k22⟩:=ck4 (P:=w.params) (x:="_law_mixed") (f:=180) (i:=30) (dV:=.none) (pm:=(.str "law_talkleast_k44_whole_ranks" 377)) (cd:=179) (by kernel_rfl);have S22:=q0i X Ns ok22 a22 l22 c22 k22 λ_ _ _ _ _ _ us hl=>by obtain⟨_,_,rfl⟩:=ln2 hl;rfl
 obtain⟨a23,l23,c23,k23⟩:=ck4 (P:=w.params) (x:="_law_rows") (f:=185) (i:=31) (dV:=.none) (pm:=(.str "law_talkleast_k44_whole_ranks" 377)) (cd:=184) (by kernel_rfl);have S23:=q0i X Ns ok23 a23 l23 c23 k23 λ_ _ _ _ _ _ us hl=>by obtain⟨_,_,rfl⟩:=ln2 hl;rfl
 obtain⟨a24,l24,c24,k24⟩:=ck4 (P:=w.params) (x:="_law_determinant") (f:=192) (i:=32) (dV:=.none) (pm:=(.str "law_talkleast_k44_whole_ranks" 377)) (cd:=191) (by kernel_rfl);have S24:=q0i X Ns ok24 a24 l24 c24 k24 λ_ _ _ _ _ _ us hl=>by obtain⟨_,_,rfl⟩:=ln2 hl;rfl
 obtain⟨a25,l25,c25,k25⟩:=ck4 (P:=w.params) (x:="_law_square") (f:=197) (i:=33) (dV:=.none) (pm:=(.str "law_talkleast_k44_whole_ranks" 377)) (cd:=196) (by kernel_rfl);have S25:=q0i X Ns ok25 a25 l25 c25 k25 λ_ _ _ _ _ _ us hl=>by obtain⟨_,_,_,rfl⟩:=ln3 hl;rfl
 obtain⟨a26,l26,c26,k26⟩:=ck4 (P:=w.params) (x:="_law_great") (f:=204) (i:=34) (dV:=.none) (pm:=(.str "law_talkleast_k44_whole_ranks" 377)) (cd:=203) (by kernel_rfl);have S26:=q0i X Ns ok26 a26 l26 c26 k26 λ_ _ _ _ _ _ us hl=>by obtain⟨_,_,_,rfl⟩:=ln3 hl;rfl
 obtain⟨a27,l27,c27,k27⟩:=ck4 (P:=w.params) (x:="law") (f:=209) (i:=35) (dV:=.none) (pm:=(.str "law_talkleast_k44_whole_ranks" 377)) (cd:=208) (by kernel_rfl);have S27:=q0i X Ns ok27 a27 l27 c27 k27 λ_ _ _ _ _ _ us hl=>by obtain⟨_,rfl⟩:=ln1 hl;rfl
 have e:=hfa.symm.trans (mg_of X Ns a27);cases e;refine⟨_,λs v=>.of_eq rfl,λbase _ _=>z2s (T:=T) (G:=G) (fu:=100) rfl (q0t S0 (q0t S1 (q0t S2 (q0t S3 (q0t S4 (q0t S5 (q0t S6 (q0t S7 (q0t S8 (q0t S9 (q0t S10 (q0t S11 (q0t S12 (q0t S13 (q0t S14 (q0t S15 (q0t S16 (q0t S17 (q0t S18 (q0t S19 (q0t S20 (q0t S21 (q0t S22 (q0t S23 (q0t S24 (q0t S25 (q0t S26 (q0t S27 z8D)))))))))))))))))))))))))))) (λx hx=>mg_none_of X Ns (List.map_inj_left.mp (zz _) x hx)) ?_ ?_ ?_ z5G z2a (i:=27) rfl rfl S27 z4O⟩
 ·have xa0:nsIn (kK w.params) mainGlobals "TalkError" = some (some (.ref 31)):=by kernel_rfl
  have xa1:nsIn (kK w.params) mainGlobals "NoCard" = some (some (.ref 44)):=by kernel_rfl
  refine⟨q7M ⟨31,mg_of X Ns xa0,⟨by kernel_rfl,by kernel_rfl,by kernel_rfl,by kernel_rfl,by kernel_rfl,by kernel_rfl,by kernel_rfl,by kernel_rfl⟩,⟨_,_,_,[.type "ValueError",.type "Exception",.type "BaseException",.type "object"],PySem.F.excBase_ValueError,by kernel_rfl⟩,(q3V (t:="TalkError") (Ct:=31) (mg_of X Ns xa0) ⟨by kernel_rfl,λ_=>by kernel_rfl⟩ (q3V (t:="NoCard") (Ct:=44) (mg_of X Ns xa1) ⟨by kernel_rfl,λz=>nomatch z⟩ q9T)),by kernel_rfl⟩ (q7M ⟨44,mg_of X Ns xa1,⟨by kernel_rfl,by kernel_rfl,by kernel_rfl,by kernel_rfl,by kernel_rfl,by kernel_rfl,by kernel_rfl,by kernel_rfl⟩,⟨_,_,_,[.type "ValueError",.type "Exception",.type "BaseException",.type "object"],PySem.F.excBase_ValueError,by kernel_rfl⟩,(q3V (t:="TalkError") (Ct:=31) (mg_of X Ns xa0) ⟨by kernel_rfl,λ_=>by kernel_rfl⟩ (q3V (t:="NoCard") (Ct:=44) (mg_of X Ns xa1) ⟨by kernel_rfl,λ_=>by kernel_rfl⟩ q9T)),by kernel_rfl⟩ (z5k)),all_cons ⟨_,mg_of X Ns xa0⟩ (all_cons ⟨_,mg_of X Ns xa1⟩ (z5d))⟩
 ·intro x d h;exact z4x x d h
 ·intro x kvs h;exact z4P x kvs h
end k44
open PySem PySem.W PyProof.Rows
set_option maxRecDepth 100000 in
set_option maxHeartbeats 0 in
theorem PySem.Challenge.cw_talkleast_k44_whole_ranks_holds : PySem.Challenge.rw_talkleast_k44_whole_ranks.Holds := by
 refine holds_law (by kernel_rfl) λ said => ?_
 refine holds_open (q := k44.kQ) (loose := k44.kL) (Xt := λ s => xlAt k44.kQ [] s && recOk (RowW.records (OpenRow.toRowW (OpenLaw.row PySem.Challenge.rw_talkleast_k44_whole_ranks))) s) (XP := XL k44.kQ []) (Yf := (kHook k44.kK k44.kA k44.kE).obs) (Ya := (kHook k44.kK k44.kA k44.kE).val) (YP := (kHook k44.kK k44.kA k44.kE).says) (N := 2648) k44.kLeft (kHook k44.kK k44.kA k44.kE).of (kHook k44.kK k44.kA k44.kE).keeps (λ s e => xl_of s (Bool.and_eq_true_iff.mp e).1) XL.keeps (by rfl) (by rfl) (by rfl) (λ s e => recFacts_of (Bool.and_eq_true_iff.mp e).2) (by rfl) said (by decide +kernel) ⟨rfl, rfl, rfl, rfl, rfl, by decide +kernel⟩ ?hw ?hc
 case hw => w_witness2
 exact L2.walkE (l := PySem.Challenge.rw_talkleast_k44_whole_ranks) (k := 60) (p := "_law_script") rfl rfl ⟨rfl, by decide, by decide⟩ (λ w h Y => kIn_of Y) λ w mg fa h KX G hmg => k44.all_mk KX G hmg
end

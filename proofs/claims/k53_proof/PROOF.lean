import PyProof.Rows.All
import Wide.All
import OpenK.AllK
import Wide.FinOn
import Lean
import PyProof.EqAt
import PyProof.EqKinds
import PyProof.TupleCall
import PyProof.ExcAttrAll.ValueError
import PyProof.ZipIter
import PyProof.TupleIter
import PyProof.P3In
import PyProof.Rows.SeqMore2
import PyProof.FactsAll.tuple_3
import PyProof.FactsAll.list_3
import PyProof.Rows.Range3
import KE.KRevIter
import PyProof.Rows.FactsT2
import PySem.Builtin.Int.W1All
import PyProof.SetScanFacts
import PyProof.SetKind
import PyProof.DictKinds
import PyProof.DictStraight
import PyProof.Rows.SetFrom
import PyProof.CollectWalk
import PyProof.Seq
import PyProof.DictIter
import PyProof.Rows.Tup
import PyProof.FactsAll.set_1
import PyProof.FactsAll.set_2
import PyProof.Rows.SortWalk
import PyProof.ConsumeWalk
import PyProof.Rows.SumAny
import PySem.Syntax
import PySem.Eval
import PyProof.DictTable
import PyProof.ListRange
import PyProof.EnumMake
import PyProof.DictItems
import PyProof.DictItemsLoops
import PyProof.MeetsDict
import PyProof.DictWalks
import PyProof.RulesTry
import KE.KPairComp
import PySem.Challenge.RW_talkleast_k53_whole_alone
set_option Elab.async false
set_option linter.all false
set_option bootstrap.genMatcherCode false
set_option genSizeOfSpec false
set_option compiler.extract_closed false
set_option maxRecDepth 100000
set_option maxHeartbeats 4000000
noncomputable section
namespace L2
open PySem
def q1j(s:Stmt):Arguments:=match s with
 | .FunctionDef _ a _ _ _ _ _ _ _ _=>a
 | _=>{posonlyargs:=[],args:=[],vararg:=none,kwonlyargs:=[],kw_defaults:=[],kwarg:=none,defaults:=[]}
def q0Q(s:Stmt):List Stmt:=match s with
 | .FunctionDef _ _ b _ _ _ _ _ _ _=>b
 | _=>[]
def q0k(s:Stmt):Scope:=match s with
 | .FunctionDef _ _ _ _ _ _ sc _ _ _=>sc
 | _=>{kind:=.function,names:=[],isGenerator:=false,isCoroutine:=false}
end L2
namespace k53
open PySem PySem.W L2 PySem.Spec PyProof.Rows
def top(i:Nat):Stmt:=PySem.Challenge.pw_talkleast_k53_whole_alone.main.body.getD i (.Pass ⟨0,0,0,0⟩)
def fo(n:Str)(i:Nat)(dV pm:Value)(cd:Addr):Obj:=⟨.type "function",none,.func (fnOf n n (q1j (top i)) (q0Q (top i)) (q0k (top i)) dV .none .none pm none (.ref cd) .none),#[]⟩
def en(P:Params)(s:Str)(t:Nat)(v:Value):DictEntry:=⟨PyData.keyHash P s,.str s t,v⟩
def co(n:Str)(t:Nat)(ln na fl:Int)(a b c d e:Value)(q:Int)(r:Nat):Obj:=⟨.type "code",none,.fields #[.str n t,.str n (t+1),.str "/claim/cut.py" (t+2),.int ln 0,.int na 0,.int 0 0,.int 0 0,.int fl 0,a,.bool true,.int 181 0,b,.none,c,d,e,.int q 0,.int ln 0,.str "/claim/cut.py" r],#[]⟩
def kK(P:Params):Frag:=[(2,⟨.none,none,.dict #[] 0,#[]⟩),
 (3,⟨.type "dict",none,.dict #[en P "__name__" 165 (.str "law_talkleast_k53_whole_alone" 421),en P "__doc__" 166 .none,en P "__package__" 167 .none,en P "__loader__" 168 (.builtin "__main__.__loader__#opaque"),en P "__spec__" 169 .none,en P "__annotations__" 170 (.ref 6),en P "__builtins__" 171 (.ref 4),en P "__file__" 173 (.str "/claim/cut.py" 172),en P "__cached__" 174 .none,en P "TalkError" 206 (.ref 24),en P "NoCard" 222 (.ref 37),en P "TooGreat" 238 (.ref 49),en P "is_int" 249 (.ref 58),en P "SMALL_LINES" 253 (.int 5 252),en P "flipped" 259 (.ref 63),en P "cut" 268 (.ref 70),en P "check_cards" 276 (.ref 77),en P "cards_in" 282 (.ref 82),en P "crossing" 288 (.ref 87),en P "row_kinds" 294 (.ref 92),en P "column_kinds" 301 (.ref 99),en P "trimmed" 308 (.ref 106),en P "is_small" 316 (.ref 113),en P "check_small" 323 (.ref 120),en P "words_in" 332 (.ref 127),en P "codes" 340 (.ref 132),en P "alone_bits" 349 (.ref 140),en P "lines_of" 357 (.ref 147),en P "digits" 363 (.ref 152),en P "bits_paper" 372 (.ref 159),en P "paper" 378 (.ref 164),en P "bits_numbers" 385 (.ref 171),en P "joined_bits" 393 (.ref 178),en P "least_numbers" 399 (.ref 183),en P "splits" 405 (.ref 188),en P "halves" 411 (.ref 193),en P "least_bits" 420 (.ref 200),en P "_law_int" 429 (.ref 207),en P "_law_cell_at" 437 (.ref 214),en P "_law_stream" 450 (.ref 221),en P "_law_doubled" 460 (.ref 228),en P "_law_small" 466 (.ref 233),en P "_law_kinds" 475 (.ref 240),en P "_law_power" 485 (.ref 247),en P "_law_enough" 493 (.ref 254),en P "_law_length" 501 (.ref 261),en P "law" 507 (.ref 266)] 47,#[]⟩),
 (23,⟨.type "dict",none,.dict #[en P "__module__" 196 (.str "talkleast.errors" 187),en P "__firstlineno__" 200 (.int 2 199),en P "__static_attributes__" 201 (.ref 22),en P "__weakref__" 203 (.ref 25),en P "__doc__" 204 .none] 3,#[]⟩),
 (24,⟨.type "type",none,.cls ⟨"TalkError",[.type "ValueError"],[.ref 24,.type "ValueError",.type "Exception",.type "BaseException",.type "object"],23,"TalkError",true,[],[.ref 37,.ref 49],false,none,false⟩,#[some (.ref 15),none,some (.str "TalkError" 189),some (.str "TalkError" 197),some (.builtin "ValueError.__new__"),some (.bool true)]⟩),
 (25,⟨.type "getset_descriptor",none,.fields #[.str "__weakref__" 202,.ref 24,.builtin "ExceptionGroup.__weakref__",.none],#[]⟩),
 (36,⟨.type "dict",none,.dict #[en P "__module__" 214 (.str "talkleast.errors" 187),en P "__firstlineno__" 218 (.int 4 217),en P "__static_attributes__" 219 (.ref 35),en P "__doc__" 220 .none] 2,#[]⟩),
 (37,⟨.type "type",none,.cls ⟨"NoCard",[.ref 24],[.ref 37,.ref 24,.type "ValueError",.type "Exception",.type "BaseException",.type "object"],36,"NoCard",true,[],[],false,none,false⟩,#[some (.ref 28),none,some (.str "NoCard" 207),some (.str "NoCard" 215),some (.builtin "ValueError.__new__"),some (.bool true)]⟩),
 (48,⟨.type "dict",none,.dict #[en P "__module__" 230 (.str "talkleast.errors" 187),en P "__firstlineno__" 234 (.int 6 233),en P "__static_attributes__" 235 (.ref 47),en P "__doc__" 236 .none] 2,#[]⟩),
 (49,⟨.type "type",none,.cls ⟨"TooGreat",[.ref 24],[.ref 49,.ref 24,.type "ValueError",.type "Exception",.type "BaseException",.type "object"],48,"TooGreat",true,[],[],false,none,false⟩,#[some (.ref 40),none,some (.str "TooGreat" 223),some (.str "TooGreat" 231),some (.builtin "ValueError.__new__"),some (.bool true)]⟩),
 (57,co "is_int" 241 9 3 3 (.ref 52) (.ref 53) (.ref 54) (.ref 55) (.ref 56) 247 248),
 (58,fo "is_int" 5 .none (.str "talkleast.checks" 239) 57),
 (62,co "flipped" 254 13 1 3 (.ref 59) (.ref 60) .none .none (.ref 61) 257 258),
 (63,fo "flipped" 8 .none (.str "talkleast.tables" 250) 62),
 (69,co "cut" 260 15 3 3 (.ref 64) (.ref 65) (.ref 66) (.ref 67) (.ref 68) 266 267),
 (70,fo "cut" 9 .none (.str "talkleast.tables" 250) 69),
 (76,co "check_cards" 269 19 2 3 (.ref 71) (.ref 72) (.ref 73) (.ref 74) (.ref 75) 274 275),
 (77,fo "check_cards" 10 .none (.str "talkleast.tables" 250) 76),
 (81,co "cards_in" 277 22 1 3 (.ref 78) (.ref 79) .none .none (.ref 80) 280 281),
 (82,fo "cards_in" 11 .none (.str "talkleast.tables" 250) 81),
 (86,co "crossing" 283 24 3 3 (.ref 83) (.ref 84) .none .none (.ref 85) 286 287),
 (87,fo "crossing" 12 .none (.str "talkleast.tables" 250) 86),
 (91,co "row_kinds" 289 26 1 3 (.ref 88) (.ref 89) .none .none (.ref 90) 292 293),
 (92,fo "row_kinds" 13 .none (.str "talkleast.tables" 250) 91),
 (98,co "column_kinds" 295 28 1 3 (.ref 93) (.ref 94) (.ref 95) (.ref 96) (.ref 97) 299 300),
 (99,fo "column_kinds" 14 .none (.str "talkleast.tables" 250) 98),
 (105,co "trimmed" 302 30 1 3 (.ref 100) (.ref 101) (.ref 102) (.ref 103) (.ref 104) 306 307),
 (106,fo "trimmed" 15 .none (.str "talkleast.tables" 250) 105),
 (112,co "is_small" 309 32 1 3 (.ref 107) (.ref 108) (.ref 109) (.ref 110) (.ref 111) 314 315),
 (113,fo "is_small" 16 .none (.str "talkleast.tables" 250) 112),
 (119,co "check_small" 317 35 1 3 (.ref 114) (.ref 115) (.ref 116) (.ref 117) (.ref 118) 321 322),
 (120,fo "check_small" 17 .none (.str "talkleast.tables" 250) 119),
 (126,co "words_in" 324 38 1 3 (.ref 121) (.ref 122) (.ref 123) (.ref 124) (.ref 125) 330 331),
 (127,fo "words_in" 18 .none (.str "talkleast.tables" 250) 126),
 (131,co "codes" 335 44 2 3 (.ref 128) (.ref 129) .none .none (.ref 130) 338 339),
 (132,fo "codes" 20 .none (.str "talkleast.alone" 333) 131),
 (133,⟨.type "tuple",none,.seq #[.str "row" 341] 0,#[]⟩),
 (139,co "alone_bits" 342 49 2 3 (.ref 134) (.ref 135) (.ref 136) (.ref 137) (.ref 138) 347 348),
 (140,fo "alone_bits" 21 (.ref 133) (.str "talkleast.alone" 333) 139),
 (146,co "lines_of" 350 51 2 3 (.ref 141) (.ref 142) (.ref 143) (.ref 144) (.ref 145) 355 356),
 (147,fo "lines_of" 22 .none (.str "talkleast.alone" 333) 146),
 (151,co "digits" 358 53 2 3 (.ref 148) (.ref 149) .none .none (.ref 150) 361 362),
 (152,fo "digits" 23 .none (.str "talkleast.alone" 333) 151),
 (158,co "bits_paper" 366 56 1 3 (.ref 153) (.ref 154) (.ref 155) (.ref 156) (.ref 157) 370 371),
 (159,fo "bits_paper" 25 .none (.str "talkleast.parts" 364) 158),
 (163,co "paper" 373 58 1 3 (.ref 160) (.ref 161) .none .none (.ref 162) 376 377),
 (164,fo "paper" 26 .none (.str "talkleast.parts" 364) 163),
 (170,co "bits_numbers" 379 60 1 3 (.ref 165) (.ref 166) (.ref 167) (.ref 168) (.ref 169) 383 384),
 (171,fo "bits_numbers" 27 .none (.str "talkleast.parts" 364) 170),
 (177,co "joined_bits" 386 62 2 3 (.ref 172) (.ref 173) (.ref 174) (.ref 175) (.ref 176) 391 392),
 (178,fo "joined_bits" 28 .none (.str "talkleast.parts" 364) 177),
 (182,co "least_numbers" 394 64 3 3 (.ref 179) (.ref 180) .none .none (.ref 181) 397 398),
 (183,fo "least_numbers" 29 .none (.str "talkleast.parts" 364) 182),
 (187,co "splits" 400 76 2 3 (.ref 184) (.ref 185) .none .none (.ref 186) 403 404),
 (188,fo "splits" 30 .none (.str "talkleast.parts" 364) 187),
 (192,co "halves" 406 80 1 3 (.ref 189) (.ref 190) .none .none (.ref 191) 409 410),
 (193,fo "halves" 31 .none (.str "talkleast.parts" 364) 192),
 (199,co "least_bits" 414 83 1 3 (.ref 194) (.ref 195) (.ref 196) (.ref 197) (.ref 198) 418 419),
 (200,fo "least_bits" 33 .none (.str "talkleast.least" 412) 199),
 (206,co "_law_int" 423 86 1 3 (.ref 201) (.ref 202) (.ref 203) (.ref 204) (.ref 205) 427 428),
 (207,fo "_law_int" 35 .none (.str "law_talkleast_k53_whole_alone" 421) 206),
 (213,co "_law_cell_at" 430 88 2 3 (.ref 208) (.ref 209) (.ref 210) (.ref 211) (.ref 212) 435 436),
 (214,fo "_law_cell_at" 36 .none (.str "law_talkleast_k53_whole_alone" 421) 213),
 (220,co "_law_stream" 438 92 2 3 (.ref 215) (.ref 216) (.ref 217) (.ref 218) (.ref 219) 448 449),
 (221,fo "_law_stream" 37 .none (.str "law_talkleast_k53_whole_alone" 421) 220),
 (227,co "_law_doubled" 451 106 2 3 (.ref 222) (.ref 223) (.ref 224) (.ref 225) (.ref 226) 458 459),
 (228,fo "_law_doubled" 38 .none (.str "law_talkleast_k53_whole_alone" 421) 227),
 (232,co "_law_small" 461 113 2 3 (.ref 229) (.ref 230) .none .none (.ref 231) 464 465),
 (233,fo "_law_small" 39 .none (.str "law_talkleast_k53_whole_alone" 421) 232),
 (239,co "_law_kinds" 467 127 1 3 (.ref 234) (.ref 235) (.ref 236) (.ref 237) (.ref 238) 473 474),
 (240,fo "_law_kinds" 40 .none (.str "law_talkleast_k53_whole_alone" 421) 239),
 (246,co "_law_power" 476 133 2 3 (.ref 241) (.ref 242) (.ref 243) (.ref 244) (.ref 245) 483 484),
 (247,fo "_law_power" 41 .none (.str "law_talkleast_k53_whole_alone" 421) 246),
 (253,co "_law_enough" 486 138 2 3 (.ref 248) (.ref 249) (.ref 250) (.ref 251) (.ref 252) 491 492),
 (254,fo "_law_enough" 42 .none (.str "law_talkleast_k53_whole_alone" 421) 253),
 (260,co "_law_length" 494 140 1 3 (.ref 255) (.ref 256) (.ref 257) (.ref 258) (.ref 259) 499 500),
 (261,fo "_law_length" 43 .none (.str "law_talkleast_k53_whole_alone" 421) 260),
 (265,co "law" 502 145 1 3 (.ref 262) (.ref 263) .none .none (.ref 264) 505 506),
 (266,fo "law" 44 .none (.str "law_talkleast_k53_whole_alone" 421) 265)]
def kA:List Addr:=[2,3,23,24,25,36,37,48,49,57,58,62,63,69,70,76,77,81,82,86,87,91,92,98,99,105,106,112,113,119,120,126,127,131,132,133,139,140,146,147,151,152,158,159,163,164,170,171,177,178,182,183,187,188,192,193,199,200,206,207,213,214,220,221,227,228,232,233,239,240,246,247,253,254,260,261,265,266]
theorem kE:∀P,kA=(kK P).map (·.1):=λ_=>by kernel_rfl
def kQ:Program:=view PySem.Challenge.pw_talkleast_k53_whole_alone [1,2,3,5,7,8,9,10,11,12,13,14,15,16,17,18,20,22,23,25,26,27,28,29,30,31,33,35,36,37,38,39,40,41,42,43,44]
def kL:List Str:=[("alone_bits" : Str)]
set_option maxHeartbeats 0 in
theorem kLeft:LeftO PySem.Challenge.pw_talkleast_k53_whole_alone kQ kL (λs=>xlAt kQ [] s&&recOk (RowW.records (OpenRow.toRowW (OpenLaw.row PySem.Challenge.rw_talkleast_k53_whole_alone))) s) (kHook kK kA kE).obs (kHook kK kA kE).val 3454:=by
 intro w
 kernel_rfl
end k53
end
noncomputable section
namespace L2
open PySem PySem.Spec PyProof.Rows
abbrev Key:=Sum Int Str
def q9t:Key->Value->Bool
 | .inl k,v=>Value.isInt k v
 | .inr x,v=>Value.isStrOf x v
def keyH(w:World):Key->Int
 | .inl k=>hashInt k
 | .inr x=>hashStr w x
theorem q0P:∀{k:Key} {v:Value},q9t k v=true->(∃i t,k=Sum.inl i/\v=Value.int i t)\/(∃x t,k=Sum.inr x/\v=Value.str x t)
 | .inl i,v,h=>by
  obtain⟨t,e⟩:=Value.isInt_shape (k:=i) (v:=v) h
  exact .inl ⟨i,t,rfl,e⟩
 | .inr x,v,h=>by
  obtain⟨t,e⟩:=Value.isStrOf_shape (x:=x) (v:=v) h
  exact .inr ⟨x,t,rfl,e⟩
theorem z1d(i:Int)(t:Tok):q9t (.inl i) (.int i t)=true:=by simp[q9t,Value.isInt]
theorem z0L(x:Str)(t:Tok):q9t (.inr x) (.str x t)=true:=by simp[q9t,Value.isStrOf]
theorem z9a(a b:Int):decide ((Sum.inl a:Key)=Sum.inl b)=(a==b):=by
 by_cases e:a=b
 ·subst e;simp
 ·have h:¬(Sum.inl a:Key)=Sum.inl b:=λq=>e (Sum.inl.inj q)
  rw[decide_eq_false h]
  exact(beq_eq_false_iff_ne.mpr e).symm
theorem z9D(a b:Str):decide ((Sum.inr a:Key)=Sum.inr b)=decide (a=b):=by
 by_cases e:a=b
 ·subst e;simp
 ·have h:¬(Sum.inr a:Key)=Sum.inr b:=λq=>e (Sum.inr.inj q)
  rw[decide_eq_false h,decide_eq_false e]
theorem z8O(a:Int)(b:Str):decide ((Sum.inl a:Key)=Sum.inr b)=false:=decide_eq_false (λq=>nomatch q)
theorem z9P(a:Str)(b:Int):decide ((Sum.inr a:Key)=Sum.inl b)=false:=decide_eq_false (λq=>nomatch q)
def q0N(prog:Program)(w:World):PySem.KeyKind prog w Key where
 is:=q9t
 hash:=keyH w
 inj:=λv a b ha hb=>by
  rcases q0P ha with⟨i,t,rfl,rfl⟩ | ⟨x,t,rfl,rfl⟩
  ·rcases q0P hb with⟨j,u,rfl,e⟩ | ⟨y,u,rfl,e⟩
   ·injection e with e1 _;rw[e1]
   ·exact nomatch e
  ·rcases q0P hb with⟨j,u,rfl,e⟩ | ⟨y,u,rfl,e⟩
   ·exact nomatch e
   ·injection e with e1 _;rw[e1]
 byValue:=λk v h=>by
  rcases q0P h with⟨i,t,rfl,rfl⟩ | ⟨x,t,rfl,rfl⟩<;>rfl
 pyHash:=λhv h=>by
  rcases q0P hv with⟨i,t,rfl,rfl⟩ | ⟨x,t,rfl,rfl⟩
  ·exact wpAny_pyHash_int h
  ·exact wpAny_pyHash_str h
 eqBool:=λhu hv h=>by
  rcases q0P hu with⟨i,t,rfl,rfl⟩ | ⟨x,t,rfl,rfl⟩
  ·rcases q0P hv with⟨j,u,rfl,rfl⟩ | ⟨y,u,rfl,rfl⟩
   ·rw[z9a]at h;exact wpAny_eqBool_int h
   ·rw[z8O]at h;exact SeqAt.EqAt.int_str i t y u _ _ _ _ h
  ·rcases q0P hv with⟨j,u,rfl,rfl⟩ | ⟨y,u,rfl,rfl⟩
   ·rw[z9P]at h;exact SeqAt.EqAt.str_int x t j u _ _ _ _ h
   ·rw[z9D]at h;exact wpAny_eqBool_str h
 «strs»:=λk x t v h=>by
  rcases q0P h with⟨i,u,rfl,e⟩ | ⟨y,u,rfl,e⟩
  ·exact nomatch e
  ·injection e with e1 _
   subst e1
   cases v<;>rfl
theorem q7H(prog:Program)(w:World)(i:Int)(t:Tok):(q0N prog w).is (.inl i) (.int i t)=true:=z1d i t
theorem q7M(prog:Program)(w:World)(x:Str)(t:Tok):(q0N prog w).is (.inr x) (.str x t)=true:=z0L x t
end L2
namespace L2
open PySem PySem.Spec PyProof.Rows
inductive V where
 | non | bl (b:Bool) | int (i:Int) | str (x:Str) | byt (b:Array UInt8) | flt (b:UInt64) | ref (a:Addr) | ty (n:String)
 deriving DecidableEq
def RelV:V->Value->Prop
 | .non,u=>u=Value.none
 | .bl b,u=>u=Value.bool b
 | .int i,u=>∃t,u=Value.int i t
 | .str x,u=>∃t,u=Value.str x t
 | .byt b,u=>∃t,u=Value.bytes b t
 | .flt b,u=>∃t,u=Value.float b t
 | .ref a,u=>u=Value.ref a
 | .ty n,u=>u=Value.type n
abbrev Vals:List V->List Value->Prop:=Paired RelV
theorem Vals.length{xs:List V}{us:List Value}(r:Vals xs us):xs.length=us.length:=Paired.length r
theorem Vals.get:∀{xs:List V} {us:List Value} {i:Nat} {x:V},Vals xs us->xs[i]? = some x->∃u,us[i]? = some u/\RelV x u
 | _,_,_,_,.nil,e=>by simp at e
 | _,_,0,_,.cons r _,e=>by simp at e;subst e;exact⟨_,rfl,r⟩
 | _,_,i+1,x,.cons _ t,e=>by
  obtain⟨u,h1,h2⟩:=Vals.get (i:=i) (x:=x) t (by simpa using e)
  exact⟨u,by simpa using h1,h2⟩
theorem Vals.set{x:V}{u:Value}(r:RelV x u):∀{xs:List V} {us:List Value} (i:Nat),Vals xs us->Vals (xs.set i x) (us.set i u)
 | _,_,_,.nil=>.nil
 | _,_,0,.cons _ t=>.cons r t
 | _,_,i+1,.cons q t=>.cons q (Vals.set r i t)
theorem Vals.append:∀{xs ys:List V} {us ws:List Value},Vals xs us->Vals ys ws->Vals (xs++ys) (us++ws)
 | _,_,_,_,.nil,s=>s
 | _,_,_,_,.cons r t,s=>.cons r (Vals.append t s)
theorem Vals.take:∀{xs:List V} {us:List Value} (n:Nat),Vals xs us->Vals (xs.take n) (us.take n)
 | _,_,0,_=>.nil
 | _,_,_+1,.nil=>.nil
 | _,_,n+1,.cons r t=>.cons r (Vals.take n t)
theorem Vals.drop:∀{xs:List V} {us:List Value} (n:Nat),Vals xs us->Vals (xs.drop n) (us.drop n)
 | _,_,0,r=>r
 | _,_,_+1,.nil=>.nil
 | _,_,n+1,.cons _ t=>Vals.drop n t
def RelO:Option V->Option Value->Prop
 | some v,some u=>RelV v u
 | none,none=>True
 | _,_=>False
def KV{κ:Type}:List (κ×V)->List (κ×Value)->Prop:=Paired λ(p:κ×V) (q:κ×Value)=>p.1=q.1/\RelV p.2 q.2
def kV:Key->V
 | .inl i=>.int i
 | .inr x=>.str x
inductive HO where
 | lst (xs:List V)
 | tup (xs:List V)
 | dK (kvs:List (Key×V)) | dT (kvs:List (List Key×V))
 | set (S:Int->Bool) (n:Nat)
 | ins (C dx:Addr) (fs:List (Str×V))
 | own (x:Addr)
 | xd (fs:List (Str×V))
 | met (f x:Addr)
 | rng (lo hi:Int)
 | frz (o:Obj) (u:HO)
 | tbl (ps:Array Value)
 | ext (φ:Heap->Prop)
abbrev Hp:=Addr->Option HO
def upd(H:Hp)(a:Addr)(o:HO):Hp:=λb=>if b=a then some o else H b
theorem q0t{H:Hp}{a:Addr}{o:HO}:upd H a o a=some o:=by unfold upd;rw[if_pos rfl]
theorem q0l{H:Hp}{a b:Addr}{o:HO}(h:b≠a):upd H a o b=H b:=by unfold upd;rw[if_neg h]
theorem y0e{H:Hp}{a b:Addr}{o u:HO}(h:H a=some o)(h':H b=some u)(d:o≠u):a≠b:=by
 intro e;subst e;rw[h]at h';exact d (Option.some.inj h')
theorem q0z{H:Hp}{a b:Addr}{o:HO}(h:H a=some o)(h':H b=none):a≠b:=by
 intro e;subst e;rw[h]at h';cases h'
def q3z(h:Heap)(a:Addr)(items:Array Value):Prop:=∃o,h.get? a=some o/\(o.cls=.type "tuple" /\ o.dict=none)/\∃n,o.data=.seq items n
theorem q3z.tup{h:Heap}{a items}(x:q3z h a items):IsTup h a items:=let ⟨o,ho,hc,r⟩:=x;⟨o,ho,hc.1,r⟩
theorem q3z.lt{h:Heap}{a items}(x:q3z h a items):a<h.objs.size:=let ⟨_,ho,_⟩:=x;Heap.lt_size ho
theorem q3z.new(h:Heap)(items:Array Value):q3z (h.push {cls:=.type "tuple",data:=.seq items}) h.objs.size items:=⟨_,Heap.get?_push_size _ rfl,⟨rfl,rfl⟩,_,rfl⟩
section
variable (P:Program) (w:World)
def q0V(H:Hp)(h:Heap)(a:Addr):HO->Prop
 | .lst xs=>xs.length<=sizeLine/\∃(its:List Value) (n:Nat),Vals xs its/\h.get? a=some {cls:=.type "list",data:=.seq its.toArray n}
 | .tup xs=>xs.length<=sizeLine/\∃its:List Value,Vals xs its/\q3z h a its.toArray
 | .dK kvs=>kvs.length<=sizeLine/\(a==sysModules)=false/\∃vs,KV kvs vs/\h.DictOf (q0N P w) a vs
 | .dT kvs=>kvs.length<=sizeLine/\(a==sysModules)=false/\∃xs:List (List Key×Addr×Value),
   Paired (λ(p:List Key×V) (q:List Key×Addr×Value)=>p.1=q.1/\H q.2.1=some (.tup (p.1.map kV))/\RelV p.2 q.2.2) kvs xs /\
   ∃o es ep,h.get? a=some o/\o.ExactDict/\o.data=.dict es ep/\es.toList=xs.map (entryOfKey (tupleKind (q0N P w)))/\(xs.map (·.1)).Nodup
 | .set S n=>h.SetOf (intKind P w) a S n
 | .ins C dx fs=>H dx=some (.own a)/\fs.length<=1000/\dx≠a/\h.get? a=some (PySem.W.instObj C dx) /\
   ∃mA,h.Ns1 dx mA/\(∀f,RelO (fs.lookup f) (mA f))/\PySem.Within mA (fs.map (·.1))
 | .own _=>∃o,h.get? a=some o
 | .xd fs=>∃mA,h.Ns1 a mA/\∀f,RelO (fs.lookup f) (mA f)
 | .rng lo hi=>∃t u v,h.get? a=some {cls:=.type "range",data:=.fields #[.int lo t,.int hi u,.int 1 v]}
 | .frz o u=>h.get? a=some o/\q0V H h a u
 | .tbl ps=>h.get? a=some {cls:=.none,data:=.fields ps}
 | .met f x=>h.get? a=some (PySem.W.methodObj (.ref f) (.ref x))
 | .ext φ=>φ h/\(∃o,h.get? a=some o)/\∀h1 h2:Heap,φ h1->(∀o,h1.get? a=some o->h2.get? a=some o)->φ h2
def HOk(H:Hp)(h:Heap):Prop:=∀a o,H a=some o->q0V P w H h a o
end
section
variable {P:Program} {w:World} {H H':Hp} {h h':Heap} {a:Addr} {o:HO}
theorem q0V.lt(x:q0V P w H h a o):a<h.objs.size:=by
 cases o with
 | lst xs=>obtain⟨_,_,_,_,e⟩:=x;exact Heap.lt_size e
 | tup xs=>obtain⟨_,_,_,p⟩:=x;exact p.lt
 | dK kvs=>obtain⟨_,_,_,_,o,_,_,e,_⟩:=x;exact Heap.lt_size e
 | dT kvs=>obtain⟨_,_,_,_,o,_,_,e,_⟩:=x;exact Heap.lt_size e
 | set S n=>obtain⟨o,_,_,_,e,_⟩:=x;exact Heap.lt_size e
 | ins C dx fs=>obtain⟨_,_,_,e,_⟩:=x;exact Heap.lt_size e
 | own y=>obtain⟨_,e⟩:=x;exact Heap.lt_size e
 | xd fs=>obtain⟨_,⟨_,_,_,e,_⟩,_⟩:=x;exact Heap.lt_size e
 | rng lo hi=>obtain⟨_,_,_,e⟩:=x;exact Heap.lt_size e
 | frz ob u=>obtain⟨e,_⟩:=x;exact Heap.lt_size e
 | tbl ps=>exact Heap.lt_size (show h.get? a=some _ from x)
 | met f y=>exact Heap.lt_size (show h.get? a=some _ from x)
 | ext φ=>obtain⟨_,⟨_,e⟩,_⟩:=x;exact Heap.lt_size e
theorem Paired.mapP{α β:Type}{F G:α->β->Prop}:∀{l₁:List α} {l₂:List β},Paired F l₁ l₂->(∀a b,F a b->G a b)->Paired G l₁ l₂
 | _,_,.nil,_=>.nil
 | _,_,.cons r t,f=>.cons (f _ _ r) (Paired.mapP t f)
theorem q0V.stay(x:q0V P w H h a o)(k:∀b u,(b=a\/H b=some (.own a))->h.get? b=some u->h'.get? b=some u)
  (ho:∀b,H b=some (.own a)->H' b=some (.own a)) (ht:∀b xs,H b=some (.tup xs)->H' b=some (.tup xs)):q0V P w H' h' a o:=by
 induction o with
 | lst xs=>obtain⟨z,its,n,r,e⟩:=x;exact⟨z,its,n,r,k _ _ (.inl rfl) e⟩
 | tup xs=>obtain⟨z,its,r,ob,e,c⟩:=x;exact⟨z,its,r,ob,k _ _ (.inl rfl) e,c⟩
 | dK kvs=>obtain⟨z,y,vs,r,ob,es,ep,e,c⟩:=x;exact⟨z,y,vs,r,ob,es,ep,k _ _ (.inl rfl) e,c⟩
 | dT kvs=>
  obtain⟨z,y,xs,r,ob,es,ep,e,c⟩:=x
  exact⟨z,y,xs,Paired.mapP r λp q z=>⟨z.1,ht _ _ z.2.1,z.2.2⟩,ob,es,ep,k _ _ (.inl rfl) e,c⟩
 | set S n=>obtain⟨ob,es,ep,t,e,c⟩:=x;exact⟨ob,es,ep,t,k _ _ (.inl rfl) e,c⟩
 | ins C dx fs=>
  obtain⟨d,z,ne,e,mA,⟨od,es,ep,e2,c⟩,r⟩:=x
  exact⟨ho _ d,z,ne,k _ _ (.inl rfl) e,mA,⟨od,es,ep,k _ _ (.inr d) e2,c⟩,r⟩
 | own y=>obtain⟨ob,e⟩:=x;exact⟨ob,k _ _ (.inl rfl) e⟩
 | xd fs=>obtain⟨mA,⟨od,es,ep,e,c⟩,r⟩:=x;exact⟨mA,⟨od,es,ep,k _ _ (.inl rfl) e,c⟩,r⟩
 | rng lo hi=>obtain⟨t,u,v,e⟩:=x;exact⟨t,u,v,k _ _ (.inl rfl) e⟩
 | frz ob u ih=>obtain⟨e,q⟩:=x;exact⟨k _ _ (.inl rfl) e,ih q⟩
 | tbl ps=>
  have e:h.get? a=some {cls:=.none,data:=.fields ps}:=x
  show h'.get? a=some {cls:=.none,data:=.fields ps}
  exact k a _ (.inl rfl) e
 | met f y=>
  have e:h.get? a=some (PySem.W.methodObj (.ref f) (.ref y)):=x
  show h'.get? a=some (PySem.W.methodObj (.ref f) (.ref y))
  exact k a _ (.inl rfl) e
 | ext φ=>obtain⟨p,⟨o,e⟩,st⟩:=x;exact⟨st _ _ p λo q=>k _ _ (.inl rfl) q,⟨o,k _ _ (.inl rfl) e⟩,st⟩
theorem HOk.lt(x:HOk P w H h)(e:H a=some o):a<h.objs.size:=(x a o e).lt
theorem HOk.fresh(x:HOk P w H h)(e:h.objs.size<=a):H a=none:=by
 cases q:H a with
 | none=>rfl
 | some u=>exact absurd (Nat.lt_of_lt_of_le (x.lt q) e) (Nat.lt_irrefl _)
theorem HOk.kept(x:HOk P w H h)(k:∀b u,h.get? b=some u->h'.get? b=some u):HOk P w H h':=λa o e=>
 (x a o e).stay (λb u _ q=>k b u q) (λ_ q=>q) λ_ _ q=>q
theorem HOk.laid(x:HOk P w H h)(k:∀b u,h.get? b=some u->h'.get? b=some u)(hp:h.objs.size<=a)(new:q0V P w (upd H a o) h' a o):HOk P w (upd H a o) h':=λb u e=>by
 have hn:=x.fresh hp
 by_cases hb:b=a
 ·subst hb;rw[q0t]at e;cases e;exact new
 ·rw[q0l hb]at e
  exact(x b u e).stay (λc v _ q=>k c v q) (λc q=>by rw[q0l (q0z q hn)];exact q) λc xs q=>by rw[q0l (q0z q hn)];exact q
end
def Rd(H:Hp)(a:Addr)(u:HO):Prop:=H a=some u\/∃o,H a=some (.frz o u)
theorem Rd.ok{P:Program}{w:World}{H:Hp}{h:Heap}{a:Addr}{u:HO}(r:Rd H a u)(x:HOk P w H h):q0V P w H h a u:=by
 rcases r with r | ⟨o,r⟩
 ·exact x a u r
 ·obtain⟨_,q⟩:=x a _ r
  exact q
def Mut:Option HO->Prop
 | some (.lst _)=>True
 | some (.dK _)=>True
 | some (.dT _)=>True
 | some (.set _ _)=>True
 | some (.ins _ _ _)=>True
 | some (.ext _)=>True
 | _=>False
section
variable {P:Program} {w:World} {H:Hp} {h h':Heap} {x e:Addr} {o':HO}
theorem HOk.write(ok:HOk P w H h)(mu:Mut (H x))(he:e=x\/H e=some (.own x))(k:∀b u,b≠e->h.get? b=some u->h'.get? b=some u)(heo:∃u,h'.get? e=some u)
  (new:q0V P w (upd H x o') h' x o'):HOk P w (upd H x o') h':=λb u q=>by
 have nown:∀c y,H c=some (.own y)->c≠x:=λc y r z=>by subst z;rw[r]at mu;exact mu
 have ntup:∀c xs,H c=some (.tup xs)->c≠x:=λc xs r z=>by subst z;rw[r]at mu;exact mu
 by_cases hb:b=x
 ·subst hb;rw[q0t]at q;cases q;exact new
 ·rw[q0l hb]at q
  by_cases hbe:b=e
  ·have q':H b=some (.own x):=by
    rcases he with z | z
    ·exact absurd (hbe.trans z) hb
    ·rw[hbe];exact z
   rw[q]at q';cases q'
   obtain⟨v,hv⟩:=heo
   exact⟨v,by rw[hbe];exact hv⟩
  ·refine(ok b u q).stay (λc v hc r=>k c v ?_ r) (λc r=>by rw[q0l (nown c b r)];exact r) λc xs r=>by rw[q0l (ntup c xs r)];exact r
   rcases hc with rfl | hc
   ·exact hbe
   ·rintro rfl
    rcases he with z | z
    ·exact nown c b hc z
    ·rw[hc]at z;cases z;exact hb rfl
end
structure Un(fs ex:List Addr)(H H':Hp)(h h':Heap):Prop where
 keep:∀b o,h.get? b=some o->H b=none->b∉fs->b∉ex->h'.get? b=some o
 slot:∀b o,h.get? b=some o->H b=none->b∈fs->b∉ex->∃sl,h'.get? b=some {o with slots:=sl}
 free:∀b o,h.get? b=some o->H b=none->b∉ex->H' b=none
 there:∀b o,h.get? b=some o->b∉ex->∃o',h'.get? b=some o'
 tups:∀b xs,H b=some (.tup xs)->H' b=some (.tup xs)
 frzs:∀b o u,H b=some (.frz o u)->H' b=some (.frz o u)
 tbls:∀b ps,H b=some (.tbl ps)->∃more,H' b=some (.tbl (ps++more))
section
variable {fs fs' ex ex':List Addr} {H H1 H2:Hp} {h h1 h2 h':Heap} {a x e:Addr} {o:HO}
theorem Un.any(u:Un fs ex H H1 h h1){b:Addr}{ob:Obj}(q:h.get? b=some ob)(n:H b=none)(hx:b∉ex):∃sl,h1.get? b=some {ob with slots:=sl}:=by
 by_cases hb:b∈fs
 ·exact u.slot b ob q n hb hx
 ·exact⟨ob.slots,u.keep b ob q n hb hx⟩
theorem Un.kept(k:∀b u,h.get? b=some u->h'.get? b=some u):Un fs ex H H h h':=
 ⟨λb ob q _ _ _=>k b ob q,λb ob q _ _ _=>⟨ob.slots,k b ob q⟩,λ_ _ _ n _=>n,λb ob q _=>⟨ob,k b ob q⟩,λ_ _ q=>q,λ_ _ _ q=>q,λ_ ps q=>⟨#[],by rw[q];simp⟩⟩
theorem Un.refl:Un fs ex H H h h:=Un.kept λ_ _ q=>q
theorem Un.laid(k:∀b u,h.get? b=some u->h'.get? b=some u)(hp:h.objs.size<=a)(hn:H a=none):Un fs ex H (upd H a o) h h' where
 keep:=λb u q _ _ _=>k b u q
 slot:=λb u q _ _ _=>⟨u.slots,k b u q⟩
 free:=λb u q n _=>by rw[q0l (Nat.ne_of_lt (Nat.lt_of_lt_of_le (Heap.lt_size q) hp))];exact n
 there:=λb u q _=>⟨u,k b u q⟩
 tups:=λb xs q=>by rw[q0l (q0z q hn)];exact q
 frzs:=λb u xs q=>by rw[q0l (q0z q hn)];exact q
 tbls:=λb ps q=>⟨#[],by rw[q0l (q0z q hn),q];simp⟩
theorem Un.write(mu:Mut (H x))(he:e=x\/H e=some (.own x))(k:∀b u,b≠e->h.get? b=some u->h'.get? b=some u)(heo:∃u,h'.get? e=some u):Un fs ex H (upd H x o) h h':=by
 have hx:∀b,H b=none->b≠x:=λb n z=>by subst z;rw[n]at mu;exact mu
 have hb:∀b,H b=none->b≠e:=λb n z=>by
  subst z
  rcases he with r | r
  ·exact hx b n r
  ·rw[n]at r;cases r
 have hm:∀b u,H b=some u->¬Mut (some u)->b≠x:=λb u q nm z=>by subst z;rw[q]at mu;exact nm mu
 refine⟨λb u q n _ _=>k b u (hb b n) q,λb u q n _ _=>⟨u.slots,k b u (hb b n) q⟩,λb u q n _=>by rw[q0l (hx b n)];exact n,λb u q _=>?_,
  λb xs q=>by rw[q0l (hm b _ q λz=>z)];exact q,λb u xs q=>by rw[q0l (hm b _ q λz=>z)];exact q,λb ps q=>⟨#[],by rw[q0l (hm b _ q λz=>z),q];simp⟩⟩
 by_cases hbe:b=e
 ·subst hbe;exact heo
 ·exact⟨u,k b u hbe q⟩
end
def trk(h:Heap)(H:Hp):List Addr:=(List.range h.objs.size).filter λa=>(H a).isSome
def hidT(h:Heap)(H:Hp):Heap:=PySem.W.hideAll h (trk h H)
theorem z1y(h:Heap)(H:Hp):(hidT h H).objs.size=h.objs.size:=PySem.W.hideAll_size _ _
theorem z3N{h:Heap}{H:Hp}{b:Addr}{o:Obj}(e:h.get? b=some o)(n:H b=none):(hidT h H).get? b=some o:=
 PySem.W.hideAll_get _ e λhm=>by
  have q:(H b).isSome=true:=(List.mem_filter.mp hm).2
  rw[n]at q;simp at q
theorem z5L{h:Heap}{H:Hp}{b:Addr}{o:Obj}(e:(hidT h H).get? b=some o):h.get? b=some o/\H b=none:=by
 have e':h.get? b=some o:=PySem.W.of_hideAll (trk h H) e
 refine⟨e',?_⟩
 cases q:H b with
 | none=>rfl
 | some x=>
  have hm:b∈trk h H:=List.mem_filter.mpr ⟨List.mem_range.mpr (Heap.lt_size e'),by simp[q]⟩
  have z:(hidT h H).get? b=none:=PySem.W.hideAll_none (trk h H) hm
  rw[z]at e;cases e
def z6X(g h:Heap)(L:Addr):List (Addr×Obj):=(List.range h.objs.size).filterMap λa=>if a=L\/(g.get? a).isSome=true then none else(h.get? a).map λo=>(a,o)
def rest(g h:Heap)(L d:Addr):List (Addr×Obj):=(z6X g h L).filter λp=>decide (p.1≠d)
end L2
namespace L2
open PySem PySem.Spec PyProof.Rows
structure Mod(K:PySem.W.Frag)(mg:Str->Option Value)(base:Heap):Prop where
 kin:K.In base
 glob:base.Ns mainGlobals mg
 blt:∃mb,base.Ns builtinsNs mb/\∀x:Str,x ≠ "__name__" -> mb x=bootBuiltins x
 nolimit:base.NoLimit
structure Cx where
 prog:Program
 w:World
 K:PySem.W.Frag
 mg:Str->Option Value
 base:Heap
 A:Around
 N:List Str
 s₀:Shared
 H₀:Hp
 env:Env
 outer:List Env
 stack:List Env
 ex:List Addr
 fn:Str->Bool
 calm:Bool
 pn:List (Addr×Obj)
 xe:Value->Shared->Prop
def frs(l:List Env):List Addr:=l.filterMap (·.frame)
abbrev Cx.fs(X:Cx):List Addr:=frs X.outer
def Vis(sc:Scope)(x:Str):Prop:=sc.names.lookup x=some .local\/sc.names.lookup x=some .cell\/sc.names.lookup x=some .free
def Loc(sc:Scope)(x:Str):Prop:=sc.names.lookup x=some .local\/sc.names.lookup x=some .cell
def Look(env:Env)(h:Heap)(m:Str->Option Value)(x:Str)(u:Value):Prop:=
 (env.kindOf x=some .local/\m x=some u)\/((env.kindOf x=some .cell\/env.kindOf x=some .free)/\∃c,env.cells.lookup x=some c/\h.IsCell c (some u))
structure Cx.Ok(X:Cx):Prop where
 mod:Mod X.K X.mg X.base
 kind:X.env.scope.kind=.function
 glob:X.env.globals=mainGlobals
 blt:X.env.builtins=builtinsNs
 above:X.s₀.heap.objs.size<=X.env.locals
 inj:∀x y c,X.env.cells.lookup x=some c->X.env.cells.lookup y=some c->x=y
 has:∀x,(X.env.kindOf x=some .cell\/X.env.kindOf x=some .free)->∃c,X.env.cells.lookup x=some c
 cab:∀x c,X.fn x=true->X.env.cells.lookup x=some c->X.s₀.heap.objs.size<=c
 hd:X.calm=true->X.A.handled=none
 frames:X.A.frames=some X.stack
 stk:X.stack=X.outer\/(X.stack=X.env::X.outer/\X.env.frame=some X.env.locals)
 exf:∀b∈X.ex,b≠X.env.locals/\∀x c,X.env.cells.lookup x=some c->c≠b
 bs:∀b o,X.base.get? b=some o->X.s₀.heap.get? b=some o/\X.H₀ b=none
 bsz:X.base.objs.size<=X.s₀.heap.objs.size
 noex:∀b o,X.base.get? b=some o->b∉X.ex
 exfs:∀b∈X.ex,b∉X.fs
 funs:X.s₀.heap.FunFrames X.base X.outer
 frf:∀b∈X.fs,X.H₀ b=none
structure Inv(X:Cx)(pins:List (Addr×Obj))(σ:List (Option V))(H:Hp)(s:Shared):Prop where
 ok:X.Ok
 os:s.os=X.s₀.os
 bare:AllBare s.gens
 base:Un X.fs X.ex X.H₀ H X.s₀.heap s.heap
 loc:∃m,s.heap.Ns X.env.locals m/\∀(i:Nat) (x:Str) (v:V),X.N[i]? = some x->σ[i]? = some (some v)->Vis X.env.scope x->∃u,RelV v u/\Look X.env s.heap m x u
 cell:∀x c,X.env.cells.lookup x=some c->∃v,s.heap.IsCell c v
 free:H X.env.locals=none
 freeC:∀x c,X.env.cells.lookup x=some c->H c=none
 pin:∀p∈X.pn++pins,s.heap.get? p.1=some p.2/\H p.1=none/\p.1≠X.env.locals/\p.1∉X.fs/\∀v,p.2.data ≠ .cell v
 hok:HOk X.prog X.w H s.heap
 len:σ.length=X.N.length
section
variable {X:Cx} {pins:List (Addr×Obj)} {σ:List (Option V)} {H H':Hp} {s:Shared} {h':Heap}
theorem Cx.Ok.nofr(ok:X.Ok){b:Addr}{o:Obj}(e:X.base.get? b=some o):b∉X.fs:=λhb=>by
 have:=(ok.funs.mem hb).1
 rw[e]at this;cases this
theorem Inv.bs(I:Inv X pins σ H s):∀b o,X.base.get? b=some o->s.heap.get? b=some o/\H b=none:=λb o e=>
 ⟨I.base.keep b o (I.ok.bs b o e).1 (I.ok.bs b o e).2 (I.ok.nofr e) (I.ok.noex b o e),I.base.free b o (I.ok.bs b o e).1 (I.ok.bs b o e).2 (I.ok.noex b o e)⟩
theorem Inv.bk(I:Inv X pins σ H s):∀b o,X.base.get? b=some o->s.heap.get? b=some o:=λb o e=>(I.bs b o e).1
theorem Inv.mod(I:Inv X pins σ H s):Mod X.K X.mg X.base:=I.ok.mod
theorem Inv.kIn(I:Inv X pins σ H s):X.K.In s.heap:=I.ok.mod.kin.keeps I.bk
theorem Inv.lt(I:Inv X pins σ H s):X.env.locals<s.heap.objs.size:=let ⟨_,hn,_⟩:=I.loc;hn.lt
theorem Inv.sz(I:Inv X pins σ H s):X.s₀.heap.objs.size<=s.heap.objs.size:=Nat.le_trans I.ok.above (Nat.le_of_lt I.lt)
theorem Inv.nofs(I:Inv X pins σ H s){a:Addr}(h:s.heap.objs.size<=a):a∉X.fs:=λhb=>by
 obtain⟨_,o,ho,_⟩:=I.ok.funs.mem hb
 exact absurd (Nat.lt_of_lt_of_le (Heap.lt_size ho) (Nat.le_trans I.sz h)) (Nat.lt_irrefl _)
theorem Inv.cne(I:Inv X pins σ H s):∀x c,X.env.cells.lookup x=some c->c≠X.env.locals:=λx c e z=>by
 obtain⟨v,o,ho,hd⟩:=I.cell x c e
 obtain⟨m,⟨o',es,ep,ho',hd',_⟩,_⟩:=I.loc
 rw[z,ho']at ho;cases ho;rw[hd']at hd;cases hd
theorem Inv.funs(I:Inv X pins σ H s):s.heap.FunFrames X.base X.outer:=by
 have all:∀(l:List Env),(∀b∈frs l,b∈X.fs)->X.s₀.heap.FunFrames X.base l->s.heap.FunFrames X.base l:=by
  intro l
  induction l with
  | nil=>intro _ _;trivial
  | cons env r ih=>
   intro hs hl
   obtain⟨hk,⟨L,o,hf,hn,ho,hd⟩,hr⟩:=hl
   have hL:L∈X.fs:=hs L (by unfold frs;rw[List.filterMap_cons,hf];exact List.mem_cons_self)
   obtain⟨sl,e⟩:=I.base.slot L o ho (I.ok.frf L hL) hL λz=>I.ok.exfs L z hL
   exact⟨hk,⟨L,_,hf,hn,e,hd⟩,ih (λb hb=>hs b (by unfold frs;rw[List.filterMap_cons,hf];exact List.mem_cons_of_mem _ hb)) hr⟩
 exact all X.outer (λ_ hb=>hb) I.ok.funs
theorem Inv.stack(I:Inv X pins σ H s):s.heap.FunFrames X.base X.stack:=by
 rcases I.ok.stk with e | ⟨e,hf⟩
 ·rw[e];exact I.funs
 ·rw[e]
  obtain⟨m,hn,_⟩:=I.loc
  refine .cons (by rw[I.ok.kind];decide) hf hn ?_ I.funs
  exact Heap.get?_none_of_le (Nat.le_trans I.ok.bsz I.ok.above)
theorem Inv.stkSub(I:Inv X pins σ H s):∀b∈frs X.stack,b∈X.env.locals::X.fs:=λb hb=>by
 rcases I.ok.stk with e | ⟨e,hf⟩
 ·rw[e]at hb;exact List.mem_cons_of_mem _ hb
 ·rw[e]at hb
  unfold frs at hb
  rw[List.filterMap_cons,hf]at hb
  exact hb
theorem Inv.stkFree(I:Inv X pins σ H s):∀b∈frs X.stack,H b=none:=λb hb=>by
 rcases List.mem_cons.mp (I.stkSub b hb)with e | hb
 ·rw[e];exact I.free
 ·obtain⟨_,o,ho,_⟩:=I.ok.funs.mem hb
  exact I.base.free b o ho (I.ok.frf b hb) λz=>I.ok.exfs b z hb
theorem Inv.step{g':Array GenState}{t':Nat}{d':Drawn}{ch:List Addr}(I:Inv X pins σ H s)
  (hch:∀b∈ch,(b∈X.ex\/X.s₀.heap.objs.size<=b)/\b≠X.env.locals/\(∀x c,X.env.cells.lookup x=some c->c≠b)/\∀p∈X.pn++pins,p.1≠b)
  (keep:∀b o,b≠X.env.locals->b∉X.fs->b∉ch->s.heap.get? b=some o->H b=none->h'.get? b=some o)
  (slot:∀b o,b≠X.env.locals->b∈X.fs->b∉ch->s.heap.get? b=some o->H b=none->∃sl,h'.get? b=some {o with slots:=sl}) (free:∀b o,b∉ch->s.heap.get? b=some o->H b=none->H' b=none)
  (there:∀b o,b∉ch->s.heap.get? b=some o->∃o',h'.get? b=some o')
  (tups:∀b xs,H b=some (.tup xs)->H' b=some (.tup xs)) (frzs:∀b o u,H b=some (.frz o u)->H' b=some (.frz o u)) (tbls:∀b ps,H b=some (.tbl ps)->∃more,H' b=some (.tbl (ps++more)))
  (ns:∀m,s.heap.Ns X.env.locals m->h'.Ns X.env.locals m) (hok:HOk X.prog X.w H' h') (hg:AllBare g') :
  Inv X pins σ H' {s with heap:=h',gens:=g',drawn:=d',toks:=t'}:=by
 have neL:∀b o,X.s₀.heap.get? b=some o->b≠X.env.locals:=λb o e=>Nat.ne_of_lt (Nat.lt_of_lt_of_le (Heap.lt_size e) I.ok.above)
 have neC:∀b o,X.s₀.heap.get? b=some o->b∉X.ex->b∉ch:=λb o e hx hb=>by
  rcases(hch b hb).1 with z | z
  ·exact hx z
  ·exact absurd (Nat.lt_of_lt_of_le (Heap.lt_size e) z) (Nat.lt_irrefl _)
 have cellK:∀x c,X.env.cells.lookup x=some c->∀v,s.heap.IsCell c v->h'.IsCell c v:=λx c e v ⟨o,ho,hd⟩=>by
  have nch:c∉ch:=λz=>(hch c z).2.2.1 x c e rfl
  by_cases hc:c∈X.fs
  ·obtain⟨sl,q⟩:=slot c o (I.cne x c e) hc nch ho (I.freeC x c e)
   exact⟨_,q,hd⟩
  ·exact⟨o,keep c o (I.cne x c e) hc nch ho (I.freeC x c e),hd⟩
 refine⟨I.ok,I.os,hg,⟨λb o e n hb hx=>?_,λb o e n hb hx=>?_,λb o e n hx=>?_,λb o e hx=>?_,λb xs e=>tups b xs (I.base.tups b xs e),λb o xs e=>frzs b o xs (I.base.frzs b o xs e),λb ps e=>?_⟩,?_,λx c e=>?_,?_,λx c e=>?_,λp hp=>?_,hok,I.len⟩
 ·exact keep b o (neL b o e) hb (neC b o e hx) (I.base.keep b o e n hb hx) (I.base.free b o e n hx)
 ·obtain⟨sl,e1⟩:=I.base.slot b o e n hb hx
  obtain⟨sl',e2⟩:=slot b _ (neL b o e) hb (neC b o e hx) e1 (I.base.free b o e n hx)
  exact⟨sl',e2⟩
 ·obtain⟨o',e1⟩:=I.base.there b o e hx
  exact free b o' (neC b o e hx) e1 (I.base.free b o e n hx)
 ·obtain⟨o',e1⟩:=I.base.there b o e hx
  exact there b o' (neC b o e hx) e1
 ·obtain⟨m1,e1⟩:=I.base.tbls b ps e
  obtain⟨m2,e2⟩:=tbls b _ e1
  exact⟨m1++m2,by rw[e2,Array.append_assoc]⟩
 ·obtain⟨m,hn,hl⟩:=I.loc
  refine⟨m,ns m hn,λi x v e1 e2 e3=>?_⟩
  obtain⟨u,r,l⟩:=hl i x v e1 e2 e3
  refine⟨u,r,?_⟩
  rcases l with l | ⟨k,c,e,z⟩
  ·exact .inl l
  ·exact .inr ⟨k,c,e,cellK x c e _ z⟩
 ·obtain⟨v,z⟩:=I.cell x c e
  exact⟨v,cellK x c e v z⟩
 ·obtain⟨m,⟨o,_,_,ho,_⟩,_⟩:=I.loc
  exact free _ o (λz=>(hch _ z).2.1 rfl) ho I.free
 ·obtain⟨v,o,ho,hd⟩:=I.cell x c e
  exact free c o (λz=>(hch c z).2.2.1 x c e rfl) ho (I.freeC x c e)
 ·obtain⟨e,n,ne,nf,d⟩:=I.pin p hp
  have nch:p.1∉ch:=λz=>(hch p.1 z).2.2.2 p hp rfl
  exact⟨keep p.1 p.2 ne nf nch e n,free p.1 p.2 nch e n,ne,nf,d⟩
theorem Inv.un{t':Nat}(I:Inv X pins σ H s)(u:Un X.fs [] H H' s.heap h')(hok:HOk X.prog X.w H' h'):Inv X pins σ H' {s with heap:=h',toks:=t'}:=by
 obtain⟨m,⟨o,es,ep,ho,r⟩,_⟩:=id I.loc
 obtain⟨sl,hL⟩:=u.any ho I.free (by simp)
 exact I.step (g':=s.gens) (d':=s.drawn) (ch:=[]) (λ_ z=>nomatch z) (λb o _ hb _ e n=>u.keep b o e n hb (by simp)) (λb o _ hb _ e n=>u.slot b o e n hb (by simp)) (λb o _ e n=>u.free b o e n (by simp)) (λb o _ e=>u.there b o e (by simp)) u.tups u.frzs u.tbls (λm' hm=>by
  obtain⟨o',es',ep',ho',r'⟩:=hm
  rw[ho]at ho';cases ho'
  exact⟨_,es',ep',hL,r'⟩) hok I.bare
theorem Inv.call{g':Array GenState}{t':Nat}{d':Drawn}{ch:List Addr}(I:Inv X pins σ H s)(u:Un (frs X.stack) ch H H' s.heap h')(hok:HOk X.prog X.w H' h')(hg:AllBare g')
  (hch:∀b∈ch,(b∈X.ex\/X.s₀.heap.objs.size<=b)/\b≠X.env.locals/\(∀x c,X.env.cells.lookup x=some c->c≠b)/\∀p∈X.pn++pins,p.1≠b) :
  Inv X pins σ H' {s with heap:=h',gens:=g',drawn:=d',toks:=t'}:=by
 obtain⟨m,⟨o,es,ep,ho,r⟩,_⟩:=id I.loc
 obtain⟨sl,hL⟩:=u.any ho I.free λz=>(hch _ z).2.1 rfl
 exact I.step (ch:=ch) hch (λb o hL hb hc e n=>u.keep b o e n (λz=>(List.mem_cons.mp (I.stkSub b z)).elim hL hb) hc) (λb o _ _ hc e n=>u.any e n hc) (λb o hc e n=>u.free b o e n hc) (λb o hc e=>u.there b o e hc) u.tups u.frzs u.tbls (λm' hm=>by
  obtain⟨o',es',ep',ho',r'⟩:=hm
  rw[ho]at ho';cases ho'
  exact⟨_,es',ep',hL,r'⟩) hok hg
theorem Inv.turned{t':Nat}{it:Addr}(I:Inv X pins σ H s)(k:∀b o,b≠it->s.heap.get? b=some o->h'.get? b=some o)(hn:H it=none)(hL:it≠X.env.locals)
  (h1:it∈X.ex\/X.s₀.heap.objs.size<=it) (h2:∀x c,X.env.cells.lookup x=some c->c≠it) (h3:∀p∈X.pn++pins,p.1≠it):Inv X pins σ H {s with heap:=h',toks:=t'}:=by
 have nit:∀b u,H b=some u->b≠it:=λb u e z=>by rw[z,hn]at e;cases e
 refine I.step (g':=s.gens) (d':=s.drawn) (ch:=[it]) (λb hb=>?_) (λb o _ _ hc e _=>k b o (λz=>hc (by simp[z])) e) (λb o _ _ hc e _=>⟨o.slots,k b o (λz=>hc (by simp[z])) e⟩) (λ_ _ _ _ n=>n)
  (λb o hc e=>⟨o,k b o (λz=>hc (by simp[z])) e⟩) (λ_ _ e=>e) (λ_ _ _ e=>e) (λb ps e=>⟨#[],by rw[e];simp⟩) (λm hm=>?_) (λb u e=>?_) I.bare
 ·have e:b=it:=by simpa using hb
  subst e
  exact⟨h1,hL,h2,h3⟩
 ·obtain⟨o,es,ep,ho,r⟩:=hm
  exact⟨o,es,ep,k _ o (Ne.symm hL) ho,r⟩
 ·refine(I.hok b u e).stay (λc v hc q=>k c v ?_ q) (λ_ q=>q) λ_ _ q=>q
  rcases hc with z | z
  ·rw[z];exact nit b u e
  ·exact nit c _ z
theorem Inv.tok(I:Inv X pins σ H s)(t:Nat):Inv X pins σ H {s with toks:=t}:=I.un (h':=s.heap) (t':=t) Un.refl I.hok
theorem Inv.kept{t':Nat}(I:Inv X pins σ H s)(k:∀b u,s.heap.get? b=some u->h'.get? b=some u):Inv X pins σ H {s with heap:=h',toks:=t'}:=I.un (Un.kept k) (I.hok.kept k)
theorem Inv.laid{a:Addr}{o:HO}{t':Nat}(I:Inv X pins σ H s)(k:∀b u,s.heap.get? b=some u->h'.get? b=some u)(hp:s.heap.objs.size<=a)(new:q0V X.prog X.w (upd H a o) h' a o) :
  Inv X pins σ (upd H a o) {s with heap:=h',toks:=t'}:=I.un (Un.laid k hp (I.hok.fresh hp)) (I.hok.laid k hp new)
theorem Inv.write{x e:Addr}{o:HO}{t':Nat}(I:Inv X pins σ H s)(mu:Mut (H x))(he:e=x\/H e=some (.own x))(k:∀b u,b≠e->s.heap.get? b=some u->h'.get? b=some u)(heo:∃u,h'.get? e=some u)
  (new:q0V X.prog X.w (upd H x o) h' x o):Inv X pins σ (upd H x o) {s with heap:=h',toks:=t'}:=I.un (Un.write mu he k heo) (I.hok.write mu he k heo new)
theorem Inv.pins_of{pins':List (Addr×Obj)}(I:Inv X pins σ H s)(h:∀p∈pins',s.heap.get? p.1=some p.2/\H p.1=none/\p.1≠X.env.locals/\p.1∉X.fs/\∀v,p.2.data ≠ .cell v):Inv X pins' σ H s:=
 ⟨I.ok,I.os,I.bare,I.base,I.loc,I.cell,I.free,I.freeC,λp hp=>(List.mem_append.mp hp).elim (λz=>I.pin p (List.mem_append_left _ z)) (h p),I.hok,I.len⟩
theorem q6b{N:List Str}(hN:N.Nodup){i j:Nat}{x:Str}(a:N[i]? = some x)(b:N[j]? = some x):i=j:=by
 obtain⟨h1,e1⟩:=List.getElem?_eq_some_iff.mp a
 obtain⟨h2,e2⟩:=List.getElem?_eq_some_iff.mp b
 exact(List.getElem_inj hN).mp (e1.trans e2.symm)
theorem q6A{M:Model}{A:Around}{E:Value->Shared->Prop}{i:Nat}{x:Str}{v:V}{u:Value}{Q:Unit->Shared->Prop}(I:Inv X pins σ H s)(hN:X.N.Nodup)(hi:X.N[i]? = some x)(hx:Loc X.env.scope x)(r:RelV v u)
  (h:∀s',Inv X pins (σ.set i (some v)) H s'->(∃a,Heap.SameBut a s.heap s'.heap/\(a=X.env.locals\/X.env.cells.lookup x=some a))->Q () s') (hf:X.fn x=true\/X.env.scope.names.lookup x=some .local:=by first | exact .inl rfl | exact .inr rfl | assumption):wpAny M A (storeName X.env x u) Q E s:=by
 obtain⟨m,hn,hl⟩:=id I.loc
 have hcls:(X.env.scope.kind == .class||(X.env.scope.kind == .module&&X.env.locals != X.env.globals))=false:=by rw[I.ok.kind];rfl
 have hiσ:i<σ.length:=by rw[I.len];exact(List.getElem?_eq_some_iff.mp hi).1
 have cne:=I.cne
 have tracked:∀{a:Addr} {h':Heap},(∃o,s.heap.get? a=some o/\H a=none)->Heap.SameBut a s.heap h'->HOk X.prog X.w H h':=λ{a h'} ha hs b ob e=>by
  obtain⟨_,_,hfree⟩:=ha
  refine(I.hok b ob e).stay (λc w' hc q=>(hs.2 c ?_).trans q) (λ_ q=>q) λ_ _ q=>q
  rintro rfl
  rcases hc with rfl | hc
  ·rw[hfree]at e;cases e
  ·rw[hfree]at hc;cases hc
 rcases hx with hk | hk
 ·refine wpAny_storeName_local hk hn (λh' hn' hs=>?_) hcls
  obtain⟨oL,_,_,hoL,_⟩:=id hn
  refine h _ ⟨I.ok,I.os,I.bare,⟨λb o e n hb hx=>?_,λb o e n hb hx=>?_,I.base.free,λb o e hx=>?_,I.base.tups,I.base.frzs,I.base.tbls⟩,⟨_,hn',λj y v' e1 e2 e3=>?_⟩,λy c e=>?_,I.free,I.freeC,λp hp=>?_,tracked ⟨oL,hoL,I.free⟩ hs,by simpa using I.len⟩ ⟨_,hs,.inl rfl⟩
  ·exact(hs.2 b (Nat.ne_of_lt (Nat.lt_of_lt_of_le (Heap.lt_size e) I.ok.above))).trans (I.base.keep b o e n hb hx)
  ·obtain⟨sl,e1⟩:=I.base.slot b o e n hb hx
   exact⟨sl,(hs.2 b (Nat.ne_of_lt (Nat.lt_of_lt_of_le (Heap.lt_size e) I.ok.above))).trans e1⟩
  ·obtain⟨o',e1⟩:=I.base.there b o e hx
   exact⟨o',(hs.2 b (Nat.ne_of_lt (Nat.lt_of_lt_of_le (Heap.lt_size e) I.ok.above))).trans e1⟩
  ·by_cases hj:j=i
   ·subst hj
    rw[hi]at e1;cases e1
    rw[List.getElem?_set_self hiσ]at e2
    cases e2
    exact⟨u,r,.inl ⟨hk,by simp⟩⟩
   ·rw[List.getElem?_set_ne (Ne.symm hj)]at e2
    obtain⟨u',r',q⟩:=hl j y v' e1 e2 e3
    refine⟨u',r',?_⟩
    rcases q with⟨k,e⟩ | ⟨k,c,e,z⟩
    ·refine .inl ⟨k,?_⟩
     have:y≠x:=λe=>hj (q6b hN e1 (e▸hi))
     simp[this,e]
    ·exact .inr ⟨k,c,e,z.sameBut hs (cne y c e)⟩
  ·obtain⟨w',z⟩:=I.cell y c e
   exact⟨w',z.sameBut hs (cne y c e)⟩
  ·obtain⟨e,n,ne,nf,d⟩:=I.pin p hp
   exact⟨(hs.2 p.1 ne).trans e,n,ne,nf,d⟩
 ·have hfn:X.fn x=true:=by
   rcases hf with z | z
   ·exact z
   ·rw[z]at hk;cases hk
  obtain⟨c,hc⟩:=I.ok.has x (.inl hk)
  obtain⟨w',z⟩:=I.cell x c hc
  refine wpAny_storeName_cell I.ok.kind hk hc z (λh' hc' hs=>?_)
  obtain⟨oc,hoc,hocd⟩:=id z
  refine h {s with heap:=h'} ⟨I.ok,I.os,I.bare,⟨λb o e n hb hx=>?_,λb o e n hb hx=>?_,I.base.free,λb o e hx=>?_,I.base.tups,I.base.frzs,I.base.tbls⟩,⟨m,hn.sameBut hs (Ne.symm (cne x c hc)),λj y v' e1 e2 e3=>?_⟩,λy c' e=>?_,I.free,I.freeC,λp hp=>?_,tracked ⟨oc,hoc,I.freeC x c hc⟩ hs,by simpa using I.len⟩ ⟨c,hs,.inr hc⟩
  ·exact(hs.2 b (Nat.ne_of_lt (Nat.lt_of_lt_of_le (Heap.lt_size e) (I.ok.cab x c hfn hc)))).trans (I.base.keep b o e n hb hx)
  ·obtain⟨sl,e1⟩:=I.base.slot b o e n hb hx
   exact⟨sl,(hs.2 b (Nat.ne_of_lt (Nat.lt_of_lt_of_le (Heap.lt_size e) (I.ok.cab x c hfn hc)))).trans e1⟩
  ·obtain⟨o',e1⟩:=I.base.there b o e hx
   exact⟨o',(hs.2 b (Nat.ne_of_lt (Nat.lt_of_lt_of_le (Heap.lt_size e) (I.ok.cab x c hfn hc)))).trans e1⟩
  ·by_cases hj:j=i
   ·subst hj
    rw[hi]at e1;cases e1
    rw[List.getElem?_set_self hiσ]at e2
    cases e2
    exact⟨u,r,.inr ⟨.inl hk,c,hc,hc'⟩⟩
   ·rw[List.getElem?_set_ne (Ne.symm hj)]at e2
    obtain⟨u',r',q⟩:=hl j y v' e1 e2 e3
    refine⟨u',r',?_⟩
    rcases q with q | ⟨k,c',e,z'⟩
    ·exact .inl q
    ·refine .inr ⟨k,c',e,z'.sameBut hs ?_⟩
     rintro rfl
     exact hj (q6b hN e1 (I.ok.inj _ _ _ e hc▸hi))
  ·by_cases hcc:c'=c
   ·subst hcc;exact⟨_,hc'⟩
   ·obtain⟨w2,z2⟩:=I.cell y c' e
    exact⟨w2,z2.sameBut hs hcc⟩
  ·obtain⟨e,n,ne,nf,d⟩:=I.pin p hp
   refine⟨(hs.2 p.1 ?_).trans e,n,ne,nf,d⟩
   intro q
   rw[q,hoc]at e
   have q':oc=p.2:=Option.some.inj e
   exact d w' (by rw[←q'];exact hocd)
theorem q8V{M:Model}{A:Around}{E:Value->Shared->Prop}{i:Nat}{x:Str}{v:V}{u:Value}{Q:Unit->Shared->Prop}(I:Inv X pins σ H s)(hN:X.N.Nodup)(hi:X.N[i]? = some x)(hx:Loc X.env.scope x)(r:RelV v u)
  (h:∀s',Inv X pins (σ.set i (some v)) H s'->Q () s') (hf:X.fn x=true\/X.env.scope.names.lookup x=some .local:=by first | exact .inl rfl | exact .inr rfl | assumption):wpAny M A (storeName X.env x u) Q E s:=
 q6A I hN hi hx r (λs' I' _=>h s' I') hf
theorem Inv.call'{s':Shared}{ch:List Addr}(I:Inv X pins σ H s)(ho:s'.os=s.os)(u:Un (frs X.stack) ch H H' s.heap s'.heap)(hok:HOk X.prog X.w H' s'.heap)(hg:AllBare s'.gens)
  (hch:∀b∈ch,(b∈X.ex\/X.s₀.heap.objs.size<=b)/\b≠X.env.locals/\(∀x c,X.env.cells.lookup x=some c->c≠b)/\∀p∈X.pn++pins,p.1≠b):Inv X pins σ H' s':=by
 obtain⟨h',g',d',t',o'⟩:=s'
 have e:o'=s.os:=ho
 subst e
 exact I.call (g':=g') (t':=t') (d':=d') u hok hg hch
end
abbrev XK:=Value->Option Addr->Hp->Prop
abbrev St:=List (Option V)
abbrev VK:=V->Hp->Prop
abbrev TE:=St->Hp->VK->Prop
abbrev TT:=St->Hp->(Bool->Hp->Prop)->Prop
abbrev TA:=St->Hp->(List V->Hp->Prop)->Prop
structure Ends where
 nx:St->Hp->Prop
 rt:VK
 bk:St->Hp->Prop:=λ_ _=>False
 ct:St->Hp->Prop:=λ_ _=>False
abbrev TS:=Ends->St->Hp->Prop
def EP(X:Cx)(pins:List (Addr×Obj))(σ:St)(Q:VK)(u:Value)(s':Shared):Prop:=∃v H',Inv X pins σ H' s'/\RelV v u/\Q v H'
def TP(X:Cx)(pins:List (Addr×Obj))(σ:St)(Q:Bool->Hp->Prop)(b:Bool)(s':Shared):Prop:=∃H',Inv X pins σ H' s'/\Q b H'
def AP(X:Cx)(pins:List (Addr×Obj))(σ:St)(Q:List V->Hp->Prop)(us:List Value)(s':Shared):Prop:=∃vs H',Inv X pins σ H' s'/\Vals vs us/\Q vs H'
def SP(X:Cx)(pins:List (Addr×Obj))(D:Ends)(f:Flow)(s':Shared):Prop:=
 match f with
 | .next=>∃σ' H',Inv X pins σ' H' s'/\D.nx σ' H'
 | .brk=>∃σ' H',Inv X pins σ' H' s'/\D.bk σ' H'
 | .cont=>∃σ' H',Inv X pins σ' H' s'/\D.ct σ' H'
 | .ret u=>∃v σ' H',Inv X pins σ' H' s'/\RelV v u/\D.rt v H'
def PE(X:Cx)(e:Expr)(t:TE):Prop:=
 ∀(pins:List (Addr×Obj)) (s:Shared) (σ:St) (H:Hp) (Q:VK),Inv X pins σ H s->t σ H Q->wpAny (model X.prog X.w) X.A (eval e X.env) (EP X pins σ Q) X.xe s
def PT(X:Cx)(e:Expr)(t:TT):Prop:=
 ∀(pins:List (Addr×Obj)) (s:Shared) (σ:St) (H:Hp) (Q:Bool->Hp->Prop),Inv X pins σ H s->t σ H Q->wpAny (model X.prog X.w) X.A (isTrue e X.env (eval e X.env)) (TP X pins σ Q) X.xe s
def PW(X:Cx)(e:Expr)(t:TT):Prop:=
 ∀(whole:Sem Value) (pins:List (Addr×Obj)) (s:Shared) (σ:St) (H:Hp) (Q:Bool->Hp->Prop),Inv X pins σ H s->t σ H Q->wpAny (model X.prog X.w) X.A (isTrue e X.env whole) (TP X pins σ Q) X.xe s
theorem PW.pt{X:Cx}{e:Expr}{t:TT}(h:PW X e t):PT X e t:=h _
def PA(X:Cx)(es:List Expr)(t:TA):Prop:=
 ∀(pos:Pos) (pins:List (Addr×Obj)) (s:Shared) (σ:St) (H:Hp) (Q:List V->Hp->Prop),Inv X pins σ H s->t σ H Q->wpAny (model X.prog X.w) X.A (spliced (backTo pos (starEach es X.env))) (AP X pins σ Q) X.xe s
def PS(X:Cx)(st:Stmt)(t:TS):Prop:=
 ∀(pins:List (Addr×Obj)) (s:Shared) (σ:St) (H:Hp) (D:Ends),Inv X pins σ H s->t D σ H->wpAny (model X.prog X.w) X.A (exec st X.env) (SP X pins D) X.xe s
def PSs(X:Cx)(st:List Stmt)(t:TS):Prop:=
 ∀(pins:List (Addr×Obj)) (s:Shared) (σ:St) (H:Hp) (D:Ends),Inv X pins σ H s->t D σ H->wpAny (model X.prog X.w) X.A (execs st X.env) (SP X pins D) X.xe s
theorem thn{α:Type}{t:Sem α}{Q Q':α->Shared->Prop}{M:Model}{A:Around}{E:Value->Shared->Prop}{s:Shared}(h:wpAny M A t Q E s)(hQ:∀a s,Q a s->Q' a s):wpAny M A t Q' E s:=wpAny_mono h hQ λ_ _ x=>x
end L2
namespace L2
open PySem PySem.Spec PyProof.Rows
section
variable {X:Cx}
theorem bin{a b:Expr}{ta tb:TE}(ha:PE X a ta)(hb:PE X b tb){pins:List (Addr×Obj)}{s:Shared}{σ:St}{H:Hp}{R:V->V->Hp->Prop}(I:Inv X pins σ H s)(h:ta σ H λx H1=>tb σ H1 λy H2=>R x y H2)
  {α:Type} {Q:α->Shared->Prop} {f:Value->Value->Sem α}
  (hf:∀v u s2 x y H2,Inv X pins σ H2 s2->RelV x v->RelV y u->R x y H2->wpAny (model X.prog X.w) X.A (f v u) Q X.xe s2) :
  wpAny (model X.prog X.w) X.A (eval a X.env) (λv s₁=>wpAny (model X.prog X.w) X.A (eval b X.env) (λu s₂=>wpAny (model X.prog X.w) X.A (f v u) Q X.xe s₂) X.xe s₁) X.xe s:=by
 refine thn (ha pins s σ H _ I h) λv s1 ⟨x,H1,I1,r1,q1⟩=>?_
 refine thn (hb pins s1 σ H1 _ I1 q1) λu s2 ⟨y,H2,I2,r2,q2⟩=>?_
 exact hf v u s2 x y H2 I2 r1 r2 q2
def tVar(i:Nat):TE:=λσ H Q=>∃v,σ[i]? = some (some v)/\Q v H
def tC(v:V):TE:=λ_ H Q=>Q v H
theorem q3V{i:Nat}{x:Str}{pos:Pos}(hN:X.N[i]? = some x)(hv:Vis X.env.scope x)(hd:(x==("__debug__" : Str))=false:=by decide)(hcd:(x==("__classdict__" : Str))=false:=by decide):PE X (.Name x pos) (tVar i):=by
 intro pins s σ H Q I h
 obtain⟨v,e,h⟩:=h
 obtain⟨m,hn,hl⟩:=I.loc
 obtain⟨u,r,l⟩:=hl i x v hN e hv
 have fin:EP X pins σ Q u s:=⟨v,H,I,r,h⟩
 rcases l with⟨hk,hm⟩ | ⟨hk,c,hc,hcell⟩
 ·exact wpAny_Name (wpAny_loadName_local I.ok.kind hk hn hm fin) hd
 ·rcases hk with hk | hk
  ·exact wpAny_Name (wpAny_loadName_cell I.ok.kind hk hc hcell fin) hd
  ·exact wpAny_Name (wpAny_loadName_free I.ok.kind hk hc hcell fin hcd) hd
theorem z7Q{i j pos}:PE X (.Constant (.int i) j pos) (tC (.int i)):=λ_ _ _ H _ I h=>wpAny_Constant_int ⟨.int i,H,I.tok _,⟨_,rfl⟩,h⟩
theorem y0i{b j pos}:PE X (.Constant (.bool b) j pos) (tC (.bl b)):=λ_ _ _ H _ I h=>Constant_bool ⟨.bl b,H,I,rfl,h⟩
theorem z8h{j pos}:PE X (.Constant .none j pos) (tC .non):=λ_ _ _ H _ I h=>Constant_none ⟨.non,H,I,rfl,h⟩
theorem z9N{x j pos}:PE X (.Constant (.str x) j pos) (tC (.str x)):=λ_ _ _ H _ I h=>Calls.Constant_str ⟨.str x,H,I.tok _,⟨_,rfl⟩,h⟩
def Gl(X:Cx)(x:Str):Prop:=X.env.kindOf x=some .globalImplicit
theorem q7W{E:Value->Shared->Prop}{pins:List (Addr×Obj)}{s:Shared}{σ:St}{H:Hp}{x:Str}{u:Value}{pos:Pos}{Q:Value->Shared->Prop}(I:Inv X pins σ H s)(hg:Gl X x)(hm:X.mg x=some u)(h:Q u s)
  (hd:(x==("__debug__" : Str))=false:=by decide):wpAny (model X.prog X.w) X.A (eval (.Name x pos) X.env) Q E s:=
 Calls.Name_function_global I.ok.kind hg (Calls.loadGlobal_global (by rw[I.ok.glob];exact I.mod.glob.keeps I.bk) hm h) hd
theorem q5p{E:Value->Shared->Prop}{pins:List (Addr×Obj)}{s:Shared}{σ:St}{H:Hp}{x:Str}{u:Value}{pos:Pos}{Q:Value->Shared->Prop}(I:Inv X pins σ H s)(hg:Gl X x)(hm:X.mg x=none)(hv:bootBuiltins x=some u)(h:Q u s)
  (hn:x ≠ "__name__":=by decide) (hd:(x==("__debug__" : Str))=false:=by decide):wpAny (model X.prog X.w) X.A (eval (.Name x pos) X.env) Q E s:=by
 obtain⟨mb,h1,h2⟩:=I.mod.blt
 exact Calls.Name_function_global I.ok.kind hg (Calls.loadGlobal_builtin (by rw[I.ok.glob];exact I.mod.glob.keeps I.bk) hm (by rw[I.ok.blt];exact h1.keeps I.bk) ((h2 x hn).trans hv) h) hd
theorem z5Z{x:Str}{v:V}{u:Value}{pos:Pos}(hg:Gl X x)(hm:X.mg x=some u)(r:RelV v u)(hd:(x==("__debug__" : Str))=false:=by decide):PE X (.Name x pos) (tC v):=
 λ_ _ _ H _ I h=>q7W I hg hm ⟨v,H,I,r,h⟩ hd
theorem q7S{x:Str}{v:V}{u:Value}{pos:Pos}(hg:Gl X x)(hm:X.mg x=none)(hv:bootBuiltins x=some u)(r:RelV v u)(hn:x ≠ "__name__":=by decide)(hd:(x==("__debug__" : Str))=false:=by decide):PE X (.Name x pos) (tC v):=
 λ_ _ _ H _ I h=>q5p I hg hm hv ⟨v,H,I,r,h⟩ hn hd
variable {a b:Expr} {ta tb:TE} {pos:Pos}
variable {tA tB':TT} {rest:List Expr}
def tAnd(t u:TT):TT:=λσ H Q=>t σ H λc H1=>if c=true then u σ H1 Q else Q false H1
def tOr(t u:TT):TT:=λσ H Q=>t σ H λc H1=>if c=true then Q true H1 else u σ H1 Q
def tNot(t:TT):TT:=λσ H Q=>t σ H λc H1=>Q (!c) H1
theorem z5t(ha:PT X a tA):PW X (.BoolOp .And [a] pos) tA:=by
 intro wh pins s σ H Q I h
 refine isTrue_and (thn (ha pins s σ H Q I h) λc s1 e=>?_)
 cases c with
 | true=>exact isTrue_and_nil e
 | false=>exact e
theorem z8Z(ha:PT X a tA):PW X (.BoolOp .Or [a] pos) tA:=by
 intro wh pins s σ H Q I h
 refine isTrue_or (thn (ha pins s σ H Q I h) λc s1 e=>?_)
 cases c with
 | false=>exact isTrue_or_nil e
 | true=>exact e
theorem z1v(ha:PT X a tA)(hb:PW X (.BoolOp .And (b::rest) pos) tB'):PW X (.BoolOp .And (a::b::rest) pos) (tAnd tA tB'):=by
 intro wh pins s σ H Q I h
 refine isTrue_and (thn (ha pins s σ H _ I h) λc s1 ⟨H1,I1,q1⟩=>?_)
 cases c with
 | true=>exact hb wh pins s1 σ H1 Q I1 q1
 | false=>exact⟨H1,I1,q1⟩
theorem z5z(ha:PT X a tA)(hb:PW X (.BoolOp .Or (b::rest) pos) tB'):PW X (.BoolOp .Or (a::b::rest) pos) (tOr tA tB'):=by
 intro wh pins s σ H Q I h
 refine isTrue_or (thn (ha pins s σ H _ I h) λc s1 ⟨H1,I1,q1⟩=>?_)
 cases c with
 | true=>exact⟨H1,I1,q1⟩
 | false=>exact hb wh pins s1 σ H1 Q I1 q1
theorem z4a(ha:PT X a tA):PT X (.UnaryOp .Not a pos) (tNot tA):=by
 intro pins s σ H Q I h
 exact isTrue_not (ha pins s σ H (λc H1=>Q (!c) H1) I h)
theorem z4I{op}{t:TE}(h:PE X a t):PE X (.BoolOp op [a] pos) t:=λpins s σ H Q I hw=>BoolOp_one (h pins s σ H Q I hw)
def tIf(t:TT)(ta tb:TE):TE:=λσ H Q=>t σ H λc H1=>if c=true then ta σ H1 Q else tb σ H1 Q
theorem q6l{c:Expr}(hc:PT X c tA)(ha:PE X a ta)(hb:PE X b tb):PE X (.IfExp c a b pos) (tIf tA ta tb):=by
 intro pins s σ H Q I h
 refine wpAny_IfExp (thn (hc pins s σ H _ I h) λd s1 ⟨H1,I1,q1⟩=>?_)
 cases d with
 | true=>exact ha pins s1 σ H1 Q I1 q1
 | false=>exact hb pins s1 σ H1 Q I1 q1
end
end L2
namespace L2
open PySem PySem.Spec PyProof.Rows
def SqL(K:PySem.W.Frag)(H:Hp)(a:Addr)(xs:List V):Prop:=
 Rd H a (.lst xs) \/
  ∃(o:Obj) (its:Array Value) (n:Nat),K.lookup a=some o/\o.cls=.type "list" /\ o.dict=none/\o.data=.seq its n/\its.size<=sizeLine/\Vals xs its.toList
def SqT(K:PySem.W.Frag)(H:Hp)(a:Addr)(xs:List V):Prop:=
 Rd H a (.tup xs) \/
  ∃(o:Obj) (its:Array Value) (n:Nat),K.lookup a=some o/\(o.cls=.type "tuple" /\ o.dict=none)/\o.data=.seq its n/\its.size<=sizeLine/\Vals xs its.toList
def absV:Value->Option V
 | .none=>some .non
 | .bool b=>some (.bl b)
 | .int i _=>some (.int i)
 | .str x _=>some (.str x)
 | .bytes b _=>some (.byt b)
 | .float b _=>some (.flt b)
 | .ref a=>some (.ref a)
 | .type n=>some (.ty n)
 | _=>none
theorem RelV.abs{x:V}{u:Value}(r:RelV x u):absV u=some x:=by
 cases x with
 | non=>cases r;rfl
 | bl _=>cases r;rfl
 | int _=>obtain⟨t,rfl⟩:=r;rfl
 | str _=>obtain⟨t,rfl⟩:=r;rfl
 | byt _=>obtain⟨t,rfl⟩:=r;rfl
 | flt _=>obtain⟨t,rfl⟩:=r;rfl
 | ref _=>cases r;rfl
 | ty _=>cases r;rfl
theorem RelV.inj{x y:V}{u:Value}(r:RelV x u)(q:RelV y u):x=y:=Option.some.inj (r.abs.symm.trans q.abs)
theorem Vals.inj{xs ys:List V}{us:List Value}(h:Vals xs us):Vals ys us->xs=ys:=by
 induction h generalizing ys with
 | nil=>intro t;cases t;rfl
 | cons r _ ih=>intro t;cases t with | cons r' t'=>rw[r.inj r',ih t']
section
variable {X:Cx} {pins:List (Addr×Obj)} {σ:St} {H:Hp} {s:Shared} {a:Addr} {xs ys:List V}
theorem SqL.of{K:PySem.W.Frag}(h:H a=some (.lst xs)):SqL K H a xs:=.inl (.inl h)
theorem SqT.of{K:PySem.W.Frag}(h:H a=some (.tup xs)):SqT K H a xs:=.inl (.inl h)
theorem Inv.list(I:Inv X pins σ H s)(h:SqL X.K H a xs):∃its:List Value,Vals xs its/\PlainL s.heap a its.toArray/\xs.length<=sizeLine:=by
 rcases h with h | ⟨o,its,n,hk,hc,hd,hs,hz,r⟩
 ·obtain⟨z,its,n,r,e⟩:=h.ok I.hok
  exact⟨its,r,⟨_,n,e,rfl,rfl,rfl⟩,z⟩
 ·refine⟨its.toList,r,⟨o,n,I.kIn a o hk,hc,hd,by simpa using hs⟩,?_⟩
  have e:=r.length
  simp only[Array.length_toList]at e
  omega
theorem Inv.tuple(I:Inv X pins σ H s)(h:SqT X.K H a xs):∃its:List Value,Vals xs its/\IsTup s.heap a its.toArray/\xs.length<=sizeLine:=by
 rcases h with h | ⟨o,its,n,hk,hc,hs,hz,r⟩
 ·obtain⟨z,its,r,p⟩:=h.ok I.hok
  exact⟨its,r,p.tup,z⟩
 ·refine⟨its.toList,r,⟨o,I.kIn a o hk,hc.1,n,by simpa using hs⟩,?_⟩
  have e:=r.length
  simp only[Array.length_toList]at e
  omega
theorem Inv.tupleN(I:Inv X pins σ H s)(h:SqT X.K H a xs):∃o,s.heap.get? a=some o/\o.cls=.type "tuple" /\ o.dict=none:=by
 rcases h with h | ⟨o,its,n,hk,hc,hs,hz,r⟩
 ·obtain⟨z,its,r,o,e,c,_⟩:=h.ok I.hok
  exact⟨o,e,c.1,c.2⟩
 ·exact⟨o,I.kIn a o hk,hc.1,hc.2⟩
theorem Inv.list_inj(I:Inv X pins σ H s)(h:SqL X.K H a xs)(h':SqL X.K H a ys):xs=ys:=by
 obtain⟨its,r,⟨o,n,e,_,_,d⟩,_⟩:=I.list h
 obtain⟨its',r',⟨o',n',e',_,_,d'⟩,_⟩:=I.list h'
 rw[e]at e';cases e'
 rw[d]at d'
 injection d' with d1 _
 have:its=its':=by simpa using congrArg Array.toList d1
 subst this
 exact r.inj r'
theorem Inv.tuple_inj(I:Inv X pins σ H s)(h:SqT X.K H a xs)(h':SqT X.K H a ys):xs=ys:=by
 obtain⟨its,r,⟨o,e,_,n,d⟩,_⟩:=I.tuple h
 obtain⟨its',r',⟨o',e',_,n',d'⟩,_⟩:=I.tuple h'
 rw[e]at e';cases e'
 rw[d]at d'
 injection d' with d1 _
 have:its=its':=by simpa using congrArg Array.toList d1
 subst this
 exact r.inj r'
end
section
variable {X:Cx} {pins:List (Addr×Obj)} {σ:St} {H:Hp} {s:Shared} {E:Value->Shared->Prop}
end
section
variable {X:Cx} {st:Stmt} {rest:List Stmt} {t u:TS} {e:Expr} {te:TE} {pos:Pos}
def y0d:TS:=λD σ H=>D.nx σ H
def tSeq(t u:TS):TS:=λD σ H=>t {D with nx:=u D} σ H
theorem z4V:PSs X [] y0d:=λ_ _ σ H _ I h=>wpAny_execs_nil ⟨σ,H,I,h⟩
theorem q4m(h1:PS X st t)(h2:PSs X rest u):PSs X (st::rest) (tSeq t u):=by
 intro pins s σ H D I h
 refine wpAny_execs_cons (thn (h1 pins s σ H {D with nx:=u D} I h) λf s1 q=>?_)
 cases f with
 | next=>
  obtain⟨σ',H',I',q⟩:=q
  exact h2 pins s1 σ' H' D I' q
 | ret v=>exact q
 | brk=>exact q
 | cont=>exact q
theorem Inv.quiet{pins:List (Addr×Obj)}{σ:St}{H:Hp}{s:Shared}(I:Inv X pins σ H s):interactive X.env=false:=by simp[interactive,I.ok.kind]
def y0O(te:TE):TS:=λD σ H=>te σ H λ_ H1=>D.nx σ H1
theorem q5I(he:PE X e te)(hs:swapsWith e none pos.line X.env=pure false:=by rfl):PS X (.Expr e pos) (y0O te):=by
 intro pins s σ H D I h
 exact wpAny_Expr_any (thn (he pins s σ H _ I h) λv s1 ⟨x,H1,I1,r1,q1⟩=>⟨σ,H1,I1,q1⟩) I.quiet hs
def tRet(te:TE):TS:=λD σ H=>te σ H D.rt
theorem q8D(he:PE X e te):PS X (.Return (some e) pos) (tRet te):=by
 intro pins s σ H D I h
 exact wpAny_Return_some (thn (he pins s σ H _ I h) λv s1 ⟨x,H1,I1,r1,q1⟩=>⟨x,σ,H1,I1,r1,q1⟩)
def tIfS(c:TT)(t u:TS):TS:=λD σ H=>c σ H λb H1=>if b=true then t D σ H1 else u D σ H1
theorem z7c{c:Expr}{a b:List Stmt}{tc:TT}(hc:PT X c tc)(ha:PSs X a t)(hb:PSs X b u):PS X (.If c a b pos) (tIfS tc t u):=by
 intro pins s σ H D I h
 refine wpAny_If (thn (hc pins s σ H _ I h) λd s1 ⟨H1,I1,q1⟩=>?_)
 cases d with
 | true=>exact ha pins s1 σ H1 D I1 q1
 | false=>exact hb pins s1 σ H1 D I1 q1
def z9J:TS:=λ_ _ _=>False
theorem q1K{sts:List Stmt}:PSs X sts z9J:=λ_ _ _ _ _ _ h=>h.elim
end
abbrev TG:=V->St->Hp->(St->Hp->Prop)->Prop
abbrev TGs:=List V->St->Hp->(St->Hp->Prop)->Prop
def PG(X:Cx)(target:Expr)(t:TG):Prop:=
 ∀(pins:List (Addr×Obj)) (s:Shared) (σ:St) (H:Hp) (v:V) (u:Value) (Q:St->Hp->Prop),Inv X pins σ H s->RelV v u->t v σ H Q ->
  wpAny (model X.prog X.w) X.A (assign target X.env u) (λ_ s'=>∃σ' H',Inv X pins σ' H' s'/\Q σ' H') X.xe s
def PGs(X:Cx)(ts:List Expr)(t:TGs):Prop:=
 ∀(pins:List (Addr×Obj)) (s:Shared) (σ:St) (H:Hp) (vs:List V) (us:List Value) (Q:St->Hp->Prop),Inv X pins σ H s->Vals vs us->t vs σ H Q ->
  wpAny (model X.prog X.w) X.A (assignInOrder ((assignEach ts X.env).map (·.2)) us) (λ_ s'=>∃σ' H',Inv X pins σ' H' s'/\Q σ' H') X.xe s
abbrev TSet:=V->V->V->Hp->(Hp->Prop)->Prop
def PSet(X:Cx)(t:TSet):Prop:=
 ∀(pins:List (Addr×Obj)) (s:Shared) (σ:St) (H:Hp) (o i v:V) (ov iv u:Value) (Q:Hp->Prop),Inv X pins σ H s->RelV o ov->RelV i iv->RelV v u->t o i v H Q ->
  wpAny (model X.prog X.w) X.A (setItem ov iv u) (λ_ s'=>∃H',Inv X pins σ H' s'/\Q H') X.xe s
section
variable {X:Cx} {pos:Pos}
def z0s(i:Nat):TG:=λv σ H Q=>Q (σ.set i (some v)) H
theorem z0x{i:Nat}{x:Str}(hN:X.N.Nodup)(hi:X.N[i]? = some x)(hx:Loc X.env.scope x)(hf:X.fn x=true\/X.env.scope.names.lookup x=some .local:=by first | exact .inl rfl | exact .inr rfl | assumption):PG X (.Name x pos) (z0s i):=by
 intro pins s σ H v u Q I r h
 exact wpAny_assign_Name (q8V I hN hi hx r (λs' I'=>⟨_,H,I',h⟩) hf)
def gNil:TGs:=λvs σ H Q=>vs=[]/\Q σ H
def z8G(t:TG)(u:TGs):TGs:=λvs σ H Q=>∃v r,vs=v::r/\t v σ H λσ' H'=>u r σ' H' Q
theorem z6W:PGs X [] gNil:=by
 intro pins s σ H vs us Q I r h
 obtain⟨e,h⟩:=h
 subst e
 cases r
 exact assignInOrder_nil ⟨σ,H,I,h⟩
theorem z3D{e:Expr}{es:List Expr}{t:TG}{u:TGs}(h1:PG X e t)(h2:PGs X es u)
  (hs:(assignEach (e::es) X.env).map (·.2)=assign e X.env::(assignEach es X.env).map (·.2):=by rfl):PGs X (e::es) (z8G t u):=by
 intro pins s σ H vs us Q I r h
 obtain⟨v,vr,e1,h⟩:=h
 subst e1
 cases r with
 | cons r rr=>
  rw[hs]
  refine assignInOrder_cons (thn (h1 pins s σ H _ _ _ I r h) λ_ s1 ⟨σ1,H1,I1,q1⟩=>?_)
  exact h2 pins s1 σ1 H1 _ _ Q I1 rr q1
def gTup(K:PySem.W.Frag)(n:Nat)(t:TGs):TG:=λv σ H Q=>∃a xs,v=.ref a/\SqT K H a xs/\xs.length=n/\t xs σ H Q
theorem z8n{es:List Expr}{k:Nat}{t:TGs}{n:Nat}(hc:X.calm=true)(h:PGs X es t)
  (hn:(assignEach es X.env).length=n:=by rfl) (hst:(assignEach es X.env).findIdx? (·.1)=none:=by rfl):PG X (.Tuple es k pos) (gTup X.K n t):=by
 intro pins s σ H v u Q I r hw
 obtain⟨a,xs,e1,hq,hl,hw⟩:=hw
 subst e1
 cases r
 obtain⟨its,rv,ht,hz⟩:=I.tuple hq
 refine assign_Tuple_tuple (I.ok.hd hc) ht (by simp[hn,←hl,rv.length]) hst λh' hx=>?_
 have I1:Inv X pins σ H {s with heap:=h'}:=I.kept (t':=s.toks) λb o e=>hx b o (Nat.ne_of_lt (Heap.lt_size e)) e
 exact h pins _ σ H xs _ Q I1 (by simpa using rv) hw
def gSub(to ti:TE)(t:TSet):TG:=λv σ H Q=>to σ H λo H1=>ti σ H1 λi H2=>t o i v H2 λH3=>Q σ H3
theorem z8s{o i:Expr}{to ti:TE}{t:TSet}(ho:PE X o to)(hi:PE X i ti)(hs:PSet X t)
  (ha:∀v,assign (.Subscript o i pos) X.env v=(do
   let ov ←holding [v] (eval o X.env)
   let iv ←holding [v,ov] (eval i X.env)
   standAt pos
   holding [v,ov,iv] (setItem ov iv v)
   release [v,ov,iv] []):=by intro _;rfl):PG X (.Subscript o i pos) (gSub to ti t):=by
 intro pins s σ H v u Q I r h
 rw[ha]
 refine wpAny_bind (wpAny_holding (thn (ho pins s σ H _ I h) λov s1 ⟨x,H1,I1,r1,q1⟩=>?_))
 refine wpAny_bind (wpAny_holding (thn (hi pins s1 σ H1 _ I1 q1) λiv s2 ⟨y,H2,I2,r2,q2⟩=>?_))
 refine wpAny_bind (wpAny_standAt (wpAny_bind (wpAny_holding (thn (hs pins s2 σ H2 x y v ov iv u _ I2 r1 r2 r q2) λ_ s3 ⟨H3,I3,q3⟩=>?_))))
 exact wpAny_release ⟨σ,H3,I3,q3⟩
def tAsg(te:TE)(g:TG):TS:=λD σ H=>te σ H λx H1=>g x σ H1 D.nx
theorem z7L{tg e:Expr}{te:TE}{g:TG}(he:PE X e te)(hg:PG X tg g)(hs:swapsWithSole [tg] e pos.line X.env=pure false:=by rfl)(hw:swappedStores [tg] e X.env=pure none:=by rfl)
  (h1:(assignEach [tg] X.env).map (·.2)=[assign tg X.env]:=by rfl):PS X (.Assign [tg] e pos) (tAsg te g):=by
 intro pins s σ H D I h
 refine wpAny_Assign_stores (thn (he pins s σ H _ I h) λv s1 ⟨x,H1,I1,r1,q1⟩=>?_) hs hw
 rw[h1]
 exact thn (hg pins s1 σ H1 x v _ I1 r1 q1) λ_ s2 q=>q
theorem q9S{i:Nat}{x:Str}{e:Expr}{te:TE}{pos':Pos}(hN:X.N.Nodup)(hi:X.N[i]? = some x)(hx:Loc X.env.scope x)(he:PE X e te)(hs:swapsWith e (some (.Name x pos')) pos.line X.env=pure false:=by rfl)(hf:X.fn x=true\/X.env.scope.names.lookup x=some .local:=by first | exact .inl rfl | exact .inr rfl | assumption) :
  PS X (.Assign [.Name x pos'] e pos) (tAsg te (z0s i)):=by
 intro pins s σ H D I h
 refine wpAny_Assign_Name (thn (he pins s σ H _ I h) λv s1 ⟨y,H1,I1,r1,q1⟩=>?_) hs
 exact q8V I1 hN hi hx r1 (λs2 I2=>⟨_,H1,I2,q1⟩) hf
end
section
variable {X:Cx} {pos:Pos}
def z9t(c:TT)(tb:TS):TS:=λD σ H=>∃W:Nat->St->Hp->Prop,(∃m,W m σ H)/\∀m σ H,W m σ H ->
 c σ H λb H1=>if b=true then ∃N:St->Hp->Prop,(∀σ' H',N σ' H'->∃m',m'<m/\W m' σ' H')/\tb {D with nx:=N,ct:=N,bk:=D.nx} σ H1 else D.nx σ H1
theorem z3Q{c:Expr}{body:List Stmt}{tc:TT}{tb:TS}(hp:PassesOwn (model X.prog X.w) X.A X.env X.xe)(hc:PT X c tc)(hb:PSs X body tb):PS X (.While c body [] pos) (z9t tc tb):=by
 intro pins s σ H D I h
 obtain⟨W,⟨m0,w0⟩,turn⟩:=h
 refine wpAny_While (codeAny_whileLoop (λn s'=>∃σ' H',Inv X pins σ' H' s'/\W n σ' H') ?_ m0 ⟨σ,H,I,w0⟩)
 rintro n s1 ⟨σ1,H1,I1,w1⟩
 refine wpAny_passesOwn hp (thn (hc pins s1 σ1 H1 _ I1 (turn n σ1 H1 w1)) λb s2 ⟨H2,I2,q2⟩=>?_)
 cases b with
 | true=>
  obtain⟨N,hN,q2⟩:=q2
  rw[if_pos rfl]
  refine wpAny_passesOwn hp (thn (hb pins s2 σ1 H2 _ I2 q2) λf s3 q3=>?_)
  cases f with
  | next=>
   obtain⟨σ3,H3,I3,n3⟩:=q3
   obtain⟨m',hm,w3⟩:=hN σ3 H3 n3
   exact⟨m',hm,σ3,H3,I3,w3⟩
  | cont=>
   obtain⟨σ3,H3,I3,n3⟩:=q3
   obtain⟨m',hm,w3⟩:=hN σ3 H3 n3
   exact⟨m',hm,σ3,H3,I3,w3⟩
  | brk=>exact q3
  | ret v=>exact q3
 | false=>
  rw[if_neg Bool.false_ne_true]
  exact wpAny_execs_nil ⟨σ1,H2,I2,q2⟩
end
structure It where
 go:Nat->Hp->Prop
 yld:Nat->Hp->V->Hp->Prop
 stop:Nat->Hp->Prop
def FpOk(X:Cx)(pins:List (Addr×Obj))(H:Hp)(b:Addr):Prop:=
 H b=none/\b≠X.env.locals/\b∉X.fs/\(b∈X.ex\/X.s₀.heap.objs.size<=b)/\(∀x c,X.env.cells.lookup x=some c->c≠b)/\∀p∈X.pn++pins,p.1≠b
theorem Inv.fpOk{X:Cx}{pins:List (Addr×Obj)}{σ:St}{H H':Hp}{s:Shared}{b:Addr}(I:Inv X pins σ H s)(hb:s.heap.objs.size<=b)(hn:H' b=none):FpOk X pins H' b:=by
 refine⟨hn,Nat.ne_of_gt (Nat.lt_of_lt_of_le I.lt hb),I.nofs hb,.inr (Nat.le_trans I.sz hb),λx c e z=>?_,λp hp z=>?_⟩
 ·obtain⟨v,q⟩:=I.cell x c e
  exact absurd (Nat.lt_of_lt_of_le q.lt (by rw[z];exact hb)) (Nat.lt_irrefl _)
 ·exact absurd (Nat.lt_of_lt_of_le (Heap.lt_size (I.pin p hp).1) (by rw[z];exact hb)) (Nat.lt_irrefl _)
structure Turn(P:Program)(w:World)(K:PySem.W.Frag)(tg:Expr)(J:It)(fp:List Addr)(it:Addr)(tn:Nat->Heap->Prop):Prop where
 mem:it∈fp
 obj:∀i h,tn i h->∀b∈fp,∃o,h.get? b=some o/\∀v,o.data ≠ .cell v
 keep:∀i h h',tn i h->(∀b∈fp,∀o,h.get? b=some o->h'.get? b=some o)->tn i h'
 item:∀(X:Cx),X.prog=P->X.w=w->X.K=K->X.calm=true->∀(i:Nat) (pins:List (Addr×Obj)) (s:Shared) (σ:St) (H:Hp) (E:Value->Shared->Prop),Inv X pins σ H s->(∀b∈fp,FpOk X pins H b)->tn i s.heap->J.go i H ->
  wpAny (model P w) X.A (pyNext (.ref it)) (λr s1=>∃u,r=some u /\
   wpAny (model P w) X.A (letOwnedTupleGo tg (.ref it) u) (λ_ s2=>∃x H',Inv X pins σ H' s2/\RelV x u/\J.yld i H x H'/\tn (i+1) s2.heap/\∀b∈fp,H' b=none) E s1) E s
 done:∀(X:Cx),X.prog=P->X.w=w->X.K=K->X.calm=true->∀(i:Nat) (pins:List (Addr×Obj)) (s:Shared) (σ:St) (H:Hp) (E:Value->Shared->Prop),Inv X pins σ H s->(∀b∈fp,FpOk X pins H b)->tn i s.heap->J.stop i H ->
  wpAny (model P w) X.A (pyNext (.ref it)) (λr s1=>r=none/\Inv X pins σ H s1) E s
 self:∀(A:Around) (i:Nat) (s:Shared) (Q:Value->Shared->Prop) (E:Value->Shared->Prop),tn i s.heap->Q (.ref it) s->wpAny (model P w) A (pyIter (.ref it)) Q E s
abbrev TI:=St->Hp->(It->Hp->Prop)->Prop
def PIE(X:Cx)(pins:List (Addr×Obj))(σ:St)(tg:Expr)(R:It->Hp->Prop)(itv:Value)(s2:Shared):Prop:=
 ∃(it:Addr) (fp:List Addr) (tn:Nat->Heap->Prop) (J:It) (H':Hp),itv=.ref it/\Inv X pins σ H' s2/\Turn X.prog X.w X.K tg J fp it tn/\tn 0 s2.heap/\(∀b∈fp,FpOk X pins H' b)/\R J H'
def PI(X:Cx)(tg iter:Expr)(wi:TI):Prop:=
 ∀(pins:List (Addr×Obj)) (s:Shared) (σ:St) (H:Hp) (R:It->Hp->Prop),Inv X pins σ H s->wi σ H R ->
  wpAny (model X.prog X.w) X.A (eval iter X.env) (λv s1=>wpAny (model X.prog X.w) X.A (pyIter v) (PIE X pins σ tg R) X.xe s1) X.xe s
theorem z3F{M:Model}{A:Around}{E:Value->Shared->Prop}{s:Shared}{tg:Expr}{it:Addr}{u:Value}{o:Obj}{n:String}{vs:Array Value}{Q:Unit->Shared->Prop}(ho:s.heap.get? it=some o)(hc:o.cls=.type n)(hd:o.data=.fields vs)
    (hn : ["enumerate","zip","dict_itemiterator","dict_reverseitemiterator","odict_iterator","itertools.zip_longest","itertools.pairwise"].contains n=false) (hQ:Q () s):wpAny M A (letOwnedTupleGo tg (.ref it) u) Q E s:=by
  unfold letOwnedTupleGo
  cases tg<;>first
    | exact wpAny_pure hQ
    | (cases u<;>first
        | exact wpAny_pure hQ
        | (refine wpAny_bind (wpAny_load ho ?_)
           rw[hc,hd]
           show wpAny M A (if(["enumerate","zip","dict_itemiterator","dict_reverseitemiterator","odict_iterator","itertools.zip_longest","itertools.pairwise"].contains n&&vs[0]? == some (rawInt _))=true then _ else _) Q E s
           rw[if_neg (by intro h;rw[hn,Bool.false_and]at h;cases h)]
           exact wpAny_pure hQ))
def Itl(K:PySem.W.Frag)(a:Addr):It:=
 ⟨λi H=>∃xs x,SqL K H a xs/\xs[i]? = some x,λi H x H'=>H'=H/\∀xs,SqL K H a xs->xs[i]? = some x,λi H=>∃xs,SqL K H a xs/\xs.length<=i⟩
def Itt(K:PySem.W.Frag)(a:Addr):It:=
 ⟨λi H=>∃xs x,SqT K H a xs/\xs[i]? = some x,λi H x H'=>H'=H/\∀xs,SqT K H a xs->xs[i]? = some x,λi H=>∃xs,SqT K H a xs/\xs.length<=i⟩
def Itr(lo:Int)(n:Nat):It:=⟨λi _=>i<n,λi H x H'=>H'=H/\x=.int (lo+i),λi _=>n<=i⟩
theorem z0H{P:Program}{w:World}{K:PySem.W.Frag}{tg:Expr}(a it:Addr):Turn P w K tg (Itl K a) [it] it (λi h=>h.IsListIter it a i) where
 mem:=by simp
 obj:=λi h st b hb=>by
  have e:b=it:=by simpa using hb
  subst e
  obtain⟨o,e,c,d⟩:=st
  exact⟨o,e,λv z=>by rw[d]at z;cases z⟩
 keep:=λi h h' st k=>st.at λo e=>k it (by simp) o e
 item:=by
  intro X hP hw hK hc i pins s σ H E I hf st hg
  subst hP hw hK
  obtain⟨xs,x,hq,hx⟩:=hg
  obtain⟨its,rv,p,hz⟩:=I.list hq
  obtain⟨u,hu,ru⟩:=rv.get hx
  obtain⟨f0,f1,f2,f3,f4,f5⟩:=hf it (by simp)
  refine wpAny_pyNext_list_item st p.isList (x:=u) (by simpa using hu) λh' st' sb=>?_
  have I1:Inv X pins σ H {s with heap:=h'}:=I.turned (t':=s.toks) (λb o hb e=>(sb.2 b hb).trans e) f0 f1 f3 f4 f5
  obtain⟨o,e,c,d⟩:=id st'
  exact⟨u,rfl,z3F (s:={s with heap:=h'}) e c d (by decide) ⟨x,H,I1,ru,⟨rfl,λys hy=>by rw[I.list_inj hy hq];exact hx⟩,st',λb hb=>(hf b hb).1⟩⟩
 done:=by
  intro X hP hw hK hc i pins s σ H E I hf st hg
  subst hP hw hK
  obtain⟨xs,hq,hx⟩:=hg
  obtain⟨its,rv,p,hz⟩:=I.list hq
  obtain⟨f0,f1,f2,f3,f4,f5⟩:=hf it (by simp)
  have hl:=rv.length
  exact wpAny_pyNext_list_end (I.ok.hd hc) st p.isList (by simp;omega) λh' eb=>⟨rfl,I.turned (t':=s.toks) (λb o hb e=>eb b o hb e) f0 f1 f3 f4 f5⟩
 self:=λ_ _ _ _ _ st h=>wpAny_pyIter_listiter st h
theorem q9N{P:Program}{w:World}{K:PySem.W.Frag}{tg:Expr}(a it:Addr):Turn P w K tg (Itt K a) [it] it (λi h=>h.IsTupleIter it a i) where
 mem:=by simp
 obj:=λi h st b hb=>by
  have e:b=it:=by simpa using hb
  subst e
  obtain⟨o,e,c,d⟩:=st
  exact⟨o,e,λv z=>by rw[d]at z;cases z⟩
 keep:=λi h h' st k=>st.at λo e=>k it (by simp) o e
 item:=by
  intro X hP hw hK hc i pins s σ H E I hf st hg
  subst hP hw hK
  obtain⟨xs,x,hq,hx⟩:=hg
  obtain⟨its,rv,p,hz⟩:=I.tuple hq
  obtain⟨u,hu,ru⟩:=rv.get hx
  obtain⟨f0,f1,f2,f3,f4,f5⟩:=hf it (by simp)
  refine wpAny_pyNext_tuple_item st (show s.heap.IsTuple a its.toArray from p) (x:=u) (by simpa using hu) λh' st' sb=>?_
  have I1:Inv X pins σ H {s with heap:=h'}:=I.turned (t':=s.toks) (λb o hb e=>(sb.2 b hb).trans e) f0 f1 f3 f4 f5
  obtain⟨o,e,c,d⟩:=id st'
  exact⟨u,rfl,z3F (s:={s with heap:=h'}) e c d (by decide) ⟨x,H,I1,ru,⟨rfl,λys hy=>by rw[I.tuple_inj hy hq];exact hx⟩,st',λb hb=>(hf b hb).1⟩⟩
 done:=by
  intro X hP hw hK hc i pins s σ H E I hf st hg
  subst hP hw hK
  obtain⟨xs,hq,hx⟩:=hg
  obtain⟨its,rv,p,hz⟩:=I.tuple hq
  obtain⟨f0,f1,f2,f3,f4,f5⟩:=hf it (by simp)
  have hl:=rv.length
  exact wpAny_pyNext_tuple_end (I.ok.hd hc) st (show s.heap.IsTuple a its.toArray from p) (by simp;omega) λh' eb=>⟨rfl,I.turned (t':=s.toks) (λb o hb e=>eb b o hb e) f0 f1 f3 f4 f5⟩
 self:=λ_ _ _ _ _ st h=>wpAny_pyIter_tupleiter st h
theorem q9h{P:Program}{w:World}{K:PySem.W.Frag}{tg:Expr}(it:Addr)(lo:Int)(n:Nat):Turn P w K tg (Itr lo n) [it] it (λi h=>IsRangeIter h it (lo+(i:Nat)*1) ((n:Int) - (i:Nat)) 1) where
 mem:=by simp
 obj:=λi h st b hb=>by
  have e:b=it:=by simpa using hb
  subst e
  exact⟨_,st,λv z=>by
   have z':Data.fields _=Data.cell v:=z
   cases z'⟩
 keep:=λi h h' st k=>k it (by simp) _ st
 item:=by
  intro X hP hw hK hc i pins s σ H E I hf st hg
  subst hP hw hK
  obtain⟨f0,f1,f2,f3,f4,f5⟩:=hf it (by simp)
  have W:=Walks.range (prog:=X.prog) (w:=X.w) (I.ok.hd hc) it lo 1 n
  refine W.item i s _ _ hg st λv h' tk hv st' kk=>?_
  obtain⟨t,rfl⟩:=hv
  have I1:Inv X pins σ H {s with heap:=h',toks:=tk}:=I.turned (λb o hb e=>kk b o (by simpa using hb) e) f0 f1 f3 f4 f5
  refine⟨_,rfl,z3F (s:={s with heap:=h',toks:=tk}) (n:="range_iterator") st' rfl rfl (by decide) ⟨.int (lo+i),H,I1,⟨t,?_⟩,⟨rfl,rfl⟩,st',λb hb=>(hf b hb).1⟩⟩
  rw[Int.mul_one]
 done:=by
  intro X hP hw hK hc i pins s σ H E I hf st hg
  subst hP hw hK
  obtain⟨f0,f1,f2,f3,f4,f5⟩:=hf it (by simp)
  exact wpAny_pyNext_range_end (I.ok.hd hc) st (by have:n<=i:=hg;omega) λh' eb=>⟨rfl,I.turned (t':=s.toks) (λb o hb e=>eb b o hb e) f0 f1 f3 f4 f5⟩
 self:=λ_ _ _ _ _ st h=>wpAny_pyIter_rangeiter st h
end L2
namespace L2
open PySem PySem.Spec PyProof.Rows
section
variable {X:Cx} {tg:Expr}
def y0j(K:PySem.W.Frag)(tl:TE):TI:=λσ H R=>tl σ H λx H1=>∃a,x=.ref a/\(∃xs,SqL K H1 a xs)/\R (Itl K a) H1
def iTup(K:PySem.W.Frag)(tl:TE):TI:=λσ H R=>tl σ H λx H1=>∃a,x=.ref a/\(∃xs,SqT K H1 a xs)/\R (Itt K a) H1
theorem q7E{l:Expr}{tl:TE}(hl:PE X l tl):PI X tg l (y0j X.K tl):=by
 intro pins s σ H R I h
 refine thn (hl pins s σ H _ I h) λv s1 ⟨x,H1,I1,r1,q1⟩=>?_
 obtain⟨a,e,⟨xs,hq⟩,q⟩:=q1
 subst e
 cases r1
 obtain⟨its,rv,p,hz⟩:=I1.list hq
 refine wpAny_pyIter_list p.isList ?_
 refine⟨s1.heap.objs.size,[s1.heap.objs.size],_,_,H1,rfl,I1.kept (t':=s1.toks) λb o e=>Heap.get?_push_of_some _ e,z0H a _,⟨_,Heap.get?_push_size _ rfl,rfl,rfl⟩,λb hb=>?_,q⟩
 have e:b=s1.heap.objs.size:=by simpa using hb
 subst e
 exact I1.fpOk (Nat.le_refl _) (I1.hok.fresh (Nat.le_refl _))
theorem z9y{l:Expr}{tl:TE}(hl:PE X l tl):PI X tg l (iTup X.K tl):=by
 intro pins s σ H R I h
 refine thn (hl pins s σ H _ I h) λv s1 ⟨x,H1,I1,r1,q1⟩=>?_
 obtain⟨a,e,⟨xs,hq⟩,q⟩:=q1
 subst e
 cases r1
 obtain⟨its,rv,p,hz⟩:=I1.tuple hq
 refine wpAny_pyIter_tuple (show s1.heap.IsTuple a its.toArray from p) ?_
 refine⟨s1.heap.objs.size,[s1.heap.objs.size],_,_,H1,rfl,I1.kept (t':=s1.toks) λb o e=>Heap.get?_push_of_some _ e,q9N a _,⟨_,Heap.get?_push_size _ rfl,rfl,rfl⟩,λb hb=>?_,q⟩
 have e:b=s1.heap.objs.size:=by simpa using hb
 subst e
 exact I1.fpOk (Nat.le_refl _) (I1.hok.fresh (Nat.le_refl _))
theorem q8m{pins:List (Addr×Obj)}{σ:St}{H:Hp}{s:Shared}{R:It->Hp->Prop}{E:Value->Shared->Prop}{lo hi:Int}{t u v:Tok}{tk:Nat}(I:Inv X pins σ H s)(h1 : -(2^62)<=lo)(h2:lo<2^62)(h3 : -(2^62)<=hi)(h4:hi<2^62)
  (q:R (Itr lo (hi - lo).toNat) H):wpAny (model X.prog X.w) X.A (pyIter (.ref s.heap.objs.size)) (PIE X pins σ tg R) E {s with heap:=s.heap.push {cls:=.type "range",data:=.fields #[.int lo t,.int hi u,.int 1 v]},toks:=tk}:=by
 refine wpAny_pyIter_range (IsRange.new ..) (small_one h1 h2 h3 h4) ?_
 have I1:Inv X pins σ H {s with heap:=s.heap.push {cls:=.type "range",data:=.fields #[.int lo t,.int hi u,.int 1 v]},toks:=tk}:=I.kept λb o e=>Heap.get?_push_of_some _ e
 refine⟨(s.heap.push {cls:=.type "range",data:=.fields #[.int lo t,.int hi u,.int 1 v]}).objs.size,[(s.heap.push {cls:=.type "range",data:=.fields #[.int lo t,.int hi u,.int 1 v]}).objs.size],_,_,H,rfl,
  I1.kept (t':=tk) λb o e=>Heap.get?_push_of_some _ e,q9h _ lo (hi - lo).toNat,?_,λb hb=>?_,q⟩
 ·have e1:lo+((0:Nat):Int)*1=lo:=by simp
  have e2:(((hi - lo).toNat:Nat):Int) - ((0:Nat):Int)=Builtin.Range.rangeSize lo hi 1:=by rw[rangeSize_one];split<;>omega
  show IsRangeIter _ _ (lo+((0:Nat):Int)*1) ((((hi - lo).toNat:Nat):Int) - ((0:Nat):Int)) 1
  rw[e1,e2]
  exact Heap.get?_push_size _ rfl
 ·have e:b=(s.heap.push {cls:=.type "range",data:=.fields #[.int lo t,.int hi u,.int 1 v]}).objs.size:=by simpa using hb
  subst e
  exact I1.fpOk (Nat.le_refl _) (I1.hok.fresh (Nat.le_refl _))
def y0V(ta:TA):TI:=λσ H R=>ta σ H λvs H1=>∃j:Int,vs=[.int j] /\ -(2^62)<=j/\j<2^62/\R (Itr 0 j.toNat) H1
def y0h(ta:TA):TI:=λσ H R=>ta σ H λvs H1=>∃i j:Int,vs=[.int i,.int j]/\(-(2^62)<=i/\i<2^62 /\ -(2^62)<=j/\j<2^62)/\R (Itr i (j - i).toNat) H1
theorem z1W{a:Expr}{ta:TA}{p pos:Pos}(hg:Gl X "range")(hm:X.mg "range" = none)(ha:PA X [a] ta)(hs:starEach [a] X.env=[(false,eval a X.env)]:=by rfl):PI X tg (.Call (.Name "range" p) [a] [] pos) (y0V ta):=by
 intro pins s σ H R I h
 refine Call_ (q5p I hg hm boot_range (PyProof.Rows.callWith_type1 (thn (ha pos pins s σ H _ I h) λus s1 ⟨vs,H1,I1,r1,q1⟩=>?_) hs rfl))
 obtain⟨j,e,q1,q2,q⟩:=q1
 subst e
 cases r1 with
 | cons r rr=>
  cases rr
  obtain⟨t,rfl⟩:=r
  exact call_range_1 (q8m I1 (by omega) (by omega) q1 q2 (by simpa using q))
theorem z1t{a b:Expr}{ta:TA}{p pos:Pos}(hg:Gl X "range")(hm:X.mg "range" = none)(ha:PA X [a,b] ta)(hs:starEach [a,b] X.env=[(false,eval a X.env),(false,eval b X.env)]:=by rfl)(hs2:starEach [b] X.env=[(false,eval b X.env)]:=by rfl) :
  PI X tg (.Call (.Name "range" p) [a,b] [] pos) (y0h ta):=by
 intro pins s σ H R I h
 refine Call_ (q5p I hg hm boot_range (PyProof.Rows.callWith_type1 (thn (ha pos pins s σ H _ I h) λus s1 ⟨vs,H1,I1,r1,q1⟩=>?_) (by rw[hs,hs2]) (by rw[hs2];rfl)))
 obtain⟨i,j,e,⟨q1,q2,q3,q4⟩,q⟩:=q1
 subst e
 cases r1 with
 | cons r rr=>
  cases rr with
  | cons r' rr=>
   cases rr
   obtain⟨t,rfl⟩:=r
   obtain⟨t',rfl⟩:=r'
   exact call_range_2 (q8m I1 q1 q2 q3 q4 q)
def tFor(wi:TI)(g:TG)(tb:TS):TS:=λD σ H=>wi σ H λJ H1=>∃W:Nat->Nat->St->Hp->Prop,(∃m,W 0 m σ H1)/\∀i m σ H,W i m σ H ->
 (J.stop i H/\D.nx σ H)\/(J.go i H/\∃N:St->Hp->Prop,(∀σ' H',N σ' H'->∃m',m'<m/\W (i+1) m' σ' H')/\∀x H',J.yld i H x H'->g x σ H' λσ2 H2=>tb {D with nx:=N,ct:=N,bk:=D.nx} σ2 H2)
def q7h(fp:List Addr)(h:Heap):List (Addr×Obj):=fp.filterMap λb=>(h.get? b).map λo=>(b,o)
theorem q2V{fp:List Addr}{h:Heap}{b:Addr}{o:Obj}(hb:b∈fp)(e:h.get? b=some o):(b,o)∈q7h fp h:=List.mem_filterMap.mpr ⟨b,hb,by rw[e];rfl⟩
theorem z0l{fp:List Addr}{h:Heap}{p:Addr×Obj}(hp:p∈q7h fp h):p.1∈fp/\h.get? p.1=some p.2:=by
 obtain⟨b,hb,e⟩:=List.mem_filterMap.mp hp
 cases q:h.get? b with
 | none=>rw[q]at e;cases e
 | some o=>
  rw[q]at e
  have e':(b,o)=p:=Option.some.inj e
  subst e'
  exact⟨hb,q⟩
theorem Inv.pinned{pins:List (Addr×Obj)}{σ:St}{H:Hp}{s:Shared}{fp:List Addr}(I:Inv X pins σ H s)(hf:∀b∈fp,FpOk X pins H b)(ho:∀b∈fp,∃o,s.heap.get? b=some o/\∀v,o.data ≠ .cell v):Inv X (pins++q7h fp s.heap) σ H s:=
 I.pins_of λp hp=>(List.mem_append.mp hp).elim (λz=>I.pin p (List.mem_append_right _ z)) λz=>by
  obtain⟨hb,e⟩:=z0l z
  obtain⟨f0,f1,f2,_⟩:=hf p.1 hb
  obtain⟨o,e',d⟩:=ho p.1 hb
  rw[e]at e';cases e'
  exact⟨e,f0,f1,f2,d⟩
theorem Inv.unpinned{pins pl:List (Addr×Obj)}{σ:St}{H:Hp}{s:Shared}(I:Inv X (pins++pl) σ H s):Inv X pins σ H s:=I.pins_of λp hp=>I.pin p (List.mem_append_right _ (List.mem_append_left _ hp))
theorem z4x{iter:Expr}{body:List Stmt}{wi:TI}{g:TG}{tb:TS}{pos:Pos}(hp:PassesOwn (model X.prog X.w) X.A X.env X.xe)(hc:X.calm=true)(hi:PI X tg iter wi)(hg:PG X tg g)(hb:PSs X body tb)
  (hs:∀x,foldedSetIterable iter X.env x=pure x:=by intro _;rfl):PS X (.For tg iter body [] pos) (tFor wi g tb):=by
 intro pins s σ H D I h
 refine wpAny_For (thn (hi pins s σ H _ I h) λv s1 h1=>thn h1 λitv s2 h2=>?_) hs
 obtain⟨it,fp,tn,J,H2,e,I2,T,st2,f2,W,⟨m0,w0⟩,turn⟩:=h2
 subst e
 have stat:∀{H':Hp},(∀b∈fp,H' b=none)->∀b∈fp,FpOk X pins H' b:=λhn b hb=>⟨hn b hb,(f2 b hb).2⟩
 refine codeAny_forLoop_any (λn s'=>∃i σ' H',Inv X pins σ' H' s'/\tn i s'.heap/\(∀b∈fp,H' b=none)/\W i n σ' H') ?_ m0 ⟨0,σ,H2,I2,st2,λb hb=>(f2 b hb).1,w0⟩
 rintro n s3 ⟨i,σ3,H3,I3,st3,fr3,w3⟩
 rcases turn i n σ3 H3 w3 with⟨stop,qn⟩ | ⟨go,N,hN,step⟩
 ·refine wpAny_passesOwn hp (thn (T.done X rfl rfl rfl hc i pins s3 σ3 H3 X.xe I3 (stat fr3) st3 stop) λr s4 ⟨hr,I4⟩=>?_)
  subst hr
  exact wpAny_execs_nil ⟨σ3,H3,I4,qn⟩
 ·refine wpAny_passesOwn hp (thn (T.item X rfl rfl rfl hc i pins s3 σ3 H3 X.xe I3 (stat fr3) st3 go) λr s4 ⟨u,hr,h4⟩=>?_)
  subst hr
  refine wpAny_passesOwn hp (thn h4 λ_ s5 ⟨x,H5,I5,r5,y5,st5,fr5⟩=>?_)
  have I5':=I5.pinned (stat fr5) (T.obj _ _ st5)
  refine wpAny_passesOwn hp (thn (hg _ s5 σ3 H5 x u _ I5' r5 (step x H5 y5)) λ_ s6 ⟨σ6,H6,I6,q6⟩=>?_)
  refine wpAny_passesOwn hp (thn (hb _ s6 σ6 H6 _ I6 q6) λf s7 q7=>?_)
  have again:∀{σ7:St} {H7:Hp},Inv X (pins++q7h fp s5.heap) σ7 H7 s7->N σ7 H7->∃m,m<n/\∃i σ' H',Inv X pins σ' H' s7/\tn i s7.heap/\(∀b∈fp,H' b=none)/\W i m σ' H':=λ{σ7 H7} I7 n7=>by
   obtain⟨m',hm,w7⟩:=hN σ7 H7 n7
   refine⟨m',hm,i+1,σ7,H7,I7.unpinned,T.keep _ _ _ st5 λb hb o e=>(I7.pin (b,o) (List.mem_append_right _ (List.mem_append_right _ (q2V hb e)))).1,λb hb=>?_,w7⟩
   obtain⟨o,e,d⟩:=T.obj _ _ st5 b hb
   exact(I7.pin (b,o) (List.mem_append_right _ (List.mem_append_right _ (q2V hb e)))).2.1
  cases f with
  | next=>obtain⟨σ7,H7,I7,n7⟩:=q7;exact again I7 n7
  | cont=>obtain⟨σ7,H7,I7,n7⟩:=q7;exact again I7 n7
  | brk=>obtain⟨σ7,H7,I7,q7⟩:=q7;exact⟨σ7,H7,I7.unpinned,q7⟩
  | ret v=>obtain⟨x7,σ7,H7,I7,r7,q7⟩:=q7;exact⟨x7,σ7,H7,I7.unpinned,r7,q7⟩
end
end L2
namespace L2
open PySem PySem.Spec PyProof.Rows
abbrev R2:=V->V->Hp->VK->Prop
def OpR(X:Cx)(f:Value->Value->Sem Value)(r:R2):Prop:=
 ∀(pins:List (Addr×Obj)) (s:Shared) (σ:St) (H:Hp) (x y:V) (v u:Value) (Q:VK),Inv X pins σ H s->RelV x v->RelV y u->r x y H Q ->
  wpAny (model X.prog X.w) X.A (f v u) (EP X pins σ Q) X.xe s
def UnR(X:Cx)(f:Value->Sem Value)(r:V->Hp->VK->Prop):Prop:=
 ∀(pins:List (Addr×Obj)) (s:Shared) (σ:St) (H:Hp) (x:V) (v:Value) (Q:VK),Inv X pins σ H s->RelV x v->r x H Q ->
  wpAny (model X.prog X.w) X.A (f v) (EP X pins σ Q) X.xe s
def q1F(X:Cx)(f:Value)(r:List V->Hp->VK->Prop):Prop:=
 ∀(pins:List (Addr×Obj)) (s:Shared) (σ:St) (H:Hp) (xs:List V) (us:List Value) (Q:VK),Inv X pins σ H s->Vals xs us->r xs H Q ->
  wpAny (model X.prog X.w) X.A (call f us) (EP X pins σ Q) X.xe s
def TruR(X:Cx)(r:V->Hp->(Bool->Hp->Prop)->Prop):Prop:=
 ∀(pins:List (Addr×Obj)) (s:Shared) (σ:St) (H:Hp) (x:V) (v:Value) (Q:Bool->Hp->Prop),Inv X pins σ H s->RelV x v->r x H Q ->
  wpAny (model X.prog X.w) X.A (truthy v) (TP X pins σ Q) X.xe s
def tOp(r:R2)(ta tb:TE):TE:=λσ H Q=>ta σ H λx H1=>tb σ H1 λy H2=>r x y H2 Q
def tUn(r:V->Hp->VK->Prop)(ta:TE):TE:=λσ H Q=>ta σ H λx H1=>r x H1 Q
def rI(C:Int->Int->Prop)(g:Int->Int->V):R2:=λx y H Q=>∃i j,x=.int i/\y=.int j/\C i j/\Q (g i j) H
def rI0(g:Int->Int->V):R2:=λx y H Q=>∃i j,x=.int i/\y=.int j/\Q (g i j) H
def rU(g:Int->V):V->Hp->VK->Prop:=λx H Q=>∃i,x=.int i/\Q (g i) H
section
variable {X:Cx} {a b c:Expr} {ta tb tc:TE} {pos:Pos}
theorem binT(ha:PE X a ta)(hb:PE X b tb){pins:List (Addr×Obj)}{s:Shared}{σ:St}{H:Hp}{R:V->V->Hp->Prop}(I:Inv X pins σ H s)
  (h:ta σ H λx H1=>tb σ H1 λy H2=>R x y H2) {Q:Value->Shared->Prop} {f:Value->Value->Sem Value}
  (hf:∀v u s2 x y H2,Inv X pins σ H2 s2->RelV x v->RelV y u->R x y H2->wpAny (model X.prog X.w) X.A (f v u) Q X.xe s2) :
  wpAny (model X.prog X.w) X.A (eval a X.env) (λv s₁=>wpAny (model X.prog X.w) X.A (eval b X.env) (λu s₂=>wpAny (model X.prog X.w) X.A (f v u) Q X.xe s₂) X.xe s₁) X.xe s:=by
 refine thn (ha pins s σ H _ I h) λv s1 ⟨x,H1,I1,r1,q1⟩=>?_
 refine thn (hb pins s1 σ H1 _ I1 q1) λu s2 ⟨y,H2,I2,r2,q2⟩=>?_
 exact hf v u s2 x y H2 I2 r1 r2 q2
theorem y1j{op:Operator}{r:R2}(ho:OpR X (binaryOp op) r)(ha:PE X a ta)(hb:PE X b tb):PE X (.BinOp a op b pos) (tOp r ta tb):=by
 intro pins s σ H Q I h
 exact wpAny_BinOp (binT ha hb I h λv u s2 x y H2 I2 rx ry q=>ho pins s2 σ H2 x y v u Q I2 rx ry q)
theorem z9U{op:UnaryOp}{r:V->Hp->VK->Prop}(ho:UnR X (unaryOp op) r)(ha:PE X a ta):PE X (.UnaryOp op a pos) (tUn r ta):=by
 intro pins s σ H Q I h
 exact UnaryOp_ (thn (ha pins s σ H _ I h) λv s1 ⟨x,H1,I1,r1,q1⟩=>ho pins s1 σ H1 x v Q I1 r1 q1)
theorem opI{f:Value->Value->Sem Value}{C:Int->Int->Prop}{g:Int->Int->Int}
  (rule:∀(i j:Int) (t u:Tok) (s:Shared) (Q:Value->Shared->Prop) (E:Value->Shared->Prop),C i j->Q (.int (g i j) s.toks) {s with toks:=s.toks+1} -> wpAny (model X.prog X.w) X.A (f (.int i t) (.int j u)) Q E s) :
  OpR X f (rI C λi j=>.int (g i j)):=by
 intro pins s σ H x y v u Q I rx ry h
 obtain⟨i,j,rfl,rfl,hc,q⟩:=h
 obtain⟨t,rfl⟩:=rx
 obtain⟨t',rfl⟩:=ry
 exact rule i j t t' s _ _ hc ⟨.int (g i j),H,I.tok _,⟨_,rfl⟩,q⟩
theorem opI0{f:Value->Value->Sem Value}{g:Int->Int->Int}
  (rule:∀(i j:Int) (t u:Tok) (s:Shared) (Q:Value->Shared->Prop) (E:Value->Shared->Prop),Q (.int (g i j) s.toks) {s with toks:=s.toks+1} -> wpAny (model X.prog X.w) X.A (f (.int i t) (.int j u)) Q E s) :
  OpR X f (rI0 λi j=>.int (g i j)):=by
 intro pins s σ H x y v u Q I rx ry h
 obtain⟨i,j,rfl,rfl,q⟩:=h
 obtain⟨t,rfl⟩:=rx
 obtain⟨t',rfl⟩:=ry
 exact rule i j t t' s _ _ ⟨.int (g i j),H,I.tok _,⟨_,rfl⟩,q⟩
theorem opB0{f:Value->Value->Sem Value}{g:Int->Int->Bool}
  (rule:∀(i j:Int) (t u:Tok) (s:Shared) (Q:Value->Shared->Prop) (E:Value->Shared->Prop),Q (.bool (g i j)) s->wpAny (model X.prog X.w) X.A (f (.int i t) (.int j u)) Q E s) :
  OpR X f (rI0 λi j=>.bl (g i j)):=by
 intro pins s σ H x y v u Q I rx ry h
 obtain⟨i,j,rfl,rfl,q⟩:=h
 obtain⟨t,rfl⟩:=rx
 obtain⟨t',rfl⟩:=ry
 exact rule i j t t' s _ _ ⟨.bl (g i j),H,I,rfl,q⟩
def CPow(i j:Int):Prop:=0<=j/\j<=1000000/\i.natAbs<2^64
def CMul(i j:Int):Prop:=(-(2^64)<i/\i<2^64)\/(-(2^64)<j/\j<2^64)
theorem CMul.ok{i j:Int}(h:CMul i j):IntMulOk i j:=by
 rcases h with⟨h1,h2⟩ | ⟨h1,h2⟩
 ·exact .of_left (intBits_le_64 h1 h2)
 ·exact .of_right (intBits_le_64 h1 h2)
theorem q9r(k:Nat):(0:Int)<=2^k:=by
 rw[two_pow_cast]
 exact Int.natCast_nonneg _
theorem z7G:OpR X (binaryOp .Add) (rI0 λi j=>.int (i+j)):=opI0 λ_ _ _ _ _ _ _ q=>add_int q
theorem z8Q:OpR X (binaryOp .Sub) (rI0 λi j=>.int (i - j)):=opI0 λ_ _ _ _ _ _ _ q=>sub_int q
theorem z8g:OpR X (binaryOp .Mod) (rI (λ_ j=>0<j) λi j=>.int (i%j)):=opI λi j _ _ _ _ _ hc q=>by
 have h1:(0:Int)<j:=hc
 exact mod_int' (by omega) (by rw[Int.fmod_eq_emod_of_nonneg i (by omega)];exact q)
theorem z8t:OpR X (binaryOp .LShift) (rI CPow λi j=>.int (i*2^j.toNat)):=opI λ_ _ _ _ _ _ _ hc q=>lshift_int_small hc.1 hc.2.1 hc.2.2 q
theorem z9g:OpR X (binaryOp .RShift) (rI (λ_ j=>0<=j) λi j=>.int (i/2^j.toNat)):=opI λi j _ _ _ _ _ hc q=>
 rshift_int hc (by rw[Int.fdiv_eq_ediv_of_nonneg i (q9r _)];exact q)
theorem z8S:OpR X (binaryOp .BitAnd) (rI0 λi j=>.int (Builtin.bitAnd i j)):=opI0 λ_ _ _ _ _ _ _ q=>and_int q
theorem unI{f:Value->Sem Value}{g:Int->Int}
  (rule:∀(i:Int) (t:Tok) (s:Shared) (Q:Value->Shared->Prop) (E:Value->Shared->Prop),Q (.int (g i) s.toks) {s with toks:=s.toks+1} -> wpAny (model X.prog X.w) X.A (f (.int i t)) Q E s) :
  UnR X f (rU λi=>.int (g i)):=by
 intro pins s σ H x v Q I rx h
 obtain⟨i,rfl,q⟩:=h
 obtain⟨t,rfl⟩:=rx
 exact rule i t s _ _ ⟨.int (g i),H,I.tok _,⟨_,rfl⟩,q⟩
theorem z8P:UnR X (unaryOp .USub) (rU λi=>.int (-i)):=unI λ_ _ _ _ _ q=>neg_int q
end
section
variable {X:Cx} {a b c:Expr} {ta tb tc:TE} {pos:Pos}
theorem y0P:OpR X (compareOp .Lt) (rI0 λi j=>.bl (decide (i<j))):=opB0 λ_ _ _ _ _ _ _ q=>lt_int q
theorem y0Y:OpR X (compareOp .LtE) (rI0 λi j=>.bl (decide (i<=j))):=opB0 λ_ _ _ _ _ _ _ q=>le_int q
theorem y0o:OpR X (compareOp .Gt) (rI0 λi j=>.bl (decide (j<i))):=opB0 λ_ _ _ _ _ _ _ q=>gt_int q
theorem y0v:OpR X (compareOp .GtE) (rI0 λi j=>.bl (decide (j<=i))):=opB0 λ_ _ _ _ _ _ _ q=>ge_int q
theorem OpR.or{f:Value->Value->Sem Value}{r r':R2}(h:OpR X f r)(h':OpR X f r'):OpR X f (λx y H Q=>r x y H Q\/r' x y H Q):=by
 intro pins s σ H x y v u Q I rx ry q
 rcases q with q | q
 ·exact h pins s σ H x y v u Q I rx ry q
 ·exact h' pins s σ H x y v u Q I rx ry q
theorem y1w(b:Expr){op:CmpOp}(h:op ≠ .In:=by decide)(h2:op ≠ .NotIn:=by decide):behindInMarks op b=false:=by
 have e1:(op==CmpOp.In)=false:=by cases op<;>first | rfl | exact absurd rfl h
 have e2:(op==CmpOp.NotIn)=false:=by cases op<;>first | rfl | exact absurd rfl h2
 cases b<;>simp[behindInMarks,e1,e2]
theorem z5f{op:CmpOp}{r:R2}(ho:OpR X (compareOp op) r)(ha:PE X a ta)(hb:PE X b tb)(hm:behindInMarks op b=false):PE X (.Compare a [op] [b] pos) (tOp r ta tb):=by
 intro pins s σ H Q I h
 exact wpAny_Compare1 (binT ha hb I h λv u s2 x y H2 I2 rx ry q=>ho pins s2 σ H2 x y v u Q I2 rx ry q) hm
def z8U(t:TE):TT:=λσ H Q=>t σ H λx H'=>∃k,x=.bl k/\Q k H'
theorem z6V{op:CmpOp}{r:R2}(ho:OpR X (compareOp op) r)(ha:PE X a ta)(hb:PE X b tb)(hm:behindInMarks op b=false):PT X (.Compare a [op] [b] pos) (z8U (tOp r ta tb)):=by
 intro pins s σ H Q I h
 refine wpAny_isTrue_Compare1 (thn (ha pins s σ H _ I h) λv s1 ⟨x,H1,I1,r1,q1⟩=>thn (hb pins s1 σ H1 _ I1 q1) λu s2 ⟨y,H2,I2,r2,q2⟩=>
  thn (ho pins s2 σ H2 x y v u _ I2 r1 r2 q2) λc s3 ⟨z,H3,I3,r3,k,e,q3⟩=>?_) hm
 subst e
 cases r3
 exact wpAny_truthy_bool ⟨H3,I3,q3⟩
def z1x(r r':R2)(ta tb tc:TE):TE:=λσ H Q=>ta σ H λx H1=>tb σ H1 λy H2=>r x y H2 λz H3=>∃k,z=.bl k /\
 (if k=true then tc σ H3 λw' H4=>r' y w' H4 Q else Q (.bl false) H3)
theorem z3p{op op':CmpOp}{r r':R2}(ho:OpR X (compareOp op) r)(ho':OpR X (compareOp op') r')(ha:PE X a ta)(hb:PE X b tb)(hc:PE X c tc)
  (hm:lastMarks [op,op'] [b,c]=false:=by with_unfolding_all rfl):PE X (.Compare a [op,op'] [b,c] pos) (z1x r r' ta tb tc):=by
 intro pins s σ H Q I h
 refine Compare_chain (thn (ha pins s σ H _ I h) λv s1 ⟨x,H1,I1,r1,q1⟩=>chain_link (thn (hb pins s1 σ H1 _ I1 q1) λu s2 ⟨y,H2,I2,r2,q2⟩=>
  thn (ho pins s2 σ H2 x y v u _ I2 r1 r2 q2) λd s3 ⟨z,H3,I3,r3,k,e,q3⟩=>?_)) hm
 subst e
 cases r3
 refine wpAny_truthy_bool ?_
 cases k with
 | false=>exact ite_ff ⟨.bl false,H3,I3,rfl,q3⟩
 | true=>exact ite_tt (chain_last (thn (hc pins s3 σ H3 _ I3 q3) λw' s4 ⟨z',H4,I4,r4,q4⟩=>ho' pins s4 σ H4 y z' u w' Q I4 r2 r4 q4))
theorem z2E{op op':CmpOp}{r r':R2}(ho:OpR X (compareOp op) r)(ho':OpR X (compareOp op') r')(ha:PE X a ta)(hb:PE X b tb)(hc:PE X c tc)
  (hm:lastMarks [op,op'] [b,c]=false:=by with_unfolding_all rfl):PT X (.Compare a [op,op'] [b,c] pos) (z8U (z1x r r' ta tb tc)):=by
 intro pins s σ H Q I h
 refine isTrue_chain (thn (ha pins s σ H _ I h) λv s1 ⟨x,H1,I1,r1,q1⟩=>test_link (thn (hb pins s1 σ H1 _ I1 q1) λu s2 ⟨y,H2,I2,r2,q2⟩=>
  thn (ho pins s2 σ H2 x y v u _ I2 r1 r2 q2) λd s3 ⟨z,H3,I3,r3,k,e,q3⟩=>?_)) hm
 subst e
 cases r3
 refine wpAny_truthy_bool ?_
 cases k with
 | false=>
  obtain⟨k',e',q'⟩:=q3
  cases e'
  exact ite_ff ⟨H3,I3,q'⟩
 | true=>
  refine ite_tt (test_last (thn (hc pins s3 σ H3 _ I3 q3) λw' s4 ⟨z',H4,I4,r4,q4⟩=>thn (ho' pins s4 σ H4 y z' u w' _ I4 r2 r4 q4) λd' s5 ⟨z2,H5,I5,r5,k2,e2,q5⟩=>?_))
  subst e2
  cases r5
  exact wpAny_truthy_bool ⟨H5,I5,q5⟩
def TruV(K:PySem.W.Frag)(x:V)(H:Hp)(k:Bool):Prop:=
 match x with
 | .non=>k=false
 | .bl b=>k=b
 | .int i=>k=(i != 0)
 | .str y=>y.length<=sizeLine/\k=((y.length:Int) != 0)
 | .byt y=>y.size<=sizeLine/\k=((y.size:Int) != 0)
 | .ref p=>(∃xs,SqL K H p xs/\k = !xs.isEmpty)\/(∃xs,SqT K H p xs/\k = !xs.isEmpty)\/∃kvs,H p=some (.dK kvs)/\k = !kvs.isEmpty
 | _=>False
theorem q9C{κ:Type}{kvs:List (κ×V)}{vs:List (κ×Value)}(r:KV kvs vs):(!vs.isEmpty) = !kvs.isEmpty:=by
 cases r<;>rfl
theorem q5h{xs:List V}{its:List Value}(r:Vals xs its):(!its.toArray.isEmpty) = !xs.isEmpty:=by
 cases r<;>simp
theorem q4R:(sizeLine:Nat)<2^63:=by rw[sizeLine_eq];decide
theorem q8W:TruR X (λx H Q=>∃k,TruV X.K x H k/\Q k H):=by
 intro pins s σ H x v Q I rx h
 obtain⟨k,e,q⟩:=h
 have hl:=q4R
 have hs:sizeLine=16777216:=sizeLine_eq
 cases x with
 | non=>
  cases rx
  have e':k=false:=e
  subst e'
  exact truthy_none ⟨H,I,q⟩
 | bl b=>
  cases rx
  have e':k=b:=e
  subst e'
  exact wpAny_truthy_bool ⟨H,I,q⟩
 | int i=>
  obtain⟨t,rfl⟩:=rx
  have e':k=(i != 0):=e
  subst e'
  exact PySem.P.truthy_int ⟨H,I,q⟩
 | str y=>
  obtain⟨t,rfl⟩:=rx
  obtain⟨hy,e'⟩:y.length<=sizeLine/\k=((y.length:Int) != 0):=e
  subst e'
  exact PySem.P.truthy_str (by omega) ⟨H,I.tok _,q⟩
 | byt y=>
  obtain⟨t,rfl⟩:=rx
  obtain⟨hy,e'⟩:y.size<=sizeLine/\k=((y.size:Int) != 0):=e
  subst e'
  exact PySem.W.truthy_bytes (by omega) ⟨H,I.tok _,q⟩
 | ref p=>
  cases rx
  have e':(∃xs,SqL X.K H p xs/\k = !xs.isEmpty)\/(∃xs,SqT X.K H p xs/\k = !xs.isEmpty)\/∃kvs,H p=some (.dK kvs)/\k = !kvs.isEmpty:=e
  rcases e' with⟨xs,hx,e'⟩ | ⟨xs,hx,e'⟩ | ⟨kvs,hx,e'⟩
  ·subst e'
   obtain⟨its,r,pl,hz⟩:=I.list hx
   have hlen:=r.length
   exact wpAny_truthy_list pl.isList (by simp only[List.size_toArray];omega) ⟨H,I.tok _,by rw[q5h r];exact q⟩
  ·subst e'
   obtain⟨its,r,pl,hz⟩:=I.tuple hx
   have hlen:=r.length
   exact truthy_tuple pl (by simp only[List.size_toArray];omega) ⟨H,I.tok _,by rw[q5h r];exact q⟩
  ·subst e'
   obtain⟨hz,hS,vs,r,m⟩:kvs.length<=sizeLine/\(p==sysModules)=false/\∃vs,KV kvs vs/\s.heap.DictOf (q0N X.prog X.w) p vs:=I.hok p _ hx
   have hlen:kvs.length=vs.length:=Paired.length r
   exact wpAny_truthy_dict hS m (by omega) ⟨H,I.tok _,by rw[q9C r];exact q⟩
 | _=>exact(show False from e).elim
theorem q8q(ha:PE X a ta)(he:∀whole,isTrue a X.env whole=(do let v ←whole;standAt a.pos;holding [v] (truthy v))) :
  PT X a (λσ H Q=>ta σ H λx H'=>∃k,TruV X.K x H' k/\Q k H'):=by
 intro pins s σ H Q I h
 exact isTrue_plain (thn (ha pins s σ H _ I h) λv s1 ⟨x,H1,I1,r1,q1⟩=>q8W pins s1 σ H1 x v Q I1 r1 q1) (he _)
theorem q4X{x:V}{us:List Value}(r:Vals [x] us):∃u,us=[u]/\RelV x u:=by
 cases r with
 | cons r1 r2=>cases r2;exact⟨_,rfl,r1⟩
theorem z1G{x y:V}{us:List Value}(r:Vals [x,y] us):∃u w',us=[u,w']/\RelV x u/\RelV y w':=by
 cases r with
 | cons r1 r2=>
  cases r2 with
  | cons r3 r4=>cases r4;exact⟨_,_,rfl,r1,r3⟩
theorem z1a(hc:X.calm=true):q1F X (.builtin "max") (λxs H Q=>∃i j,xs=[.int i,.int j]/\Q (.int (if j>i then j else i)) H):=by
 intro pins s σ H xs us Q I r h
 obtain⟨i,j,rfl,q⟩:=h
 obtain⟨u,w',rfl,⟨t,rfl⟩,⟨t',rfl⟩⟩:=z1G r
 refine max_two_ints (I.ok.hd hc) λh' tk k=>⟨_,H,I.kept k,?_,q⟩
 by_cases hj:j>i
 ·rw[if_pos hj,if_pos hj];exact⟨_,rfl⟩
 ·rw[if_neg hj,if_neg hj];exact⟨_,rfl⟩
theorem z0R(hc:X.calm=true):q1F X (.builtin "min") (λxs H Q=>∃i j,xs=[.int i,.int j]/\Q (.int (if j<i then j else i)) H):=by
 intro pins s σ H xs us Q I r h
 obtain⟨i,j,rfl,q⟩:=h
 obtain⟨u,w',rfl,⟨t,rfl⟩,⟨t',rfl⟩⟩:=z1G r
 refine min_two_ints (I.ok.hd hc) λh' tk k=>⟨_,H,I.kept k,?_,q⟩
 by_cases hj:j<i
 ·rw[if_pos hj,if_pos hj];exact⟨_,rfl⟩
 ·rw[if_neg hj,if_neg hj];exact⟨_,rfl⟩
end
end L2
namespace L2
open PySem PySem.Spec PyProof.Rows
structure ObjM(h:Heap)(x dx C:Addr)(mA:Str->Option Value):Prop where
 obj:h.get? x=some (PySem.W.instObj C dx)
 ns:h.Ns1 dx mA
 ne:dx≠x
section
variable {prog:Program} {w:World} {A:Around} {E:Value->Shared->Prop} {s:Shared} {K:PySem.W.Frag} {x dx C f:Addr} {mA:Str->Option Value} {name:Str} {v:Value}
end
theorem RelO.some_of{v:V}{o:Option Value}(r:RelO (some v) o):∃u,o=some u/\RelV v u:=by
 cases o with
 | none=>exact(show False from r).elim
 | some u=>exact⟨u,rfl,r⟩
section
variable {P:Program} {w:World} {H H':Hp} {h h':Heap} {a C dx:Addr} {fs fs':List (Str×V)}
end
structure Cls(K:PySem.W.Frag)(C:Addr):Prop where
 pg:PySem.W.plainGet K C Str.empty=true
 hd:PySem.W.hasDictIn K C=true
 po:PySem.W.plainOver K C=true
 sa:PySem.W.findIn K (.ref C) "__setattr__" = some (some (.builtin "object.__setattr__"))
structure Con(K:PySem.W.Frag)(C:Addr)(f:Str)(v:V)(u:Value):Prop where
 at_:PySem.W.findIn K (.ref C) f=some (some u)
 rel:RelV v u
 get:PySem.W.specialIn K u "__get__" = some none
 cp:PySem.W.copiedNames.contains f=false
structure Meth(K:PySem.W.Frag)(C:Addr)(m:Str)(f:Addr):Prop where
 at_:PySem.W.findIn K (.ref C) m=some (some (.ref f))
 fn:PySem.W.isFn K (.ref f)=true
 kp:PySem.W.keepIn K (.ref f)=true
section
variable {X:Cx} {pins:List (Addr×Obj)} {σ:St} {H:Hp} {s:Shared} {a C dx:Addr} {fs:List (Str×V)} {f:Str} {v:V} {A:Around} {E:Value->Shared->Prop}
end
section
variable {X:Cx} {o e value:Expr} {f:Str} {pos pos' tpos:Pos} {ta tv:TE}
end
section
variable {X:Cx} {pins:List (Addr×Obj)} {σ:St} {H:Hp} {s:Shared} {A:Around} {E:Value->Shared->Prop} {Q:Value->Shared->Prop} {c:Value} {b:Bool}
inductive TyOf (K:PySem.W.Frag) (H:Hp):V->Value->Prop where
 | non:TyOf K H .non (.type "NoneType")
 | bl (x:Bool):TyOf K H (.bl x) (.type "bool")
 | int (i:Int):TyOf K H (.int i) (.type "int")
 | str (x:Str):TyOf K H (.str x) (.type "str")
 | flt (x:UInt64):TyOf K H (.flt x) (.type "float")
 | lst {a:Addr} {xs:List V} (e:H a=some (.lst xs)):TyOf K H (.ref a) (.type "list")
 | frz {a:Addr} {o:Obj} {xs:List V} (e:H a=some (.frz o (.lst xs))):TyOf K H (.ref a) (.type "list")
 | tup {a:Addr} {xs:List V} (e:H a=some (.tup xs)):TyOf K H (.ref a) (.type "tuple")
 | dK {a:Addr} {kvs:List (Key×V)} (e:H a=some (.dK kvs)):TyOf K H (.ref a) (.type "dict")
 | dT {a:Addr} {kvs:List (List Key×V)} (e:H a=some (.dT kvs)):TyOf K H (.ref a) (.type "dict")
 | ins {a C dx:Addr} {fs:List (Str×V)} (e:H a=some (.ins C dx fs)) (cl:Cls K C) (ha:PySem.W.findIn K (.ref C) "__class__" = some (some (.builtin "object.__class__")))
   (hn:PySem.W.specialIn K (.builtin "object.__class__") "__get__" = some (some (.builtin "getset_descriptor.__get__"))) (htk:PySem.W.takesIn K (.builtin "object.__class__")=some true)
   (hm:PySem.W.mroIn K C (.type "object")=some true):TyOf K H (.ref a) (.ref C)
end
end L2
namespace L2
open PySem PySem.Spec PyProof.Rows
structure Room(k:Nat)(A:Around):Prop where
 hd:A.handled=none
 dp:A.depth+3*k+5<recursionLimit
 un:A.units+16*k+200<cLine
theorem Room.deeper{k:Nat}{A:Around}(r:Room (k+1) A)(env:Env):Room k (A.deeper env):=
 ⟨r.hd,by have:=r.dp;show A.depth+1+3*k+5<_;omega,by have:=r.un;show A.units+3+16*k+200<_;omega⟩
theorem Room.depth{k:Nat}{A:Around}(r:Room k A):A.depth<recursionLimit:=by have:=r.dp;omega
theorem Room.units{k:Nat}{A:Around}(r:Room k A):A.units+64<cLine:=by have:=r.un;omega
def tNil:TA:=λ_ H Q=>Q [] H
def y1n(ta:TE)(tr:TA):TA:=λσ H Q=>ta σ H λx H1=>tr σ H1 λxs H2=>Q (x::xs) H2
section
variable {X:Cx} {e:Expr} {es:List Expr} {te:TE} {t:TA} {pos:Pos}
theorem q3X:PA X [] tNil:=λ_ _ _ _ H Q I h=>Calls.spliced_nil ⟨[],H,I,.nil,h⟩
theorem q1n(ha:PE X e te)(hr:PA X es t)(hs:starEach (e::es) X.env=(false,eval e X.env)::starEach es X.env:=by rfl):PA X (e::es) (y1n te t):=by
 intro pos pins s σ H Q I h
 rw[hs]
 show wpAny _ _ (spliced ((false,eval e X.env)::backTo pos (starEach es X.env))) _ _ s
 refine Calls.spliced_cons (thn (ha pins s σ H _ I h) λu s1 ⟨x,H1,I1,r1,q1⟩=>?_)
 exact thn (hr pos pins s1 σ H1 _ I1 q1) λus s2 ⟨xs,H2,I2,r2,q2⟩=>⟨x::xs,H2,I2,.cons r1 r2,q2⟩
def tTup(t:TA):TE:=λσ H Q=>t σ H λxs H1=>xs.length<=sizeLine/\∀p,H1 p=none->Q (.ref p) (upd H1 p (.tup xs))
def tLst(t:TA):TE:=λσ H Q=>t σ H λxs H1=>xs.length<=sizeLine/\∀p,H1 p=none->Q (.ref p) (upd H1 p (.lst xs))
theorem z1P{x1}(h:PA X es t):PE X (.Tuple es x1 pos) (tTup t):=by
 intro pins s σ H Q I hq
 refine wpAny_Tuple_spliced (thn (h pos pins s σ H _ I hq) λus s1 ⟨xs,H1,I1,r,z,q⟩=>⟨by rw[←r.length];exact z,?_⟩)
 have hf:H1 s1.heap.objs.size=none:=I1.hok.fresh (Nat.le_refl _)
 refine⟨.ref s1.heap.objs.size,upd H1 s1.heap.objs.size (.tup xs),I1.laid (t':=s1.toks) (λb u e=>Heap.get?_push_of_some _ e) (Nat.le_refl _) ?_,rfl,q _ hf⟩
 exact⟨z,us,r,⟨_,Heap.get?_push_size _ rfl,⟨rfl,rfl⟩,_,rfl⟩⟩
theorem z9h(h:PA X es t):PE X (.List es pos) (tLst t):=by
 intro pins s σ H Q I hq
 refine wpAny_List_spliced (thn (h pos pins s σ H _ I hq) λus s1 ⟨xs,H1,I1,r,z,q⟩=>⟨by rw[←r.length];exact z,?_⟩)
 have hf:H1 s1.heap.objs.size=none:=I1.hok.fresh (Nat.le_refl _)
 refine⟨.ref s1.heap.objs.size,upd H1 s1.heap.objs.size (.lst xs),I1.laid (t':=s1.toks) (λb u e=>Heap.get?_push_of_some _ e) (Nat.le_refl _) ?_,rfl,q _ hf⟩
 exact⟨z,us,0,r,Heap.get?_push_size _ rfl⟩
end
abbrev Sp:=List V->Hp->VK->XK->Prop
abbrev CXT:=List Env->Hp->Shared->XK->Value->Shared->Prop
structure Env0(P:Program)(w:World)(K:PySem.W.Frag)(mg:Str->Option Value)(base:Heap)(A:Around)(outer:List Env)(s:Shared)(H:Hp):Prop where
 frames:A.frames=some outer
 mod:Mod K mg base
 bs:∀b o,base.get? b=some o->s.heap.get? b=some o/\H b=none
 bsz:base.objs.size<=s.heap.objs.size
 funs:s.heap.FunFrames base outer
 frf:∀b∈frs outer,H b=none
 hok:HOk P w H s.heap
 bare:AllBare s.gens
def CE(outer:List Env)(P:Program)(w:World)(H:Hp)(s:Shared)(Q:VK)(u:Value)(s':Shared):Prop:=
 ∃v H',s'.os=s.os/\AllBare s'.gens/\Un (frs outer) [] H H' s.heap s'.heap/\HOk P w H' s'.heap/\RelV v u/\Q v H'
def CR(CX:CXT)(outer:List Env)(P:Program)(w:World)(H:Hp)(s:Shared)(Q:VK)(E:XK)(r:Result)(s':Shared):Prop:=
 match r with
 | .ok (.ret u)=>CE outer P w H s Q u s'
 | .ok _=>False
 | .error e=>CX outer H s E e s'
structure FnOk(P:Program)(w:World)(K:PySem.W.Frag)(mg:Str->Option Value)(base:Heap)(CX:CXT)(k:Nat)(f:Addr)(fd:FuncData)(ps:List Str)(sp:Sp):Prop where
 len:∀vs H Q E,sp vs H Q E->vs.length=ps.length
 run:∀(A:Around) (outer:List Env) (s:Shared) (H:Hp) (args:Args) (us:List Value) (vs:List V) (Q:VK) (E:XK),Room k A->Env0 P w K mg base A outer s H->BindsTo s fd args (ps.zip us)->Vals vs us->sp vs H Q E ->
  codeAny (model P w) A (.call (.ref f) args) (CR CX outer P w H s Q E) s
section
variable {X:Cx} {pins:List (Addr×Obj)} {σ:St} {H:Hp} {s s':Shared}
theorem Inv.env0(I:Inv X pins σ H s):Env0 X.prog X.w X.K X.mg X.base X.A X.stack s H:=
 ⟨I.ok.frames,I.ok.mod,I.bs,Nat.le_trans I.ok.bsz I.sz,I.stack,I.stkFree,I.hok,I.bare⟩
theorem Inv.after{Q:VK}{u:Value}(I:Inv X pins σ H s)(h:CE X.stack X.prog X.w H s Q u s'):EP X pins σ Q u s':=by
 obtain⟨v,H',os,bare,un,hok,r,q⟩:=h
 obtain⟨hh,g,d,t,os'⟩:=s'
 obtain rfl:os'=s.os:=os
 exact⟨v,H',I.call (h':=hh) (g':=g) (d':=d) (t':=t) (ch:=[]) un hok bare (λb z=>absurd z (by simp)),r,q⟩
end
def q2J(K:PySem.W.Frag)(fd:FuncData)(ps:List Str)(ds:List Value):Prop:=
 ∀(s:Shared) (us:List Value),K.In s.heap->(us++ds).length=ps.length->BindsTo s fd ⟨us,[]⟩ (ps.zip (us++ds))
theorem q2J.all{K:PySem.W.Frag}{fd:FuncData}{ps:List Str}(h:∀us:List Value,us.length=ps.length->bindArgs fd ⟨us,[]⟩=pure (ps.zip us)):q2J K fd ps []:=λs us _ hl=>by
 rw[List.append_nil]at hl ⊢
 exact .of_eq (h us hl)
def z0w(CX:CXT)(X:Cx)(E:XK):Prop:=∀(pins:List (Addr×Obj)) (σ:St) (H:Hp) (s:Shared) (e:Value) (s':Shared),Inv X pins σ H s->CX X.stack H s E e s'->X.xe e s'
section
variable {X:Cx} {CX:CXT} {k:Nat} {f C:Addr} {fd:FuncData} {ps:List Str} {sp:Sp} {dvs:List V} {ds:List Value} {E:XK} {x m:Str} {p pos apos:Pos} {e o:Expr} {es:List Expr} {ta:TE} {t:TA}
structure Mk(K:PySem.W.Frag)(C f:Addr):Prop where
 makes:PySem.W.makesIn K C=true
 init:PySem.W.findIn K (.ref C) "__init__" = some (some (.ref f))
 fn:PySem.W.isFn K (.ref f)=true
 kp:PySem.W.keepIn K (.ref C)=true
end
section
variable {X:Cx} {CX:CXT} {k:Nat} {f C:Addr} {fd:FuncData} {ps ks:List Str} {sp:Sp} {E:XK} {x m:Str} {p pos apos kpos:Pos} {e o:Expr} {es:List Expr} {kws:List Keyword} {te ta:TE} {t tk:TA} {nm:Option Str}
structure KBinds(K:PySem.W.Frag)(fd:FuncData)(ps ks:List Str)(g:List Value->List Value->List Value)(gV:List V->List V->List V):Prop where
 to:∀(s:Shared) (us ws:List Value),K.In s.heap->(g us ws).length=ps.length->BindsTo s fd ⟨us,ks.zip ws⟩ (ps.zip (g us ws))
 rel:∀{vs:List V} {us:List Value} {zs:List V} {ws:List Value},Vals vs us->Vals zs ws->Vals (gV vs zs) (g us ws)
variable {g:List Value->List Value->List Value} {gV:List V->List V->List V}
end
structure FnScope(N P:List Str)(sc:Scope):Prop where
 kind:sc.kind=.function
 co:sc.isCoroutine=false
 gen:sc.isGenerator=false
 nd:N.Nodup
 pre:N.take P.length=P
 par:∀x∈P,sc.names.lookup x=some .local\/sc.names.lookup x=some .cell
 nofree:∀y∈sc.names,y.2 ≠ .free
theorem q7c{kindOf:Str->Option NameKind}{x:Str}:∀{binds:List (Str×Value)} {m:Str->Option Value},(∀v,(x,v)∉binds)->bindL kindOf binds m x=m x
 | [],_,_=>rfl
 | (n,v)::r,m,h=>by
  unfold bindL
  rw[q7c λw hw=>h w (List.mem_cons_of_mem _ hw)]
  split
  ·have:x≠n:=by rintro rfl;exact h v List.mem_cons_self
   simp[this]
  ·rfl
theorem q6B{kindOf:Str->Option NameKind}{x:Str}:∀{binds:List (Str×Value)} {m:Str->Option Value},(∀v,(x,v)∉binds)->bindC kindOf binds m x=m x
 | [],_,_=>rfl
 | (n,v)::r,m,h=>by
  unfold bindC
  rw[q6B λw hw=>h w (List.mem_cons_of_mem _ hw)]
  split
  ·rfl
  ·have:x≠n:=by rintro rfl;exact h v List.mem_cons_self
   simp[this]
theorem q7g{kindOf:Str->Option NameKind}{x:Str}{v:Value}:∀{P:List Str} {vs:List Value} {i:Nat} {m:Str->Option Value},P.Nodup->P[i]? = some x->vs[i]? = some v->kindOf x=some .local ->
  bindL kindOf (P.zip vs) m x=some v
 | [],_,_,_,_,h,_,_=>by simp at h
 | _::_,[],_,_,_,_,h,_=>by simp at h
 | p::P,w::vs,0,m,nd,h1,h2,hk=>by
  simp at h1 h2;subst h1;subst h2
  show bindL kindOf ((p,w)::P.zip vs) m p=_
  unfold bindL
  rw[q7c λv hv=>(List.nodup_cons.mp nd).1 (List.of_mem_zip hv).1,if_pos hk]
  simp
 | p::P,w::vs,i+1,m,nd,h1,h2,hk=>by
  show bindL kindOf ((p,w)::P.zip vs) m x=_
  unfold bindL
  exact q7g (i:=i) (List.nodup_cons.mp nd).2 (by simpa using h1) (by simpa using h2) hk
theorem q6w{kindOf:Str->Option NameKind}{x:Str}{v:Value}:∀{P:List Str} {vs:List Value} {i:Nat} {m:Str->Option Value},P.Nodup->P[i]? = some x->vs[i]? = some v->kindOf x≠some .local ->
  bindC kindOf (P.zip vs) m x=some v
 | [],_,_,_,_,h,_,_=>by simp at h
 | _::_,[],_,_,_,_,h,_=>by simp at h
 | p::P,w::vs,0,m,nd,h1,h2,hk=>by
  simp at h1 h2;subst h1;subst h2
  show bindC kindOf ((p,w)::P.zip vs) m p=_
  unfold bindC
  rw[q6B λv hv=>(List.nodup_cons.mp nd).1 (List.of_mem_zip hv).1,if_neg hk]
  simp
 | p::P,w::vs,i+1,m,nd,h1,h2,hk=>by
  show bindC kindOf ((p,w)::P.zip vs) m x=_
  unfold bindC
  exact q6w (i:=i) (List.nodup_cons.mp nd).2 (by simpa using h1) (by simpa using h2) hk
def start(N:List Str)(vs:List V):St:=vs.map some++List.replicate (N.length - vs.length) none
def cxOf(CX:CXT)(P:Program)(w:World)(K:PySem.W.Frag)(mg:Str->Option Value)(base:Heap)(N:List Str)(qual:Str)(scope:Scope)(f:Addr)(cd:Value)(A:Around)(outer:List Env)(s:Shared)(H:Hp)(E:XK):Cx where
 prog:=P
 w:=w
 K:=K
 mg:=mg
 base:=base
 A:=A.deeper (envOfC qual scope s.heap.objs.size f cd)
 N:=N
 s₀:=s
 H₀:=H
 env:=envOfC qual scope s.heap.objs.size f cd
 outer:=outer
 stack:=envOfC qual scope s.heap.objs.size f cd::outer
 ex:=[]
 calm:=true
 fn:=λ_=>true
 pn:=[]
 xe:=λe s'=>wpAny (model P w) (A.deeper (envOfC qual scope s.heap.objs.size f cd)) (leaving (envOfC qual scope s.heap.objs.size f cd) e) (λ_ s''=>CX outer H s E e s'') (λe' s''=>CX outer H s E e' s'') s'
theorem q8x{sc:Scope}{n:Nat}{x:Str}(h:sc.names.lookup x=some .cell):∃c,(cellsFrom n sc.names []).lookup x=some c:=by
 have q:=PySem.W.cellsFrom_some sc.names n [] (.inl h)
 exact Option.isSome_iff_exists.mp q
theorem z1u{CX:CXT}{P:Program}{w:World}{K:PySem.W.Frag}{mg:Str->Option Value}{base:Heap}{N ps:List Str}{qual:Str}{scope:Scope}{f:Addr}{cd:Value}{A:Around}{outer:List Env}{s s1:Shared}{H:Hp}{E:XK}{us:List Value}{vs:List V}
  (S:FnScope N ps scope) (hd:A.handled=none) (e0:Env0 P w K mg base A outer s H) (hl:vs.length=ps.length) (r:Vals vs us)
  (x:InCallC s s.heap.objs.size (bindL (envOfC qual scope s.heap.objs.size f cd).kindOf (ps.zip us) λ_=>none) (cellsFrom (s.heap.objs.size+1) scope.names []) (bindC (envOfC qual scope s.heap.objs.size f cd).kindOf (ps.zip us) λ_=>none) s1) :
  Inv (cxOf CX P w K mg base N qual scope f cd A outer s H E) [] (start N vs) H s1:=by
 have hpl:ps.length<=N.length:=by have:=congrArg List.length S.pre;rw[List.length_take]at this;omega
 obtain⟨h1,tk,rfl,hk⟩:=x.done
 have noA:∀b:Addr,b∉(cxOf CX P w K mg base N qual scope f cd A outer s H E).ex:=λb z=>absurd (show b∈([]:List Addr)from z) (by simp)
 refine⟨⟨e0.mod,S.kind,rfl,rfl,Nat.le_refl _,λy z c h1 h2=>?_,λy hy=>?_,λy c _ h=>?_,λ_=>hd,Around.frames_deeper e0.frames,.inr ⟨rfl,rfl⟩,λb z=>absurd z (noA b),e0.bs,e0.bsz,λb _ _=>noA b,λb z=>absurd z (noA b),e0.funs,e0.frf⟩,
  rfl,e0.bare,Un.kept hk,⟨_,x.toInCall.ns,λi y v h1 h2 h3=>?_⟩,λy c h=>⟨_,x.cell y c h⟩,e0.hok.fresh (Nat.le_refl _),λy c h=>?_,λp hp=>absurd (show p∈([]:List (Addr×Obj))from hp) (by simp),e0.hok.kept hk,?_⟩
 ·exact name_of_addr x.apart (PySem.mem_of_lookup h1) (PySem.mem_of_lookup h2)
 ·have hy:scope.names.lookup y=some .cell\/scope.names.lookup y=some .free:=hy
  rcases hy with hy | hy
  ·exact q8x hy
  ·exact absurd rfl (S.nofree _ (PySem.mem_of_lookup hy))
 ·exact Nat.le_of_lt (x.above y c (PySem.mem_of_lookup h))
 ·have hi:i<vs.length:=by
   unfold start at h2
   by_cases hi:i<vs.length
   ·exact hi
   ·rw[List.getElem?_append_right (by simpa using hi)]at h2
    rw[List.getElem?_replicate]at h2
    split at h2<;>cases h2
  have ha:vs[i]? = some v:=by
   unfold start at h2
   rw[List.getElem?_append_left (by simpa using hi),List.getElem?_map]at h2
   cases e:vs[i]? with
   | none=>rw[e]at h2;cases h2
   | some a=>rw[e]at h2;cases h2;rfl
  obtain⟨u,hu,rv⟩:=r.get ha
  have hp:ps[i]? = some y:=by
   rw[←S.pre,List.getElem?_take_of_lt (by omega)];exact h1
  have ndP:ps.Nodup:=by rw[←S.pre];exact S.nd.sublist (List.take_sublist _ _)
  refine⟨u,rv,?_⟩
  rcases S.par y (List.mem_of_getElem? hp)with k | k
  ·exact .inl ⟨k,q7g ndP hp hu k⟩
  ·obtain⟨c,e⟩:=q8x (n:=s.heap.objs.size+1) k
   refine .inr ⟨.inl k,c,e,?_⟩
   have q:=x.cell y c e
   rw[q6w ndP hp hu (by show scope.names.lookup y≠_;rw[k];decide)]at q
   exact q
 ·exact e0.hok.fresh (Nat.le_of_lt (x.above y c (PySem.mem_of_lookup h)))
 ·unfold start
  show _=N.length
  rw[List.length_append,List.length_map,List.length_replicate]
  omega
theorem y0n{CX:CXT}{P:Program}{w:World}{K:PySem.W.Frag}{mg:Str->Option Value}{base:Heap}{k:Nat}{f:Addr}{name qual:Str}{params:Arguments}{body:List Stmt}{scope:Scope}{dV kV doc pm cdv ct oc:Value}{an od:Option Addr}
  {osl:Array (Option Value)} {N ps:List Str} {sp:Sp} (lk:K.lookup f=some ⟨oc,od,.func (PySem.W.fnOf name qual params body scope dV kV doc pm an cdv ct),osl⟩) (hcd:PySem.W.codeIn K cdv qual=true) (S:FnScope N ps scope)
  (len:∀vs H Q E,sp vs H Q E->vs.length=ps.length)
  (hbody:∀(A:Around) (outer:List Env) (s:Shared) (H:Hp) (vs:List V) (Q:VK) (E:XK),Room k (A.deeper (envOfC qual scope s.heap.objs.size f cdv))->sp vs H Q E ->
   ∃t,PSs (cxOf CX P w K mg base N qual scope f cdv A outer s H E) body t/\t {nx:=λ_ H'=>Q .non H',rt:=Q} (start N vs) H) :
  FnOk P w K mg base CX (k+1) f (PySem.W.fnOf name qual params body scope dV kV doc pm an cdv ct) ps sp:=by
 refine⟨len,λA outer s H args us vs Q E hr e0 hb r hsp=>?_⟩
 have hl:=len _ _ _ _ hsp
 have KX:K.In s.heap:=e0.mod.kin.keeps λb o e=>(e0.bs b o e).1
 have lim:s.heap.NoLimit:=e0.mod.nolimit.keeps λb o e=>(e0.bs b o e).1
 have hkind:∀y∈ps.zip us,scope.names.lookup y.1=some .local\/(scope.names.lookup y.1=some .cell/\((cellsFrom (s.heap.objs.size+1) scope.names []).lookup y.1).isSome=true):=λ⟨n,v⟩ hy=>by
  rcases S.par n (List.of_mem_zip hy).1 with q | q
  ·exact .inl q
  ·exact .inr ⟨q,PySem.W.cellsFrom_some _ _ _ (.inl q)⟩
 refine codeAny_call_function hr.depth (KX _ _ lk) rfl S.co S.gen rfl (PySem.W.codeRec_of KX hcd) (hb _ _ _ _ ?_)
 refine wpAny_newFunctionEnv_cells S.kind hkind λenv he s1 x=>?_
 subst he
 refine⟨lim.keeps x.toInCall.keep,codeAny_func ?_⟩
 obtain⟨t,ht,hq⟩:=hbody A outer s H vs Q E (hr.deeper _) hsp
 have I:Inv (cxOf CX P w K mg base N qual scope f cdv A outer s H E) [] (start N vs) H s1:=z1u S hr.hd e0 hl r x
 refine wpAny_mono (ht [] s1 (start N vs) H _ I hq) (λfl s' hs=>?_) λe s' hs=>hs
 have fin:∀{σ':St} {H':Hp} {v:V} {u:Value},Inv (cxOf CX P w K mg base N qual scope f cdv A outer s H E) [] σ' H' s'->RelV v u->Q v H'->CE outer P w H s Q u s':=
  λ{σ' H' v u} J rv q=>⟨v,H',J.os,J.bare,J.base,J.hok,rv,q⟩
 cases fl with
 | ret u=>
  obtain⟨v,σ',H',J,rv,q⟩:=hs
  exact fin J rv q
 | next=>
  obtain⟨σ',H',J,q⟩:=hs
  exact fin (v:=V.non) (u:=Value.none) J rfl q
 | brk=>
  obtain⟨_,_,_,q⟩:=hs
  exact False.elim q
 | cont=>
  obtain⟨_,_,_,q⟩:=hs
  exact False.elim q
end L2
namespace L2
open PySem PySem.Spec PyProof.Rows
section
variable {X:Cx} {x:Str} {p pos:Pos} {e:Expr} {es:List Expr} {t:TA} {id T:String} {r:List V->Hp->VK->Prop}
def tCB(r:List V->Hp->VK->Prop)(t:TA):TE:=λσ H Q=>t σ H λvs H1=>r vs H1 Q
theorem q4i(hc:q1F X (.builtin id) r)(hg:Gl X x)(hm:X.mg x=none)(hv:bootBuiltins x=some (.builtin id))(ha:PA X (e::es) t)(hn:x ≠ "__name__":=by decide)(hdb:(x==("__debug__" : Str))=false:=by decide)
  (he:starEach (e::es) X.env=(false,eval e X.env)::starEach es X.env:=by rfl) (hpl:(backTo pos (starEach es X.env)).any (·.1)=false:=by rfl):PE X (.Call (.Name x p) (e::es) [] pos) (tCB r t):=by
 intro pins s σ H Q I h
 refine wpAny_Call_Name_kw (q5p I hg hm hv ?_ hn hdb)
 exact PyProof.Rows.callWith_builtin1 (thn (ha pos pins s σ H _ I h) λus s1 ⟨vs,H1,I1,r1,q1⟩=>hc pins s1 σ H1 vs us Q I1 r1 q1) he hpl
theorem q6G(hc:q1F X (.type T) r)(hg:Gl X x)(hm:X.mg x=none)(hv:bootBuiltins x=some (.type T))(ha:PA X (e::es) t)(hn:x ≠ "__name__":=by decide)(hdb:(x==("__debug__" : Str))=false:=by decide)
  (he:starEach (e::es) X.env=(false,eval e X.env)::starEach es X.env:=by rfl) (hpl:(backTo pos (starEach es X.env)).any (·.1)=false:=by rfl):PE X (.Call (.Name x p) (e::es) [] pos) (tCB r t):=by
 intro pins s σ H Q I h
 refine wpAny_Call_Name_kw (q5p I hg hm hv ?_ hn hdb)
 exact PyProof.Rows.callWith_type1 (thn (ha pos pins s σ H _ I h) λus s1 ⟨vs,H1,I1,r1,q1⟩=>hc pins s1 σ H1 vs us Q I1 r1 q1) he hpl
end
end L2
namespace HT
open PySem PyProof.Rows
section
open PySem.SeqAt
open PySem.AutoSeq1 (wpAny_loadPart')
open PySem.MeetsSeq PySem.MeetsSeq2 PySem.MeetsSeq3
end
section
variable {prog:Program} {w:World} {A:Around} {E:Value->Shared->Prop} {s:Shared}
def sIx(n d:Nat):Option Int->Nat
 | none=>d
 | some v=>if v<0 then(v+(n:Int)).toNat else min v.toNat n
theorem z8x(n d:Nat)(hd:d<=n)(o:Option Int):sIx n d o<=n:=by
 cases o with
 | none=>exact hd
 | some v=>
  show(if v<0 then(v+(n:Int)).toNat else min v.toNat n)<=n
  by_cases hv:v<0
  ·rw[if_pos hv];omega
  ·rw[if_neg hv];exact Nat.min_le_right _ _
theorem z1F(v:Int)(n d:Nat):(if v<0 then max (v+(n:Int)) 0 else min v (n:Int))=((sIx n d (some v):Nat):Int):=by
 show(if v<0 then max (v+(n:Int)) 0 else min v (n:Int))=(((if v<0 then(v+(n:Int)).toNat else min v.toNat n):Nat):Int)
 by_cases hv:v<0
 ·simp only[if_pos hv];omega
 ·simp only[if_neg hv];omega
theorem q9Q(lo hi:Option Int)(n:Nat):Builtin.Slice.sliceAdjust lo hi 1 (n:Int)=(((sIx n 0 lo:Nat):Int),((sIx n n hi:Nat):Int)):=by
 have h1:¬((1:Int)<0):=by omega
 unfold Builtin.Slice.sliceAdjust
 simp only[h1,if_false]
 refine Prod.ext ?_ ?_
 ·cases lo with
  | none=>rfl
  | some v=>exact z1F v n 0
 ·cases hi with
  | none=>rfl
  | some v=>exact z1F v n n
theorem q9w(i j:Nat):Builtin.Slice.slicePlaces (i:Int) (j:Int) 1=j - i:=by
 unfold Builtin.Slice.slicePlaces
 have h1:(1:Int)>0:=by omega
 simp only[h1,if_true,Int.ediv_one]
 split<;>omega
theorem q5u{v:Value}{o:Option Int}{Q:Option Int->Shared->Prop}(p:IsPart v o)(h:Q o s):wpAny (model prog w) A (Builtin.Slice.slicePartIndex v) Q E s:=by
 cases p with
 | none=>exact slicePart_none h
 | int i t=>exact slicePart_int h
theorem q4f{sl:Addr}{vl vu:Value}{lo hi:Option Int}{n:Nat}{Q:Int×Int×Nat->Shared->Prop}(hs:s.heap.IsSliceOf sl vl vu .none)(pl:IsPart vl lo)(pu:IsPart vu hi)
  (h:Q (((sIx n 0 lo:Nat):Int),1,sIx n n hi - sIx n 0 lo) s):wpAny (model prog w) A (Builtin.Slice.sliceApplied (.ref sl) (pure (n:Int))) Q E s:=by
 obtain⟨os,hos,hcs,hds⟩:=id hs
 unfold Builtin.Slice.sliceApplied Builtin.Slice.sliceFields
 refine wpAny_bind (wpAny_bind (wpAny_field hos hds (x:=vl) rfl (wpAny_bind (wpAny_field hos hds (x:=vu) rfl (wpAny_bind (wpAny_field hos hds (x:=.none) rfl (wpAny_pure ?_)))))))
 refine wpAny_bind (slicePart_none ?_)
 show wpAny _ _ (if((1:Int)==0)=true then _ else _) _ _ s
 rw[if_neg (by decide)]
 refine wpAny_bind (q5u pl (wpAny_bind (q5u pu (wpAny_bind (wpAny_pure ?_)))))
 show wpAny _ _ (match Builtin.Slice.sliceAdjust lo hi 1 (n:Int)with | (lo,hi)=>pure (lo,(1:Int),Builtin.Slice.slicePlaces lo hi 1)) _ _ s
 rw[q9Q lo hi n]
 show wpAny _ _ (pure (((sIx n 0 lo:Nat):Int),(1:Int),Builtin.Slice.slicePlaces ((sIx n 0 lo:Nat):Int) ((sIx n n hi:Nat):Int) 1)) _ _ s
 rw[q9w]
 exact wpAny_pure h
theorem z2Q(xs:Array Value)(i k:Nat):((List.range k).filterMap λ(m:Nat)=>xs[((i:Int)+(m:Int)*1).toNat]?).toArray=((xs.toList.drop i).take k).toArray:=by
 have e:(λ(m:Nat)=>xs[((i:Int)+(m:Int)*1).toNat]?)=λm=>xs[i+m]?:=by
  funext m
  have:((i:Int)+(m:Int)*1).toNat=i+m:=by omega
  rw[this]
 rw[e]
 have:=pick_run xs i k
 rw[List.filterMap_map]at this
 have e2:((λx=>xs[x]?) ∘ λx=>i+x)=λm=>xs[i+m]?:=rfl
 rw[e2]at this
 rw[this]
theorem getItem_tuple_cut{t sl:Addr}{items:Array Value}{vl vu:Value}{lo hi:Option Int}{Q:Value->Shared->Prop}(ht:IsTup s.heap t items)(hs:s.heap.IsSliceOf sl vl vu .none)(pl:IsPart vl lo)(pu:IsPart vu hi)
  (hw:¬(sIx items.size 0 lo=0/\sIx items.size items.size hi=items.size))
  (h:Q (.ref s.heap.objs.size) {s with heap:=s.heap.push {cls:=.type "tuple",data:=.seq ((items.toList.drop (sIx items.size 0 lo)).take (sIx items.size items.size hi - sIx items.size 0 lo)).toArray}})
  (hsz:items.size<=sizeLine):wpAny (model prog w) A (getItem (.ref t) (.ref sl)) Q E s:=by
 have htake:sizeOk (.seq ((items.toList.drop (sIx items.size 0 lo)).take (sIx items.size items.size hi - sIx items.size 0 lo)).toArray):=by
  show((items.toList.drop (sIx items.size 0 lo)).take (sIx items.size items.size hi - sIx items.size 0 lo)).toArray.size<=sizeLine
  rw[List.size_toArray,List.length_take,List.length_drop,Array.length_toList]
  omega
 have hj:sIx items.size items.size hi<=items.size:=z8x _ _ (Nat.le_refl _) hi
 obtain⟨os,hos,hcs,hds⟩:=id hs
 have hTs:s.TypeIs (.ref sl) "slice":=⟨os,hos,hcs⟩
 unfold getItem
 try with_reducible refine wpAny_holding ?_
 first | refine wpAny_bind (wpAny_pure ?_) | skip
 refine wpAny_bind (wpAny_sequenceKey ht.typeIs (by decide) ?_)
 refine wpAny_bind (wpAny_callSpecial?_slot (name:=Str.ofString "__getitem__") ht.typeIs PyProof.Rows.slot_tuple_getitem
  (wpAny_call_entry PyProof.Rows.slot_tuple_getitem ht.typeIs entry_tuple_getitem ?_ (args_tuple_getitem _ _)))
 show wpAny _ _ (Builtin.Tuple.tupleItemsOf (.ref t) >>= _) _ _ s
 refine wpAny_bind (tupleItemsOf_ ht ?_)
 refine wpAny_bind (wpAny_typeOf hTs ?_)
 rw[if_pos (by decide)]
 refine wpAny_bind (q4f hs pl pu ?_)
 have hno:¬((((sIx items.size 0 lo:Nat):Int)==0&&(1:Int)==1&&(sIx items.size items.size hi - sIx items.size 0 lo)==items.size)=true):=by
  intro q
  rw[Bool.and_eq_true,Bool.and_eq_true]at q
  have q1:((sIx items.size 0 lo:Nat):Int)=0:=eq_of_beq q.1.1
  have q2:sIx items.size items.size hi - sIx items.size 0 lo=items.size:=eq_of_beq q.2
  exact hw ⟨by omega,by omega⟩
 show wpAny _ _ (if(((sIx items.size 0 lo:Nat):Int)==0&&(1:Int)==1&&(sIx items.size items.size hi - sIx items.size 0 lo)==items.size)=true then _ else _) _ _ s
 rw[if_neg hno,z2Q]
 first
  | exact wpAny_bind (m:=Builtin.Tuple.tupleExact _) (wpAny_newObj_type (wpAny_pure ⟨_,rfl,wpAny_pure h⟩) htake)
  | exact wpAny_bind (m:=Builtin.Tuple.tupleExact _) (wpAny_newObj_type (wpAny_bind (wpAny_pure (wpAny_pure ⟨_,rfl,wpAny_pure h⟩))) htake)
  | exact wpAny_bind (wpAny_bind (m:=Builtin.Tuple.tupleExact _) (wpAny_newObj_type (wpAny_pure (wpAny_pure ⟨_,rfl,wpAny_pure h⟩)) htake))
  | exact wpAny_bind (wpAny_bind (m:=Builtin.Tuple.tupleExact _) (wpAny_newObj_type (wpAny_pure ⟨_,rfl,wpAny_pure h⟩) htake))
end
end HT
namespace L2
open PySem PySem.Spec PyProof.Rows
abbrev TO:=St->Hp->(Option Int->Hp->Prop)->Prop
def PO(X:Cx)(e:Option Expr)(t:TO):Prop:=
 ∀(pins:List (Addr×Obj)) (s:Shared) (σ:St) (H:Hp) (Q:Option Int->Hp->Prop),Inv X pins σ H s->t σ H Q ->
  wpAny (model X.prog X.w) X.A (evalPart e X.env) (λu s'=>∃o H',Inv X pins σ H' s'/\IsPart u o/\Q o H') X.xe s
def z6f:TO:=λ_ H Q=>Q none H
def y1q(t:TE):TO:=λσ H Q=>t σ H λx H1=>∃i,x=.int i/\Q (some i) H1
section
variable {X:Cx} {e:Expr} {te:TE} {lo hi:Option Expr} {tl th:TO} {pos p2:Pos}
theorem q3M:PO X none z6f:=by
 intro pins s σ H Q I h
 rw[evalPart_none]
 exact wpAny_pure ⟨none,H,I,.none,h⟩
theorem z0o(h:PE X e te):PO X (some e) (y1q te):=by
 intro pins s σ H Q I hw
 rw[evalPart_some]
 refine thn (h pins s σ H _ I hw) λu s1 ⟨x,H1,I1,r1,q1⟩=>?_
 obtain⟨i,rfl,q⟩:=q1
 obtain⟨t,rfl⟩:=r1
 exact⟨some i,H1,I1,.int i t,q⟩
def SlR(X:Cx)(r:V->Option Int->Option Int->Hp->VK->Prop):Prop:=
 ∀(pins:List (Addr×Obj)) (s:Shared) (σ:St) (H:Hp) (x:V) (v vl vu:Value) (lo hi:Option Int) (sl:Addr) (Q:VK),Inv X pins σ H s->RelV x v->s.heap.IsSliceOf sl vl vu .none->IsPart vl lo->IsPart vu hi->r x lo hi H Q ->
  ∃T id,typeLookup (.type T) "__getitem__" = pure (some (.builtin id))/\s.TypeIs v T/\wpAny (model X.prog X.w) X.A (getItem v (.ref sl)) (EP X pins σ Q) X.xe s
theorem SlR.or{r r':V->Option Int->Option Int->Hp->VK->Prop}(h:SlR X r)(h':SlR X r'):SlR X (λx lo hi H Q=>r x lo hi H Q\/r' x lo hi H Q):=by
 intro pins s σ H x v vl vu lo hi sl Q I rx hs pl pu q
 rcases q with q | q
 ·exact h pins s σ H x v vl vu lo hi sl Q I rx hs pl pu q
 ·exact h' pins s σ H x v vl vu lo hi sl Q I rx hs pl pu q
def tSl(r:V->Option Int->Option Int->Hp->VK->Prop)(te:TE)(tl th:TO):TE:=λσ H Q=>te σ H λx H1=>tl σ H1 λl H2=>th σ H2 λu H3=>r x l u H3 Q
theorem q1t{r:V->Option Int->Option Int->Hp->VK->Prop}(hr:SlR X r)(he:PE X e te)(hl:PO X lo tl)(hu:PO X hi th):PE X (.Subscript e (.Slice lo hi none p2) pos) (tSl r te tl th):=by
 intro pins s σ H Q I h
 refine Subscript_ (thn (he pins s σ H _ I h) λv s1 ⟨x,H1,I1,r1,q1⟩=>?_)
 refine wpAny_Slice (thn (hl pins s1 σ H1 _ I1 q1) λvl s2 ⟨l,H2,I2,pl,q2⟩=>thn (hu pins s2 σ H2 _ I2 q2) λvu s3 ⟨u,H3,I3,pu,q3⟩=>?_)
 rw[evalPart_none]
 refine wpAny_pure ?_
 have I4:Inv X pins σ H3 {s3 with heap:=s3.heap.push {cls:=.type "slice",data:=.fields #[vl,vu,.none]}}:=I3.kept (t':=s3.toks) λb ob q=>Heap.get?_push_of_some _ q
 obtain⟨T,id,hT,ht,hg⟩:=hr pins {s3 with heap:=s3.heap.push {cls:=.type "slice",data:=.fields #[vl,vu,.none]}} σ H3 x v vl vu l u s3.heap.objs.size Q I4 r1 (Heap.IsSliceOf.new ..) pl pu q3
 show wpAny (model X.prog X.w) X.A (subscriptTail e (.Slice lo hi none p2) v (.ref s3.heap.objs.size)) (EP X pins σ Q) X.xe {s3 with heap:=s3.heap.push {cls:=.type "slice",data:=.fields #[vl,vu,.none]}}
 exact tail_any (ops:=[.ref s3.heap.objs.size,v]) ht hT hg (by with_unfolding_all rfl)
def cutV(xs:List V)(lo hi:Option Int):List V:=(xs.drop (HT.sIx xs.length 0 lo)).take (HT.sIx xs.length xs.length hi - HT.sIx xs.length 0 lo)
theorem q4E(xs:List V)(lo hi:Option Int):(cutV xs lo hi).length<=xs.length:=by
 unfold cutV
 rw[List.length_take,List.length_drop]
 omega
def rSlT(K:PySem.W.Frag):V->Option Int->Option Int->Hp->VK->Prop:=λx lo hi H Q=>∃a xs,x=.ref a/\SqT K H a xs /\
 ¬(HT.sIx xs.length 0 lo=0/\HT.sIx xs.length xs.length hi=xs.length)/\∀p,H p=none->Q (.ref p) (upd H p (.tup (cutV xs lo hi)))
theorem z9o:SlR X (rSlT X.K):=by
 intro pins s σ H x v vl vu lo hi sl Q I rx hs pl pu h
 obtain⟨a,xs,rfl,hx,hw,q⟩:=h
 cases rx
 obtain⟨its,r,ht,hz⟩:=I.tuple hx
 have hlen:its.toArray.size=xs.length:=by rw[List.size_toArray];exact r.length.symm
 refine⟨"tuple",_,PyProof.Rows.slot_tuple_getitem.lookup,ht.typeIs,?_⟩
 refine HT.getItem_tuple_cut ht hs pl pu (by rw[hlen];exact hw) ?_ (by rw[hlen];exact hz)
 rw[hlen]
 refine⟨.ref s.heap.objs.size,_,I.laid (t':=s.toks) (o:=.tup (cutV xs lo hi)) (λb ob q=>Heap.get?_push_of_some _ q) (Nat.le_refl _) ?_,rfl,q _ (I.hok.fresh (Nat.le_refl _))⟩
 exact⟨Nat.le_trans (q4E xs lo hi) hz,_,(r.drop (HT.sIx xs.length 0 lo)).take (HT.sIx xs.length xs.length hi - HT.sIx xs.length 0 lo),q3z.new _ _⟩
end
end L2
namespace L2
open PySem PySem.Spec PyProof.Rows
def ixN(n:Nat)(i:Int):Option Nat:=if 0<=i then(if i<n then some i.toNat else none)else if -(n:Int)<=i then some (i+n).toNat else none
def atI{α:Type}(xs:List α)(i:Int):Option α:=(ixN xs.length i).bind λj=>xs[j]?
theorem z1I{n:Nat}{i:Int}{j:Nat}(h:ixN n i=some j):seqIndex? i n=some j/\j<n /\ -(n:Int)<=i/\i<n:=by
 unfold ixN at h
 by_cases h0:0<=i
 ·rw[if_pos h0]at h
  by_cases h1:i<n
  ·rw[if_pos h1]at h
   have e:i.toNat=j:=Option.some.inj h
   exact⟨by rw[seqIndex_of h0 h1,e],by omega,by omega,h1⟩
  ·rw[if_neg h1]at h;cases h
 ·rw[if_neg h0]at h
  by_cases h1 : -(n:Int)<=i
  ·rw[if_pos h1]at h
   have e:(i+n).toNat=j:=Option.some.inj h
   exact⟨by rw[seqIndex_neg (by omega) h1,e],by omega,h1,by omega⟩
  ·rw[if_neg h1]at h;cases h
theorem q7Q{α:Type}{xs:List α}{i:Int}{v:α}(h:atI xs i=some v):∃j,seqIndex? i xs.length=some j/\xs[j]? = some v/\j<xs.length /\ -(xs.length:Int)<=i/\i<xs.length:=by
 unfold atI at h
 cases e:ixN xs.length i with
 | none=>rw[e]at h;cases h
 | some j=>
  rw[e]at h
  obtain⟨h1,h2,h3,h4⟩:=z1I e
  exact⟨j,h1,h,h2,h3,h4⟩
def z7x(b:Expr):Prop:=∀o i,subscripted b false o i=operate [o,i] (getItem o i)
def IxR(X:Cx)(r:R2):Prop:=
 ∀(value slice:Expr) (pins:List (Addr×Obj)) (s:Shared) (σ:St) (H:Hp) (x y:V) (v u:Value) (Q:VK),Inv X pins σ H s->RelV x v->RelV y u->r x y H Q ->
  subscripted slice false v u=operate [v,u] (getItem v u)->wpAny (model X.prog X.w) X.A (subscriptTail value slice v u) (EP X pins σ Q) X.xe s
def MtR(X:Cx)(id:String)(r:V->List V->Hp->VK->Prop):Prop:=
 ∀(pins:List (Addr×Obj)) (s:Shared) (σ:St) (H:Hp) (x:V) (xs:List V) (v:Value) (us:List Value) (Q:VK),Inv X pins σ H s->RelV x v->Vals xs us->r x xs H Q ->
  wpAny (model X.prog X.w) X.A (call (.builtin id) (v::us)) (EP X pins σ Q) X.xe s
section
variable {X:Cx} {a b:Expr} {ta tb:TE} {pos:Pos}
theorem IxR.or{r r':R2}(h:IxR X r)(h':IxR X r'):IxR X (λx y H Q=>r x y H Q\/r' x y H Q):=by
 intro value slice pins s σ H x y v u Q I rx ry q hs
 rcases q with q | q
 ·exact h value slice pins s σ H x y v u Q I rx ry q hs
 ·exact h' value slice pins s σ H x y v u Q I rx ry q hs
theorem y0q{r:R2}(hr:IxR X r)(ha:PE X a ta)(hb:PE X b tb)(hs:z7x b):PE X (.Subscript a b pos) (tOp r ta tb):=by
 intro pins s σ H Q I h
 exact Subscript_ (binT ha hb I h λv u s2 x y H2 I2 rx ry q=>hr a b pins s2 σ H2 x y v u Q I2 rx ry q (hs _ _))
def rIxL(K:PySem.W.Frag):R2:=λx y H Q=>∃p xs i v,x=.ref p/\y=.int i/\SqL K H p xs/\atI xs i=some v/\Q v H
def rIxT(K:PySem.W.Frag):R2:=λx y H Q=>∃p xs i v,x=.ref p/\y=.int i/\SqT K H p xs/\atI xs i=some v/\Q v H
def rIxS:R2:=λx y H Q=>∃z i c,x=.str z/\y=.int i/\z.length<=sizeLine/\atI z.cps.toList i=some c/\Q (.str ⟨#[c]⟩) H
theorem z5s:IxR X (rIxL X.K):=by
 intro value slice pins s σ H x y v u Q I rx ry h hs
 obtain⟨p,xs,i,z,rfl,rfl,hq,he,q⟩:=h
 cases rx
 obtain⟨t,rfl⟩:=ry
 obtain⟨its,r,pl,hz⟩:=I.list hq
 obtain⟨j,h1,h2,h3,h4,h5⟩:=q7Q he
 obtain⟨w,ew,rw'⟩:=r.get h2
 have hl:=r.length
 have hn:=q4R
 have fin:EP X pins σ Q w s:=⟨z,H,I,rw',q⟩
 by_cases h0:0<=i
 ·have hj:i.toNat=j:=by
   rw[seqIndex_of h0 h5]at h1
   exact Option.some.inj h1
  exact item_listR pl.isList h0 (by omega) (by rw[hj];simpa using ew) fin hs
 ·have hj:(i+(its.toArray.size:Int)).toNat=j:=by
   rw[seqIndex_neg (by omega) h4]at h1
   rw[List.size_toArray,←hl]
   exact Option.some.inj h1
  exact subscriptTail_builtinR (x:=w) pl.isList.typeIs slot_list_getitem.lookup
   (wpAny_getItem_list_neg (Q:=λr s'=>r=w/\EP X pins σ Q r s') pl.isList (by omega) (by rw[List.size_toArray]<;>omega) (by omega) (by rw[hj];simpa using ew) ⟨rfl,fin⟩) hs
theorem z9e:IxR X (rIxT X.K):=by
 intro value slice pins s σ H x y v u Q I rx ry h hs
 obtain⟨p,xs,i,z,rfl,rfl,hq,he,q⟩:=h
 cases rx
 obtain⟨t,rfl⟩:=ry
 obtain⟨its,r,pl,hz⟩:=I.tuple hq
 obtain⟨j,h1,h2,h3,h4,h5⟩:=q7Q he
 obtain⟨w,ew,rw'⟩:=r.get h2
 have hl:=r.length
 have hn:=q4R
 have fin:EP X pins σ Q w s:=⟨z,H,I,rw',q⟩
 exact subscriptTail_builtinR (x:=w) pl.typeIs slot_tuple_getitem.lookup
  (getItem_tuple (j:=j) (Q:=λr s'=>r=w/\EP X pins σ Q r s') pl (by omega) (by omega) (by rw[List.size_toArray,←hl];exact h1) (by simpa using ew) ⟨rfl,fin⟩) hs
theorem z8B:IxR X rIxS:=by
 intro value slice pins s σ H x y v u Q I rx ry h hs
 obtain⟨z,i,c,rfl,rfl,hz,he,q⟩:=h
 obtain⟨t,rfl⟩:=rx
 obtain⟨t',rfl⟩:=ry
 obtain⟨j,h1,h2,h3,h4,h5⟩:=q7Q he
 have hl:z.cps.toList.length=z.length:=by simp[Str.length]
 rw[hl]at h1 h4 h5
 have hn:=q4R
 exact tail_any (typeIs_str s z t) slot_str_getitem.lookup (getItem_str (c:=c) (by
  have e1:decide (i < -(2^63:Int))=false:=decide_eq_false (by omega)
  have e2:decide (i ≥ 2^63)=false:=decide_eq_false (by omega)
  rw[e1,e2,Bool.or_false]) (by rw[h1];simpa using h2) ⟨.str ⟨#[c]⟩,H,I.tok _,⟨_,rfl⟩,q⟩) hs
def rIx(K:PySem.W.Frag):R2:=λx y H Q=>rIxL K x y H Q\/rIxT K x y H Q\/rIxS x y H Q
theorem z9A:IxR X (rIx X.K):=z5s.or (z9e.or z8B)
theorem q9x(its:List Value)(n j:Nat)(u:Value):Obj.mapSeq (·.setIfInBounds j u) {cls:=.type "list",data:=.seq its.toArray n} = {cls:=.type "list",data:=.seq (its.set j u).toArray n}:=by
 simp[Obj.mapSeq]
theorem Inv.lst{pins:List (Addr×Obj)}{σ:St}{H:Hp}{s:Shared}{p:Addr}{xs:List V}(I:Inv X pins σ H s)(h:H p=some (.lst xs)) :
  ∃(its:List Value) (n:Nat),Vals xs its/\s.heap.get? p=some {cls:=.type "list",data:=.seq its.toArray n} /\ xs.length<=sizeLine:=by
 obtain⟨z,its,n,r,e⟩:=I.hok p _ h
 exact⟨its,n,r,e,z⟩
theorem Inv.lstUpd{pins:List (Addr×Obj)}{σ:St}{H:Hp}{s:Shared}{p:Addr}{xs ys:List V}{its its':List Value}{n n':Nat}{f:Obj->Obj}(I:Inv X pins σ H s)(h:H p=some (.lst xs))
  (ho:s.heap.get? p=some {cls:=.type "list",data:=.seq its.toArray n}) (hf:f {cls:=.type "list",data:=.seq its.toArray n} = {cls:=.type "list",data:=.seq its'.toArray n'}) (r:Vals ys its') (hz:ys.length<=sizeLine) (t:Nat) :
  Inv X pins σ (upd H p (.lst ys)) {s with heap:=s.heap.update p f,toks:=t}:=by
 have e:(s.heap.update p f).get? p=some {cls:=.type "list",data:=.seq its'.toArray n'}:=by
  rw[Heap.get?_update_self f ho (by rw[hf]<;>rfl),hf]
 refine I.write (x:=p) (e:=p) (by rw[h];trivial) (.inl rfl) (λb u hb q=>(Heap.get?_update_other _ _ (Ne.symm hb)).trans q) ⟨_,e⟩ ?_
 exact⟨hz,its',n',r,e⟩
def y0m:V->V->V->Hp->(Hp->Prop)->Prop:=λo i v H Q=>∃p xs k j,o=.ref p/\i=.int k/\H p=some (.lst xs)/\ixN xs.length k=some j/\Q (upd H p (.lst (xs.set j v)))
theorem z3j:PSet X y0m:=by
 intro pins s σ H o i v ov iv u Q I ro ri rv h
 obtain⟨p,xs,k,j,rfl,rfl,hp,hj,q⟩:=h
 cases ro
 obtain⟨t,rfl⟩:=ri
 obtain⟨its,n,r,ho,hz⟩:=I.lst hp
 obtain⟨h1,h2,h3,h4⟩:=z1I hj
 have hl:=r.length
 have hn:=q4R
 have I':Inv X pins σ (upd H p (.lst (xs.set j v))) {s with heap:=s.heap.update p (Obj.mapSeq (·.setIfInBounds j u))}:=
  I.lstUpd hp ho (q9x its n j u) (r.set rv j) (by rw[List.length_set];exact hz) s.toks
 by_cases h0:0<=k
 ·have hk:k.toNat=j:=by
   rw[seqIndex_of h0 h4]at h1
   exact Option.some.inj h1
  exact PySem.W.ki_setAt ho h0 (by omega) (by rw[List.size_toArray,←hl];exact h4) (by rw[hk];exact⟨_,I',q⟩)
 ·have hk:(k+(its.toArray.size:Int)).toNat=j:=by
   rw[seqIndex_neg (by omega) h3]at h1
   rw[List.size_toArray,←hl]
   exact Option.some.inj h1
  exact PySem.W.ki_setBack ho (by omega) (by rw[List.size_toArray,←hl];exact h3) (by omega) (by rw[hk];exact⟨_,I',q⟩)
theorem q6C(lo hi:Option Int)(n:Nat):(sliceBounds lo hi none n).1=((HT.sIx n 0 lo:Nat):Int)/\(sliceBounds lo hi none n).2.1=((HT.sIx n n hi:Nat):Int)/\(sliceBounds lo hi none n).2.2=1:=by
 refine⟨?_,?_,rfl⟩
 ·cases lo with
  | none=>simp[sliceBounds,HT.sIx]
  | some i=>
   simp only[sliceBounds,HT.sIx,Option.getD_none,show(1:Int)>0 by decide,if_true]
   by_cases h:i<0
   ·simp only[h,if_true]<;>omega
   ·simp only[h,if_false]<;>omega
 ·cases hi with
  | none=>simp[sliceBounds,HT.sIx]
  | some i=>
   simp only[sliceBounds,HT.sIx,Option.getD_none,show(1:Int)>0 by decide,if_true]
   by_cases h:i<0
   ·simp only[h,if_true]<;>omega
   ·simp only[h,if_false]<;>omega
theorem q6e(its:List Value)(lo hi:Option Int):slicePick its.toArray lo hi none=((its.drop (HT.sIx its.length 0 lo)).take (HT.sIx its.length its.length hi - HT.sIx its.length 0 lo)).toArray:=by
 obtain⟨h1,h2,h3⟩:=q6C lo hi its.toArray.size
 unfold slicePick
 rw[h1,h2,h3]
 simp only[sliceRange_one,pick_run,List.size_toArray]<;>rfl
def rSlL(K:PySem.W.Frag):V->Option Int->Option Int->Hp->VK->Prop:=λx lo hi H Q=>∃a xs,x=.ref a/\SqL K H a xs/\∀p,H p=none->Q (.ref p) (upd H p (.lst (cutV xs lo hi)))
theorem z7m:SlR X (rSlL X.K):=by
 intro pins s σ H x v vl vu lo hi sl Q I rx hs pl pu h
 obtain⟨a,xs,rfl,hx,q⟩:=h
 cases rx
 obtain⟨its,r,ht,hz⟩:=I.list hx
 have hlen:=r.length
 refine⟨"list",_,slot_list_getitem.lookup,ht.isList.typeIs,?_⟩
 refine wpAny_getItem_list_slice ht.isList hs pl pu .none (by simp) ?_ (by rw[List.size_toArray]<;>omega)
 rw[q6e,←hlen]
 refine⟨.ref s.heap.objs.size,_,I.laid (t':=s.toks) (o:=.lst (cutV xs lo hi)) (λb ob q=>Heap.get?_push_of_some _ q) (Nat.le_refl _) ?_,rfl,q _ (I.hok.fresh (Nat.le_refl _))⟩
 exact⟨Nat.le_trans (q4E xs lo hi) hz,_,0,(r.drop (HT.sIx xs.length 0 lo)).take (HT.sIx xs.length xs.length hi - HT.sIx xs.length 0 lo),Heap.get?_push_size _ rfl⟩
theorem q2K:q1F X (.builtin "len") (λxs H Q=>∃p ys,xs=[.ref p]/\(SqL X.K H p ys\/SqT X.K H p ys)/\Q (.int ys.length) H):=by
 intro pins s σ H xs us Q I r h
 obtain⟨p,ys,rfl,hq,q⟩:=h
 obtain⟨u,rfl,rx⟩:=q4X r
 cases rx
 have hn:=q4R
 rcases hq with hq | hq
 ·obtain⟨its,r',pl,hz⟩:=I.list hq
  have hlen:=r'.length
  exact Calls.call_len_list pl.isList (by simp only[List.size_toArray]<;>omega) ⟨.int ys.length,H,I.tok _,⟨s.toks+1,by rw[List.size_toArray,hlen]⟩,q⟩
 ·obtain⟨its,r',pl,hz⟩:=I.tuple hq
  have hlen:=r'.length
  exact len_tuple pl (by simp only[List.size_toArray]<;>omega) ⟨.int ys.length,H,I.tok _,⟨s.toks+1,by rw[List.size_toArray,hlen]⟩,q⟩
theorem q6s:q1F X (.builtin "len") (λxs H Q=>∃z,xs=[.str z]/\z.length<=sizeLine/\Q (.int z.length) H):=by
 intro pins s σ H xs us Q I r h
 obtain⟨z,rfl,hz,q⟩:=h
 obtain⟨u,rfl,t,rfl⟩:=q4X r
 have hn:=q4R
 exact len_str (by omega) ⟨.int z.length,H,I.tok _,⟨_,rfl⟩,q⟩
theorem q2G:q1F X (.type "list") (λxs H Q=>∃p ys,xs=[.ref p]/\(SqL X.K H p ys\/SqT X.K H p ys)/\∀l,H l=none->Q (.ref l) (upd H l (.lst ys))):=by
 intro pins s σ H xs us Q I r h
 obtain⟨p,ys,rfl,hq,q⟩:=h
 obtain⟨u,rfl,rx⟩:=q4X r
 cases rx
 have fin:∀(its:List Value),Vals ys its->ys.length<=sizeLine->∀(h':Heap) (c':Nat),(∀b o',s.heap.get? b=some o'->h'.get? b=some o') ->
   h'.get? s.heap.objs.size=some {cls:=.type "list",dict:=none,data:=.seq its.toArray c',slots:=#[]} -> EP X pins σ Q (.ref s.heap.objs.size) {s with heap:=h'}:=λits r' hz h' c' kp e=>
  ⟨.ref s.heap.objs.size,_,I.laid (t':=s.toks) kp (Nat.le_refl _) (show q0V X.prog X.w _ h' _ (.lst ys)from⟨hz,its,c',r',e⟩),rfl,q _ (I.hok.fresh (Nat.le_refl _))⟩
 rcases hq with hq | hq
 ·obtain⟨its,r',pl,hz⟩:=I.list hq
  have hlen:=r'.length
  obtain⟨o,ho,hc,n,hd⟩:=pl.isList
  exact call_list_seq p (.inl rfl) ho hc hd (λh' c' kp e=>fin its r' hz h' c' kp e) (by simp only[List.size_toArray]<;>omega)
 ·obtain⟨its,r',pl,hz⟩:=I.tuple hq
  have hlen:=r'.length
  obtain⟨o,ho,hc,n,hd⟩:=pl
  exact call_list_seq p (.inr rfl) ho hc hd (λh' c' kp e=>fin its r' hz h' c' kp e) (by simp only[List.size_toArray]<;>omega)
theorem q3I:q1F X (.type "tuple") (λxs H Q=>∃p ys,xs=[.ref p]/\((SqL X.K H p ys/\∀l,H l=none->Q (.ref l) (upd H l (.tup ys)))\/(SqT X.K H p ys/\Q (.ref p) H))):=by
 intro pins s σ H xs us Q I r h
 obtain⟨p,ys,rfl,h⟩:=h
 obtain⟨u,rfl,rx⟩:=q4X r
 cases rx
 rcases h with⟨hq,q⟩ | ⟨hq,q⟩
 ·obtain⟨its,r',pl,hz⟩:=I.list hq
  have hlen:=r'.length
  refine call_tuple_list pl.isList (λh' kp=>?_) (by simp only[List.size_toArray]<;>omega)
  have I1:Inv X pins σ H {s with heap:=h'}:=I.kept (t':=s.toks) kp
  have I2:Inv X pins σ (upd H h'.objs.size (.tup ys)) {s with heap:=h'.push {cls:=.type "tuple",data:=.seq its.toArray}}:=
   I1.laid (t':=s.toks) (λb o e=>Heap.get?_push_of_some _ e) (Nat.le_refl _) (show q0V X.prog X.w _ _ _ (.tup ys)from⟨hz,its,r',q3z.new _ _⟩)
  exact⟨.ref h'.objs.size,_,I2,rfl,q _ (I1.hok.fresh (Nat.le_refl _))⟩
 ·obtain⟨its,r',pl,hz⟩:=I.tuple hq
  exact call_tuple_same pl ⟨.ref p,H,I,rfl,q⟩
def tyV(K:PySem.W.Frag)(T:String)(x:V)(H:Hp):Prop:=match x with
 | .str _=>T = "str"
 | .int _=>T = "int"
 | .ref p=>(T = "list" /\ ∃xs,SqL K H p xs)\/(T = "tuple" /\ ∃o,K.lookup p=some o/\o.cls=.type "tuple" /\ o.dict=none) \/
   (T = "dict" /\ ((∃kvs,H p=some (.dK kvs))\/∃kvs,H p=some (.dT kvs)))\/(T = "set" /\ ∃S n,H p=some (.set S n))
 | _=>False
theorem z4l{pins:List (Addr×Obj)}{σ:St}{H:Hp}{s:Shared}{T:String}{x:V}{v:Value}(I:Inv X pins σ H s)(r:RelV x v)(ty:tyV X.K T x H) :
  s.TypeIs v T/\∀a,v=.ref a->∃ob,s.heap.get? a=some ob/\ob.dict=none:=by
 cases x with
 | str z=>
  obtain⟨t,rfl⟩:=r
  cases(show T = "str" from ty)
  exact⟨typeIs_str s z t,λ_ e=>nomatch e⟩
 | int i=>
  obtain⟨t,rfl⟩:=r
  cases(show T = "int" from ty)
  exact⟨typeIs_int s i t,λ_ e=>nomatch e⟩
 | ref p=>
  cases r
  rcases ty with⟨rfl,xs,hq⟩ | ⟨rfl,o,hk,hc,hd⟩ | ⟨rfl,hk⟩ | ⟨rfl,S,n,hk⟩
  ·obtain⟨its,_,pl,_⟩:=I.list hq
   refine⟨pl.isList.typeIs,λa e=>?_⟩
   cases e
   obtain⟨o,n,e,c,hd,_⟩:=pl
   exact⟨o,e,hd⟩
  ·refine⟨⟨o,I.kIn p o hk,hc⟩,λa e=>?_⟩
   cases e
   exact⟨o,I.kIn _ o hk,hd⟩
  ·have z:∃o,s.heap.get? p=some o/\o.ExactDict:=by
    rcases hk with⟨kvs,hk⟩ | ⟨kvs,hk⟩
    ·obtain⟨_,_,_,_,o,_,_,e,ex,_⟩:=I.hok p _ hk
     exact⟨o,e,ex⟩
    ·obtain⟨_,_,_,_,o,_,_,e,ex,_⟩:=I.hok p _ hk
     exact⟨o,e,ex⟩
   obtain⟨o,e,ex⟩:=z
   refine⟨⟨o,e,ex.1⟩,λa e2=>?_⟩
   cases e2
   exact⟨o,e,ex.2.1⟩
  ·obtain⟨o,_,_,_,e,ex,_⟩:=I.hok p _ hk
   refine⟨⟨o,e,ex.1⟩,λa e2=>?_⟩
   cases e2
   exact⟨o,e,ex.2.1⟩
 | _=>exact False.elim ty
def tBM0(K:PySem.W.Frag)(T:String)(r:V->List V->Hp->VK->Prop)(to:TE):TE:=λσ H Q=>to σ H λx H1=>tyV K T x H1/\r x [] H1 Q
def tBM(K:PySem.W.Frag)(T:String)(r:V->List V->Hp->VK->Prop)(to:TE)(t:TA):TE:=λσ H Q=>to σ H λx H1=>tyV K T x H1/\t σ H1 λxs H2=>r x xs H2 Q
variable {o e:Expr} {es:List Expr} {to:TE} {t:TA} {name:Str} {apos cpos:Pos} {T id:String} {r:V->List V->Hp->VK->Prop}
theorem z8N(pa:PlainAttrs T)(slot:Slot T name id)(hty:typeOf (.builtin id)=pure (.type "method_descriptor"))(hm:MtR X id r)(ho:PE X o to)
  (hbase:attributeBase o name X.env (eval o X.env)=eval o X.env:=by rfl) (hline:(apos.endLine==cpos.line)=true:=by rfl):PE X (.Call (.Attribute o name apos) [] [] cpos) (tBM0 X.K T r to):=by
 intro pins s σ H Q I h
 refine wpAny_Call_method0_late hbase hline (thn (ho pins s σ H _ I h) λv s1 ⟨x,H1,I1,r1,ty,q1⟩=>?_)
 obtain⟨h1,h2⟩:=z4l I1 r1 ty
 exact⟨T,id,pa,slot,hty,h1,h2,Calls.callWith_builtin rfl (PySem.evalArgs_none (hm pins s1 σ H1 x [] v [] Q I1 r1 .nil q1))⟩
theorem z9r(pa:PlainAttrs T)(slot:Slot T name id)(hty:typeOf (.builtin id)=pure (.type "method_descriptor"))(hm:MtR X id r)(ho:PE X o to)(ha:PA X (e::es) t)
  (hbase:attributeBase o name X.env (eval o X.env)=eval o X.env:=by rfl)
  (hfew:((backTo cpos (starEach (e::es) X.env)).all (λx=>!x.1)&&(backToKw cpos (keywordEach [] X.env)).all (λx=>x.1.isSome)
   && decide ((e::es).length+([]:List Keyword).length+(if([]:List Keyword).isEmpty then 0 else 1)<30))=true:=by rfl)
  (hline:(apos.endLine==cpos.line)=true:=by rfl) (hs:starEach (e::es) X.env=(false,eval e X.env)::starEach es X.env:=by rfl) (hplain:(backTo cpos (starEach es X.env)).any (·.1)=false:=by rfl) :
  PE X (.Call (.Attribute o name apos) (e::es) [] cpos) (tBM X.K T r to t):=by
 intro pins s σ H Q I h
 refine wpAny_Call_method_late hbase hfew hline rfl (thn (ho pins s σ H _ I h) λv s1 ⟨x,H1,I1,r1,ty,q1⟩=>?_)
 obtain⟨h1,h2⟩:=z4l I1 r1 ty
 refine⟨T,id,pa,slot,hty,h1,h2,?_⟩
 have hA:=ha cpos pins s1 σ H1 _ I1 q1
 rw[hs]at hA ⊢
 refine Calls.callWith_builtin (by show(false||(backTo cpos (starEach es X.env)).any (·.1))=false;rw[hplain]<;>rfl) (Calls.evalArgs_plain ?_)
 exact thn hA λus s2 ⟨vs,H2,I2,r2,q2⟩=>hm pins s2 σ H2 x vs v us Q I2 r1 r2 q2
end
end L2
namespace L2
open PySem PySem.Spec PyProof.Rows
def MtM(X:Cx)(id:String)(r:V->List V->Hp->VK->Prop):Prop:=
 ∀(pins:List (Addr×Obj)) (s:Shared) (σ:St) (H:Hp) (x:V) (xs:List V) (v:Value) (us:List Value) (Q:VK),Inv X pins σ H s->RelV x v->Vals xs us->r x xs H Q ->
  wpAny (model X.prog X.w) X.A (call (.builtin id) (v::us)) (EP X pins σ Q) X.xe s
theorem Vals.unc{x:V}{xs:List V}{us:List Value}(h:Vals (x::xs) us):∃u ws,us=u::ws/\RelV x u/\Vals xs ws:=by
 cases h with
 | cons r t=>exact⟨_,_,rfl,r,t⟩
theorem Vals.nl{us:List Value}(h:Vals [] us):us=[]:=by cases h;rfl
theorem Vals.one{x:V}{us:List Value}(h:Vals [x] us):∃u,us=[u]/\RelV x u:=by
 obtain⟨u,ws,rfl,r,t⟩:=h.unc
 cases t.nl
 exact⟨_,rfl,r⟩
theorem Vals.two{x y:V}{us:List Value}(h:Vals [x,y] us):∃u v,us=[u,v]/\RelV x u/\RelV y v:=by
 obtain⟨u,ws,rfl,r,t⟩:=h.unc
 obtain⟨v,rfl,q⟩:=t.one
 exact⟨_,_,rfl,r,q⟩
theorem Vals.rep{xs:List V}{us:List Value}(h:Vals xs us):∀k:Nat,Vals (List.replicate k xs).flatten (List.replicate k us).flatten
 | 0=>.nil
 | k+1=>by
  rw[List.replicate_succ,List.replicate_succ,List.flatten_cons,List.flatten_cons]
  exact Vals.append h (Vals.rep h k)
theorem q6P(its:List Value):∀(k:Nat) (acc:List Value),
  List.foldl (λx1 x2=>x1++x2) acc.toArray (List.replicate k its.toArray)=(acc++(List.replicate k its).flatten).toArray
 | 0,acc=>by simp
 | k+1,acc=>by
  have e:acc.toArray++its.toArray=(acc++its).toArray:=by simp
  have e2:(acc++its)++(List.replicate k its).flatten=acc++(List.replicate (k+1) its).flatten:=by
   rw[List.replicate_succ,List.flatten_cons,List.append_assoc]
  rw[←e2,←q6P its k (acc++its),←e,List.replicate_succ,List.foldl_cons]
section
variable {X:Cx} {pins:List (Addr×Obj)} {σ:St} {H:Hp} {s:Shared} {l b:Addr} {xs ys zs:List V}
theorem Inv.lset{its its':List Value}{n:Nat}{f:Array Value->Array Value}{t':Nat}(I:Inv X pins σ H s)(hH:H l=some (.lst xs))
  (e:s.heap.get? l=some {cls:=.type "list",data:=.seq its.toArray n}) (hf:f its.toArray=its'.toArray) (hv:Vals ys its') (hz:ys.length<=sizeLine) :
  Inv X pins σ (upd H l (.lst ys)) {s with heap:=s.heap.update l (Obj.mapSeq f),toks:=t'}:=by
 have q:=PySem.IsL.update e f
 rw[hf]at q
 refine I.write (x:=l) (e:=l) (by rw[hH];exact trivial) (.inl rfl) (λb' u hb hu=>(Heap.get?_update_other s.heap (Obj.mapSeq f) (Ne.symm hb)).trans hu) ⟨_,q⟩ ?_
 exact⟨hz,its',_,hv,q⟩
theorem Inv.lnew{its:List Value}{t':Nat}(I:Inv X pins σ H s)(hv:Vals ys its)(hz:ys.length<=sizeLine) :
  Inv X pins σ (upd H s.heap.objs.size (.lst ys)) {s with heap:=s.heap.push {cls:=.type "list",data:=.seq its.toArray},toks:=t'}:=
 I.laid (λ_ _ q=>Heap.get?_push_of_some _ q) (Nat.le_refl _) ⟨hz,its,0,hv,Heap.get?_push_size _ rfl⟩
theorem Inv.fresh(I:Inv X pins σ H s):H s.heap.objs.size=none:=I.hok.fresh (Nat.le_refl _)
theorem Inv.lstM(I:Inv X pins σ H s)(hH:H l=some (.lst xs)):xs.length<=sizeLine/\∃(its:List Value) (n:Nat),Vals xs its/\xs.length=its.length/\s.heap.get? l=some {cls:=.type "list",data:=.seq its.toArray n}:=by
 obtain⟨z,its,n,r,e⟩:=I.hok l _ hH
 exact⟨z,its,n,r,r.length,e⟩
theorem q8P{n:Nat}(h:n<=sizeLine):Builtin.List.listTooLong n=false:=by
 unfold Builtin.List.listTooLong
 exact decide_eq_false (by omega)
end
section
variable {X:Cx}
def z5E:V->List V->Hp->VK->Prop:=λx vs H Q=>∃l xs y,x=.ref l/\vs=[y]/\H l=some (.lst xs)/\xs.length<sizeLine/\Q .non (upd H l (.lst (xs++[y])))
theorem z1q:MtM X "list.append" z5E:=by
 intro pins s σ H x vs v us Q I rx rv h
 obtain⟨l,xs,y,rfl,rfl,hH,hz,q⟩:=h
 cases rx
 obtain⟨u,rfl,ru⟩:=rv.one
 obtain⟨z,its,n,r,hl,e⟩:=I.lstM hH
 refine call_meets F.slot_list_append ⟨_,e,rfl⟩ F.entry_list_append (F.args_list_append_2 _ _) (PySem.list_append l its.toArray n u (by rw[List.size_toArray];omega)) ⟨e,?_⟩
 refine⟨.non,_,I.lset (its':=its++[u]) hH e (by simp) (r.append (.cons ru .nil)) ?_,rfl,q⟩
 rw[List.length_append,List.length_singleton]
 omega
def rCat:R2:=λx y H Q=>∃l b xs zs,x=.ref l/\y=.ref b/\H l=some (.lst xs)/\H b=some (.lst zs)/\xs.length+zs.length<=sizeLine/\∀p,H p=none->Q (.ref p) (upd H p (.lst (xs++zs)))
theorem z9u:OpR X (binaryOp .Add) rCat:=by
 intro pins s σ H x y v u Q I rx ry h
 obtain⟨l,b,xs,zs,rfl,rfl,hH,hB,hz,q⟩:=h
 cases rx
 cases ry
 obtain⟨z,its,n,r,hl,e⟩:=I.lstM hH
 obtain⟨z2,its2,n2,r2,hl2,e2⟩:=I.lstM hB
 refine PySem.P.add_list e e2 ?_ (by rw[List.size_toArray,List.size_toArray];omega)
 have ea:its.toArray++its2.toArray=(its++its2).toArray:=by simp
 rw[ea]
 exact⟨.ref _,_,I.lnew (t':=s.toks) (r.append r2) (by rw[List.length_append];omega),rfl,q _ I.fresh⟩
def rRep:R2:=λx y H Q=>∃l k xs,x=.ref l/\y=.int k/\H l=some (.lst xs) /\ -(2^63)<=k/\k<2^63/\xs.length*k.toNat<=sizeLine /\
 ∀p,H p=none->Q (.ref p) (upd H p (.lst (List.replicate k.toNat xs).flatten))
theorem z5C{α:Type}(xs:List α)(k:Nat):(List.replicate k xs).flatten.length=k*xs.length:=by
 induction k with
 | zero=>simp
 | succ k ih=>rw[List.replicate_succ,List.flatten_cons,List.length_append,ih,Nat.succ_mul,Nat.add_comm]
theorem z8T:OpR X (binaryOp .Mult) rRep:=by
 intro pins s σ H x y v u Q I rx ry h
 obtain⟨l,k,xs,rfl,rfl,hH,h1,h2,hz,q⟩:=h
 cases rx
 obtain⟨t,rfl⟩:=ry
 obtain⟨z,its,n,r,hl,e⟩:=I.lstM hH
 have hlen:its.toArray.size*k.toNat<=sizeLine:=by rw[List.size_toArray,←hl];exact hz
 have hcap:¬its.toArray.size*k.toNat>(2^63 - 1)/8:=by
  have:(sizeLine:Nat)<=(2^63 - 1)/8:=by decide
  omega
 have hfit:¬(!Builtin.List.listFitsIndex k)=true:=by
  rw[fitsIndex_both h1 h2]
  exact Bool.false_ne_true
 have hlong:¬Builtin.List.listTooLong (its.toArray.size*k.toNat)=true:=by
  rw[q8P hlen]
  exact Bool.false_ne_true
 have hnew:List.foldl (λx1 x2=>x1++x2) #[] (List.replicate (if its.toArray.isEmpty=true then 0 else k.toNat) its.toArray)=(List.replicate k.toNat its).flatten.toArray:=by
  have f0:∀m:Nat,List.foldl (λx1 x2=>x1++x2) #[] (List.replicate m its.toArray)=(List.replicate m its).flatten.toArray:=λm=>by
   have:=q6P its m []
   rw[List.nil_append]at this
   exact this
  rw[f0]
  cases its with
  | nil=>simp
  | cons a r'=>rw[if_neg (by simp)]
 refine wpAny_binaryOp_repeat_ref (T:="list") (U:="int") (by decide) ⟨_,e,rfl⟩ (λs'=>typeIs_int s' k t) noFill_list_mul F.fills_int_mul F.slot_int_rmul repeat_list F.slot_int_index.lookup
  (call_meets F.slot_int_rmul (typeIs_int s k t) F.entry_int_rmul (F.args_int_rmul_2 _ _) (int___rmul___int_list k t l its.toArray n)
   ⟨e,rfl,⟨_,e,rfl⟩,call_meets F.slot_list_mul ⟨_,e,rfl⟩ F.entry_list_mul (F.args_list_mul_2 _ _) (AutoListH.list___mul___list_int_3 l its.toArray n k t hfit hcap hlong) ⟨e,?_⟩⟩)
 rw[hnew]
 exact⟨.ref _,_,I.lnew (t':=s.toks) (r.rep k.toNat) (by rw[z5C,Nat.mul_comm];exact hz),rfl,q _ I.fresh⟩
end
section
variable {prog:Program} {w:World} {A:Around} {E:Value->Shared->Prop} {s:Shared}
end
section
variable {X:Cx}
end
end L2
namespace Att
open PySem PySem.W PySem.Calls PyProof.Rows
theorem q4B{P:Params}{h:Heap}:∀(ns:List Int) (vs:List Value),WellAll P h vs (ns.map WData.int)->IntsAre vs ns:=by
 intro ns
 induction ns with
 | nil=>
  intro vs w
  rw[List.map_nil]at w
  cases w
  exact .nil
 | cons n ns ih=>
  intro vs w
  rw[List.map_cons]at w
  cases w with
  | cons a b=>
   cases a
   exact .cons _ _ (ih _ b)
theorem z0Z{l:OpenLaw}{n:Nat}(hn:l.most=some n){P:Params}{h:Heap}{args:List WData}{vals:List Value}
  (hpre:l.row.toRowW.claim.pre args=true) (hwl:WellAll P h vals args) :
  ∃a vs ns,vals=[Value.ref a]/\args=[WData.list (ns.map WData.int)]/\h.get? a=some {cls:=.type "list",data:=.seq vs.toArray} /\ IntsAre vs ns/\ns.length<=n:=by
 have hsh:WShape.hasAll [] args [.list .int]=true:=(pre_splitW hpre).1
 have hc:l.pre.holds [] {args:=args} = true:=(pre_splitW hpre).2
 obtain⟨d,r,rfl,h1,h2⟩:=hasAllW_cons hsh
 obtain rfl:=hasAllW_nil h2
 obtain⟨xs,rfl,h3⟩:=hasW_list h1
 obtain⟨ns,rfl⟩:=items_int h3
 have hlen:ns.length<=n:=by
  unfold OpenLaw.pre at hc
  have h4:(WTm.not (.lt (.lit (.int (n:Int))) (.len (.arg 0)))).holds [] {args:=[.list (ns.map .int)]} = true:=by
   have h4:=(holds_andW hc).1
   rw[hn]at h4
   exact h4
  have h5:=condW_of h4 (w_not (w_lt w_lit (w_len_list (w_arg rfl))))
  rw[List.length_map]at h5
  refine Nat.le_of_not_lt λq=>?_
  have q':(n:Int)<((ns.length:Nat):Int):=by omega
  first
   | (rw[decide_eq_true q']at h5;exact absurd h5 (by decide))
   | (simp at h5;omega)
 cases hwl with
 | cons w1 w2=>
  cases w2
  cases w1 with
  | list ho hall=>exact⟨_,_,ns,rfl,rfl,ho,q4B ns _ hall,hlen⟩
theorem z0X(l:OpenLaw)(args:List WData):l.row.toRowW.claim.post args (.bool true) args=true:=
 postW_of (r:=l.row.toRowW) (X:=(true==true))
  (show WShape.has [] (.bool true) .bool=true by first | rfl | decide | simp[WShape.has,WShape.arms,WShape.armsAll])
  (show(WTm.eq .res (.lit (.bool true))).value [] {args:=args,res:=some (.bool true),after:=args} = some (.bool (true==true))from w_eq_bool (w_res rfl) w_lit) rfl
theorem attach_call{l:OpenLaw}{n:Nat}{q:Program}{loose:List Str}{XP:(Str->Option Value)->Heap->Prop}{YP:World->Heap->Prop}{d:DefRec}
  (hn:l.most=some n) (hdf:d.params.defaults=[])
  (call:∀(w:World) (s₀ s₁:Shared) (mg mb:Str->Option Value) (fa:Addr) (o:Obj) (pm cd doc:Value) (a:Addr) (vs:List Value) (ns:List Int),
   Ground q loose [] XP w s₀ mg mb s₁.heap->YP w s₁.heap ->
   s₁.heap.get? fa=some o->o.data=.func (docDef d.name d.params d.body d.scope pm cd doc)->s₁.heap.CodeRec cd d.name->mg d.name=some (.ref fa) ->
   s₁.heap.get? a=some {cls:=.type "list",data:=.seq vs.toArray} -> IntsAre vs ns->ns.length<=n->s₁.gens = #[] ->
   codeAny (model l.prog w) callerA (.call (.ref fa) ⟨[.ref a],[]⟩) (λr s'=>r=.ok (.ret (.bool true))/\OldK s₁.heap s'.heap/\s'.os=s₁.os/\AllBare s'.gens) s₁) :
  WalkO q loose XP YP l.row.toRowW d [] (λf vs=>PySem.call f vs):=by
 intro w s₀ s₁ mg mb G Y fa o pm cd doc dV kV ho hd hcd hD hmg hg args vals as hpre hlay hrd hwl hlo
 obtain rfl:dV=.none:=Dflts.none hD hdf
 obtain rfl:kV=.none:=Dflts.noKw hD
 obtain⟨a,vs,ns,rfl,rfl,hobj,hints,hlen⟩:=z0Z hn hpre hwl
 refine enter_call (codeAny_mono (call w s₀ s₁ mg mb fa o pm cd doc a vs ns G Y ho (fd_plain hd) hcd hmg hobj hints hlen hg) λr s' hq=>?_)
 obtain⟨rfl,h2,h3,h4⟩:=hq
 exact⟨.inl ⟨.bool true,.bool true,[],rfl,λ_=>rfl,.bool true,z0X l _,λ_=>⟨List.Pairwise.nil,λ_ hm=>(nomatch hm)⟩⟩,h2,h3,h4⟩
section
variable {prog:Program} {w:World} {A:Around} {E:Value->Shared->Prop} {s:Shared} {K:Frag}
def y1v(h:Heap)(L d:Addr):List (Addr×Obj):=(List.range h.objs.size).filterMap λa=>if a=L\/a=d then none else(h.get? a).map λo=>(a,o)
end
end Att
namespace L2
open PySem PySem.Spec PyProof.Rows
theorem q6t:∀{vs:List Value} {ns:List Int},IntsAre vs ns->Vals (ns.map V.int) vs
 | _,_,.nil=>.nil
 | _,_,.cons n t h=>.cons ⟨t,rfl⟩ (q6t h)
def Only(H:Hp):Prop:=∀b,H b=none\/∃o xs,H b=some (.frz o (.lst xs))
theorem z3T{P:Program}{w:World}{K:PySem.W.Frag}{mg mb:Str->Option Value}{CX:CXT}{k:Nat}{fa a:Addr}{fd:FuncData}{x:Str}{sp:Sp}{s₁:Shared}{vs:List Value}{ns:List Int}
  (KX:K.In s₁.heap) (hns:s₁.heap.Ns mainGlobals mg) (hb:s₁.heap.Ns builtinsNs mb) (hbb:∀x:Str,x ≠ "__name__" -> mb x=bootBuiltins x) (hlim:s₁.heap.NoLimit) (hg:s₁.gens = #[])
  (ha:s₁.heap.get? a=some {cls:=.type "list",data:=.seq vs.toArray}) (hi:IntsAre vs ns) (hl:ns.length<=sizeLine) (hr:Room k callerA)
  (F:∀base:Heap,K.In base->base.Ns mainGlobals mg->FnOk P w K mg base CX k fa fd [x] sp) (hbind:∀(s:Shared) (u:Value),BindsTo s fd ⟨[u],[]⟩ [(x,u)])
  (hsp:∀H:Hp,Only H->SqL K H a (ns.map V.int)->sp [.ref a] H (λv _=>v=.bl true) λ_ _ _=>False)
  (hCX:∀H e s',CX [] H s₁ (λ_ _ _=>False) e s'->False) :
  codeAny (model P w) callerA (.call (.ref fa) ⟨[.ref a],[]⟩) (λr s'=>r=.ok (.ret (.bool true))/\OldK s₁.heap s'.heap/\s'.os=s₁.os/\AllBare s'.gens) s₁:=by
 have rv:=q6t hi
 have lenV:=hi.length
 have core:∀H:Hp,Only H->SqL K H a (ns.map V.int)->HOk P w H s₁.heap->(∀b,H b≠none->b=a)->(H a≠none->K.lookup a=none) ->
   codeAny (model P w) callerA (.call (.ref fa) ⟨[.ref a],[]⟩) (λr s'=>r=.ok (.ret (.bool true))/\OldK s₁.heap s'.heap/\s'.os=s₁.os/\AllBare s'.gens) s₁:=by
  intro H hO hS hok hA hK
  have base_of:∀{b:Addr} {o:Obj},s₁.heap.get? b=some o->H b=none->(hidT s₁.heap H).get? b=some o:=λe n=>z3N e n
  have noA:∀{b:Addr} {o:Obj} {es:Array DictEntry} {ep:Nat},s₁.heap.get? b=some o->o.data=.dict es ep->H b=none:=λ{b o es ep} e d=>by
   cases q:H b with
   | none=>rfl
   | some u=>
    have e':b=a:=hA b (by rw[q];simp)
    subst e'
    rw[ha]at e;cases e
    have d':Data.seq vs.toArray _=Data.dict es ep:=d
    cases d'
  have nsK:∀{b:Addr} {m:Str->Option Value},s₁.heap.Ns b m->(hidT s₁.heap H).Ns b m:=λ{b m} ⟨o,es,ep,e,d,r⟩=>⟨o,es,ep,base_of e (noA e d),d,r⟩
  have hKb:K.In (hidT s₁.heap H):=λb o e=>base_of (KX b o e) (by
   cases q:H b with
   | none=>rfl
   | some u=>
    have e':b=a:=hA b (by rw[q];simp)
    subst e'
    rw[hK (by rw[q];simp)]at e;cases e)
  have hM:Mod K mg (hidT s₁.heap H):=⟨hKb,nsK hns,⟨mb,nsK hb,hbb⟩,let ⟨mc,h1,h2⟩:=hlim;⟨mc,nsK h1,h2⟩⟩
  have e0:Env0 P w K mg (hidT s₁.heap H) callerA [] s₁ H:=⟨rfl,hM,λb o e=>z5L e,Nat.le_of_eq (z1y _ _),trivial,λb hb=>absurd (show b∈([]:List Addr)from hb) (by simp),hok,.of_eq hg⟩
  refine codeAny_mono ((F _ hKb (nsK hns)).run callerA [] s₁ H ⟨[.ref a],[]⟩ [.ref a] [.ref a] _ _ hr e0 (hbind s₁ (.ref a)) (.cons rfl .nil) (hsp H hO hS)) λr s' h=>?_
  cases r with
  | error e=>exact(hCX H e s' h).elim
  | ok fl=>
   cases fl with
   | next=>exact False.elim h
   | brk=>exact False.elim h
   | cont=>exact False.elim h
   | ret u=>
    obtain⟨v,H',os,bare,un,hok',r',q⟩:=h
    have q':v=.bl true:=q
    subst q'
    obtain rfl:u=Value.bool true:=r'
    refine⟨rfl,OldK.of_keep λb o e=>?_,os,bare⟩
    cases q:H b with
    | none=>exact un.keep b o e q (by intro z;exact absurd (show b∈([]:List Addr)from z) (by simp)) (by simp)
    | some u=>
     rcases hO b with z | ⟨ob,xs,z⟩
     ·rw[q]at z;cases z
     ·have z2:=un.frzs b ob _ z
      obtain⟨e1,_⟩:=hok b _ z
      obtain⟨e2,_⟩:=hok' b _ z2
      rw[e]at e1;cases e1
      exact e2
 cases hk:K.lookup a with
 | some o=>
  have e:=KX a o hk
  rw[ha]at e
  cases e
  refine core (λ_=>none) (λ_=>.inl rfl) (.inr ⟨_,vs.toArray,_,hk,rfl,rfl,rfl,by rw[List.size_toArray,lenV];exact hl,by simpa using rv⟩) (λb u z=>by have z':(none:Option HO)=some u:=z;cases z') (λb z=>absurd rfl z) λz=>absurd rfl z
 | none=>
  refine core (λb=>if b=a then some (.frz {cls:=.type "list",data:=.seq vs.toArray} (.lst (ns.map V.int)))else none) (λb=>?_) (.inl (.inr ⟨{cls:=.type "list",data:=.seq vs.toArray},if_pos rfl⟩)) (λb u z=>?_) (λb z=>?_) λ_=>hk
  ·by_cases hb:b=a
   ·exact .inr ⟨_,_,if_pos hb⟩
   ·exact .inl (if_neg hb)
  ·by_cases hb:b=a
   ·have z':=(if_pos hb).symm.trans z
    cases z'
    subst hb
    exact⟨ha,by rw[List.length_map];exact hl,vs,_,rv,ha⟩
   ·have z':=(if_neg hb).symm.trans z
    cases z'
  ·by_cases hb:b=a
   ·exact hb
   ·exact absurd (if_neg hb) z
end L2
namespace L2
open PySem PySem.Spec PyProof.Rows
abbrev KOf{K:PySem.W.Frag}{h:Heap}(_:K.In h):PySem.W.Frag:=K
theorem walk_of{l:PySem.W.OpenLaw}{n k:Nat}{q:Program}{loose:List Str}{XP:(Str->Option Value)->Heap->Prop}{YP:World->Heap->Prop}{d:DefRec}{K:Params->PySem.W.Frag}{CX:World->CXT}{sp:World->Sp}{x:Str}
  (hn:l.most=some n) (hn2:n<=sizeLine) (hdf:d.params.defaults=[]) (hr:Room k callerA)
  (hY:∀(w:World) (h:Heap),YP w h->(K w.params).In h)
  (F:∀(w:World) (mg:Str->Option Value) (fa:Addr) (h:Heap),(K w.params).In h->h.Ns mainGlobals mg->mg d.name=some (.ref fa) ->
   ∃fd:FuncData,(∀(s:Shared) (u:Value),BindsTo s fd ⟨[u],[]⟩ [(x,u)]) /\
    ∀base:Heap,(K w.params).In base->base.Ns mainGlobals mg->FnOk l.prog w (K w.params) mg base (CX w) k fa fd [x] (sp w))
  (hsp:∀(w:World) (H:Hp) (a:Addr) (ns:List Int),ns.length<=n->Only H->SqL (K w.params) H a (ns.map V.int)->sp w [.ref a] H (λv _=>v=.bl true) λ_ _ _=>False)
  (hCX:∀(w:World) (H:Hp) (s:Shared) (e:Value) (s':Shared),CX w [] H s (λ_ _ _=>False) e s'->False) :
  PySem.W.WalkO q loose XP YP l.row.toRowW d [] (λf vs=>PySem.call f vs):=by
 refine Att.attach_call hn hdf λw s₀ s₁ mg mb fa o pm cd doc a vs ns G Y ho hd hcd hmg hobj hints hlen hg=>?_
 have KX:=hY w _ Y
 obtain⟨fd,hb,hF⟩:=F w mg fa _ KX G.T.g hmg
 exact z3T KX G.T.g G.T.b G.T.builtins G.T.nolimit hg hobj hints (Nat.le_trans hlen hn2) hr hF hb (λH hO hS=>hsp w H a ns hlen hO hS) λH e s'=>hCX w H s₁ e s'
end L2
namespace L2
open PySem PySem.Spec PyProof.Rows
abbrev CX0:CXT:=λ_ _ _ _ _ _=>False
abbrev E0:XK:=λ_ _ _=>False
structure Fun(K:PySem.W.Frag)(x qual:Str)(st:Stmt)(f:Addr)(fd:FuncData):Prop where
 ex:∃(oc:Value) (od:Option Addr) (kV doc pm:Value) (an:Option Addr) (cdv ct:Value) (osl:Array (Option Value)),
  fd=PySem.W.fnOf x qual (q1j st) (q0Q st) (q0k st) .none kV doc pm an cdv ct/\K.lookup f=some ⟨oc,od,.func fd,osl⟩/\PySem.W.codeIn K cdv qual=true
 kp:PySem.W.keepIn K (.ref f)=true
section
variable {P:Program} {w:World} {K:PySem.W.Frag} {mg:Str->Option Value} {base:Heap}
end
section
variable {X:Cx}
end
theorem iteF{A B:Prop}(h:B):if false=true then A else B:=by
 rw[if_neg Bool.false_ne_true]
 exact h
theorem iteT{A B:Prop}(h:A):if true=true then A else B:=by
 rw[if_pos rfl]
 exact h
def Same(H H':Hp):Prop:=∀b o,H b=some o->H' b=some o
theorem Same.refl(H:Hp):Same H H:=λ_ _ h=>h
theorem Same.trans{H H1 H2:Hp}(a:Same H H1)(b:Same H1 H2):Same H H2:=λc o h=>b c o (a c o h)
theorem Same.free{H H':Hp}(e:Same H H'){l:Addr}(h:H' l=Option.none):H l=Option.none:=by
 cases q:H l with
 | none=>rfl
 | some o=>
  rw[e l o q]at h
  cases h
theorem Same.seq{K:PySem.W.Frag}{H H':Hp}{a:Addr}{xs:List V}(e:Same H H')(h:SqL K H a xs):SqL K H' a xs:=by
 rcases h with(h | ⟨o,h⟩) | h
 ·exact .inl (.inl (e _ _ h))
 ·exact .inl (.inr ⟨o,e _ _ h⟩)
 ·exact .inr h
end L2
end
noncomputable section
namespace L2
open PySem PySem.Spec PyProof.Rows
def q0n(cells:List (Str×Addr)):List (Str×NameKind)->List (Str×Addr)->List (Str×Addr)
 | [],acc=>acc
 | (n,k)::r,acc=>if(k==NameKind.free)=true then q0n cells r ((n,(cells.lookup n).getD 0)::acc)else q0n cells r acc
theorem q2c{env:Env}:∀(names:List (Str×NameKind)) (acc:List (Str×Addr)),(∀y∈names,y.2=NameKind.free->∃c,env.cells.lookup y.1=some c) ->
  (forIn names acc (λ(x:Str×NameKind) (cs:List (Str×Addr))=>(match x with | (name,kind)=>if(kind==NameKind.free)=true then(do let a ←cellOf env name;pure (ForInStep.yield ((name,a)::cs)))else pure (ForInStep.yield cs):Sem (ForInStep (List (Str×Addr))))):Sem (List (Str×Addr)))=pure (q0n env.cells names acc)
 | [],acc,_=>rfl
 | (n,k)::r,acc,h=>by
  have hr:∀y∈r,y.2=NameKind.free->∃c,env.cells.lookup y.1=some c:=λy hy=>h y (List.mem_cons_of_mem _ hy)
  rw[List.forIn_cons]
  by_cases hk:(k==NameKind.free)=true
  ·obtain⟨c,hc⟩:=h (n,k) List.mem_cons_self (beq_iff_eq.mp hk)
   have e1:cellOf env n=pure c:=by unfold cellOf;rw[hc]
   have e2:q0n env.cells ((n,k)::r) acc=q0n env.cells r ((n,c)::acc):=by
    show(if(k==NameKind.free)=true then q0n env.cells r ((n,(env.cells.lookup n).getD 0)::acc)else q0n env.cells r acc)=_
    rw[if_pos hk,hc];rfl
   rw[e2,←q2c r ((n,c)::acc) hr]
   simp only[hk,if_true,e1]
   rfl
  ·have e2:q0n env.cells ((n,k)::r) acc=q0n env.cells r acc:=by
    show(if(k==NameKind.free)=true then q0n env.cells r ((n,(env.cells.lookup n).getD 0)::acc)else q0n env.cells r acc)=_
    rw[if_neg hk]
   rw[e2,←q2c r acc hr]
   simp only[hk,if_false]
   rfl
theorem q2I{scope:Scope}{env:Env}(h:∀y∈scope.names,y.2=NameKind.free->∃c,env.cells.lookup y.1=some c):closureFor scope env=pure (q0n env.cells scope.names []):=by
 have q:=q2c (env:=env) scope.names [] h
 unfold closureFor
 first
  | exact(congrArg (λt=>(t >>= λcs=>pure cs)) q).trans rfl
  | (simp only[q];rfl)
theorem q2u{cells:List (Str×Addr)}:∀{names:List (Str×NameKind)} {acc:List (Str×Addr)} {x:Str} {c:Addr},(∀y∈names,y.2=NameKind.free->∃c,cells.lookup y.1=some c) ->
  (x,c)∈q0n cells names acc->(x,c)∈acc\/(cells.lookup x=some c/\(x,NameKind.free)∈names)
 | [],acc,x,c,_,h=>.inl h
 | (n,k)::r,acc,x,c,hh,h=>by
  have hr:∀y∈r,y.2=NameKind.free->∃c,cells.lookup y.1=some c:=λy hy=>hh y (List.mem_cons_of_mem _ hy)
  unfold q0n at h
  by_cases hk:(k==NameKind.free)=true
  ·rw[if_pos hk]at h
   obtain⟨c',hc⟩:=hh (n,k) List.mem_cons_self (beq_iff_eq.mp hk)
   rcases q2u hr h with z | ⟨z1,z2⟩
   ·rcases List.mem_cons.mp z with z | z
    ·cases z
     exact .inr ⟨by rw[hc];rfl,by rw[←beq_iff_eq.mp hk];exact List.mem_cons_self⟩
    ·exact .inl z
   ·exact .inr ⟨z1,List.mem_cons_of_mem _ z2⟩
  ·rw[if_neg hk]at h
   rcases q2u hr h with z | ⟨z1,z2⟩
   ·exact .inl z
   ·exact .inr ⟨z1,List.mem_cons_of_mem _ z2⟩
theorem q2p{cells:List (Str×Addr)}:∀{names:List (Str×NameKind)} {acc:List (Str×Addr)} {y:Str×Addr},y∈acc->y∈q0n cells names acc
 | [],_,_,h=>h
 | (n,k)::r,acc,y,h=>by
  unfold q0n
  split
  ·exact q2p (List.mem_cons_of_mem _ h)
  ·exact q2p h
theorem q2x{cells:List (Str×Addr)}:∀{names:List (Str×NameKind)} {acc:List (Str×Addr)} {x:Str} {c:Addr},(x,NameKind.free)∈names->cells.lookup x=some c->(x,c)∈q0n cells names acc
 | (n,k)::r,acc,x,c,h,hc=>by
  unfold q0n
  rcases List.mem_cons.mp h with z | z
  ·cases z
   rw[if_pos (show(NameKind.free==NameKind.free)=true from rfl),hc]
   exact q2p List.mem_cons_self
  ·split
   ·exact q2x z hc
   ·exact q2x z hc
theorem q1h:∀(names:List (Str×NameKind)) (n:Nat) (acc:List (Str×Addr)),cellsFrom n names acc=cellsFrom n names []++acc
 | [],_,_=>rfl
 | (x,k)::r,n,acc=>by
  unfold cellsFrom
  split
  ·rw[q1h r (n+1) ((x,n)::acc),q1h r (n+1) [(x,n)],List.append_assoc];rfl
  ·exact q1h r n acc
theorem q2n:∀{names:List (Str×NameKind)} {n:Nat} {x:Str} {c:Addr},(x,c)∈cellsFrom n names []->(x,NameKind.cell)∈names
 | [],_,_,_,h=>nomatch h
 | (y,k)::r,n,x,c,h=>by
  unfold cellsFrom at h
  by_cases hk:(k==NameKind.cell)=true
  ·rw[if_pos hk,q1h]at h
   rcases List.mem_append.mp h with z | z
   ·exact List.mem_cons_of_mem _ (q2n z)
   ·have z':(x,c)=(y,n):=by simpa using z
    cases z'
    rw[beq_iff_eq.mp hk];exact List.mem_cons_self
  ·rw[if_neg hk]at h
   exact List.mem_cons_of_mem _ (q2n h)
theorem q2i{α:Type}{x:Str}:∀{l r:List (Str×α)},(l++r).lookup x=(l.lookup x).or (r.lookup x)
 | [],r=>by simp
 | (y,v)::l,r=>by
  rw[List.cons_append,List.lookup_cons,List.lookup_cons]
  cases hb:x==y with
  | true=>rfl
  | false=>exact q2i
theorem q3b{α:Type}{x:Str}:∀{l:List (Str×α)},(∀c,(x,c)∉l)->l.lookup x=none
 | [],_=>rfl
 | (y,v)::l,h=>by
  rw[List.lookup_cons]
  cases hb:x==y with
  | true=>exact absurd (by rw[beq_iff_eq.mp hb];exact List.mem_cons_self) (h v)
  | false=>exact q3b λc hc=>h c (List.mem_cons_of_mem _ hc)
theorem q3e{α:Type}{x:Str}:∀{l:List (Str×α)} {c:α},(x,c)∈l->∃c',l.lookup x=some c'
 | (y,v)::l,c,h=>by
  rw[List.lookup_cons]
  cases hb:x==y with
  | true=>exact⟨v,rfl⟩
  | false=>
   rcases List.mem_cons.mp h with z | z
   ·cases z;rw[beq_self_eq_true]at hb;cases hb
   ·exact q3e z
theorem q0M{α:Type}{x:Str}:∀{l:List (Str×α)} {c:α},(l.map (·.1)).Nodup->(x,c)∈l->l.lookup x=some c
 | (y,v)::l,c,nd,h=>by
  rw[List.lookup_cons]
  rw[List.map_cons]at nd
  have nd':=List.nodup_cons.mp nd
  rcases List.mem_cons.mp h with z | z
  ·cases z;rw[beq_self_eq_true]
  ·have:x≠y:=λe=>nd'.1 (by rw[←e];exact List.mem_map.mpr ⟨_,z,rfl⟩)
   rw[beq_eq_false_iff_ne.mpr this]
   exact q0M nd'.2 z
theorem q2d{scope:Scope}{env:Env}{x:Str}:(relabel scope env).names.lookup x=(scope.names.lookup x).map λk=>if(k==NameKind.free&&env.scope.kind == .function&&env.kindOf x==some .cell)=true then NameKind.cell else k:=by
 unfold relabel
 show(scope.names.map _).lookup x=_
 generalize scope.names=l
 induction l with
 | nil=>rfl
 | cons y r ih=>
  obtain⟨n,k⟩:=y
  rw[List.map_cons]
  show List.lookup x ((if(k==NameKind.free&&env.scope.kind == .function&&env.kindOf n==some .cell)=true then(n,NameKind.cell)else(n,k))::_)=_
  have e:(if(k==NameKind.free&&env.scope.kind == .function&&env.kindOf n==some .cell)=true then(n,NameKind.cell)else(n,k))=(n,if(k==NameKind.free&&env.scope.kind == .function&&env.kindOf n==some .cell)=true then NameKind.cell else k):=by split<;>rfl
  rw[e,List.lookup_cons,List.lookup_cons]
  cases hb:x==n with
  | true=>rw[beq_iff_eq.mp hb];rfl
  | false=>exact ih
theorem q7J{M:Model}{A:Around}{E:Value->Shared->Prop}{s:Shared}{scope:Scope}{g:Addr}{cl:List (Str×Addr)}{q:Str}{env:Env}{Q:Env->Shared->Prop}
  (hQ:Q (newEnv scope s.heap.objs.size g (cellsFrom (s.heap.objs.size+1) scope.names cl) q none .none (some env) builtinsNs) {s with heap:=pushCells (s.heap.push {cls:=.type "dict",data:=.dict #[]}) scope.names}) :
  wpAny M A (newFunctionEnv scope g cl [] q none .none (some env)) Q E s:=by
 simp only[newFunctionEnv,Option.isSome_some,if_true]
 refine wpAny_bind (wpAny_alloc ?_)
 refine wpAny_bind (wpAny_layCells _ (λname kind cells=>by cases hkc:kind==NameKind.cell<;>simp[hkc]) _ _ _ _ ?_)
 rw[show({s with heap:=s.heap.push {cls:=.type "dict",data:=.dict #[]}}:Shared).heap.objs.size=s.heap.objs.size+1 from Heap.size_push ..]
 exact wpAny_bind (wpAny_pure (wpAny_pure hQ))
theorem q7f{prog:Program}{w:World}{A:Around}{R:Result->Shared->Prop}{s:Shared}{elt target iter:Expr}{ifs:List Expr}{scope:Scope}{pos:Pos}{it acc:Value}{env:Env}(I:Nat->Shared->Prop)
  (turn:∀n s,I n s->wpAny (model prog w) A (pyNext it) (λr s₁=>match r with
   | none=>R (.ok .next) s₁
   | some v=>wpAny (model prog w) A (letOwnedTupleGo target it v) (λ_ s₁'=>wpAny (model prog w) A (assign target env v) (λ_ s₂=>
     wpAny (model prog w) A (forIn ifs true λc r=>if r=true then do let ok ←isTrue c env (eval c env);pure (ForInStep.yield ok)else pure (ForInStep.yield r)) (λok s₃=>
      if ok=true then wpAny (model prog w) A (eval elt env) (λx s₄=>
       wpAny (model prog w) A (call (.builtin "list.append") [acc,x]) (λ_ s₅=>∃m,m<n/\I m s₅) (notedBy (model prog w) A env λe s'=>R (.error e) s') s₄) (notedBy (model prog w) A env λe s'=>R (.error e) s') s₃
      else ∃m,m<n/\I m s₃) (notedBy (model prog w) A env λe s'=>R (.error e) s') s₂) (notedBy (model prog w) A env λe s'=>R (.error e) s') s₁') (notedBy (model prog w) A env λe s'=>R (.error e) s') s₁) (notedBy (model prog w) A env λe s'=>R (.error e) s') s)
  (n:Nat) (h:I n s) :
  codeAny (model prog w) A (.compLoop (.ListComp elt [⟨target,iter,ifs,0⟩] scope pos) 0 it acc env) R s:=by
 refine codeAny_loop rfl I (λn s hI=>?_) n h
 show wpAny _ A ((compTurn (.ListComp elt [⟨target,iter,ifs,0⟩] scope pos) 0 it acc env).onRaise (λx=>do noteFrame x env;theTreesLotGoes x)) _ _ s
 refine wpAny_noted ?_
 rw[compTurn_list]
 refine wpAny_bind (wpAny_standAt (wpAny_bind (wpAny_mono (turn n s hI) (λr s₁ h₁=>?_) λ_ _ h'=>h')))
 cases r with
 | none=>exact wpAny_pure h₁
 | some v=>
  refine wpAny_bind (wpAny_mono h₁ (λ_ s₁' h₁'=>?_) λ_ _ h'=>h')
  refine wpAny_bind (wpAny_mono h₁' (λ_ s₂ h₂=>wpAny_bind (wpAny_mono h₂ (λok s₃ h₃=>?_) λ_ _ h'=>h')) λ_ _ h'=>h')
  cases ok with
  | false=>exact wpAny_pure ⟨rfl,h₃⟩
  | true=>
   exact wpAny_bind (wpAny_bind (wpAny_mono h₃ (λx s₄ h₄=>wpAny_bind (wpAny_mono h₄ (λ_ s₅ h₅=>wpAny_pure (wpAny_pure ⟨rfl,h₅⟩)) λ_ _ h'=>h')) λ_ _ h'=>h'))
theorem HOk.track{P:Program}{w:World}{H:Hp}{h:Heap}{a:Addr}{o:HO}(x:HOk P w H h)(hn:H a=none)(new:q0V P w (upd H a o) h a o):HOk P w (upd H a o) h:=λb u e=>by
 by_cases hb:b=a
 ·subst hb;rw[q0t]at e;cases e;exact new
 ·rw[q0l hb]at e
  exact(x b u e).stay (λc v _ q=>q) (λc q=>by rw[q0l (q0z q hn)];exact q) λc xs q=>by rw[q0l (q0z q hn)];exact q
theorem Un.track{fs ex:List Addr}{H H':Hp}{h h':Heap}{a:Addr}{o:HO}(u:Un fs ex H H' h h')(hn:H' a=none)(hh:h.get? a=none):Un fs ex H (upd H' a o) h h' where
 keep:=u.keep
 slot:=u.slot
 free:=λb ob q n hx=>by
  have:b≠a:=λz=>by rw[z,hh]at q;cases q
  rw[q0l this];exact u.free b ob q n hx
 there:=u.there
 tups:=λb xs q=>by have z:=u.tups b xs q;rw[q0l (q0z z hn)];exact z
 frzs:=λb ob xs q=>by have z:=u.frzs b ob xs q;rw[q0l (q0z z hn)];exact z
 tbls:=λb ps q=>by
  obtain⟨m,z⟩:=u.tbls b ps q
  exact⟨m,by rw[q0l (q0z z hn)];exact z⟩
structure CompScope(N N':List Str)(sc osc:Scope)(fr:List (Option Nat)):Prop where
 kind:sc.kind=.function
 nd:N'.Nodup
 snd:(sc.names.map (·.1)).Nodup
 len:fr.length=N'.length
 fre:∀(j i:Nat),fr[j]? = some (some i)->∃x,N'[j]? = some x/\N[i]? = some x/\(x,NameKind.free)∈sc.names
 out:∀y∈sc.names,y.2=NameKind.free->osc.names.lookup y.1=some .cell\/osc.names.lookup y.1=some .free
def inner(fr:List (Option Nat))(σ:St):St:=fr.map λo=>o.bind λi=>(σ[i]?).join
def q0B(X:Cx)(scope:Scope)(N':List Str)(C:Addr)(cells:List (Str×Addr))(s₂:Shared)(H₂:Hp)(fp:List Addr):Cx:=
 {X with N:=N',s₀:=s₂,H₀:=H₂,env:=compEnvC scope cells C X.env,outer:=X.stack,stack:=X.stack,ex:=fp,fn:=λx=>scope.names.lookup x==some .cell,pn:=[],xe:=λ_ _=>False}
section
variable {X:Cx} {pins:List (Addr×Obj)} {σ:St} {H:Hp} {s₂:Shared} {N':List Str} {scope:Scope} {fr:List (Option Nat)} {fp:List Addr}
abbrev q2k:Obj:={cls:=.type "list",dict:=none,data:=.seq ([]:List Value).toArray}
abbrev q7m:Obj:={cls:=.type "dict",data:=.dict #[]}
theorem z2R(S:CompScope X.N N' scope X.env.scope fr)(I:Inv X pins σ H s₂)(f:∀b∈fp,FpOk X pins H b)(ho:∀b∈fp,@LT.lt Nat _ b s₂.heap.objs.size){C:Nat}(hC:C=s₂.heap.objs.size+1){h4:Heap}(h4e:h4=pushCells ((s₂.heap.push q2k).push q7m) scope.names) :
  Inv (q0B X scope N' C (cellsFrom (C+1) scope.names (q0n X.env.cells scope.names [])) s₂ H fp) [] (inner fr σ) H {s₂ with heap:=h4} /\ h4.get? s₂.heap.objs.size=some q2k/\(∀b o,s₂.heap.get? b=some o->h4.get? b=some o):=by
 have hsz1:(s₂.heap.push q2k).objs.size=s₂.heap.objs.size+1:=Heap.size_push ..
 have hsz2:((s₂.heap.push q2k).push q7m).objs.size=C+1:=by rw[Heap.size_push,hsz1,hC]
 have keep:∀b o,s₂.heap.get? b=some o->h4.get? b=some o:=λb o e=>by rw[h4e];exact pushCells_keeps _ _ b o (Heap.get?_push_of_some _ (Heap.get?_push_of_some _ e))
 have hD:h4.get? s₂.heap.objs.size=some q2k:=by rw[h4e];exact pushCells_keeps _ _ _ _ (Heap.get?_push_of_some _ (Heap.get?_push_size _ rfl))
 have hns:h4.Ns C λ_=>none:=by
  have q:=(Heap.Ns.new (s₂.heap.push q2k) (.type "dict")).keeps (pushCells_keeps scope.names _)
  rw[hsz1,←hC]at q
  rw[h4e];exact q
 have ok:=cellsFrom_ok scope.names ((s₂.heap.push q2k).push q7m) (C+1) [] ⟨λ_ _ hm=>(nomatch hm),List.Pairwise.nil⟩ (by rw[hsz2];exact Nat.le_refl _)
 rw[hsz2,←h4e]at ok
 have hfree:∀y∈scope.names,y.2=NameKind.free->∃c,X.env.cells.lookup y.1=some c:=λy hy hk=>I.ok.has y.1 (S.out y hy hk)
 generalize hcl:q0n X.env.cells scope.names []=cl
 have memcl:∀{x:Str} {c:Addr},(x,c)∈cl->X.env.cells.lookup x=some c/\(x,NameKind.free)∈scope.names:=λ{x c} hm=>by
  rw[←hcl]at hm
  rcases q2u hfree hm with z | z
  ·exact nomatch z
  ·exact z
 generalize hown:cellsFrom (C+1) scope.names []=own at ok
 have app:cellsFrom (C+1) scope.names cl=own++cl:=by rw[q1h,hown]
 rw[app]
 have memown:∀{x:Str} {c:Addr},(x,c)∈own->(x,NameKind.cell)∈scope.names:=λ{x c} hm=>by rw[←hown]at hm;exact q2n hm
 have L1:∀x c,(own++cl).lookup x=some c->((x,c)∈own)\/(X.env.cells.lookup x=some c/\(x,NameKind.free)∈scope.names/\own.lookup x=none):=λx c e=>by
  rw[q2i]at e
  cases q:own.lookup x with
  | some c'=>rw[q]at e;cases e;exact .inl (PySem.mem_of_lookup q)
  | none=>rw[q]at e;have z:=memcl (PySem.mem_of_lookup (show cl.lookup x=some c from e));exact .inr ⟨z.1,z.2,rfl⟩
 have own_ge:∀{x:Str} {c:Nat},(x,c)∈own->@LE.le Nat _ (C+1) c:=λ{x c} hm=>(ok.empty x c hm).2
 have cell_lt:∀{x:Str} {c:Nat},X.env.cells.lookup x=some c->@LT.lt Nat _ c s₂.heap.objs.size:=λ{x c} e=>by
  obtain⟨v,z⟩:=I.cell x c e
  exact z.lt
 have free_no:∀{x:Str},(x,NameKind.free)∈scope.names->own.lookup x=none:=λ{x} hm=>by
  refine q3b λc hc=>?_
  have a:=q0M S.snd hm
  have b:=q0M S.snd (memown hc)
  rw[a]at b;cases b
 have cl_get:∀{x:Str} {c:Addr},(x,NameKind.free)∈scope.names->X.env.cells.lookup x=some c->(own++cl).lookup x=some c:=λ{x c} hm hc=>by
  rw[q2i,free_no hm]
  obtain⟨c',e⟩:=q3e (l:=cl) (by rw[←hcl];exact q2x hm hc)
  have z:=(memcl (PySem.mem_of_lookup e)).1
  rw[hc]at z;cases z
  exact e
 have hX:(q0B X scope N' C (own++cl) s₂ H fp).Ok:=by
  refine⟨I.ok.mod,S.kind,I.ok.glob,I.ok.blt,?_,λx y c h1 h2=>?_,λx hx=>?_,λx c hf hc=>?_,I.ok.hd,I.ok.frames,.inl rfl,λb hb=>⟨?_,λx c e=>?_⟩,I.bs,Nat.le_trans I.ok.bsz I.sz,λb o e hb=>?_,λb hb hs=>?_,I.stack,I.stkFree⟩
  ·show s₂.heap.objs.size<=C
   rw[hC];exact Nat.le_succ _
  ·have h1:(own++cl).lookup x=some c:=h1
   have h2:(own++cl).lookup y=some c:=h2
   rcases L1 x c h1 with a | ⟨a,_⟩<;>rcases L1 y c h2 with b | ⟨b,_⟩
   ·exact name_of_addr ok.apart a b
   ·exfalso;have q1:=own_ge a;have q2:=cell_lt b;omega
   ·exfalso;have q1:=own_ge b;have q2:=cell_lt a;omega
   ·exact I.ok.inj x y c a b
  ·have hx':(relabel scope X.env).names.lookup x=some .cell\/(relabel scope X.env).names.lookup x=some .free:=hx
   show ∃c,(own++cl).lookup x=some c
   rw[q2d]at hx'
   cases q:scope.names.lookup x with
   | none=>rw[q]at hx';rcases hx' with z | z<;>cases z
   | some k=>
    have km:=PySem.mem_of_lookup q
    by_cases k1:k=.cell
    ·subst k1
     have z:=PySem.W.cellsFrom_some scope.names (C+1) [] (.inl q)
     rw[hown]at z
     obtain⟨c,z⟩:=Option.isSome_iff_exists.mp z
     exact⟨c,by rw[q2i,z];rfl⟩
    ·by_cases k2:k=.free
     ·subst k2
      obtain⟨c,e⟩:=hfree _ km rfl
      exact⟨c,cl_get km e⟩
     ·exfalso
      rw[q]at hx'
      have e0:(k==NameKind.free)=false:=beq_eq_false_iff_ne.mpr k2
      simp only[Option.map_some,e0,Bool.false_and]at hx'
      rcases hx' with z | z
      ·exact k1 (by simpa using z)
      ·exact k2 (by simpa using z)
  ·have hf':(scope.names.lookup x==some .cell)=true:=hf
   have q:scope.names.lookup x=some .cell:=by simpa using hf'
   have z:=PySem.W.cellsFrom_some scope.names (C+1) [] (.inl q)
   rw[hown]at z
   obtain⟨c',z⟩:=Option.isSome_iff_exists.mp z
   have hc':(own++cl).lookup x=some c:=hc
   rw[q2i,z]at hc'
   have e:c'=c:=Option.some.inj hc'
   subst e
   have:=own_ge (PySem.mem_of_lookup z)
   show @LE.le Nat _ s₂.heap.objs.size c'
   omega
  ·have:=ho b hb
   show @Ne Nat b C
   omega
  ·rcases L1 x c e with a | ⟨a,_⟩
   ·have:=own_ge a;have:=ho b hb;show @Ne Nat c b;omega
   ·exact(f b hb).2.2.2.2.1 x c a
  ·rcases(f b hb).2.2.2.1 with z | z
   ·exact I.ok.noex b o e z
   ·exact absurd (Nat.lt_of_lt_of_le (Heap.lt_size e) (Nat.le_trans I.ok.bsz z)) (Nat.lt_irrefl _)
  ·rcases List.mem_cons.mp (I.stkSub b hs)with z | z
   ·exact(f b hb).2.1 z
   ·exact(f b hb).2.2.1 z
 refine⟨⟨hX,rfl,I.bare,Un.kept keep,⟨_,hns,λi x v e1 e2 e3=>?_⟩,λx c e=>?_,I.hok.fresh (by show @LE.le Nat _ s₂.heap.objs.size C;omega),λx c e=>?_,λp hp=>absurd (show p∈([]:List (Addr×Obj))from hp) (by simp),I.hok.kept keep,?_⟩,hD,keep⟩
 ·have e1:N'[i]? = some x:=e1
  unfold inner at e2
  rw[List.getElem?_map]at e2
  cases q:fr[i]? with
  | none=>rw[q]at e2;cases e2
  | some o=>
   rw[q]at e2
   cases o with
   | none=>cases e2
   | some j=>
    have e2':(σ[j]?).join=some v:=Option.some.inj e2
    have hv:σ[j]? = some (some v):=by
     cases z:σ[j]? with
     | none=>rw[z]at e2';cases e2'
     | some o=>rw[z]at e2';rw[show o=some v from e2']
    obtain⟨x',a1,a2,a3⟩:=S.fre i j q
    rw[e1]at a1;cases a1
    obtain⟨m,hn,hl⟩:=I.loc
    have ko:=S.out _ a3 rfl
    obtain⟨u,r,l⟩:=hl j x v a2 hv (ko.elim (λz=>.inr (.inl z)) λz=>.inr (.inr z))
    rcases l with⟨k,_⟩ | ⟨k,c,e,z⟩
    ·have k':X.env.scope.names.lookup x=some .local:=k
     rcases ko with w | w<;>(rw[show X.env.scope.names.lookup x=_ from w]at k';cases k')
    ·refine⟨u,r,.inr ⟨?_,c,cl_get a3 e,z.keeps keep⟩⟩
     show(relabel scope X.env).names.lookup x=some .cell\/(relabel scope X.env).names.lookup x=some .free
     rw[q2d,q0M S.snd a3]
     simp only[Option.map_some]
     split
     ·exact .inl rfl
     ·exact .inr rfl
 ·rcases L1 x c e with a | ⟨a,_⟩
  ·exact⟨none,(ok.empty x c a).1⟩
  ·obtain⟨v,z⟩:=I.cell x c a
   exact⟨v,z.keeps keep⟩
 ·rcases L1 x c e with a | ⟨a,_⟩
  ·exact I.hok.fresh (by have:=own_ge a;show @LE.le Nat _ s₂.heap.objs.size c;omega)
  ·exact I.freeC x c a
 ·show(inner fr σ).length=N'.length
  unfold inner
  rw[List.length_map,S.len]
end
def PTs(X:Cx)(ifs:List Expr)(t:TT):Prop:=
 ∀(pins:List (Addr×Obj)) (s:Shared) (σ:St) (H:Hp) (Q:Bool->Hp->Prop),Inv X pins σ H s->t σ H Q ->
  wpAny (model X.prog X.w) X.A (forIn ifs true λc r=>if r=true then do let ok ←isTrue c X.env (eval c X.env);pure (ForInStep.yield ok)else pure (ForInStep.yield r)) (TP X pins σ Q) X.xe s
def tYes:TT:=λ_ H Q=>Q true H
theorem z4S{X:Cx}:PTs X [] tYes:=λ_ _ _ H _ I h=>wpAny_tests_nil ⟨H,I,h⟩
theorem z6T{X:Cx}{c:Expr}{t:TT}(h:PT X c t):PTs X [c] t:=λpins s σ H Q I hq=>wpAny_tests_one (h pins s σ H Q I hq)
def z5v(J:It)(g:TG)(tc:TT)(te:TE)(Fin:List V->Hp->Prop)(σ:St)(H:Hp):Prop:=
 ∃W:Nat->Nat->List V->St->Hp->Prop,(∃m,W 0 m [] σ H)/\∀i m ys σ H,W i m ys σ H ->
  (J.stop i H/\Fin ys H)\/(J.go i H/\ys.length<sizeLine/\∀x H',J.yld i H x H'->g x σ H' λσ2 H2=>tc σ2 H2 λb H3=>
   if b=true then te σ2 H3 λy H4=>∃m',m'<m/\W (i+1) m' (ys++[y]) σ2 H4 else ∃m',m'<m/\W (i+1) m' ys σ2 H3)
theorem Vals.snoc{xs:List V}{us:List Value}{x:V}{u:Value}(r:Vals xs us)(q:RelV x u):Vals (xs++[x]) (us++[u]):=r.append (.cons q .nil)
theorem q8J{X:Cx}{pins:List (Addr×Obj)}{σ:St}{H:Hp}{s₂:Shared}{N':List Str}{scope:Scope}{fr:List (Option Nat)}{fp:List Addr}{iter elt tg:Expr}{ifs:List Expr}{pos:Pos}{g:TG}{te:TE}{tc:TT}{it:Addr}{tn:Nat->Heap->Prop}{J:It}
  {E:Value->Shared->Prop} {Fin:List V->Hp->Prop} {RR:Value->Addr->Result->Shared->Prop}
  (S:CompScope X.N N' scope X.env.scope fr) (hc:X.calm=true)
  (hg:∀C cells s₂ H₂ fp,PG (q0B X scope N' C cells s₂ H₂ fp) tg g) (ht:∀C cells s₂ H₂ fp,PTs (q0B X scope N' C cells s₂ H₂ fp) ifs tc) (he:∀C cells s₂ H₂ fp,PE (q0B X scope N' C cells s₂ H₂ fp) elt te)
  (I:Inv X pins σ H s₂) (T:Turn X.prog X.w X.K tg J fp it tn) (st:tn 0 s₂.heap) (f:∀b∈fp,FpOk X pins H b) (h:z5v J g tc te Fin (inner fr σ) H)
  (hRR:∀D C H' s' m ys,Inv X pins σ (upd H' D (.lst ys)) s'->H' D=none->s'.heap.Ns C m->upd H' D (.lst ys) C=none->C≠X.env.locals->X.s₀.heap.objs.size<=C->(∀x c,X.env.cells.lookup x=some c->c≠C)->(∀p∈X.pn++pins,p.1≠C)->Fin ys H'->RR (.ref D) C (.ok .next) s') :
  wpAny (model X.prog X.w) X.A (newList []) (λacc s₃=>wpAny (model X.prog X.w) X.A (newFunctionEnv scope X.env.globals (q0n X.env.cells scope.names []) [] X.env.qual none .none (some X.env)) (λcenv s₄=>
   codeAny (model X.prog X.w) X.A (.compStart (.ListComp elt [⟨tg,iter,ifs,0⟩] scope pos) 0 (.ref it) acc {cenv with scope:=relabel scope X.env}) (RR acc cenv.locals) s₄) E s₃) E s₂:=by
 have ho:∀b∈fp,b<s₂.heap.objs.size:=λb hb=>by
  obtain⟨o,e,_⟩:=T.obj _ _ st b hb
  exact Heap.lt_size e
 refine wpAny_newObj_type (q7J ?_)
 have hsz1:(s₂.heap.push q2k).objs.size=s₂.heap.objs.size+1:=Heap.size_push ..
 obtain⟨I4,hD4,keep⟩:=z2R (C:=s₂.heap.objs.size+1) S I f ho rfl rfl
 show codeAny _ _ (.compStart _ 0 (.ref it) (.ref s₂.heap.objs.size) (compEnvC scope (cellsFrom ((s₂.heap.push q2k).objs.size+1) scope.names (q0n X.env.cells scope.names [])) (s₂.heap.push q2k).objs.size X.env)) (RR (.ref s₂.heap.objs.size) (s₂.heap.push q2k).objs.size) {s₂ with heap:=pushCells ((s₂.heap.push q2k).push q7m) scope.names}
 rw[hsz1]
 generalize hDe:s₂.heap.objs.size=D at *
 generalize cellsFrom (D+1+1) scope.names (q0n X.env.cells scope.names [])=cells at *
 generalize pushCells ((s₂.heap.push q2k).push q7m) scope.names=h4 at *
 have hfp:∀{pins':List (Addr×Obj)} {H':Hp},(∀b∈fp,H' b=none)->(∀p∈pins',p.1=D)->∀b∈fp,FpOk (q0B X scope N' (D+1) cells s₂ H fp) pins' H' b:=λ{pins' H'} hn hp b hb=>
  ⟨hn b hb,(I4.ok.exf b hb).1,I4.ok.exfs b hb,.inl hb,(I4.ok.exf b hb).2,λp hp' z=>by
   have hp':p∈([]:List (Addr×Obj))++pins':=hp'
   rw[List.nil_append]at hp'
   have:=ho b hb
   rw[←z,hp p hp']at this
   exact Nat.lt_irrefl _ this⟩
 obtain⟨W,⟨m0,w0⟩,turn⟩:=h
 have hDC:D≠(q0B X scope N' (D+1) cells s₂ H fp).env.locals:=by show D≠D+1;omega
 have hDcell:∀x c,(q0B X scope N' (D+1) cells s₂ H fp).env.cells.lookup x=some c->c≠D:=λx c e z=>by
  obtain⟨v,o,hoc,hd⟩:=I4.cell x c e
  have q:h4.get? D=some o:=by rw[←z];exact hoc
  rw[hD4]at q;cases q;cases hd
 have hDfs:D∉(q0B X scope N' (D+1) cells s₂ H fp).fs:=λz=>by
  obtain⟨_,o,ho',_⟩:=I4.ok.funs.mem z
  have:=Heap.lt_size ho'
  have e:s₂.heap.objs.size=D:=hDe
  exact absurd this (by show ¬D<s₂.heap.objs.size;omega)
 have loop:codeAny (model X.prog X.w) X.A (.compLoop (.ListComp elt [⟨tg,iter,ifs,0⟩] scope pos) 0 (.ref it) (.ref D) (compEnvC scope cells (D+1) X.env)) (RR (.ref D) (D+1)) {s₂ with heap:=h4}:=by
  refine q7f (λn s'=>∃i ys its k σ' H',Inv (q0B X scope N' (D+1) cells s₂ H fp) [] σ' H' s'/\tn i s'.heap/\(∀b∈fp,H' b=none)/\H' D=none /\
   s'.heap.get? D=some {cls:=.type "list",data:=.seq (its:List Value).toArray k} /\ Vals ys its/\ys.length<=sizeLine/\W i n ys σ' H') ?_ m0
   ⟨0,[],[],_,_,H,I4,T.keep _ _ _ st λb _ o e=>keep b o e,λb hb=>(f b hb).1,I.hok.fresh (by omega),hD4,.nil,Nat.zero_le _,w0⟩
  rintro n s3 ⟨i,ys,its,k,σ3,H3,I3,st3,fr3,hD3,oD3,rv,hl,w3⟩
  have I3p:Inv (q0B X scope N' (D+1) cells s₂ H fp) [(D,{cls:=.type "list",data:=.seq its.toArray k})] σ3 H3 s3:=I3.pins_of λp hp=>by
   have e:p=(D,{cls:=.type "list",data:=.seq its.toArray k}):=by simpa using hp
   subst e
   exact⟨oD3,hD3,hDC,hDfs,λv z=>by cases z⟩
  have pinD:∀p∈[((D:Addr),({cls:=.type "list",data:=.seq its.toArray k}:Obj))],p.1=D:=λp hp=>by
   have e:p=(D,{cls:=.type "list",data:=.seq its.toArray k}):=by simpa using hp
   subst e;rfl
  rcases turn i n ys σ3 H3 w3 with⟨stop,fin⟩ | ⟨go,hlt,step⟩
  ·refine thn (T.done (q0B X scope N' (D+1) cells s₂ H fp) rfl rfl rfl hc i _ s3 σ3 H3 _ I3p (hfp fr3 pinD) st3 stop) λr s4 ⟨hr,I4'⟩=>?_
   subst hr
   have oD:=(I4'.pin (D,_) (List.mem_append_right _ List.mem_cons_self)).1
   have un:Un (frs X.stack) fp H H3 s₂.heap s4.heap:=I4'.base
   have hn:s₂.heap.get? D=none:=Heap.get?_none_of_le (by rw[hDe];exact Nat.le_refl _)
   obtain⟨mC,hnC,_⟩:=I4'.loc
   refine hRR D (D+1) H3 s4 mC ys (I.call' I4'.os (un.track hD3 hn) (I4'.hok.track hD3 ⟨hl,its,k,rv,oD⟩) I4'.bare λb hb=>?_) hD3 hnC ?_ ?_ ?_ (λx c e=>?_) (λp hp=>?_) fin
   ·obtain⟨_,f1,f2,f3,f4,f5⟩:=f b hb
    exact⟨f3,f1,f4,f5⟩
   ·rw[q0l (show @Ne Nat (D+1) D by omega)];exact I4'.free
   ·have q:@LT.lt Nat _ X.env.locals s₂.heap.objs.size:=I.lt
    show @Ne Nat (D+1) X.env.locals
    omega
   ·have q:@LE.le Nat _ X.s₀.heap.objs.size s₂.heap.objs.size:=I.sz
    show @LE.le Nat _ X.s₀.heap.objs.size (D+1)
    omega
   ·obtain⟨v,z⟩:=I.cell x c e
    have q:@LT.lt Nat _ c s₂.heap.objs.size:=z.lt
    show @Ne Nat c (D+1)
    omega
   ·have q:@LT.lt Nat _ p.1 s₂.heap.objs.size:=Heap.lt_size (I.pin p hp).1
    show @Ne Nat p.1 (D+1)
    omega
  ·refine thn (T.item (q0B X scope N' (D+1) cells s₂ H fp) rfl rfl rfl hc i _ s3 σ3 H3 _ I3p (hfp fr3 pinD) st3 go) λr s4 ⟨u,hr,h4'⟩=>?_
   subst hr
   refine thn h4' λ_ s5 ⟨x,H5,I5,r5,y5,st5,fr5⟩=>?_
   have I5':=I5.pinned (hfp fr5 pinD) (T.obj _ _ st5)
   refine wpAny_mono (hg (D+1) cells s₂ H fp _ s5 σ3 H5 x u _ I5' r5 (step x H5 y5)) (λ_ s6 ⟨σ6,H6,I6,q6⟩=>?_) λ_ _ z=>z.elim
   refine wpAny_mono (ht (D+1) cells s₂ H fp _ s6 σ6 H6 _ I6 q6) (λb s7 ⟨H7,I7,q7⟩=>?_) λ_ _ z=>z.elim
   have fpK:∀{H':Hp} {s':Shared},Inv (q0B X scope N' (D+1) cells s₂ H fp) ([(D,{cls:=.type "list",data:=.seq its.toArray k})]++q7h fp s5.heap) σ6 H' s'->tn (i+1) s'.heap/\(∀b∈fp,H' b=none)/\s'.heap.get? D=some {cls:=.type "list",data:=.seq its.toArray k} /\ H' D=none:=λ{H' s'} J'=>by
    refine⟨T.keep _ _ _ st5 λb hb o e=>(J'.pin (b,o) (List.mem_append_right _ (List.mem_append_right _ (q2V hb e)))).1,λb hb=>?_,?_,?_⟩
    ·obtain⟨o,e,d⟩:=T.obj _ _ st5 b hb
     exact(J'.pin (b,o) (List.mem_append_right _ (List.mem_append_right _ (q2V hb e)))).2.1
    ·exact(J'.pin (D,_) (List.mem_append_right _ (List.mem_append_left _ List.mem_cons_self))).1
    ·exact(J'.pin (D,_) (List.mem_append_right _ (List.mem_append_left _ List.mem_cons_self))).2.1
   cases b with
   | false=>
    rw[if_neg Bool.false_ne_true]at q7 ⊢
    obtain⟨m',hm,w7⟩:=q7
    obtain⟨k1,k2,k3,k4⟩:=fpK I7
    exact⟨m',hm,i+1,ys,its,k,σ6,H7,I7.pins_of (λp hp=>(nomatch hp)),k1,k2,k4,k3,rv,hl,w7⟩
   | true=>
    rw[if_pos rfl]at q7 ⊢
    refine wpAny_mono (he (D+1) cells s₂ H fp _ s7 σ6 H7 _ I7 q7) (λy s8 ⟨v8,H8,I8,r8,q8⟩=>?_) λ_ _ z=>z.elim
    obtain⟨m',hm,w8⟩:=q8
    obtain⟨k1,k2,k3,k4⟩:=fpK I8
    have hits:its.length<=sizeLine:=by rw[←rv.length];exact hl
    refine append_at k3 (λh9 hs9 hD9=>?_) (by rw[List.size_toArray];exact hits)
    have I9:Inv (q0B X scope N' (D+1) cells s₂ H fp) [] σ6 H8 s8:=I8.pins_of λp hp=>(nomatch hp)
    refine⟨m',hm,i+1,ys++[v8],its++[y],k+1,σ6,H8,I9.turned (it:=D) (t':=s8.toks) (λb o hb e=>(hs9.2 b hb).trans e) k4 hDC (.inr (by show s₂.heap.objs.size<=D;omega)) hDcell (λp hp=>(nomatch hp)),?_,k2,k4,?_,rv.snoc r8,?_,w8⟩
    ·exact T.keep _ _ _ k1 λb hb o e=>(hs9.2 b (by have q:@LT.lt Nat _ b D:=ho b hb;show @Ne Nat b D;omega)).trans e
    ·rw[hD9,List.push_toArray]
    ·rw[List.length_append,List.length_singleton];omega
 exact codeAny_compStart_list loop (T.self X.A 0 _ _ _ (T.keep _ _ _ st λb _ o e=>keep b o e) loop)
def z7e(fr:List (Option Nat))(wi:TI)(g:TG)(tc:TT)(te:TE):TE:=λσ H Q=>wi σ H λJ H1=>z5v J g tc te (λys H'=>∀p,H' p=none->Q (.ref p) (upd H' p (.lst ys))) (inner fr σ) H1
theorem z5O{X:Cx}{N':List Str}{scope:Scope}{fr:List (Option Nat)}{iter elt tg:Expr}{ifs:List Expr}{pos:Pos}{wi:TI}{g:TG}{te:TE}{tc:TT}(S:CompScope X.N N' scope X.env.scope fr)(hc:X.calm=true)(hi:PI X tg iter wi)
  (hg:∀C cells s₂ H₂ fp,PG (q0B X scope N' C cells s₂ H₂ fp) tg g) (ht:∀C cells s₂ H₂ fp,PTs (q0B X scope N' C cells s₂ H₂ fp) ifs tc) (he:∀C cells s₂ H₂ fp,PE (q0B X scope N' C cells s₂ H₂ fp) elt te)
  (hs:∀x,foldedSetIterable iter X.env x=pure x:=by intro _;rfl):PE X (.ListComp elt [⟨tg,iter,ifs,0⟩] scope pos) (z7e fr wi g tc te):=by
 intro pins s σ H Q I h
 rw[eval_ListComp]
 have hfree:∀y∈scope.names,y.2=NameKind.free->∃c,X.env.cells.lookup y.1=some c:=λy hy hk=>I.ok.has y.1 (S.out y hy hk)
 refine wpAny_comprehension_free (use:=none) rfl hs (q2I hfree) S.kind (λx hx hl=>q0M S.snd (by rw[←hl];exact hx)) (thn (hi pins s σ H _ I h) λv s1 h1=>thn h1 λitv s2 h2=>?_)
 obtain⟨it,fp,tn,J,H2,e,I2,T,st2,f2,w⟩:=h2
 subst e
 refine q8J (RR:=λacc C=>compPost (model X.prog X.w) X.A X.xe none (EP X pins σ Q) acc C) S hc hg ht he I2 T st2 f2 w ?_
 intro D C H' s' m ys I' hD hnC hCn hCL hCs hCc hCp fin
 exact⟨m,hnC,λh' hs'=>⟨.ref D,_,I'.turned (it:=C) (t':=s'.toks) (λb o hb e=>(hs'.2 b hb).trans e) hCn hCL (.inr hCs) hCc hCp,rfl,fin D hD⟩⟩
theorem q9z{X:Cx}{N':List Str}{scope:Scope}{fr:List (Option Nat)}{iter elt tg:Expr}{ifs:List Expr}{pos spos py:Pos}{y:Str}{i:Nat}{wi:TI}{g:TG}{te:TE}{tc:TT}(S:CompScope X.N N' scope X.env.scope fr)(hc:X.calm=true)(hN:X.N.Nodup)(hiN:X.N[i]? = some y)
  (hy:X.env.scope.names.lookup y=some .local) (hi:PI X tg iter wi)
  (hg:∀C cells s₂ H₂ fp,PG (q0B X scope N' C cells s₂ H₂ fp) tg g) (ht:∀C cells s₂ H₂ fp,PTs (q0B X scope N' C cells s₂ H₂ fp) ifs tc) (he:∀C cells s₂ H₂ fp,PE (q0B X scope N' C cells s₂ H₂ fp) elt te)
  (hsw:swapsWith (.ListComp elt [⟨tg,iter,ifs,0⟩] scope pos) (some (.Name y py)) spos.line X.env=pure true:=by rfl)
  (hs:∀x,foldedSetIterable iter X.env x=pure x:=by intro _;rfl):PS X (.Assign [.Name y py] (.ListComp elt [⟨tg,iter,ifs,0⟩] scope pos) spos) (tAsg (z7e fr wi g tc te) (z0s i)):=by
 intro pins s σ H Dn I h
 rw[exec_Assign_Name_used _ _ _ _ hsw]
 refine wpAny_bind (wpAny_standAt (wpAny_bind ?_))
 show wpAny _ _ (do let _ ←comprehension (.ListComp elt [⟨tg,iter,ifs,0⟩] scope pos) scope X.env _ (newList []) false (eval iter X.env) (some (assign (.Name y py) X.env))) _ _ s
 have hfree:∀y∈scope.names,y.2=NameKind.free->∃c,X.env.cells.lookup y.1=some c:=λy hy hk=>I.ok.has y.1 (S.out y hy hk)
 refine wpAny_bind (wpAny_mono (wpAny_comprehension_free (use:=some (assign (.Name y py) X.env)) (Q:=λ_ s'=>SP X pins Dn .next s') rfl hs (q2I hfree) S.kind (λx hx hl=>q0M S.snd (by rw[←hl];exact hx))
  (thn (hi pins s σ H _ I h) λv s1 h1=>thn h1 λitv s2 h2=>?_)) (λ_ s' hq=>wpAny_pure (wpAny_pure hq)) λ_ _ e=>e)
 obtain⟨it,fp,tn,J,H2,e,I2,T,st2,f2,w⟩:=h2
 subst e
 refine q8J (RR:=λacc C=>compPost (model X.prog X.w) X.A X.xe (some (assign (.Name y py) X.env)) (λ_ s'=>SP X pins Dn .next s') acc C) S hc hg ht he I2 T st2 f2 w ?_
 intro D C H' s' m ys I' hD hnC hCn hCL hCs hCc hCp fin
 refine wpAny_assign_Name (q6A (v:=.ref D) I' hN hiN (Or.inl hy) rfl (λs'' I'' ⟨a,hsb,ha⟩=>⟨m,hnC.sameBut hsb ?_,λh' hs'=>⟨_,_,I''.turned (it:=C) (t':=s''.toks) (λb o hb e=>(hs'.2 b hb).trans e) hCn hCL (.inr hCs) hCc hCp,fin D hD⟩⟩) (.inr hy))
 rcases ha with z | z
 ·rw[z];exact hCL
 ·exact Ne.symm (hCc y a z)
end L2
end
noncomputable section
namespace L2
open PySem PySem.Spec PyProof.Rows
structure Fly(P:Program)(w:World)(base:Heap)(l:List Env)(ea:Addr)(C:Value)(H:Hp)(B h:Heap):Prop where
 fly:∃a0,Heap.FlyingW B l ea C a0 h
 bas:∀b o,base.get? b=some o->B.get? b=some o
 hok:HOk P w H B
theorem Fly.stays{P:Program}{w:World}{base:Heap}{l:List Env}{ea:Addr}{C:Value}{H:Hp}{B h:Heap}(F:Fly P w base l ea C H B h):∀b o,B.get? b=some o->h.get? b=some o:=by
 obtain⟨a0,f⟩:=F.fly
 exact f.1
def CXx(P:Program)(w:World)(base:Heap):CXT:=λouter H s E e s'=>∃(ea:Addr) (C:Value) (H':Hp) (B:Heap),e=.ref ea/\s'.os=s.os/\AllBare s'.gens/\Un (frs outer) [] H H' s.heap s'.heap /\
 Fly P w base outer ea C H' B s'.heap/\(∀b o,s.heap.get? b=some o->b∉frs outer->∃o',B.get? b=some o')/\E C none H'
theorem Un.flown{fs ex:List Addr}{H H':Hp}{h0 h1 h2 B:Heap}(u:Un fs ex H H' h0 h1)(cov:∀b o,h0.get? b=some o->b∉fs->b∉ex->∃o',B.get? b=some o')(s1:∀b o,B.get? b=some o->h1.get? b=some o)(s2:∀b o,B.get? b=some o->h2.get? b=some o)
  (up:h1.UpToSlots h2) (fd:∀b∈fs,b∉ex/\H b=none/\∀o,h0.get? b=some o->∀vs,o.data ≠ .fields vs):Un fs ex H H' h0 h2:=by
 have keep:∀b o,h0.get? b=some o->H b=none->b∉fs->b∉ex->h2.get? b=some o:=λb o e n hb hx=>by
  have e1:=u.keep b o e n hb hx
  obtain⟨o',q⟩:=cov b o e hb hx
  have q1:=s1 b o' q
  rw[e1]at q1;cases q1
  exact s2 b o q
 have slot:∀b o,h0.get? b=some o->H b=none->b∈fs->b∉ex->∃sl,h2.get? b=some {o with slots:=sl}:=λb o e n hb hx=>by
  obtain⟨sl,e1⟩:=u.slot b o e n hb hx
  obtain⟨sl',e2⟩:=up b _ e1 ((fd b hb).2.2 o e)
  exact⟨sl',e2⟩
 refine⟨keep,slot,u.free,λb o e hx=>?_,u.tups,u.frzs,u.tbls⟩
 by_cases hb:b∈fs
 ·obtain⟨sl,q⟩:=slot b o e (fd b hb).2.1 hb hx
  exact⟨_,q⟩
 ·obtain⟨o',q⟩:=cov b o e hb hx
  exact⟨o',s2 b o' q⟩
section
variable {X:Cx} {pins:List (Addr×Obj)} {σ:St} {H:Hp} {s:Shared}
theorem Inv.frameData(I:Inv X pins σ H s):∀b∈X.fs,b∉X.ex/\X.H₀ b=none/\∀o,X.s₀.heap.get? b=some o->∀vs,o.data ≠ .fields vs:=λb hb=>by
 refine⟨λz=>I.ok.exfs b z hb,I.ok.frf b hb,λo e=>?_⟩
 obtain⟨_,o',e',d⟩:=I.ok.funs.mem hb
 rw[e]at e';cases e'
 exact d
theorem Inv.notStk(I:Inv X pins σ H s){b:Addr}{o:Obj}(e:X.s₀.heap.get? b=some o)(hb:b∉X.fs):b∉frs X.stack:=λz=>by
 rcases List.mem_cons.mp (I.stkSub b z)with q | q
 ·exact absurd (Nat.lt_of_lt_of_le (Heap.lt_size e) I.ok.above) (by rw[q];exact Nat.lt_irrefl _)
 ·exact hb q
end
section
variable {P:Program} {w:World} {K:PySem.W.Frag} {mg:Str->Option Value} {base:Heap} {N:List Str} {qual:Str} {scope:Scope} {f:Addr} {cd:Value} {A:Around} {outer:List Env} {s:Shared} {H:Hp} {E:XK}
abbrev cxD(P:Program)(w:World)(K:PySem.W.Frag)(mg:Str->Option Value)(base:Heap)(N:List Str)(qual:Str)(scope:Scope)(f:Addr)(cd:Value)(A:Around)(outer:List Env)(s:Shared)(H:Hp)(E:XK):Cx:=
 cxOf (CXx P w base) P w K mg base N qual scope f cd A outer s H E
theorem q7Z{pins:List (Addr×Obj)}{σ:St}{H1:Hp}{s1:Shared}{h':Heap}{ea:Addr}{C:Value}{vs:List Value}(I:Inv (cxD P w K mg base N qual scope f cd A outer s H E) pins σ H1 s1)(hx:Heap.MadeExcOf s1.heap h' ea C vs)(hE:E C none H1) :
  (cxD P w K mg base N qual scope f cd A outer s H E).xe (.ref ea) {s1 with heap:=h'}:=by
 have hstk:=I.stack
 have hin:∀env∈(cxD P w K mg base N qual scope f cd A outer s H E).stack,∀a,env.frame=some a->a∈frs (cxD P w K mg base N qual scope f cd A outer s H E).stack:=λenv he b hb=>List.mem_filterMap.mpr ⟨env,he,hb⟩
 have hB1:∀b o,(PySem.W.hideAll s1.heap (frs (cxD P w K mg base N qual scope f cd A outer s H E).stack)).get? b=some o->s1.heap.get? b=some o:=λb o q=>PySem.W.of_hideAll _ q
 have hHid:∀b u,H1 b≠none->s1.heap.get? b=some u->(PySem.W.hideAll s1.heap (frs (cxD P w K mg base N qual scope f cd A outer s H E).stack)).get? b=some u:=λb u hb q=>PySem.W.hideAll_get _ q λz=>hb (I.stkFree b z)
 refine wpAny_leaves_madeW (base:=PySem.W.hideAll s1.heap (frs (cxD P w K mg base N qual scope f cd A outer s H E).stack)) (h:=s1.heap) I.ok.frames rfl hB1 (PySem.W.funFrames_hide hstk hin) hx λh2 t fl tup nt up=>?_
 have hcov:∀b o,s.heap.get? b=some o->b∉frs outer->∃o',(PySem.W.hideAll s1.heap (frs (cxD P w K mg base N qual scope f cd A outer s H E).stack)).get? b=some o':=λb o e hb=>by
  obtain⟨o1,e1⟩:=I.base.there b o e (by intro z;exact nomatch z)
  exact⟨o1,PySem.W.hideAll_get _ e1 (I.notStk e hb)⟩
 refine⟨ea,C,H1,_,rfl,I.os,I.bare,I.base.flown (λb o e hb _=>hcov b o e hb) hB1 fl.1 ((Heap.UpToSlots.of_keeps hx.keeps).trans up) I.frameData,⟨⟨_,fl⟩,λb o e=>?_,λa o q=>?_⟩,hcov,hE⟩
 ·refine PySem.W.hideAll_get _ (I.bk b o e) λz=>?_
  have q:base.get? b=none:=(hstk.mem z).1
  rw[q]at e;cases e
 ·refine(I.hok a o q).stay (λb u hc e=>hHid b u ?_ e) (λ_ z=>z) λ_ _ z=>z
  rcases hc with z | z
  ·subst z;rw[q];intro z;cases z
  ·rw[z];intro z;cases z
theorem z3P{pins:List (Addr×Obj)}{σ:St}{H1:Hp}{s1:Shared}{ea:Addr}{C:Value}{B:Heap}(I:Inv (cxD P w K mg base N qual scope f cd A outer s H E) pins σ H1 s1)(F:Fly P w base (cxD P w K mg base N qual scope f cd A outer s H E).stack ea C H1 B s1.heap)
  (cov:∀b o,s.heap.get? b=some o->b∉frs (cxD P w K mg base N qual scope f cd A outer s H E).stack->∃o',B.get? b=some o') (hE:E C none H1):(cxD P w K mg base N qual scope f cd A outer s H E).xe (.ref ea) s1:=by
 obtain⟨a0,fl⟩:=F.fly
 refine wpAny_leaves_onW I.ok.frames rfl fl λh2 fl2 up=>?_
 have hcov:∀b o,s.heap.get? b=some o->b∉frs outer->∃o',B.get? b=some o':=λb o e hb=>cov b o e (I.notStk e hb)
 exact⟨ea,C,H1,B,rfl,I.os,I.bare,I.base.flown (λb o e hb _=>hcov b o e hb) F.stays fl2.1 up I.frameData,⟨⟨_,fl2⟩,F.bas,F.hok⟩,hcov,hE⟩
theorem q9n:z0w (CXx P w base) (cxD P w K mg base N qual scope f cd A outer s H E) E:=by
 intro pins σ H0 s0 e s' I hcx
 obtain⟨ea,C,H',B,rfl,os,bare,un,F,cov,hE⟩:=hcx
 have I':Inv (cxD P w K mg base N qual scope f cd A outer s H E) pins σ H' s':=I.call' os un (F.hok.kept F.stays) bare λb hb=>nomatch hb
 refine z3P I' F (λb o e hb=>?_) hE
 obtain⟨o1,e1⟩:=I.base.there b o e (by intro z;exact nomatch z)
 exact cov b o1 e1 hb
end
def excO(ea:Addr)(C:Value):HO:=.ext λh=>∃oe vs,h.get? ea=some oe/\oe.cls=C/\oe.data=.fields vs
def XP(X:Cx)(pins:List (Addr×Obj))(E:St->Value->Hp->Prop)(e:Value)(s':Shared):Prop:=∃(ea:Addr) (C:Value) (σ':St) (H':Hp) (B:Heap),e=.ref ea/\Inv X pins σ' H' s'/\Fly X.prog X.w X.base X.stack ea C H' B s'.heap /\
 (∀b o,X.s₀.heap.get? b=some o->b∉frs X.stack->b∉X.ex->∃o',B.get? b=some o')/\(∀p∈X.pn++pins,∃o',B.get? p.1=some o')/\E σ' C H'
section
variable {X:Cx} {pins pins':List (Addr×Obj)} {σ:St} {H:Hp} {s:Shared} {E:St->Value->Hp->Prop} {ea:Addr}
theorem Inv.track{a:Addr}{o:HO}(I:Inv X pins σ H s)(hn:H a=none)(h0:X.s₀.heap.get? a=none)(hL:a≠X.env.locals)(hc:∀x c,X.env.cells.lookup x=some c->c≠a)(hp:∀p∈X.pn++pins,p.1≠a)(new:q0V X.prog X.w (upd H a o) s.heap a o) :
  Inv X pins σ (upd H a o) s:=
 ⟨I.ok,I.os,I.bare,I.base.track hn h0,I.loc,I.cell,by rw[q0l (Ne.symm hL)];exact I.free,λx c e=>by rw[q0l (hc x c e)];exact I.freeC x c e,λp hq=>by
  obtain⟨e,n,ne,nf,d⟩:=I.pin p hq
  exact⟨e,by rw[q0l (hp p hq)];exact n,ne,nf,d⟩,I.hok.track hn new,I.len⟩
end
def q3r(CX:CXT)(X:Cx)(E:St->XK):Prop:=∀(pins:List (Addr×Obj)) (σ:St) (H:Hp) (s:Shared) (e:Value) (s':Shared),Inv X pins σ H s->CX X.stack H s (E σ) e s'->X.xe e s'
theorem z0w.s{CX:CXT}{X:Cx}{E:XK}(h:z0w CX X E):q3r CX X λ_=>E:=λpins σ H s e s' I q=>h pins σ H s e s' I q
section
variable {X:Cx} {CX:CXT} {k:Nat} {f C:Addr} {fd:FuncData} {ps:List Str} {sp:Sp} {dvs:List V} {ds:List Value} {E:St->XK} {x m:Str} {p pos apos:Pos} {e o:Expr} {es:List Expr} {ta:TE} {t:TA}
theorem z0K{pins:List (Addr×Obj)}{σ:St}{H:Hp}{s:Shared}{Q:VK}{us:List Value}{vs:List V}(F:FnOk X.prog X.w X.K X.mg X.base CX k f fd ps sp)(hr:Room k X.A)(hb:q2J X.K fd ps ds)(hd:Vals dvs ds)(hx:q3r CX X E)
  (I:Inv X pins σ H s) (r:Vals vs us) (h:sp (vs++dvs) H Q (E σ)):wpAny (model X.prog X.w) X.A (call (.ref f) us) (EP X pins σ Q) X.xe s:=by
 have r2:Vals (vs++dvs) (us++ds):=r.append hd
 have hl:(us++ds).length=ps.length:=by rw[←r2.length];exact F.len _ _ _ _ h
 refine wpAny_call (codeAny_mono (F.run X.A X.stack s H ⟨us,[]⟩ (us++ds) (vs++dvs) Q (E σ) hr I.env0 (hb s us I.kIn hl) r2 h) λr s' hq=>?_)
 cases r with
 | error e=>exact hx pins σ H s e s' I hq
 | ok fl=>
  cases fl with
  | ret u=>exact I.after hq
  | next=>exact False.elim hq
  | brk=>exact False.elim hq
  | cont=>exact False.elim hq
def z1o(sp:Sp)(dvs:List V)(E:St->XK)(t:TA):TE:=λσ H Q=>t σ H λvs H1=>sp (vs++dvs) H1 Q (E σ)
theorem z3W(F:FnOk X.prog X.w X.K X.mg X.base CX k f fd ps sp)(hr:Room k X.A)(hg:Gl X x)(hm:X.mg x=some (.ref f))(hk:PySem.W.keepIn X.K (.ref f)=true)(hb:q2J X.K fd ps ds)(hd:Vals dvs ds)(hx:q3r CX X E)
  (ha:PA X (e::es) t) (hdb:(x==("__debug__" : Str))=false:=by decide) (he:starEach (e::es) X.env=(false,eval e X.env)::starEach es X.env:=by rfl) (hpl:(backTo pos (starEach es X.env)).any (·.1)=false:=by rfl) :
  PE X (.Call (.Name x p) (e::es) [] pos) (z1o sp dvs E t):=by
 intro pins s σ H Q I h
 refine wpAny_Call_Name_kw (q7W I hg hm ?_ hdb)
 refine PySem.W.callWith_K (h₀:=X.base) I.ok.mod.kin hk (thn (ha pos pins s σ H _ I h) λus s1 ⟨vs,H1,I1,r,q⟩=>⟨I1.kIn,?_⟩) he hpl
 exact z0K F hr hb hd hx I1 r q
end
theorem z3v{K:PySem.W.Frag}{h₀:Heap}{mg:Str->Option Value}{x:Str}{C:Addr}{bmB:List Value}{newId:String}(X:K.In h₀)(hm:mg x=some (.ref C))(q:PySem.W.excIn K C bmB newId=true):OwnCls x C bmB newId mg h₀:=by
 refine⟨hm,?_⟩
 unfold PySem.W.excIn at q
 split at q
 ·rename_i dd cd sl ho
  split at q
  ·rename_i C' bm k0 k1 k2 k3 n k5 hm hs
   simp only[Bool.and_eq_true,beq_iff_eq,Bool.not_eq_true']at q
   obtain⟨⟨⟨⟨⟨rfl,rfl⟩,hdel⟩,ht⟩,hok⟩,hni⟩:=q
   obtain⟨nm,bs,mro,ns,qn,hd,sn,sub,ab,col,del⟩:=cd
   dsimp only at hm hdel hok hni
   subst hm hdel
   have hsl:sl = #[k0,k1,k2,k3,some (.builtin n),k5]:=by
    obtain⟨l⟩:=sl
    simp only at hs
    rw[hs]
   subst hsl
   exact⟨bm,ns,nm,qn,bs,hd,sn,sub,ab,col,dd,k0,k1,k2,k3,k5,_,X _ _ ho,.of_isNs (PySem.W.isNs_of_in X hok),PySem.W.nsMap_none_of_in X hok hni,PySem.W.tail_of_in X ht⟩
  ·cases q
 ·cases q
def q4o(X:Cx)(E:St->XK):Prop:=∀(pins:List (Addr×Obj)) (σ:St) (H:Hp) (s:Shared) (h':Heap) (ea:Addr) (C:Value) (vs:List Value),Inv X pins σ H s->Heap.MadeExcOf s.heap h' ea C vs->E σ C none H->X.xe (.ref ea) {s with heap:=h'}
theorem q9L{P:Program}{w:World}{K:PySem.W.Frag}{mg:Str->Option Value}{base:Heap}{N:List Str}{qual:Str}{scope:Scope}{f:Addr}{cd:Value}{A:Around}{outer:List Env}{s:Shared}{H:Hp}{E:XK} :
  q4o (cxD P w K mg base N qual scope f cd A outer s H E) λ_=>E:=λpins σ H1 s1 h' ea C vs I hx hE=>q7Z I hx hE
def z8l(C:Addr)(E:St->XK)(t:TA):TS:=λ_ σ H=>t σ H λvs H1=>vs.length<=sizeLine/\E σ (.ref C) none H1
theorem z3C{X:Cx}{x:Str}{C:Addr}{bmB:List Value}{B newId initId:String}{np cpos pos:Pos}{e₀:Expr}{rest:List Expr}{t:TA}{E:St->XK}(FB:ExcBaseFacts B newId initId bmB)(hc:X.calm=true)(hg:Gl X x)(hm:X.mg x=some (.ref C))(hx:PySem.W.excIn X.K C bmB newId=true)
  (hR:q4o X E) (ha:PA X (e₀::rest) t) (hd:(x==("__debug__" : Str))=false:=by decide) (he:starEach (e₀::rest) X.env=(false,eval e₀ X.env)::starEach rest X.env:=by rfl) (hpl:(backTo cpos (starEach rest X.env)).any (·.1)=false:=by rfl) :
  PS X (.Raise (some (.Call (.Name x np) (e₀::rest) [] cpos)) none pos) (z8l C E t):=by
 intro pins s σ H D I h
 obtain⟨tl,N,nm,q,bs,hdct,sn,sub,ab,col,dd,k0,k1,k2,k3,k5,mN,hC,hN,hni,T⟩:=(z3v I.mod.kin hm hx).obj
 refine wpAny_Raise_call_subT (C:=C) (nm:=nm) (q:=q) (N:=N) (bs:=bs) (bm:=tl) (hdct:=hdct) (sn:=sn) (sub:=sub) (ab:=ab) (col:=col) (dd:=dd) (k0:=k0) (k1:=k1) (k2:=k2) (k3:=k3) (k5:=k5)
  FB (mN:=mN) (T.hasType FB.hasBase) (I.ok.hd hc) (by rw[he];show(false||(backTo cpos (starEach rest X.env)).any (·.1))=false;rw[hpl];rfl) hni (q7W I hg hm ⟨rfl,?_⟩ hd)
 have hq:=ha cpos pins s σ H _ I h
 rw[he]at hq ⊢
 exact Calls.evalArgs_plain (thn hq λvs s₂ ⟨xs,H2,I2,r2,hl,hE⟩=>⟨rfl,by show vs.length<=sizeLine;rw[←r2.length];exact hl,I2.bk _ _ hC,hN.keeps I2.bk,T.keeps I2.bk,λh' e hm'=>hR pins σ H2 s₂ h' e _ _ I2 hm' hE⟩)
end L2
end
noncomputable section
namespace L2
open PySem PySem.W PySem.Spec PySem.Calls PyProof.Rows PySem.Builtin PySem.Builtin.ObjectAttr PySem.Builtin.Getset_descriptor
section
variable {prog:Program} {w:World} {K:Frag} {x D:Addr} {M:Model} {h:Heap}
structure ClsK(K:Frag)(D:Addr):Prop where
 ga:findIn K (.ref D) "__getattribute__" = some (some (.builtin "BaseException.__getattribute__"))
 gt:findIn K (.ref D) "__getattr__" = some none
 mb:mroIn K D (.type "BaseException")=some true
 hd:hasDictIn K D=true
 fc:findIn K (.ref D) "__class__" = some (some (.builtin "object.__class__"))
 sg:specialIn K (.builtin "object.__class__") "__get__" = some (some (.builtin "getset_descriptor.__get__"))
 tk:takesIn K (.builtin "object.__class__")=some true
 mo:mroIn K D (.type "object")=some true
variable {A:Around} {E:Value->Shared->Prop} {s:Shared}
end
end L2
end
noncomputable section
namespace L2
open PySem PySem.Spec PyProof.Rows
structure Src(P:Program)(w:World)(ia la:Addr)(vs:Array Value)(S:Nat->Heap->Prop):Prop where
 keep:∀k h h',S k h->(∀o,h.get? ia=some o->h'.get? ia=some o)->(∀o,h.get? la=some o->h'.get? la=some o)->S k h'
 there:∀k h,S k h->∃o xs,h.get? ia=some o/\o.data=.fields xs
 step:∀{A:Around} {E:Value->Shared->Prop} {s:Shared} {Q:Value->Shared->Prop} (k:Nat) (x:Value),S k s.heap->vs[k]? = some x->(∀h',S (k+1) h'->Heap.SameBut ia s.heap h'->Q x {s with heap:=h'}) ->
  wpAny (model P w) A (Builtin.SmallTypes.nextOf (.ref ia)) Q E s
 stop:∀{A:Around} {E:Value->Shared->Prop} {s:Shared} {Q:Value->Shared->Prop} (k:Nat),A.handled=none->S k s.heap->vs[k]? = none ->
  (∀h' e,Heap.ExtBut ia s.heap h'->(∃o,h'.get? e=some o/\o.cls=.type "StopIteration")->E (.ref e) {s with heap:=h'})->wpAny (model P w) A (Builtin.SmallTypes.nextOf (.ref ia)) Q E s
section
variable {P:Program} {w:World} {A:Around} {E:Value->Shared->Prop} {s:Shared}
variable {Z U W a b l1 l2:Addr} {k:Nat} {vs1 vs2:Array Value} {S1 S2:Nat->Heap->Prop} {x y c d:Value}
end
end L2
end
noncomputable section
namespace PySem.SeqAt
open AutoSeq1 (wpAny_loadPart')
open MeetsSeq MeetsSeq2 MeetsSeq3 SeqRoads2
theorem q5c{M:Model}{A:Around}{E:Value->Shared->Prop}{s:Shared}{β:Type}(f:Nat->β->Sem (ForInStep β))(I:List Nat->β->Shared->Prop)(Q:β->Shared->Prop)
  {n:Nat} {b:β} (turn:∀x rest b s,I (x::rest) b s->wpAny M A (f x b) (λr s'=>match r with | .yield b'=>I rest b' s' | .done b'=>Q b' s') E s)
  (fin:∀b s,I [] b s->Q b s) (h:I (List.range' 0 n 1) b s):wpAny M A (forIn [:n] b f) Q E s:=by
 rw[Std.Legacy.Range.forIn_eq_forIn_range']
 have hsz:([:n]:Std.Legacy.Range).size=n:=by simp[Std.Legacy.Range.size]
 show wpAny M A (forIn (List.range' 0 ([:n]:Std.Legacy.Range).size 1) b f) Q E s
 rw[hsz]
 exact wpAny_forIn_list f I Q turn fin _ b h
theorem q5Z(l:Addr)(items:Array Value)(n:Nat)(dd:Option Addr)(sl:Array (Option Value))(x:Value)(e:Value->Bool)(j:Nat)(hj:j<items.size)
  (hit:e items[j]=true) (hno:∀m (hm:m<items.size),m<j->e items[m]=false) :
  Meets (Builtin.«tuple.index» ⟨[.ref l,x],[]⟩)
   (λA R s=>s.heap.get? l=some {cls:=.type "tuple",dict:=dd,data:=.seq items n,slots:=sl} /\ (∀y,y∈items->EqAt A.in1 s y x (e y))/\R (.ok (.ret (.int j s.toks))) {s with toks:=s.toks+1}):=
 .of_wp λprog w A R s h=>by
  obtain⟨hp,g,d,tk,os⟩:=s;obtain⟨hl,he,h⟩:=h
  wp_walk using wpAny_loadPart' hl,q5c _ (λrest b s'=>b.1=none/\s'=⟨hp,g,d,tk,os⟩/\∃i,i<=j/\rest=List.range' i (items.size - i) 1) _
  case turn=>
   rintro i rest b s' ⟨hb,rfl,i',hi',hr⟩
   obtain⟨m,hm⟩:∃m,items.size - i'=m+1:=⟨items.size - i' - 1,by omega⟩
   rw[hm,List.range'_succ]at hr
   obtain⟨rfl,rfl⟩:=List.cons.inj hr
   have hlt:i<items.size:=by omega
   rw[show items[i]? = some items[i] by simp[hlt]]
   refine wpAny_bind (he _ (Array.getElem_mem hlt) prog w _ _ ?_)
   by_cases q:i=j
   ·subst q
    rw[hit]
    wp_walk
    exact⟨_,rfl,h⟩
   ·rw[hno i hlt (by omega)]
    wp_walk
    exact⟨rfl,rfl,i+1,by omega,by congr 1;omega⟩
  case fin=>
   rintro⟨b1,b2⟩ s' ⟨hb,rfl,i,hi,hr⟩
   obtain⟨m,hm⟩:∃m,items.size - i=m+1:=⟨items.size - i - 1,by omega⟩
   rw[hm,List.range'_succ]at hr
   cases hr
  case h=>
   exact⟨rfl,rfl,0,Nat.zero_le _,by simp⟩
section
variable {prog:Program} {w:World} {A:Around} {E:Value->Shared->Prop} {s:Shared}
theorem q8i{h:Heap}{d:PyData}:∀(xs:List PyData) (vs:List Value) (as:List Addr),PyData.canLayAll0 xs=true->ReadsAll h vs xs as->vs.length=xs.length/\∀m (h1:m<vs.length) (h2:m<xs.length),PyData.eqv (readOf h vs[m]) d=PyData.eqv xs[m] d:=by
 intro xs vs as hc r
 have e:=readsAll_map xs vs as hc r
 have hl:vs.length=xs.length:=by rw[←e,List.length_map]
 refine⟨hl,λm h1 h2=>?_⟩
 congr 1
 subst e
 rw[List.getElem_map]
theorem index_list_reads{c x:Value}{xs:List PyData}{d:PyData}{as bs:List Addr}{Q:Value->Shared->Prop}{j:Nat}(rc:Reads s.heap c (.list xs) as)(rx:Reads s.heap x d bs)(hxs:PyData.canLayAll0 xs=true)(hd:d.canLay0=true)
  (hu:A.units+1+min (PyData.depthAll xs) d.depth<cLine) (hj:j<xs.length) (hj63:(j:Int)<2^63 - 1) (hit:PyData.eqv xs[j] d=true) (hno:∀m (hm:m<xs.length),m<j->PyData.eqv xs[m] d=false) (h:Q (.int j s.toks) {s with toks:=s.toks+1}):wpAny (model prog w) A (call (.builtin "list.index") [c,x]) Q E s:=by
 cases rc with
 | list h1 h2 h3 h4=>
  rename_i l o vs n as'
  obtain⟨cls,dd,data,sl⟩:=o
  simp only at h2 h3
  subst h2 h3
  obtain⟨hl,ha⟩:=q8i (d:=d) xs vs.toList _ hxs h4
  have hl':vs.size=xs.length:=by rw[←hl];simp
  refine PySem.call_meets PySem.F.slot_list_index ⟨_,h1,rfl⟩ PySem.F.entry_list_index (PySem.F.args_list_index_2 _ _)
   (list_indexAt l vs _ dd sl x (λy=>PyData.eqv (readOf s.heap y) d) j (by omega) hj63 ?_ ?_) ⟨h1,items_eqAt h4 rx hxs hd hu,h⟩
  ·rw[←hit]
   exact ha j (by simpa using(by omega:j<vs.size)) hj
  ·intro m hm hlt
   rw[←hno m (by omega) hlt]
   exact ha m (by simpa using hm) (by omega)
theorem index_tuple_reads{c x:Value}{xs:List PyData}{d:PyData}{as bs:List Addr}{Q:Value->Shared->Prop}{j:Nat}(rc:Reads s.heap c (.tuple xs) as)(rx:Reads s.heap x d bs)(hxs:PyData.canLayAll0 xs=true)(hd:d.canLay0=true)
  (hu:A.units+1+min (PyData.depthAll xs) d.depth<cLine) (hj:j<xs.length) (hit:PyData.eqv xs[j] d=true) (hno:∀m (hm:m<xs.length),m<j->PyData.eqv xs[m] d=false) (h:Q (.int j s.toks) {s with toks:=s.toks+1}):wpAny (model prog w) A (call (.builtin "tuple.index") [c,x]) Q E s:=by
 cases rc with
 | tuple h1 h2 h3 h4=>
  rename_i l o vs n
  obtain⟨cls,dd,data,sl⟩:=o
  simp only at h2 h3
  subst h2 h3
  obtain⟨hl,ha⟩:=q8i (d:=d) xs vs.toList _ hxs h4
  have hl':vs.size=xs.length:=by rw[←hl];simp
  refine PySem.call_meets PySem.F.slot_tuple_index ⟨_,h1,rfl⟩ PySem.F.entry_tuple_index (PySem.F.args_tuple_index_2 _ _)
   (q5Z l vs _ dd sl x (λy=>PyData.eqv (readOf s.heap y) d) j (by omega) ?_ ?_) ⟨h1,items_eqAt h4 rx hxs hd hu,h⟩
  ·rw[←hit]
   exact ha j (by simpa using(by omega:j<vs.size)) hj
  ·intro m hm hlt
   rw[←hno m (by omega) hlt]
   exact ha m (by simpa using hm) (by omega)
end
end PySem.SeqAt
end
noncomputable section
namespace PySem
section
variable {prog:Program} {w:World} {A:Around} {E:Value->Shared->Prop} {s:Shared}
theorem q3c(a b:Int):Builtin.Range.rangeSize a b (-1)=if b<a then a - b else 0:=by
 unfold Builtin.Range.rangeSize
 simp
theorem q9G{a b:Int}(ha : -(2^62)<=a)(ha':a<2^62)(hb : -(2^62)<=b)(hb':b<2^62):Builtin.Range.small a b (-1)=true:=by
 unfold Builtin.Range.small
 rw[q3c]
 simp only[Builtin.Range.rangeFitsLong,Bool.and_eq_true,Bool.or_eq_true,decide_eq_true_eq,beq_iff_eq,show ¬((-1:Int)>0) by decide,if_false]
 split<;>omega
end
end PySem
namespace L2
open PySem PySem.Spec PyProof.Rows
variable {X:Cx} {tg:Expr}
def Itd(hi:Int)(n:Nat):It:=⟨λi _=>i<n,λi H x H'=>H'=H/\x=.int (hi - i),λi _=>n<=i⟩
theorem z2h{P:Program}{w:World}{K:PySem.W.Frag}{tg:Expr}(it:Addr)(hi:Int)(n:Nat):Turn P w K tg (Itd hi n) [it] it (λi h=>IsRangeIter h it (hi+(i:Nat)*(-1)) ((n:Int) - (i:Nat)) (-1)) where
 mem:=by simp
 obj:=λi h st b hb=>by
  have e:b=it:=by simpa using hb
  subst e
  exact⟨_,st,λv z=>by
   have z':Data.fields _=Data.cell v:=z
   cases z'⟩
 keep:=λi h h' st k=>k it (by simp) _ st
 item:=by
  intro X hP hw hK hc i pins s σ H E I hf st hg
  subst hP hw hK
  obtain⟨f0,f1,f2,f3,f4,f5⟩:=hf it (by simp)
  have W:=Walks.range (prog:=X.prog) (w:=X.w) (I.ok.hd hc) it hi (-1) n
  refine W.item i s _ _ hg st λv h' tk hv st' kk=>?_
  obtain⟨t,rfl⟩:=hv
  have I1:Inv X pins σ H {s with heap:=h',toks:=tk}:=I.turned (λb o hb e=>kk b o (by simpa using hb) e) f0 f1 f3 f4 f5
  refine⟨_,rfl,z3F (s:={s with heap:=h',toks:=tk}) (n:="range_iterator") st' rfl rfl (by decide) ⟨.int (hi - i),H,I1,⟨t,?_⟩,⟨rfl,rfl⟩,st',λb hb=>(hf b hb).1⟩⟩
  rw[show hi+(i:Int)*(-1)=hi - i by omega]
 done:=by
  intro X hP hw hK hc i pins s σ H E I hf st hg
  subst hP hw hK
  obtain⟨f0,f1,f2,f3,f4,f5⟩:=hf it (by simp)
  exact wpAny_pyNext_range_end (I.ok.hd hc) st (by have:n<=i:=hg;omega) λh' eb=>⟨rfl,I.turned (t':=s.toks) (λb o hb e=>eb b o hb e) f0 f1 f3 f4 f5⟩
 self:=λ_ _ _ _ _ st h=>wpAny_pyIter_rangeiter st h
theorem z5A{pins:List (Addr×Obj)}{σ:St}{H:Hp}{s:Shared}{R:It->Hp->Prop}{E:Value->Shared->Prop}{lo hi:Int}{t u v:Tok}{tk:Nat}(I:Inv X pins σ H s)(h1 : -(2^62)<=lo)(h2:lo<2^62)(h3 : -(2^62)<=hi)(h4:hi<2^62)
  (q:R (Itd lo (lo - hi).toNat) H):wpAny (model X.prog X.w) X.A (pyIter (.ref s.heap.objs.size)) (PIE X pins σ tg R) E {s with heap:=s.heap.push {cls:=.type "range",data:=.fields #[.int lo t,.int hi u,.int (-1) v]},toks:=tk}:=by
 refine wpAny_pyIter_range (IsRange.new ..) (q9G h1 h2 h3 h4) ?_
 have I1:Inv X pins σ H {s with heap:=s.heap.push {cls:=.type "range",data:=.fields #[.int lo t,.int hi u,.int (-1) v]},toks:=tk}:=I.kept λb o e=>Heap.get?_push_of_some _ e
 refine⟨(s.heap.push {cls:=.type "range",data:=.fields #[.int lo t,.int hi u,.int (-1) v]}).objs.size,[(s.heap.push {cls:=.type "range",data:=.fields #[.int lo t,.int hi u,.int (-1) v]}).objs.size],_,_,H,rfl,
  I1.kept (t':=tk) λb o e=>Heap.get?_push_of_some _ e,z2h _ lo (lo - hi).toNat,?_,λb hb=>?_,q⟩
 ·have e1:lo+((0:Nat):Int)*(-1)=lo:=by simp
  have e2:(((lo - hi).toNat:Nat):Int) - ((0:Nat):Int)=Builtin.Range.rangeSize lo hi (-1):=by rw[q3c];split<;>omega
  show IsRangeIter _ _ (lo+((0:Nat):Int)*(-1)) ((((lo - hi).toNat:Nat):Int) - ((0:Nat):Int)) (-1)
  rw[e1,e2]
  exact Heap.get?_push_size _ rfl
 ·have e:b=(s.heap.push {cls:=.type "range",data:=.fields #[.int lo t,.int hi u,.int (-1) v]}).objs.size:=by simpa using hb
  subst e
  exact I1.fpOk (Nat.le_refl _) (I1.hok.fresh (Nat.le_refl _))
def y0b(ta:TA):TI:=λσ H R=>ta σ H λvs H1=>∃i j:Int,vs=[.int i,.int j,.int (-1)]/\(-(2^62)<=i/\i<2^62 /\ -(2^62)<=j/\j<2^62)/\R (Itd i (i - j).toNat) H1
theorem noPl(a:Int):Builtin.divisionGoesByPylong a (-1)=false:=PyProof.noPylong_small (by omega)
theorem z2n{a b c:Expr}{ta:TA}{p pos:Pos}(hg:Gl X "range")(hm:X.mg "range" = none)(ha:PA X [a,b,c] ta)(hs:starEach [a,b,c] X.env=[(false,eval a X.env),(false,eval b X.env),(false,eval c X.env)])(hs2:starEach [b,c] X.env=[(false,eval b X.env),(false,eval c X.env)]) :
  PI X tg (.Call (.Name "range" p) [a,b,c] [] pos) (y0b ta):=by
 intro pins s σ H R I h
 refine Call_ (q5p I hg hm boot_range (PyProof.Rows.callWith_type1 (thn (ha pos pins s σ H _ I h) λus s1 ⟨vs,H1,I1,r1,q1⟩=>?_) (by rw[hs,hs2]) (by rw[hs2];rfl)))
 obtain⟨i,j,e,⟨q1,q2,q3,q4⟩,q⟩:=q1
 subst e
 cases r1 with
 | cons r rr=>
  cases rr with
  | cons r' rr=>
   cases rr with
   | cons r'' rr=>
    cases rr
    obtain⟨t,rfl⟩:=r
    obtain⟨t',rfl⟩:=r'
    obtain⟨t'',rfl⟩:=r''
    exact call_range_3 (by decide) (z5A I1 q1 q2 q3 q4 q) (Or.inl (noPl _))
end L2
end
noncomputable section
namespace L2
open PySem
inductive DKey where
 | i (n:Int) | s (x:Str) | t (l:List (Sum Int Str))
 deriving DecidableEq
inductive DV where
 | non | bl (b:Bool) | int (i:Int) | str (x:Str) | tup (ds:List DV) | lst (ds:List DV) | dct (ks:List DKey) (vs:List DV)
 | exc (c:Str) | fn (x:Str)
 | scr (ns:List Int)
inductive Cl where
 | weak | top | strong | fresh | ft
 deriving DecidableEq
inductive Re where
 | ok (d:DV) (c:Cl) | ex (c:Str)
inductive Rs where
 | ok (l:List (DV×Cl)) | ex (c:Str)
inductive Rt where
 | ok (b:Bool) | ex (c:Str)
inductive Sv where
 | no | val (d:DV) | own (d:DV) | ot (d:DV)
 | o2 (d:DV)
 | od (d:DV)
inductive Ou where
 | v (d:DV) (fr:Bool) | x (c:Str) | t (d:DV)
inductive Out where
 | nx (δ:List Sv) | rt (d:DV) (fr:Bool) | ex (c:Str) (δ:List Sv) | rtt (d:DV)
inductive Bi where
 | len | min | max | any | sset | list | tuple
 deriving DecidableEq
inductive Mt where
 | bitLength | index | get
 deriving DecidableEq
inductive Tg where
 | one (i:Nat) | many (is:List Nat)
inductive ME where
 | var (i:Nat) | int (i:Int) | bl (b:Bool) | str (x:Str) | non | glb (x:Str)
 | bin (op:Operator) (a b:ME) | neg (a:ME)  | not (a:ME)
 | cmp (op:CmpOp) (a b:ME) | chain (op op':CmpOp) (a b c:ME)
 | and (es:List ME) | or (es:List ME) | ite (c a b:ME)
 | lst (es:List ME) | tup (es:List ME)  | dc0
 | ix (a b:ME) | sl (a lo hi:ME) | slf (a lo:ME) | slt (a hi:ME)
 | call (f:Nat) (es:List ME)   | bi (f:Bi) (es:List ME) | isi (a:ME) (ts:List Str)  | meth (m:Mt) (a:ME) (es:List ME)
 | comp (elt:ME) (tg:Tg) (it:ME) (fr:List (Option Nat)) | compi (elt:ME) (tg:Tg) (it c:ME) (fr:List (Option Nat))
 | dgp (i:Nat) (k:ME) | callv (i:Nat) (xs:List (Str×Nat)) (es:List ME)
 | idx (a b:ME)
 | rng (es:List ME)   | itm (a:ME)
inductive MS where
 | set (i:Nat) (own:Bool) (e:ME)
 | app (i:Nat) (e:ME) | ext (i:Nat) (e:ME) | seti (i:Nat) (k e:ME)
 | exp (e:ME) | ret (e:ME)  | iff (c:ME) (a b:List MS) | fo (tg:Tg) (it:ME) (body:List MS) | wh (c:ME) (body:List MS)
  | retd (i:Nat)
 | sep (i:Nat) | dpp (i:Nat) (ks:List ME) (e:ME)
 | rse (c:Str) (e:ME)
 | frz (i:Nat)
structure FD where
 n:Nat
 np:Nat
 dfl:List DV:=[]
 kn:Option Str:=none
 body:List MS
def Re.thn(r:Option Re)(k:DV->Cl->Option Re):Option Re:=match r with
 | none=>none
 | some (.ex c)=>some (.ex c)
 | some (.ok d c)=>k d c
def Rs.thn(r:Option Rs)(k:List (DV×Cl)->Option Re):Option Re:=match r with
 | none=>none
 | some (.ex c)=>some (.ex c)
 | some (.ok l)=>k l
def Rt.thn(r:Option Rt)(k:Bool->Option Re):Option Re:=match r with
 | none=>none
 | some (.ex c)=>some (.ex c)
 | some (.ok b)=>k b
def Re.thnT(r:Option Re)(k:DV->Cl->Option Rt):Option Rt:=match r with
 | none=>none
 | some (.ex c)=>some (.ex c)
 | some (.ok d c)=>k d c
mutual
def DV.immut:DV->Bool
 | .non=>true | .bl _=>true | .int _=>true | .str _=>true | .exc _=>true | .fn _=>true | .scr _=>true
 | .tup ds=>DV.immuts ds
 | .lst _=>false | .dct _ _=>false
def DV.immuts:List DV->Bool
 | []=>true
 | d::r=>d.immut&&DV.immuts r
end
def stro(d:DV):Cl->Bool
 | .strong=>true | .fresh=>true | .ft=>true | _=>d.immut
def stros(l:List (DV×Cl)):Bool:=l.all λp=>stro p.1 p.2
def Cl.item:Cl->Cl
 | .weak=>.weak | _=>.strong
def Cl.anew:Cl->Cl->Cl
 | .weak,_=>.weak | _,.weak=>.weak | _,_=>.fresh
def mostLen:Nat:=1000000
mutual
def deq:DV->DV->Bool
 | .non,.non=>true
 | .bl a,.bl b=>a==b
 | .bl a,.int j=>(if a then 1 else 0)==j
 | .int i,.bl b=>i==(if b then 1 else 0)
 | .int i,.int j=>i==j
 | .str a,.str b=>decide (a=b)
 | .tup a,.tup b=>deqs a b
 | .lst a,.lst b=>deqs a b
 | _,_=>false
def deqs:List DV->List DV->Bool
 | [],[]=>true
 | a::r,b::s=>deq a b&&deqs r s
 | _,_=>false
end
mutual
def DV.plain:Nat->DV->Bool
 | _,.non=>true | _,.bl _=>true | _,.int _=>true
 | _,.str x=>x.cps.all (· < 0x110000)
 | 0,_=>false
 | n+1,.tup ds=>DV.plains n ds | n+1,.lst ds=>DV.plains n ds
 | _,_=>false
def DV.plains:Nat->List DV->Bool
 | _,[]=>true
 | n,d::r=>d.plain n&&DV.plains n r
end
def q2r:DV->Option Bool
 | .non=>some false
 | .bl b=>some b
 | .int i=>some (i != 0)
 | .str x=>some (x.cps.size != 0)
 | .tup ds=>some (!ds.isEmpty)
 | .lst ds=>some (!ds.isEmpty)
 | _=>none
def q1S(n:Nat)(i:Int):Option Nat:=if 0<=i then(if i<n then some i.toNat else none)else if -(n:Int)<=i then some (i+n).toNat else none
def atD(ds:List DV)(i:Int):Option DV:=(q1S ds.length i).bind λj=>ds[j]?
def q7x(k:DKey):List DKey->List DV->Option DV
 | k'::ks,v::vs=>if k'=k then some v else q7x k ks vs
 | _,_=>none
def putD(k:DKey)(d:DV)(ks:List DKey)(vs:List DV):List DKey×List DV:=
 if k∈ks then(ks,(ks.zip vs).map λp=>if p.1=k then d else p.2)else(ks++[k],vs++[d])
def ixD(a b:DV):Option DV:=match a,b with
 | .scr ns,.int i=>((q1S ns.length i).bind λj=>ns[j]?).map DV.int
 | .lst ds,.int i=>atD ds i
 | .tup ds,.int i=>atD ds i
 | .str z,.int i=>(q1S z.cps.size i).bind λj=>(z.cps[j]?).map λc=>.str ⟨#[c]⟩
 | _,_=>none
def slIx(n d:Nat):Option Int->Nat
 | none=>d
 | some v=>if v<0 then(v+(n:Int)).toNat else min v.toNat n
def cutD(ds:List DV)(lo hi:Option Int):List DV:=(ds.drop (slIx ds.length 0 lo)).take (slIx ds.length ds.length hi - slIx ds.length 0 lo)
def slD(a:DV)(lo hi:Option Int):Option DV:=match a with
 | .scr ns=>some (.lst (cutD (ns.map DV.int) lo hi))
 | .lst ds=>some (.lst (cutD ds lo hi))
 | .tup ds=>if slIx ds.length 0 lo=0/\slIx ds.length ds.length hi=ds.length then none else some (.tup (cutD ds lo hi))
 | _=>none
def slCl(a:DV)(c:Cl):Cl:=match a with
 | .scr _=>.fresh
 | .lst _=>Cl.anew c c
 | _=>c.item
def q2X(i j:Int):Bool:=(decide (-(2^64)<i)&&decide (i<2^64))||(decide (-(2^64)<j)&&decide (j<2^64))||(decide (i.natAbs<2^2000)&&decide (j.natAbs<2^2000))
def binD(op:Operator)(a b:DV)(ca cb:Cl):Option Re:=match op,a,b with
 | .Add,.int i,.int j=>some (.ok (.int (i+j)) .strong)
 | .Sub,.int i,.int j=>some (.ok (.int (i - j)) .strong)
 | .Mult,.int i,.int j=>if q2X i j then some (.ok (.int (i*j)) .strong)else none
 | .Mod,.int i,.int j=>if 0<j then some (.ok (.int (i%j)) .strong)else none
 | .FloorDiv,.int i,.int j=>if 0<j/\j<2^200 then some (.ok (.int (i/j)) .strong)else none
 | .LShift,.int i,.int j=>if 0<=j/\j<=1000000/\i.natAbs<2^64 then some (.ok (.int (i*2^j.toNat)) .strong)else none
 | .RShift,.int i,.int j=>if 0<=j then some (.ok (.int (i/2^j.toNat)) .strong)else none
 | .BitAnd,.int i,.int j=>some (.ok (.int (Builtin.bitAnd i j)) .strong)
 | .Add,.lst x,.lst y=>if x.length+y.length<=mostLen then some (.ok (.lst (x++y)) (Cl.anew ca cb))else none
 | .Mult,.lst x,.int k=>if x.length*k.toNat<=mostLen /\ -(2^63)<=k/\k<2^63 then some (.ok (.lst (List.replicate k.toNat x).flatten) (Cl.anew ca ca))else none
 | _,_,_=>none
def cmpD(op:CmpOp)(a b:DV):Option Bool:=match op,a,b with
 | .Lt,.int i,.int j=>some (decide (i<j))
 | .LtE,.int i,.int j=>some (decide (i<=j))
 | .Gt,.int i,.int j=>some (decide (j<i))
 | .GtE,.int i,.int j=>some (decide (j<=i))
 | .Eq,a,b=>if a.plain 60&&b.plain 60 then some (deq a b)else none
 | .In,a,.lst ds=>if a.plain 60&&DV.plains 60 ds then some (ds.any λd=>deq d a)else none
 | .NotIn,a,.lst ds=>if a.plain 60&&DV.plains 60 ds then some (!ds.any λd=>deq d a)else none
 | _,_,_=>none
def ints?:List DV->Option (List Int)
 | []=>some []
 | .int i::r=>(ints? r).map (i :: ·)
 | _=>none
def bools?:List DV->Option (List Bool)
 | []=>some []
 | .bl i::r=>(bools? r).map (i :: ·)
 | _=>none
def minI:Int->List Int->Int
 | m,[]=>m
 | m,x::r=>minI (if x<m then x else m) r
def maxI:Int->List Int->Int
 | m,[]=>m
 | m,x::r=>maxI (if m<x then x else m) r
def insI(x:Int):List Int->List Int
 | []=>[x]
 | y::r=>if x<y then x::y::r else y::insI x r
def q1l:List Int->List Int
 | []=>[]
 | x::r=>insI x (q1l r)
def dk(σ:List Int)(k:Int):List Int:=if k∈σ then σ else σ++[k]
def q3H(i:Int):Int:=if i=0 then 0 else(i.natAbs.log2:Int)+1
def lenD:List (DV×Cl)->Option Re
 | [(.lst ds,_)]=>some (.ok (.int ds.length) .strong)
 | [(.tup ds,_)]=>some (.ok (.int ds.length) .strong)
 | [(.scr ns,_)]=>some (.ok (.int ns.length) .strong)
 | [(.str z,_)]=>some (.ok (.int z.length) .strong)
 | _=>none
def minD:List (DV×Cl)->Option Re
 | [(.int i,_),(.int j,_)]=>some (.ok (.int (if j<i then j else i)) .strong)
 | [(.lst ds,c)]=>match ints? ds with
  | some (n::r)=>some (.ok (.int (minI n r)) .strong)
  | _=>none
 | [(.tup ds,_)]=>match ints? ds with
  | some (n::r)=>some (.ok (.int (minI n r)) .strong)
  | _=>none
 | _=>none
def maxD:List (DV×Cl)->Option Re
 | [(.int i,_),(.int j,_)]=>some (.ok (.int (if j>i then j else i)) .strong)
 | [(.lst ds,_)]=>match ints? ds with
  | some (n::r)=>some (.ok (.int (maxI n r)) .strong)
  | _=>none
 | _=>none
def z2l:List (DV×Cl)->Option Re
 | [(.lst ds,_)]=>match ints? ds with
  | some ns=>if ns.length<4000/\(ns.foldl dk []).length<64 then some (.ok (.lst ((q1l (ns.foldl dk [])).map DV.int)) .fresh)else none
  | none=>none
 | _=>none
def anyD:List (DV×Cl)->Option Re
 | [(.lst ds,_)]=>(bools? ds).map λbs=>.ok (.bl (bs.any id)) .strong
 | _=>none
def q9i:List (DV×Cl)->Option Re
 | [(.scr ns,_)]=>some (.ok (.lst (ns.map DV.int)) .fresh)
 | [(.lst ds,c)]=>some (.ok (.lst ds) (Cl.anew c c))
 | [(.tup ds,c)]=>some (.ok (.lst ds) (Cl.anew c c))
 | _=>none
def q5C:List (DV×Cl)->Option Re
 | [(.lst ds,c)]=>some (.ok (.tup ds) c.item)
 | [(.tup ds,c)]=>some (.ok (.tup ds) c)
 | _=>none
def biD(f:Bi)(l:List (DV×Cl)):Option Re:=match f with
 | .len=>lenD l
 | .min=>minD l
 | .max=>maxD l
 | .list=>q9i l
 | .tuple=>q5C l
 | .sset=>z2l l
 | .any=>anyD l
def biOk:Bi->Bool
 | .len=>true | .min=>true | .max=>true | .list=>true | .tuple=>true | .sset=>true | .any=>true
def mtD(m:Mt)(a:DV):Option Re:=match m,a with
 | .bitLength,.int i=>some (.ok (.int (q3H i)) .strong)
 | _,_=>none
structure Gs where
 dcs:List (Str×List (Str×Str)):=[]
 con:List (Str×DV)
 cls:List (Str×List Str)
 dfl:List (Nat×List DV):=[]
 kws:List (Nat×Str):=[]
 hun:Bool:=false
def q3i(G:Gs)(c c':Str):Bool:=c==c'||((G.cls.lookup c).getD []).contains c'
def tyOf:DV->List Str
 | .non=>["NoneType"]
 | .bl _=>["bool","int"]
 | .int _=>["int"]
 | .str _=>["str"]
 | .tup _=>["tuple"]
 | .lst _=>["list"]
 | .dct _ _=>["dict"]
 | _=>[]
def q1f:List Str:=["int","bool","str","list","tuple","dict"]
def isiD(G:Gs)(d:DV)(ts:List Str):Option Bool:=match d with
 | .scr _=>none
 | .exc _=>none
 | .fn _=>none
 | d=>match ts with
  | [t]=>if q1f.contains t then some ((tyOf d).contains t)else none
  | [t,u]=>if q1f.contains t&&q1f.contains u then some ((tyOf d).contains t||(tyOf d).contains u)else none
  | _=>none
def upTo(lo:Int)(n:Nat):List DV:=(List.range n).map λ(i:Nat)=>DV.int (lo+i)
def q1P(lo:Int)(n:Nat):List DV:=(List.range n).map λ(i:Nat)=>DV.int (lo - i)
def q0E(i:Int):Bool:=decide (-(2^62)<=i)&&decide (i<2^62)
def q4g(y:DV):List DV->Option Nat
 | []=>none
 | d::r=>if deq d y then some 0 else(q4g y r).map (· + 1)
def seqB:DV->Bool
 | .lst _=>true | .tup _=>true | _=>false
def idxD(x y:DV):Option DV:=match x with
 | .lst ds=>if y.plain 60&&DV.plains 60 ds&&decide (ds.length<=mostLen)then(q4g y ds).map λ(j:Nat)=>DV.int (j:Int)else none
 | .tup ds=>if y.plain 60&&DV.plains 60 ds&&decide (ds.length<=mostLen)then(q4g y ds).map λ(j:Nat)=>DV.int (j:Int)else none
 | _=>none
def rngD(l:List (DV×Cl)):Option (List DV):=match l with
 | [(.int j,_)]=>if q0E j&&decide (j<=mostLen)then some (upTo 0 j.toNat)else none
 | [(.int i,_),(.int j,_)]=>if q0E i&&q0E j&&decide (j - i<=mostLen)then some (upTo i (j - i).toNat)else none
 | [(.int i,_),(.int j,_),(.int k,_)]=>if q0E i&&q0E j&&decide (i - j<=mostLen)&&decide (k = -1)then some (q1P i (i - j).toNat)else none
 | _=>none
def z0E:DV->Option (Bool×List DV)
 | .lst ds=>some (false,ds)
 | .tup ds=>some (true,ds)
 | _=>none
def kvs?:List DKey->List DV->Option (List (Int×Int))
 | [],[]=>some []
 | .i k::ks,.int v::vs=>(kvs? ks vs).map ((k,v) :: ·)
 | _,_=>none
def kvp?:List DKey->List DV->Option (List ((Int×Int)×Int))
 | [],[]=>some []
 | .t [.inl a,.inl b]::ks,.int v::vs=>(kvp? ks vs).map (((a,b),v) :: ·)
 | _,_=>none
def itmD(x:DV)(c:Cl):Option Re:=match x with
 | .dct ks vs=>if c=.strong then(match kvs? ks vs with
  | some l=>some (.ok (.lst (l.map λp=>.tup [.int p.1,.int p.2])) .strong)
  | none=>(kvp? ks vs).map (λl=>.ok (.lst (l.map λp=>.tup [.tup [.int p.1.1,.int p.1.2],.int p.2])) .strong))else none
 | _=>none
def dgpD(ks:List DKey)(vs:List DV)(y:DV):Option Re:=match y with
 | .tup [.int a,.int b]=>(match q7x (.t [.inl a,.inl b]) ks vs with
  | some (.int v)=>some (.ok (.int v) .strong)
  | _=>none)
 | _=>none
def dppD(i:Nat)(δ:List Sv)(ks:List DKey)(vs:List DV)(l:List (DV×Cl))(d:DV):Option (List Sv):=match l,d with
 | [(.int a,_),(.int b,_)],.int z=>if ks.length<mostLen then some (δ.set i (.od (.tup [.dct (putD (.t [.inl a,.inl b]) (.int z) ks vs).1 (putD (.t [.inl a,.inl b]) (.int z) ks vs).2])))else none
 | _,_=>none
def unT:DV->DV
 | .tup [d]=>d
 | d=>d
def seqD:DV->Option (List DV)
 | .scr ns=>some (ns.map DV.int)
 | .lst ds=>some ds
 | .tup ds=>some ds
 | _=>none
def q5w(δ:List Sv):List Nat->List DV->Option (List Sv)
 | [],[]=>some δ
 | i::is,d::ds=>q5w (δ.set i (.val d)) is ds
 | _,_=>none
def Tg.bind(tg:Tg)(d:DV)(δ:List Sv):Option (List Sv):=match tg with
 | .one i=>some (δ.set i (.val d))
 | .many is=>match d with
  | .tup ds=>q5w δ is ds
  | _=>none
def Sv.plain:Sv->Sv
 | .ot _=>.no
 | .o2 _=>.no
 | s=>s
def q0v(fr:List (Option Nat))(δ:List Sv):List Sv:=fr.map λo=>match o with
 | some i=>(δ.getD i .no).plain
 | none=>.no
inductive Rc where
 | skip | item (d:DV)
def q0C(g:DV->Option Rc):List DV->Option (List DV)
 | []=>some []
 | d::r=>match g d with
  | none=>none
  | some .skip=>q0C g r
  | some (.item x)=>match q0C g r with
   | none=>none
   | some xs=>some (x::xs)
def q1x(r:Option (List DV)):Option Re:=match r with
 | none=>none
 | some xs=>some (.ok (.lst xs) .fresh)
def q2T(r:Option (List DV)):Option Re:=match r with
 | none=>none
 | some xs=>some (.ok (.lst xs) .weak)
def Rc.of(r:Option Re):Option Rc:=match r with
 | some (.ok d c)=>if stro d c then some (.item d)else none
 | _=>none
def Rc.test(t:Option Rt)(r:Option Rc):Option Rc:=match t with
 | some (.ok true)=>r
 | some (.ok false)=>some .skip
 | _=>none
inductive Ri where
 | ok (ds:List DV) (c:Cl) | ex (c:Str)
def Ri.thn(r:Option Ri)(k:List DV->Cl->Option Re):Option Re:=match r with
 | none=>none
 | some (.ex c)=>some (.ex c)
 | some (.ok ds c)=>k ds c
def Re.thnI(r:Option Re)(k:DV->Cl->Option Ri):Option Ri:=match r with
 | none=>none
 | some (.ex c)=>some (.ex c)
 | some (.ok d c)=>k d c
def y0K(d:DV)(c:Cl):Option Ri:=(seqD d).map λds=>.ok ds c
def q3n(F:Nat->List DV->Option Ou)(f:Nat)(l:List (DV×Cl)):Option Re:=match F f (l.map (·.1))with
 | none=>none
 | some (.x c)=>some (.ex c)
 | some (.t d)=>some (.ok d (if l.all λp=>p.2 == .strong||p.2 == .fresh then(match d with | .lst _=>.fresh | _=>.ft)else .weak))
 | some (.v d fr)=>some (.ok d (if l.all λp=>p.2 == .strong||p.2 == .fresh then(if fr then .fresh else .strong)else .weak))
def andD(x:DV)(c:Cl)(r:Option Re):Option Re:=match q2r x with
 | none=>none
 | some true=>r
 | some false=>some (.ok x c)
def orD(x:DV)(c:Cl)(r:Option Re):Option Re:=match q2r x with
 | none=>none
 | some true=>some (.ok x c)
 | some false=>r
def tstD(r:Option Re):Option Rt:=Re.thnT r λx _=>(q2r x).map Rt.ok
def q0L(r:Option Re):Option Ri:=Re.thnI r λx c=>y0K x c
mutual
def evE(G:Gs)(F:Nat->List DV->Option Ou):ME->List Sv->Option Re
 | .var i,δ=>match δ[i]? with
  | some (.val d)=>some (.ok d .strong)
  | some (.own d)=>some (.ok d .top)
  | some (.ot d)=>some (.ok d .weak)
  | some (.o2 d)=>some (.ok d .weak)
  | _=>none
 | .int i,_=>some (.ok (.int i) .strong)
 | .bl i,_=>some (.ok (.bl i) .strong)
 | .str i,_=>some (.ok (.str i) .strong)
 | .non,_=>some (.ok .non .strong)
 | .glb x,_=>(G.con.lookup x).map λd=>.ok d .strong
 | .bin op a b,δ=>Re.thn (evE G F a δ) λx cx=>Re.thn (evE G F b δ) λy cy=>binD op x y cx cy
 | .neg a,δ=>Re.thn (evE G F a δ) λx _=>match x with | .int i=>some (.ok (.int (-i)) .strong) | _=>none
 | .not a,δ=>Re.thn (evE G F a δ) λx _=>(q2r x).map λk=>.ok (.bl (!k)) .strong
 | .cmp op a b,δ=>Re.thn (evE G F a δ) λx _=>Re.thn (evE G F b δ) λy _=>(cmpD op x y).map λk=>.ok (.bl k) .strong
 | .chain op op' a b c,δ=>Re.thn (evE G F a δ) λx _=>Re.thn (evE G F b δ) λy _=>match cmpD op x y with
  | none=>none
  | some false=>some (.ok (.bl false) .strong)
  | some true=>Re.thn (evE G F c δ) λz _=>(cmpD op' y z).map λk=>.ok (.bl k) .strong
 | .and es,δ=>q2C G F es δ
 | .or es,δ=>evOr G F es δ
 | .ite c a b,δ=>Rt.thn (tstD (evE G F c δ)) λk=>if k then evE G F a δ else evE G F b δ
 | .lst es,δ=>Rs.thn (evEs G F es δ) λl=>if l.length<=mostLen then some (.ok (.lst (l.map (·.1))) (if stros l then .fresh else .weak))else none
 | .tup es,δ=>Rs.thn (evEs G F es δ) λl=>if l.length<=mostLen then some (.ok (.tup (l.map (·.1))) (if stros l then .strong else .weak))else none
 | .dc0,_=>some (.ok (.dct [] []) .strong)
 | .ix a b,δ=>Re.thn (evE G F a δ) λx cx=>Re.thn (evE G F b δ) λy _=>(ixD x y).map λd=>.ok d cx.item
 | .sl a lo hi,δ=>Re.thn (evE G F a δ) λx cx=>Re.thn (evE G F lo δ) λl _=>match l with
  | .int l=>Re.thn (evE G F hi δ) λh _=>(match h with
   | .int h=>(slD x (some l) (some h)).map λd=>.ok d (slCl x cx)
   | _=>none)
  | _=>none
 | .slf a lo,δ=>Re.thn (evE G F a δ) λx cx=>Re.thn (evE G F lo δ) λl _=>match l with
  | .int l=>(slD x (some l) none).map λd=>.ok d (slCl x cx)
  | _=>none
 | .slt a hi,δ=>Re.thn (evE G F a δ) λx cx=>Re.thn (evE G F hi δ) λh _=>match h with
  | .int h=>(slD x none (some h)).map λd=>.ok d (slCl x cx)
  | _=>none
 | .call f es,δ=>Rs.thn (evEs G F es δ) λl=>q3n F f l
 | .bi f es,δ=>if biOk f then Rs.thn (evEs G F es δ) λl=>biD f l else none
 | .isi a ts,δ=>Re.thn (evE G F a δ) λx _=>(isiD G x ts).map λk=>.ok (.bl k) .strong
 | .meth m a _,δ=>if m=.bitLength then Re.thn (evE G F a δ) λx _=>mtD m x else none
 | .comp elt tg it fr,δ=>Ri.thn (q0L (evE G F it δ)) λds c=>if c=.weak\/mostLen<ds.length then(if c=.weak/\ds.length<=mostLen then q2T (q0C (λd=>(tg.bind d (q0v fr [])).bind λδ'=>Rc.of (evE G F elt δ')) ds)else none)else q1x (q0C (λd=>(tg.bind d (q0v fr δ)).bind λδ'=>Rc.of (evE G F elt δ')) ds)
 | .compi elt tg it cd fr,δ=>Ri.thn (q0L (evE G F it δ)) λds c=>if c=.weak\/mostLen<ds.length then none else q1x (q0C (λd=>(tg.bind d (q0v fr δ)).bind λδ'=>Rc.test (tstD (evE G F cd δ')) (Rc.of (evE G F elt δ'))) ds)
 | .idx a b,δ=>Re.thn (evE G F a δ) λx _=>if seqB x then Re.thn (evE G F b δ) λy _=>(idxD x y).map λd=>.ok d .strong else none
 | .rng es,δ=>Rs.thn (evEs G F es δ) λl=>(rngD l).map λds=>.ok (.lst ds) .fresh
 | .itm a,δ=>Re.thn (evE G F a δ) λx c=>itmD x c
 | .dgp i k,δ=>match δ[i]? with
  | some (.od (.tup [.dct ks vs]))=>Re.thn (evE G F k δ) λy _=>dgpD ks vs y
  | _=>none
 | .callv i xs es,δ=>match δ[i]? with
  | some (.val (.fn x))=>(match xs.lookup x with
   | some f=>Rs.thn (evEs G F es δ) λl=>q3n F f l
   | none=>none)
  | _=>none
def evEs(G:Gs)(F:Nat->List DV->Option Ou):List ME->List Sv->Option Rs
 | [],_=>some (.ok [])
 | e::es,δ=>match evE G F e δ with
  | none=>none
  | some (.ex c)=>some (.ex c)
  | some (.ok d c)=>match evEs G F es δ with
   | none=>none
   | some (.ex c)=>some (.ex c)
   | some (.ok l)=>some (.ok ((d,c)::l))
def q2C(G:Gs)(F:Nat->List DV->Option Ou):List ME->List Sv->Option Re
 | [],_=>none
 | e::es,δ=>if es.isEmpty then evE G F e δ else Re.thn (evE G F e δ) λx c=>andD x c (q2C G F es δ)
def evOr(G:Gs)(F:Nat->List DV->Option Ou):List ME->List Sv->Option Re
 | [],_=>none
 | e::es,δ=>if es.isEmpty then evE G F e δ else Re.thn (evE G F e δ) λx c=>orD x c (evOr G F es δ)
end
def q5F:Nat:=1000
def Re.thnS(δ:List Sv)(r:Option Re)(k:DV->Cl->Option Out):Option Out:=match r with
 | none=>none
 | some (.ex c)=>some (.ex c δ)
 | some (.ok d c)=>k d c
def Rs.thnS(δ:List Sv)(r:Option Rs)(k:List (DV×Cl)->Option Out):Option Out:=match r with
 | none=>none
 | some (.ex c)=>some (.ex c δ)
 | some (.ok l)=>k l
def Rt.thnS(δ:List Sv)(r:Option Rt)(k:Bool->Option Out):Option Out:=match r with
 | none=>none
 | some (.ex c)=>some (.ex c δ)
 | some (.ok b)=>k b
def Ri.thnS(δ:List Sv)(r:Option Ri)(k:List DV->Cl->Option Out):Option Out:=match r with
 | none=>none
 | some (.ex c)=>some (.ex c δ)
 | some (.ok ds c)=>k ds c
def q1T(tg:Tg)(body:List Sv->Option Out):List DV->List Sv->Option Out
 | [],δ=>some (.nx δ)
 | d::r,δ=>match tg.bind d δ with
  | none=>none
  | some δ1=>match body δ1 with
   | some (.nx δ2)=>q1T tg body r δ2
   | o=>o
def q1p(test:List Sv->Option Rt)(body:List Sv->Option Out):Nat->List Sv->Option Out
 | 0,_=>none
 | n+1,δ=>match test δ with
  | none=>none
  | some (.ex c)=>some (.ex c δ)
  | some (.ok false)=>some (.nx δ)
  | some (.ok true)=>match body δ with
   | some (.nx δ2)=>q1p test body n δ2
   | o=>o
def frD:DV->Cl->Bool
 | .lst _,.fresh=>true | .lst _,.top=>true
 | _,_=>false
def noOt(i:Nat)(δ:List Sv):Bool:=(List.range δ.length).all λj=>j==i||(match δ[j]? with | some (.ot _)=>false | some (.o2 _)=>false | some (.od _)=>false | _=>true)
def q4z(i:Nat)(δ:List Sv)(d:DV)(c:Cl):Option Out:=match c with
 | .fresh=>some (.nx (δ.set i (.own d)))
 | .ft=>if noOt i δ then some (.nx (δ.set i (.ot d)))else none
 | _=>none
def retD(d:DV)(c:Cl):Out:=match c with
 | .ft=>.rtt d
 | _=>.rt d (frD d c)
mutual
def evS(G:Gs)(F:Nat->List DV->Option Ou)(fu:Nat):MS->List Sv->Option Out
 | .set i own e,δ=>Re.thnS δ (evE G F e δ) λd c=>if own then q4z i δ d c else(if stro d c then some (.nx (δ.set i (.val d)))else none)
 | .app i e,δ=>match δ[i]? with
  | some (.own (.lst ds))=>Re.thnS δ (evE G F e δ) λd c=>if stro d c/\ds.length<mostLen then some (.nx (δ.set i (.own (.lst (ds++[d])))))else none
  | _=>none
 | .ext i e,δ=>match δ[i]? with
  | some (.own (.lst ds))=>Re.thnS δ (evE G F e δ) λd c=>if c=.strong\/c=.fresh then(match z0E d with
   | some (_,ys)=>if ds.length+ys.length<=mostLen then some (.nx (δ.set i (.own (.lst (ds++ys)))))else none
   | none=>none)else none
  | _=>none
 | .seti i k e,δ=>match δ[i]? with
  | some (.own (.lst ds))=>Re.thnS δ (evE G F e δ) λd c=>Re.thnS δ (evE G F k δ) λk _=>(match k with
   | .int k=>(match q1S ds.length k with
    | some j=>if stro d c then some (.nx (δ.set i (.own (.lst (ds.set j d)))))else none
    | none=>none)
   | _=>none)
  | _=>none
 | .exp e,δ=>Re.thnS δ (evE G F e δ) λ_ _=>some (.nx δ)
 | .ret e,δ=>Re.thnS δ (evE G F e δ) λd c=>some (retD d c)
 | .iff c a b,δ=>Rt.thnS δ (tstD (evE G F c δ)) λk=>if k then evSs G F fu a δ else evSs G F fu b δ
 | .fo tg it body,δ=>Ri.thnS δ (q0L (evE G F it δ)) λds c=>if c=.strong\/c=.fresh then q1T tg (λδ'=>evSs G F fu body δ') ds δ else none
 | .wh c body,δ=>q1p (λδ'=>tstD (evE G F c δ')) (λδ'=>evSs G F fu body δ') fu δ
 | .retd i,δ=>match δ[i]? with
  | some (.od d)=>some (.rt (unT d) false)
  | _=>none
 | .sep i,δ=>if noOt i δ then some (.nx (δ.set i (.od (.tup [.dct [] []]))))else none
 | .dpp i ks e,δ=>match δ[i]? with
  | some (.od (.tup [.dct kk vs]))=>Re.thnS δ (evE G F e δ) λd _=>Rs.thnS δ (evEs G F ks δ) λl=>(dppD i δ kk vs l d).map Out.nx
  | _=>none
 | .rse c e,δ=>if(G.cls.lookup c).isSome then Re.thnS δ (evE G F e δ) λ_ _=>some (.ex c δ)else none
 | .frz i,δ=>match δ[i]? with
  | some (.own d)=>some (.nx (δ.set i (.val d)))
  | _=>some (.nx δ)
def evSs(G:Gs)(F:Nat->List DV->Option Ou)(fu:Nat):List MS->List Sv->Option Out
 | [],δ=>some (.nx δ)
 | s::r,δ=>match evS G F fu s δ with
  | some (.nx δ')=>evSs G F fu r δ'
  | o=>o
end
def q0h(n:Nat)(ds:List DV):List Sv:=ds.map Sv.val++List.replicate (n - ds.length) .no
def Ou.of(o:Option Out):Option Ou:=match o with
 | some (.nx _)=>some (.v .non false)
 | some (.rt d fr)=>some (.v d fr)
 | some (.rtt d)=>some (.t d)
 | some (.ex c _)=>some (.x c)
 | none=>none
def q7G:Nat->DV->List DV->Option (DV×List DV)
 | 0,_,_=>none
 | k+1,d,l=>match d with
  | .tup [.str s,x]=>if decide (s = "end")&&d.plain 60&&DV.plains 59 l then(match l with
   | []=>some (d,[])
   | y::l'=>some (y,l'))else none
  | .tup [.str s,a,b,c,e]=>if decide (s ≠ "end")&&(s.cps.all (· < 0x110000))then(match q7G k c l with
   | none=>none
   | some (n,l1)=>match q7G k e l1 with
    | none=>none
    | some (y,l2)=>some (.tup [.str "ask",a,b,n,y],l2))else none
  | _=>none
def q9I(k:Nat)(f:Nat)(ds:List DV):Option Ou:=match ds with
 | [d,.lst l]=>if f=q5F then(q7G k d l).map (λr=>.v r.1 false)else none
 | _=>none
def run(G:Gs)(T:List FD)(fu:Nat):Nat->Nat->List DV->Option Ou
 | 0,_,_=>none
 | k+1,f,ds=>match T[f]? with
  | none=>q9I (k+1) f ds
  | some fd=>if ds.length=fd.np then Ou.of (evSs G (run G T fu k) fu fd.body (q0h fd.n ds))else none
end L2
end
noncomputable section
namespace L2
open PySem
section
variable {G:Gs} {F:Nat->List DV->Option Ou} {fu:Nat} {δ:List Sv}
theorem q0R{d:DV}{c:Cl}{k:DV->Cl->Option Re}:Re.thn (some (.ok d c)) k=k d c:=rfl
theorem q2o{l:List (DV×Cl)}{k:List (DV×Cl)->Option Re}:Rs.thn (some (.ok l)) k=k l:=rfl
theorem q6g{ds:List DV}{c:Cl}{k:List DV->Cl->Option Re}:Ri.thn (some (.ok ds c)) k=k ds c:=rfl
theorem z1N{d:DV}{c:Cl}{k:DV->Cl->Option Out}:Re.thnS δ (some (.ok d c)) k=k d c:=rfl
theorem z8I{m:MS}{r:List MS}{δ':List Sv}(h:evS G F fu m δ=some (.nx δ')):evSs G F fu (m::r) δ=evSs G F fu r δ':=by
 rw[show evSs G F fu (m::r) δ=(match evS G F fu m δ with | some (.nx δ')=>evSs G F fu r δ' | o=>o)from rfl,h]
theorem z8y{m:MS}{r:List MS}{d:DV}{fr:Bool}(h:evS G F fu m δ=some (.rt d fr)):evSs G F fu (m::r) δ=some (.rt d fr):=by
 rw[show evSs G F fu (m::r) δ=(match evS G F fu m δ with | some (.nx δ')=>evSs G F fu r δ' | o=>o)from rfl,h]
theorem q0D{T:List FD}{k f:Nat}{ds:List DV}{fd:FD}(h:T[f]? = some fd)(hl:ds.length=fd.np):run G T fu (k+1) f ds=Ou.of (evSs G (run G T fu k) fu fd.body (q0h fd.n ds)):=by
 show(match T[f]? with | none=>q9I (k+1) f ds | some fd=>if ds.length=fd.np then Ou.of (evSs G (run G T fu k) fu fd.body (q0h fd.n ds))else none)=_
 rw[h]
 exact if_pos hl
end
end L2
namespace L2
open PySem
theorem q3y{g:DV->Option Rc}{p:DV->Bool}:∀{ds:List DV},(∀d∈ds,g d=some (if p d then .item d else .skip))->q0C g ds=some (ds.filter p)
 | [],_=>rfl
 | d::r,h=>by
  have h0:=h d (List.mem_cons_self ..)
  have ih:=q3y (ds:=r) (λd hd=>h d (List.mem_cons_of_mem _ hd))
  unfold q0C
  rw[h0]
  cases hp:p d with
  | false=>rw[List.filter_cons_of_neg (by rw[hp];exact Bool.false_ne_true)];exact ih
  | true=>
   rw[List.filter_cons_of_pos hp]
   show(match q0C g r with | none=>none | some xs=>some (d::xs))=_
   rw[ih]
theorem q5o{g:DV->Option Rc}{f:DV->DV}:∀{ds:List DV},(∀d∈ds,g d=some (.item (f d)))->q0C g ds=some (ds.map f)
 | [],_=>rfl
 | d::r,h=>by
  have h0:=h d (List.mem_cons_self ..)
  have ih:=q5o (ds:=r) (λd hd=>h d (List.mem_cons_of_mem _ hd))
  unfold q0C
  rw[h0]
  show(match q0C g r with | none=>none | some xs=>some (f d::xs))=_
  rw[ih]
  rfl
theorem z3X{lo:Int}{n:Nat}{d:DV}(h:d∈upTo lo n):∃j:Nat,j<n/\d=.int (lo+j):=by
 unfold upTo at h
 rw[List.mem_map]at h
 obtain⟨j,hj,rfl⟩:=h
 exact⟨j,List.mem_range.mp hj,rfl⟩
end L2
namespace L2
open PySem
section
variable {G:Gs} {F:Nat->List DV->Option Ou} {fu:Nat} {δ δ':List Sv} {m:MS} {r a b body:List MS} {o:Option Out} {c it:ME} {d:DV} {fr:Bool} {tg:Tg} {ds:List DV} {cl:Cl}
theorem q0W(h:evSs G F fu r δ=some (.rt d fr)):Ou.of (evSs G F fu r δ)=some (.v d fr):=by rw[h];rfl
theorem z7H(h:evSs G F fu r δ=some (.nx δ')):Ou.of (evSs G F fu r δ)=some (.v .non false):=by rw[h];rfl
theorem q0w(h:evS G F fu m δ=some (.nx δ'))(h2:evSs G F fu r δ'=o):evSs G F fu (m::r) δ=o:=(z8I h).trans h2
theorem q0X(h:evS G F fu m δ=some (.rt d fr)):evSs G F fu (m::r) δ=some (.rt d fr):=z8y h
theorem z3g{bb:Bool}(hc:tstD (evE G F c δ)=some (.ok bb)):evS G F fu (.iff c a b) δ=if bb then evSs G F fu a δ else evSs G F fu b δ:=by
 show Rt.thnS δ (tstD (evE G F c δ)) (λk=>if k then evSs G F fu a δ else evSs G F fu b δ)=_
 rw[hc];rfl
theorem q8S(hc:tstD (evE G F c δ)=some (.ok true))(h:evSs G F fu a δ=some (.nx δ'))(h2:evSs G F fu r δ'=o):evSs G F fu (.iff c a b::r) δ=o:=q0w ((z3g hc).trans h) h2
theorem z4i(hc:tstD (evE G F c δ)=some (.ok false))(h:evSs G F fu b δ=some (.nx δ'))(h2:evSs G F fu r δ'=o):evSs G F fu (.iff c a b::r) δ=o:=q0w ((z3g hc).trans h) h2
theorem z4C(hc:tstD (evE G F c δ)=some (.ok true))(h:evSs G F fu a δ=some (.rt d fr)):evSs G F fu (.iff c a b::r) δ=some (.rt d fr):=q0X ((z3g hc).trans h)
theorem q3f(hc:tstD (evE G F c δ)=some (.ok false))(h2:evSs G F fu r δ=o):evSs G F fu (.iff c a []::r) δ=o:=z4i hc rfl h2
theorem q4I(hw:q0L (evE G F it δ)=some (.ok ds cl))(hc:cl=.strong\/cl=.fresh)(h:q1T tg (λδ'=>evSs G F fu body δ') ds δ=some (.nx δ'))(h2:evSs G F fu r δ'=o):evSs G F fu (.fo tg it body::r) δ=o:=by
 refine q0w ?_ h2
 show Ri.thnS δ (q0L (evE G F it δ)) (λds c=>if c=.strong\/c=.fresh then q1T tg (λδ'=>evSs G F fu body δ') ds δ else none)=_
 rw[hw]
 show(if cl=.strong\/cl=.fresh then q1T tg (λδ'=>evSs G F fu body δ') ds δ else none)=_
 rw[if_pos hc]
 exact h
theorem q0u{i:Nat}{e:ME}(h:evE G F e δ=some (.ok d cl))(hs:stro d cl=true):evS G F fu (.set i false e) δ=some (.nx (δ.set i (.val d))):=by
 show Re.thnS δ (evE G F e δ) (λd c=>if false then q4z i δ d c else(if stro d c then some (.nx (δ.set i (.val d)))else none))=_
 rw[h]
 show(if stro d cl then some (Out.nx (δ.set i (.val d)))else none)=_
 rw[if_pos hs]
theorem q7p{i:Nat}{e:ME}(h:evE G F e δ=some (.ok d .fresh)):evS G F fu (.set i true e) δ=some (.nx (δ.set i (.own d))):=by
 show Re.thnS δ (evE G F e δ) (λd c=>if true then q4z i δ d c else(if stro d c then some (.nx (δ.set i (.val d)))else none))=_
 rw[h]
 rfl
theorem q0J{e:ME}(h:evE G F e δ=some (.ok d cl))(hc:cl ≠ .ft:=by first | decide | (intro z;cases z)):evS G F fu (.ret e) δ=some (.rt d (frD d cl)):=by
 show Re.thnS δ (evE G F e δ) (λd c=>some (retD d c))=_
 rw[h]
 show some (retD d cl)=_
 cases cl<;>first | rfl | exact absurd rfl hc
theorem z0Q{e:ME}(h:evE G F e δ=some (.ok d cl)):evS G F fu (.exp e) δ=some (.nx δ):=by
 show Re.thnS δ (evE G F e δ) (λ_ _=>some (.nx δ))=_
 rw[h];rfl
theorem q0f{f:Nat}{es:List ME}{l:List (DV×Cl)}(ha:evEs G F es δ=some (.ok l))(hs:(l.all λp=>p.2 == .strong||p.2 == .fresh)=true)(h:F f (l.map (·.1))=some (.v d fr)):evE G F (.call f es) δ=some (.ok d (if fr then .fresh else .strong)):=by
 show Rs.thn (evEs G F es δ) (λl=>q3n F f l)=_
 rw[ha]
 show q3n F f l=_
 unfold q3n
 rw[h,hs]
 rfl
theorem q0Z{e:ME}{x:Bool}(h:evE G F e δ=some (.ok (.bl x) cl)):tstD (evE G F e δ)=some (.ok x):=by rw[h];rfl
theorem q5l{e:ME}{x:Bool}(h:evE G F e δ=some (.ok (.bl x) cl)):evE G F (.not e) δ=some (.ok (.bl (!x)) .strong):=by
 show Re.thn (evE G F e δ) (λx _=>(q2r x).map λk=>.ok (.bl (!k)) .strong)=_
 rw[h];rfl
end
end L2
namespace L2
open PySem
section
variable {G:Gs} {F:Nat->List DV->Option Ou} {fu:Nat} {δ δ':List Sv} {a b:ME} {x y:DV} {cx cy:Cl}
theorem q1Z{op:Operator}{r:Option Re}(ha:evE G F a δ=some (.ok x cx))(hb:evE G F b δ=some (.ok y cy))(h:binD op x y cx cy=r):evE G F (.bin op a b) δ=r:=by
 show Re.thn (evE G F a δ) (λx cx=>Re.thn (evE G F b δ) λy cy=>binD op x y cx cy)=_
 rw[ha,q0R,hb,q0R,h]
theorem q2B{op:CmpOp}{t:Bool}(ha:evE G F a δ=some (.ok x cx))(hb:evE G F b δ=some (.ok y cy))(h:cmpD op x y=some t):evE G F (.cmp op a b) δ=some (.ok (.bl t) .strong):=by
 show Re.thn (evE G F a δ) (λx _=>Re.thn (evE G F b δ) λy _=>(cmpD op x y).map λk=>.ok (.bl k) .strong)=_
 rw[ha,q0R,hb,q0R,h];rfl
theorem q1e{d:DV}(ha:evE G F a δ=some (.ok x cx))(hb:evE G F b δ=some (.ok y cy))(h:ixD x y=some d):evE G F (.ix a b) δ=some (.ok d cx.item):=by
 show Re.thn (evE G F a δ) (λx cx=>Re.thn (evE G F b δ) λy _=>(ixD x y).map λd=>.ok d cx.item)=_
 rw[ha,q0R,hb,q0R,h];rfl
theorem z3m{o:Option Re}(ha:evE G F a δ=some (.ok (.bl true) cx))(hb:evE G F b δ=o):evE G F (.and [a,b]) δ=o:=by
 show Re.thn (evE G F a δ) (λx c=>andD x c (evE G F b δ))=_
 rw[ha];exact hb
theorem z0Y{o:Option Re}(ha:evE G F a δ=some (.ok (.bl false) cx))(hb:evE G F b δ=o):evE G F (.or [a,b]) δ=o:=by
 show Re.thn (evE G F a δ) (λx c=>orD x c (evE G F b δ))=_
 rw[ha];exact hb
theorem z2u(ha:evE G F a δ=some (.ok (.bl true) cx)):evE G F (.or [a,b]) δ=some (.ok (.bl true) cx):=by
 show Re.thn (evE G F a δ) (λx c=>orD x c (evE G F b δ))=_
 rw[ha];rfl
theorem q0e:evEs G F [] δ=some (.ok []):=rfl
theorem q0a{es:List ME}{l:List (DV×Cl)}(ha:evE G F a δ=some (.ok x cx))(h:evEs G F es δ=some (.ok l)):evEs G F (a::es) δ=some (.ok ((x,cx)::l)):=by
 unfold evEs
 rw[ha,h]
end
end L2
namespace L2
open PySem
section
variable {G:Gs} {F:Nat->List DV->Option Ou} {fu:Nat} {δ δ':List Sv} {a b c e:ME} {x y d:DV} {cx cy cl:Cl} {i:Nat} {ds:List DV}
theorem z4f{t:Bool}(h:tstD (evE G F c δ)=some (.ok t)):evE G F (.ite c a b) δ=if t then evE G F a δ else evE G F b δ:=by
 show Rt.thn (tstD (evE G F c δ)) (λk=>if k then evE G F a δ else evE G F b δ)=_
 rw[h];rfl
theorem z4F(h0:δ[i]? = some (.own (.lst ds)))(h:evE G F e δ=some (.ok d cl))(hs:stro d cl=true)(hl:ds.length<mostLen):evS G F fu (.app i e) δ=some (.nx (δ.set i (.own (.lst (ds++[d]))))):=by
 unfold evS
 rw[h0]
 show Re.thnS δ (evE G F e δ) (λd c=>if stro d c/\ds.length<mostLen then some (.nx (δ.set i (.own (.lst (ds++[d])))))else none)=_
 rw[h]
 exact if_pos ⟨hs,hl⟩
theorem z0J{k:ME}{n:Int}{j:Nat}(h0:δ[i]? = some (.own (.lst ds)))(h:evE G F e δ=some (.ok d cl))(hk:evE G F k δ=some (.ok (.int n) cx))(hs:stro d cl=true)(hj:q1S ds.length n=some j):evS G F fu (.seti i k e) δ=some (.nx (δ.set i (.own (.lst (ds.set j d))))):=by
 unfold evS
 rw[h0]
 show Re.thnS δ (evE G F e δ) (λd c=>Re.thnS δ (evE G F k δ) λk _=>(match k with | .int k=>(match q1S ds.length k with | some j=>if stro d c then some (.nx (δ.set i (.own (.lst (ds.set j d)))))else none | none=>none) | _=>none))=_
 rw[h,z1N,hk,z1N]
 show(match q1S ds.length n with | some j=>if stro d cl then some (Out.nx (δ.set i (.own (.lst (ds.set j d)))))else none | none=>none)=_
 rw[hj]
 exact if_pos hs
theorem z6F{test:List Sv->Option Rt}{body:List Sv->Option Out}{n:Nat}(h:test δ=some (.ok false)):q1p test body (n+1) δ=some (.nx δ):=by
 unfold q1p
 rw[h]
theorem z6a{test:List Sv->Option Rt}{body:List Sv->Option Out}{n:Nat}{o:Option Out}(h:test δ=some (.ok true))(hb:body δ=some (.nx δ'))(hr:q1p test body n δ'=o):q1p test body (n+1) δ=o:=by
 unfold q1p
 rw[h,hb]
 exact hr
theorem y0p{body r:List MS}{o:Option Out}(h:q1p (λδ'=>tstD (evE G F c δ')) (λδ'=>evSs G F fu body δ') fu δ=some (.nx δ'))(h2:evSs G F fu r δ'=o):evSs G F fu (.wh c body::r) δ=o:=q0w h h2
end
end L2
namespace L2
open PySem
section
variable {G:Gs} {F:Nat->List DV->Option Ou} {fu:Nat} {δ δ':List Sv} {a b c e:ME} {x y d:DV} {cx cy cl:Cl} {i:Nat} {ds:List DV}
theorem q1u{I:Nat->List Sv->Prop}{body:List Sv->Option Out}:∀(n:Nat) (lo:Int) {δ:List Sv},(∀j<n,∀δ,I j δ->∃δ2,body (δ.set i (.val (.int (lo+j))))=some (.nx δ2)/\I (j+1) δ2)->I 0 δ->∃δ',q1T (.one i) body (upTo lo n) δ=some (.nx δ')/\I n δ'
 | 0,_,δ,_,i0=>⟨δ,rfl,i0⟩
 | n+1,lo,δ,h,i0=>by
  have e:upTo lo (n+1)=.int lo::upTo (lo+1) n:=by
   unfold upTo
   rw[List.range_succ_eq_map,List.map_cons,List.map_map]
   congr 1
   ·congr 1;omega
   ·apply List.map_congr_left
    intro a _
    show DV.int _=DV.int _
    congr 1
    push_cast
    omega
  obtain⟨δ2,h0,i1⟩:=h 0 (by omega) δ i0
  rw[show lo+((0:Nat):Int)=lo by omega]at h0
  obtain⟨δ',h1,i2⟩:=q1u (I:=λj=>I (j+1)) n (lo+1) (δ:=δ2) (λj hj δ q=>by
   obtain⟨δ3,q1,q2⟩:=h (j+1) (by omega) δ q
   refine⟨δ3,?_,q2⟩
   rw[show lo+1+((j:Nat):Int)=lo+((j+1:Nat):Int) by push_cast;omega]
   exact q1) i1
  refine⟨δ',?_,i2⟩
  rw[e]
  show(match body (δ.set i (.val (.int lo)))with | some (.nx δ2)=>q1T (.one i) body (upTo (lo+1) n) δ2 | o=>o)=_
  rw[h0]
  exact h1
theorem z2F{elt it cd:ME}{tg:Tg}{fr:List (Option Nat)}{p:DV->Bool}(hw:q0L (evE G F it δ)=some (.ok ds cl))(hc:cl ≠ .weak)(hl:ds.length<=mostLen)
  (h:∀d∈ds,∃δ',tg.bind d (q0v fr δ)=some δ'/\tstD (evE G F cd δ')=some (.ok (p d))/\evE G F elt δ'=some (.ok d .strong)):evE G F (.compi elt tg it cd fr) δ=some (.ok (.lst (ds.filter p)) .fresh):=by
 show Ri.thn (q0L (evE G F it δ)) (λds c=>if c=.weak\/mostLen<ds.length then none else q1x (q0C (λd=>(tg.bind d (q0v fr δ)).bind λδ'=>Rc.test (tstD (evE G F cd δ')) (Rc.of (evE G F elt δ'))) ds))=_
 rw[hw,q6g,if_neg (by rintro(z | z);exact hc z;omega),q3y (p:=p) (λd hd=>?_)]
 ·rfl
 ·obtain⟨δ',e1,e2,e3⟩:=h d hd
  rw[e1,Option.bind_some,e2,e3]
  cases p d<;>rfl
theorem z8m{l:List Int}{j:Nat}(h:j<l.length):ixD (.lst (l.map DV.int)) (.int j)=some (.int l[j]):=by
 have hh:(j:Int)<((l.map DV.int).length:Int):=by rw[List.length_map];exact_mod_cast h
 simp only[ixD,atD,q1S,if_pos (Int.natCast_nonneg j),if_pos hh,Option.bind_some,Int.toNat_natCast,List.getElem?_map,List.getElem?_eq_getElem h,Option.map_some]
theorem q4O{l:List Int}{i:Int}(h0:0<=i)(h:i<l.length):∃v,ixD (.lst (l.map DV.int)) (.int i)=some (.int v):=by
 obtain⟨j,rfl⟩:=Int.eq_ofNat_of_zero_le h0
 exact⟨_,z8m (by omega)⟩
end
end L2
namespace L2
open PySem
section
variable {G:Gs} {F:Nat->List DV->Option Ou} {fu:Nat} {δ δ':List Sv} {r body:List MS} {it:ME} {cl:Cl} {ds:List DV} {tg:Tg} {o:Option Out}
end
end L2
namespace L2
open PySem
section
variable {G:Gs} {F:Nat->List DV->Option Ou} {fu:Nat} {δ δ':List Sv} {a b:ME} {i j:Int} {cx cy:Cl}
theorem q0d:evE G F (.int i) δ=some (.ok (.int i) .strong):=rfl
theorem q0b{n:Nat}{d:DV}(h:δ[n]? = some (.val d)):evE G F (.var n) δ=some (.ok d .strong):=by unfold evE;rw[h]
theorem q3O{n:Nat}{d:DV}(h:δ[n]? = some (.own d)):evE G F (.var n) δ=some (.ok d .top):=by unfold evE;rw[h]
theorem q2D(ha:evE G F a δ=some (.ok (.int i) cx))(hb:evE G F b δ=some (.ok (.int j) cy)):evE G F (.bin .Add a b) δ=some (.ok (.int (i+j)) .strong):=q1Z ha hb rfl
theorem q5V(ha:evE G F a δ=some (.ok (.int i) cx))(hb:evE G F b δ=some (.ok (.int j) cy)):evE G F (.bin .Sub a b) δ=some (.ok (.int (i - j)) .strong):=q1Z ha hb rfl
theorem q5b(ha:evE G F a δ=some (.ok (.int i) cx))(hb:evE G F b δ=some (.ok (.int j) cy))(h:q2X i j=true):evE G F (.bin .Mult a b) δ=some (.ok (.int (i*j)) .strong):=q1Z ha hb (if_pos h)
theorem q3p(ha:evE G F a δ=some (.ok (.int i) cx))(hb:evE G F b δ=some (.ok (.int j) cy))(h:0<j):evE G F (.bin .Mod a b) δ=some (.ok (.int (i%j)) .strong):=q1Z ha hb (if_pos h)
theorem z2y(ha:evE G F a δ=some (.ok (.int i) cx))(hb:evE G F b δ=some (.ok (.int j) cy))(h:0<j/\j<1073741824):evE G F (.bin .FloorDiv a b) δ=some (.ok (.int (i/j)) .strong):=q1Z ha hb (if_pos ⟨h.1,Int.lt_trans h.2 (by decide)⟩)
theorem b_eq(ha:evE G F a δ=some (.ok (.int i) cx))(hb:evE G F b δ=some (.ok (.int j) cy)):evE G F (.cmp .Eq a b) δ=some (.ok (.bl (i==j)) .strong):=q2B ha hb rfl
theorem b_lt(ha:evE G F a δ=some (.ok (.int i) cx))(hb:evE G F b δ=some (.ok (.int j) cy)):evE G F (.cmp .Lt a b) δ=some (.ok (.bl (decide (i<j))) .strong):=q2B ha hb rfl
theorem b_gt(ha:evE G F a δ=some (.ok (.int i) cx))(hb:evE G F b δ=some (.ok (.int j) cy)):evE G F (.cmp .Gt a b) δ=some (.ok (.bl (decide (j<i))) .strong):=q2B ha hb rfl
end
end L2
namespace L2
open PySem
section
variable {G:Gs} {F:Nat->List DV->Option Ou} {fu:Nat} {δ δ':List Sv} {es:List ME} {l:List (DV×Cl)}
theorem q8y{x:Str}:evE G F (.str x) δ=some (.ok (.str x) .strong):=rfl
theorem q4P(h:evEs G F es δ=some (.ok l))(hl:l.length<=mostLen)(hs:stros l=true):evE G F (.tup es) δ=some (.ok (.tup (l.map (·.1))) .strong):=by
 show Rs.thn (evEs G F es δ) (λl=>if l.length<=mostLen then some (.ok (.tup (l.map (·.1))) (if stros l then .strong else .weak))else none)=_
 rw[h,q2o,if_pos hl,hs]
 rfl
end
end L2
namespace L2
open PySem
end L2
namespace L2
open PySem
end L2
end
noncomputable section
namespace L2
open PySem
def Rise(xs:Array Nat):Prop:=∀(i k x y:Nat),i<k->xs[i]? = some x->xs[k]? = some y->x<y
theorem q8E{xs:Array Nat}{j:Nat}(hr:Rise xs):∀(fuel lo hi:Nat),lo<=hi->hi<=xs.size->hi - lo<=fuel ->
  (∀i x,i<lo->xs[i]? = some x->x<j)->(∀i x,hi<=i->xs[i]? = some x->j<=x) ->
  (∀i x,i<SetTable.below.go xs j fuel lo hi->xs[i]? = some x->x<j)/\(∀i x,SetTable.below.go xs j fuel lo hi<=i->xs[i]? = some x->j<=x):=by
 intro fuel
 induction fuel with
 | zero=>
  intro lo hi h1 h2 h3 h4 h5
  have:lo=hi:=by omega
  subst this
  exact⟨h4,h5⟩
 | succ n ih=>
  intro lo hi h1 h2 h3 h4 h5
  unfold SetTable.below.go
  by_cases hlt:lo<hi
  ·rw[if_pos hlt]
   have hm:(lo+hi)/2<hi:=by omega
   have hm2:lo<=(lo+hi)/2:=by omega
   have hms:(lo+hi)/2<xs.size:=by omega
   have hg:xs[(lo+hi)/2]? = some xs[(lo+hi)/2]:=Array.getElem?_eq_getElem hms
   have hgd:xs.getD ((lo+hi)/2) j=xs[(lo+hi)/2]:=by
    rw[Array.getD_eq_getD_getElem?,hg];rfl
   dsimp only
   rw[hgd]
   by_cases hc:xs[(lo+hi)/2]<j
   ·rw[if_pos hc]
    refine ih _ _ (by omega) h2 (by omega) (λi x hi' hx=>?_) h5
    rcases Nat.lt_or_ge i ((lo+hi)/2)with q | q
    ·exact Nat.lt_trans (hr i _ x _ q hx hg) hc
    ·have e:i=(lo+hi)/2:=by omega
     subst e
     rw[hg]at hx
     cases hx
     exact hc
   ·rw[if_neg hc]
    refine ih _ _ hm2 (by omega) (by omega) h4 λi x hi' hx=>?_
    rcases Nat.lt_or_ge ((lo+hi)/2) i with q | q
    ·exact Nat.le_trans (Nat.le_of_not_lt hc) (Nat.le_of_lt (hr _ i _ x q hg hx))
    ·have e:i=(lo+hi)/2:=by omega
     subst e
     rw[hg]at hx
     cases hx
     exact Nat.le_of_not_lt hc
  ·rw[if_neg hlt]
   have:lo=hi:=by omega
   subst this
   exact⟨h4,h5⟩
theorem q6d{xs:Array Nat}(hr:Rise xs){j i x:Nat}(h:i<SetTable.below xs j)(hx:xs[i]? = some x):x<j:=
 (q8E (j:=j) hr xs.size 0 xs.size (Nat.zero_le _) (Nat.le_refl _) (by omega) (λi x h=>by omega) λi x h hx=>by
  rw[Array.getElem?_eq_none h]at hx;cases hx).1 i x h hx
theorem q4h{xs:Array Nat}(hr:Rise xs){j i x:Nat}(h:SetTable.below xs j<=i)(hx:xs[i]? = some x):j<=x:=
 (q8E (j:=j) hr xs.size 0 xs.size (Nat.zero_le _) (Nat.le_refl _) (by omega) (λi x h=>by omega) λi x h hx=>by
  rw[Array.getElem?_eq_none h]at hx;cases hx).2 i x h hx
theorem q7L{xs:Array Nat}{j:Nat}:∀(fuel lo hi:Nat),lo<=hi->SetTable.below.go xs j fuel lo hi<=hi:=by
 intro fuel
 induction fuel with
 | zero=>intro lo hi h;exact h
 | succ n ih=>
  intro lo hi h
  unfold SetTable.below.go
  dsimp only
  split
  ·split
   ·exact ih _ _ (by omega)
   ·exact Nat.le_trans (ih _ _ (by omega)) (by omega)
  ·exact h
theorem q8Q{xs:Array Nat}{j:Nat}:SetTable.below xs j<=xs.size:=q7L _ _ _ (Nat.zero_le _)
theorem q9j{xs:Array Nat}(hr:Rise xs){i x:Nat}(hx:xs[i]? = some x):SetTable.below xs (x+1)=i+1:=by
 have hi:i<xs.size:=by
  rcases Nat.lt_or_ge i xs.size with h | h
  ·exact h
  ·rw[Array.getElem?_eq_none h]at hx;cases hx
 rcases Nat.lt_trichotomy (SetTable.below xs (x+1)) (i+1)with h | h | h
 ·have:=q4h hr (j:=x+1) (Nat.le_of_lt_succ h) hx
  omega
 ·exact h
 ·have h2:SetTable.below xs (x+1)<=xs.size:=q8Q
  have h3:i+1<xs.size:=by omega
  have hy:xs[i+1]? = some xs[i+1]:=Array.getElem?_eq_getElem h3
  have a:=q6d hr (j:=x+1) h hy
  have b:=hr i (i+1) x _ (Nat.lt_succ_self _) hx hy
  omega
theorem q9H{xs:Array Nat}(hr:Rise xs):SetTable.below xs 0=0:=by
 rcases Nat.eq_zero_or_pos (SetTable.below xs 0)with h | h
 ·exact h
 ·have h2:SetTable.below xs 0<=xs.size:=q8Q
  have h3:0<xs.size:=by omega
  have hy:xs[0]? = some xs[0]:=Array.getElem?_eq_getElem h3
  have a:=q6d hr (j:=0) h hy
  omega
theorem Rise.empty:Rise #[]:=λi k x y _ hx=>by simp at hx
theorem Rise.range(n:Nat):Rise (Array.range n):=λi k x y h hx hy=>by
 rw[Array.getElem?_range]at hx hy
 split at hx
 ·split at hy
  ·cases hx;cases hy;exact h
  ·cases hy
 ·cases hx
theorem q6D{l:List Nat}(h:l.Pairwise (· < ·)):Rise l.toArray:=λi k x y hik hx hy=>by
 have hx':l[i]? = some x:=by simpa using hx
 have hy':l[k]? = some y:=by simpa using hy
 obtain⟨hi,ei⟩:=List.getElem?_eq_some_iff.mp hx'
 obtain⟨hk,ek⟩:=List.getElem?_eq_some_iff.mp hy'
 rw[←ei,←ek]
 exact List.pairwise_iff_getElem.mp h i k hi hk hik
theorem z7o{xs:Array Nat}(h:Rise xs):xs.toList.Pairwise (· < ·):=by
 refine List.pairwise_iff_getElem.mpr λi k hi hk hik=>?_
 exact h i k _ _ hik (by rw[←Array.getElem?_toList];exact List.getElem?_eq_getElem hi) (by rw[←Array.getElem?_toList];exact List.getElem?_eq_getElem hk)
structure Tab(t:SetTable)(b:Bool):Prop where
 rise:Rise t.place
 dum:t.dummies = #[]
 led:t.led=b
theorem Tab.fresh(b:Bool):Tab (SetTable.fresh 0 0 b) b:=⟨Rise.empty,rfl,rfl⟩
theorem Tab.standIn{t:SetTable}{b:Bool}(h:Tab t b)(n:Nat):Tab (t.standIn n) b:=⟨Rise.range n,rfl,h.led⟩
theorem q6O(j:Nat):SetTable.has #[] j=false:=by
 unfold SetTable.has;simp
theorem z3V{t:SetTable}{b:Bool}(h:Tab t b)(f:Nat->Int)(z:Int):∀(fuel:Nat) (p:SetTable.Probe) (j:Nat) (d:Option Nat),p.dummy=none->SetTable.probe.go t f z fuel p=some (.empty j d)->d=none/\t.slot j=.empty:=by
 intro fuel
 induction fuel with
 | zero=>intro p j d hp e;cases e
 | succ n ih=>
  intro p j d hp e
  unfold SetTable.probe.go at e
  cases hs:t.slot p.j with
  | empty=>rw[hs]at e;cases e;exact⟨hp,hs⟩
  | dummy=>
   unfold SetTable.slot at hs
   rw[h.dum,q6O]at hs
   dsimp only at hs
   split at hs
   ·cases hs
   ·cases hs
  | live i=>
   rw[hs]at e
   dsimp only at e
   split at e
   ·cases e
   ·refine ih _ j d ?_ e
    unfold SetTable.advance
    split
    ·exact hp
    ·exact hp
theorem q4Z{t:SetTable}{b:Bool}(h:Tab t b){z:Int}{j:Nat}{w:Bool}(e:t.freeSlot z=some (j,w)):t.slot j=.empty:=by
 unfold SetTable.freeSlot at e
 split at e
 ·rename_i j' d hp
  obtain⟨hd,hs⟩:=z3V h _ _ _ _ _ _ rfl hp
  subst hd
  cases e
  exact hs
 ·cases e
theorem Tab.put{t:SetTable}{b:Bool}(h:Tab t b){j:Nat}(hs:t.slot j=.empty):Tab (t.put j).1 b:=by
 have hn:t.place[SetTable.below t.place j]? ≠ some j:=λz=>by
  unfold SetTable.slot at hs
  dsimp only at hs
  rw[z]at hs
  simp at hs
 refine⟨?_,?_,h.led⟩
 ·show Rise (SetTable.insertAt t.place (SetTable.below t.place j) j)
  have e:(SetTable.insertAt t.place (SetTable.below t.place j) j).toList=_:=SetTable.toList_insertAt _ _ _
  have pw:=z7o h.rise
  have:(SetTable.insertAt t.place (SetTable.below t.place j) j).toList.Pairwise (· < ·):=by
   rw[e,List.pairwise_append]
   refine⟨pw.sublist (List.take_sublist _ _),List.pairwise_cons.mpr ⟨λy hy=>?_,pw.sublist (List.drop_sublist _ _)⟩,λx hx y hy=>?_⟩
   ·obtain⟨i,hi⟩:=List.mem_iff_getElem?.mp hy
    rw[List.getElem?_drop,Array.getElem?_toList]at hi
    rcases Nat.lt_or_eq_of_le (q4h h.rise (j:=j) (Nat.le_add_right _ _) hi)with q | q
    ·exact q
    ·exfalso
     subst q
     rcases Nat.eq_zero_or_pos i with z | z
     ·subst z;exact hn hi
     ·have hb:SetTable.below t.place j<t.place.size:=by
       rcases Nat.lt_or_ge (SetTable.below t.place j+i) t.place.size with q | q
       ·omega
       ·rw[Array.getElem?_eq_none q]at hi;cases hi
      have hg:t.place[SetTable.below t.place j]? = some t.place[SetTable.below t.place j]:=Array.getElem?_eq_getElem hb
      have a:=q4h h.rise (j:=j) (Nat.le_refl _) hg
      have c:=h.rise _ _ _ _ (show SetTable.below t.place j<SetTable.below t.place j+i by omega) hg hi
      omega
   ·have hx':x<j:=by
     obtain⟨i,hi⟩:=List.mem_iff_getElem?.mp hx
     rw[List.getElem?_take]at hi
     split at hi
     ·rw[Array.getElem?_toList]at hi
      exact q6d h.rise (by assumption) hi
     ·cases hi
    rcases List.mem_cons.mp hy with q | q
    ·rw[q];exact hx'
    ·obtain⟨i,hi⟩:=List.mem_iff_getElem?.mp q
     rw[List.getElem?_drop,Array.getElem?_toList]at hi
     exact Nat.lt_of_lt_of_le hx' (q4h h.rise (j:=j) (Nat.le_add_right _ _) hi)
  have r:=q6D this
  rwa [Array.toArray_toList]at r
 ·show(if SetTable.has t.dummies j then _ else t.dummies) = #[]
  rw[h.dum,q6O]
  rfl
theorem Tab.orStandIn{t:SetTable}{b:Bool}(h:Tab t b)(n:Nat):Tab (t.orStandIn n) b:=by
 unfold SetTable.orStandIn
 split
 ·exact h
 ·exact h.standIn n
theorem Tab.layNew{t:SetTable}{b:Bool}(h:Tab t b)(es:Array (Int×Value))(z:Int)(x:Value):Tab (layNew t es z x).2.1 b:=by
 unfold PySem.layNew
 split
 ·rename_i j w e
  exact(h.put (q4Z h e)).orStandIn _
 ·exact h.standIn _
theorem q1m{f:Nat->Option Nat}:∀{l:List Nat},l.Pairwise (· < ·)->((l.filterMap λj=>(f j).map (j,·)).map (·.1)).Pairwise (· < ·)
 | [],_=>.nil
 | a::l,h=>by
  obtain⟨h1,h2⟩:=List.pairwise_cons.mp h
  have ih:=q1m (f:=f) h2
  rw[List.filterMap_cons]
  cases e:f a with
  | none=>exact ih
  | some c=>
   refine List.pairwise_cons.mpr ⟨λy hy=>?_,ih⟩
   obtain⟨p,hp,rfl⟩:=List.mem_map.mp hy
   obtain⟨j,hj,e2⟩:=List.mem_filterMap.mp hp
   cases e3:f j with
   | none=>rw[e3]at e2;cases e2
   | some c2=>rw[e3]at e2;cases e2;exact h1 j hj
theorem Tab.relayAll{t:SetTable}{b:Bool}(h:Tab t b)(es:Array (Int×Value))(n:Nat):Tab (relayAll t es n).2.1 b:=by
 unfold PySem.relayAll
 split
 ·rename_i t' order e
  dsimp only
  split
  ·show Tab t' b
   unfold SetTable.relaid SetTable.laid at e
   cases hl:SetTable.layClean (SetTable.sizeAbove n - 1) (es.map (·.1))with
   | none=>rw[hl]at e;cases e
   | some owner=>
    rw[hl]at e
    cases e
    exact⟨q6D (q1m (List.pairwise_lt_range)),rfl,h.led⟩
  ·exact h.standIn _
 ·exact h.standIn _
theorem q3Q{α:Type}{x:α}:∀{l:List α} {i:Nat} (h:i<l.length),l[i]=x->(x::l.eraseIdx i).Perm l
 | [],i,h,_=>by cases h
 | a::l,0,_,e=>by
  have e:a=x:=e
  subst e
  exact .rfl
 | a::l,i+1,h,e=>by
  rw[List.eraseIdx_cons_succ]
  exact(List.Perm.swap a x _).trans (List.Perm.cons a (q3Q (l:=l) (i:=i) (by simpa using h) (by simpa using e)))
theorem q6v{α:Type}(next:Nat->Nat):∀(fuel k:Nat) (left:List α) (out:Array α),left.length<=fuel->(pickOrder.go next fuel k left out).toList.Perm (out.toList++left):=by
 intro fuel
 induction fuel with
 | zero=>
  intro k left out h
  have:left=[]:=List.length_eq_zero_iff.mp (by omega)
  subst this
  unfold pickOrder.go
  rw[List.append_nil]
 | succ n ih=>
  intro k left out h
  unfold pickOrder.go
  cases e:left[next k%left.length]? with
  | none=>
   dsimp only
   have:left=[]:=by
    cases left with
    | nil=>rfl
    | cons a r=>
     have hlt:next k%(a::r).length<(a::r).length:=Nat.mod_lt _ (by simp)
     rw[List.getElem?_eq_getElem hlt]at e
     cases e
   subst this
   rw[List.append_nil]
  | some x=>
   dsimp only
   obtain⟨hlt,hx⟩:=List.getElem?_eq_some_iff.mp e
   have hle:(left.eraseIdx (next k%left.length)).length<=n:=by
    rw[List.length_eraseIdx,if_pos hlt];omega
   refine(ih _ _ _ hle).trans ?_
   rw[Array.toList_push,List.append_assoc]
   refine List.Perm.append_left _ ?_
   exact q3Q hlt hx
theorem q3d{α:Type}(next:Nat->Nat)(xs:Array α):(pickOrder next xs).toList.Perm xs.toList:=by
 unfold pickOrder
 exact(q6v next xs.size 0 xs.toList #[] (by simp)).trans (by simp)
end L2
end
noncomputable section
namespace L2
open PySem
def q3N:Value->Int
 | .int n _=>n
 | _=>0
def q0K(w:World):Bool:=w.params.followText "set-order"
def SetI(prog:Program)(w:World)(h:Heap)(a:Addr)(ks:List Int):Prop:=
 ∃o es ep t,h.get? a=some o/\o.ExactSet/\o.data=.set es ep t/\ElemsOf (intKind prog w) es.toList/\(es.toList.map λe=>q3N e.2).Perm ks/\es.size<scanBound/\t.fits es.size=true/\Tab t (!q0K w)
section
variable {prog:Program} {w:World} {A:Around} {E:Value->Shared->Prop} {s:Shared} {a:Addr} {ks:List Int}
theorem q8G{es:List (Int×Value)}(h:ElemsOf (intKind prog w) es){e:Int×Value}(he:e∈es):∃t,e.2=.int (q3N e.2) t:=by
 obtain⟨⟨k,hk,_⟩,_⟩:=h e he
 obtain⟨t,q⟩:=Value.isInt_shape hk
 exact⟨t,by rw[q];rfl⟩
theorem z1Z{es:List (Int×Value)}(h:ElemsOf (intKind prog w) es){e:Int×Value}(he:e∈es)(k:Int):(intKind prog w).is k e.2=true↔q3N e.2=k:=by
 obtain⟨t,q⟩:=q8G h he
 rw[q]
 show Value.isInt k (.int (q3N e.2) t)=true↔_
 simp[Value.isInt,q3N]
theorem SetI.at{h h':Heap}(x:SetI prog w h a ks)(k:∀o,h.get? a=some o->h'.get? a=some o):SetI prog w h' a ks:=by
 obtain⟨o,es,ep,t,ho,r⟩:=x
 exact⟨o,es,ep,t,k o ho,r⟩
theorem z4p{h:Heap}{o:Obj}{es es':Array (Int×Value)}{ep:Nat}{t t':SetTable}(ho:h.get? a=some o)(hd:o.data=.set es ep t) :
  (h.update a (Obj.putSet es' t')).get? a=some {o with data:=.set es' (ep+1) t'}:=by
 have q:=Heap.get?_update_self (Obj.putSet es' t') ho (by rw[putSet_of es' t' hd];rfl)
 rwa [putSet_of es' t' hd]at q
theorem z6n{k:Int}{tk:Tok}{Q:Option Bool->Shared->Prop}{o:Obj}{es:Array (Int×Value)}{ep:Nat}{t:SetTable}(ho:s.heap.get? a=some o)(hx:o.ExactSet)(hd:o.data=.set es ep t)
  (hel:ElemsOf (intKind prog w) es.toList) (hp:(es.toList.map λe=>q3N e.2).Perm ks) (hb:es.size+1<scanBound) (ht:Tab t (!q0K w))
  {es1:Array (Int×Value)} {t1:SetTable} (p1:es1.toList.Perm (es.toList++[(hashInt k,Value.int k tk)])) (f1:t1.fits es1.size=true) (g1:Tab t1 (!q0K w)) (wd:Bool) {g:Bool->Sem Unit}
  (hg:∀(b:Bool) (s₁:Shared) (Q':Unit->Shared->Prop),Q' () s₁->wpAny (model prog w) A (g b) Q' E s₁)
  (h:∀h',Heap.SameBut a s.heap h'->SetI prog w h' a (ks++[k])->Q (some true) {s with heap:=h'}) :
  wpAny (model prog w) A (do
   storeSet a es1 t1
   if(!wd&&t1.tooFull)=true then do
    g (relayAll t1 es1 (SetTable.grown es1.size)).2.2
    storeSet a (relayAll t1 es1 (SetTable.grown es1.size)).1 (relayAll t1 es1 (SetTable.grown es1.size)).2.1
    pure (some true)
   else pure (some true)) Q E s:=by
 have z1:es1.size=es.size+1:=by
  have:=p1.length_eq
  rw[List.length_append,Array.length_toList,Array.length_toList]at this
  exact this
 have e1:ElemsOf (intKind prog w) es1.toList:=(hel.push (intKind_is prog w k tk) rfl).perm p1
 have m1:(es1.toList.map λe=>q3N e.2).Perm (ks++[k]):=by
  refine(p1.map _).trans ?_
  rw[List.map_append]
  exact hp.append_right _
 have b1:es1.size<scanBound:=by omega
 refine wpAny_bind (wpAny_storeSet_of ho hd ?_ (fits_of_scanBound b1))
 have o1:=z4p (es':=es1) (t':=t1) ho hd
 have sb:=Heap.SameBut.update s.heap a (Obj.putSet es1 t1)
 split
 ·have p2:=relayAll_perm t1 es1 (SetTable.grown es1.size)
  have f2:=relayAll_fits t1 es1 (SetTable.grown es1.size)
  have g2:=g1.relayAll es1 (SetTable.grown es1.size)
  generalize relayAll t1 es1 (SetTable.grown es1.size)=R at p2 f2 g2 ⊢
  have z2:R.1.size=es1.size:=by
   have:=p2.length_eq
   rwa [Array.length_toList,Array.length_toList]at this
  have b2:R.1.size<scanBound:=by omega
  refine wpAny_bind (hg _ _ _ ?_)
  refine wpAny_bind (wpAny_storeSet_of o1 rfl ?_ (fits_of_scanBound b2))
  refine wpAny_pure (h _ (sb.trans (Heap.SameBut.update _ a _)) ?_)
  exact⟨_,R.1,_,R.2.1,z4p o1 rfl,hx,rfl,e1.perm p2,(p2.map _).trans m1,b2,f2,g2⟩
 ·refine wpAny_pure (h _ sb ?_)
  exact⟨_,es1,_,t1,o1,hx,rfl,e1,m1,b1,f1,g1⟩
theorem z9n{k:Int}{tk:Tok}{Q:Bool->Shared->Prop}(hS:SetI prog w s.heap a ks)(hr:ks.length+1<scanBound)
  (h:∀h' b,Heap.SameBut a s.heap h'->SetI prog w h' a (dk ks k)->Q b {s with heap:=h'}) :
  wpAny (model prog w) A (setAddHashed a (.int k tk) (hashInt k)) Q E s:=by
 obtain⟨o,es,ep,t,ho,hx,hd,hel,hp,hb,hf,ht⟩:=id hS
 have hz:es.size=ks.length:=by
  have:=hp.length_eq
  rwa [List.length_map,Array.length_toList]at this
 have hq:∀(b:Bool) (s₁:Shared) (Q':Unit->Shared->Prop),Q' () s₁->wpAny (model prog w) A (match b with | true=>rule "set.scan.the-table-gave-way" | false=>pure ()) Q' E s₁:=λb s₁ Q' q=>by
  cases b with
  | true=>exact wpAny_rule q
  | false=>exact wpAny_pure q
 unfold setAddHashed setAddHashedIn
 refine wpAny_holding (wpAny_bind (wpAny_setState_of ho hd hf ?_))
 dsimp only
 rw[byScan_of (knd:=intKind prog w) (x:=.int k tk) rfl hb hel,if_pos rfl]
 unfold setAddByScan
 refine wpAny_bind (wpAny_bind (wpAny_rule (wpAny_bind ?_)))
 refine wpAny_setScan_of (knd:=intKind prog w) (intKind_is prog w k tk) ho hd hf hel ?_
 cases hi:es.toList.findIdx? (λe=>(intKind prog w).is k e.2)with
 | some j=>
  obtain⟨hj,hk,_⟩:=List.findIdx?_eq_some_iff_getElem.mp hi
  have hm:k∈ks:=hp.mem_iff.mp (List.mem_map.mpr ⟨es.toList[j],List.getElem_mem hj,(z1Z hel (List.getElem_mem hj) k).mp hk⟩)
  have hd':dk ks k=ks:=by
   unfold dk
   rw[if_pos hm]
  refine wpAny_pure (wpAny_pure ?_)
  have:=h s.heap false (Heap.SameBut.refl a s.heap) (by rw[hd'];exact hS)
  exact this
 | none=>
  have hm:k∉ks:=λz=>by
   obtain⟨e,he,q⟩:=List.mem_map.mp (hp.mem_iff.mpr z)
   have:=List.findIdx?_eq_none_iff.mp hi e he
   rw[(z1Z hel he k).mpr q]at this
   cases this
  have hd':dk ks k=ks++[k]:=by
   unfold dk
   rw[if_neg hm]
  rw[hd']at h
  dsimp only
  have p1:=layNew_perm t es (hashInt k) (.int k tk)
  have f1:=layNew_fits t es (hashInt k) (.int k tk)
  have g1:=ht.layNew es (hashInt k) (.int k tk)
  show wpAny _ _ _ _ _ _
  change wpAny (model prog w) A (match layNew t es (hashInt k) (.int k tk)with | (es,t,wasDummy,gave)=>_) _ _ _
  generalize layNew t es (hashInt k) (.int k tk)=L at p1 f1 g1 ⊢
  obtain⟨es1,t1,wd,gv⟩:=L
  rw[Array.toList_push]at p1
  dsimp only at p1 f1 g1 ⊢
  refine wpAny_bind (hq gv _ _ ?_)
  have fin:∀t2:SetTable,t2.fits es1.size=true->Tab t2 (!q0K w)->wpAny (model prog w) A (do
   storeSet a es1 t2
   if(!wd&&t2.tooFull)=true then do
    (λb:Bool=>match b with | true=>rule "set.scan.the-table-gave-way" | false=>pure ()) (relayAll t2 es1 (SetTable.grown es1.size)).2.2
    storeSet a (relayAll t2 es1 (SetTable.grown es1.size)).1 (relayAll t2 es1 (SetTable.grown es1.size)).2.1
    pure (some true)
   else pure (some true)) (λr s'=>wpAny (model prog w) A (match r with | some added=>pure added | none=>setAddHashedIn a (.int k tk) (hashInt k) 99999) Q E s') E s:=λt2 f2 g2=>
   z6n (k:=k) (tk:=tk) ho hx hd hel hp (by omega) ht p1 f2 g2 wd hq λh' sb S'=>wpAny_pure (h h' true sb S')
  split
  ·refine wpAny_bind ?_
   rw[hashByValue_scannable 8 (x:=.int k tk) rfl]
   refine wpAny_pure ?_
   exact fin t1 f1 g1
  ·refine wpAny_bind (wpAny_pure ?_)
   exact fin t1 f1 g1
end
end L2
end
noncomputable section
namespace L2
open PySem PySem.Spec PyProof.Rows
def fm(val:Nat->Int)(i:Nat):List Int:=((List.range i).map val).foldl dk []
theorem z0z(val:Nat->Int)(i:Nat):fm val (i+1)=dk (fm val i) (val i):=by
 unfold fm
 rw[List.range_succ,List.map_append,List.foldl_append]
 rfl
theorem q8B(σ:List Int)(k:Int):(dk σ k).length<=σ.length+1:=by
 unfold dk
 split
 ·exact Nat.le_succ _
 ·rw[List.length_append];exact Nat.le_refl _
theorem z4e(val:Nat->Int):∀i,(fm val i).length<=i
 | 0=>Nat.le_refl _
 | i+1=>by
  rw[z0z]
  exact Nat.le_trans (q8B _ _) (Nat.succ_le_succ (z4e val i))
section
variable {prog:Program} {w:World} {A:Around} {R:Result->Shared->Prop} {I:Addr} {fp wr:List Addr} {G:Array GenState->Array GenState->Prop} {n:Nat} {P:Nat->Value->Prop} {St:Nat->Shared->Prop}
theorem SetI.moved{s s':Shared}{S:Addr}{ks:List Int}(x:SetI prog w s.heap S ks)(hm:Moved wr G s s')(hS:S∉wr):SetI prog w s'.heap S ks:=x.at λo e=>hm.heap S o hS e
theorem z0a(W:WalksS prog w A.in1 I fp wr G n P St)(S:Addr)(hSf:S∉fp)(val:Nat->Int)(hval:∀i v,P i v->∃t,v=.int (val i) t)(hb:n+1<scanBound) :
  ∀(k i:Nat) (s:Shared),i+k=n->St i s->SetI prog w s.heap S (fm val i) ->
   (∀s',Moved (S::wr) G s s'->SetI prog w s'.heap S (fm val n)->R (.ok (.ret .none)) s')->codeAny (model prog w) A (.builtin "set.update.loop" ⟨[.ref S,.ref I],[]⟩) R s:=by
 have hw:S∉wr:=λz=>hSf (W.sub S z)
 have up:∀b∈wr,b∈S::wr:=λb z=>List.mem_cons_of_mem S z
 intro k
 induction k with
 | zero=>
  intro i s e st hs hR
  have e:i=n:=e
  subst e
  refine codeAny_builtin F.entry_set_update_loop ?_
  rw[Around.under_plainId F.plain_set_update_loop]
  show wpAny (model prog w) A.in1 (pyNext (.ref I) >>= _) _ _ s
  refine wpAny_bind (W.done s _ _ st λs' hm=>?_)
  show wpAny (model prog w) A.in1 (ret Value.none) _ _ s'
  exact wpAny_pure (hR s' (hm.mono up) (hs.moved hm hw))
 | succ k ih=>
  intro i s e st hs hR
  have hi:i<n:=by omega
  refine codeAny_builtin F.entry_set_update_loop ?_
  rw[Around.under_plainId F.plain_set_update_loop]
  show wpAny (model prog w) A.in1 (pyNext (.ref I) >>= _) _ _ s
  refine wpAny_bind (W.item i s _ _ hi st λv s' hP st' hm=>?_)
  obtain⟨t,hv⟩:=hval i v hP
  subst hv
  have hs':=hs.moved hm hw
  show wpAny (model prog w) A.in1 (holding [Value.int (val i) t] (setAdd S (.int (val i) t)) >>= _) _ _ s'
  refine wpAny_bind (wpAny_holding ?_)
  unfold setAdd
  refine wpAny_holding (wpAny_bind ((intKind prog w).pyHash (k:=val i) (intKind_is prog w (val i) t) ?_))
  have hl:=z4e val i
  refine z9n (s:={s' with toks:=s'.toks+1}) (k:=val i) (tk:=t) hs' (by omega) λh' b sb S'=>?_
  have hkeep:∀b o,b≠S->s'.heap.get? b=some o->h'.get? b=some o:=λb o hb e=>by rw[sb.2 b hb];exact e
  refine wpAny_pure ⟨plainId_quiet F.plain_set_update_loop _,ih (i+1) _ (by omega) (W.frame (i+1) s' h' _ st' (Nat.le_succ _) λb hb o e=>hkeep b o (λz=>hSf (z▸hb)) e) (by rw[z0z];exact S') λs2 hm2 S2=>?_⟩
  refine hR s2 (Moved.trans W.gtrans ((hm.mono up).then_heap (Nat.le_succ _) λb o hb e=>hkeep b o (λz=>hb (z▸List.mem_cons_self)) e) hm2) S2
end
def set0(w:World):Obj:={cls:=.type "set",dict:=none,data:=.set #[] 0 (.fresh 0 0 (!q0K w))}
section
variable {prog:Program} {w:World} {A:Around} {E:Value->Shared->Prop} {s:Shared}
theorem z6z{h:Heap}{a:Addr}(e:h.get? a=some (set0 w)):SetI prog w h a []:=
 ⟨_,#[],0,_,e,⟨rfl,rfl,rfl⟩,rfl,λ_ z=>by simp at z,by simp,by decide,by rfl,Tab.fresh _⟩
theorem q6F(v:Value){Q:Value->Shared->Prop}(h:Q (.ref s.heap.objs.size) {s with heap:=s.heap.push (set0 w)}) :
  codeAny (model prog w) A (.call (.builtin "set.__new__") ⟨[.type "set",v],[]⟩) (wants Q E) s:=by
 refine codeAny_of_tree ?_
 show wpAny (model prog w) A.in1 (do checkBuiltinCall "set.__new__" ⟨[.type "set",v],[]⟩;again (.builtin "set.__new__" ⟨[.type "set",v],[]⟩)) _ _ s
 refine wpAny_bind (wpAny_of_eq (F.newCall_set_1 v) ?_)
 refine wpAny_pure ⟨plainId_quiet F.plain_set_new _,codeAny_builtin F.entry_set_new ?_⟩
 rw[Around.under_plainId F.plain_set_new]
 unfold Builtin.«set.__new__» Builtin.Frozenset.newClass
 have q:=sub_set_self
 obtain⟨h0,g0,d0,t0,o0⟩:=s
 dsimp only
 wp_walk
 refine wpAny_askSetting (wpAny_pure ?_)
 dsimp only
 simp only[newObj]
 exact wpAny_bind (wpAny_alloc (wpAny_pure (wpAny_pure h)))
theorem z9F{l:Addr}{items:Array Value}{ns:List Int}{Q:Value->Shared->Prop}(hh:A.handled=none)(hl:s.heap.IsList l items)(hi:IntsAre items.toList ns)(hb:items.size+1<scanBound)
  (h:∀h' tk,SetI prog w h' s.heap.objs.size (fm (λi=>ns.getD i 0) items.size)->(∀b o,s.heap.get? b=some o->h'.get? b=some o)->Q (.ref s.heap.objs.size) {s with heap:=h',toks:=tk}) :
  wpAny (model prog w) A (call (.type "set") [.ref l]) Q E s:=by
 have m0:=F.called_set.mro
 obtain⟨c0,r0,m1⟩:=m0
 have m2:=F.called_set.made
 have m3:=F.called_set.sub
 have m4:=F.called_set.notType
 have m5:=F.called_set.canCreate
 have m6:=F.typeCall_set_1 (.ref l)
 refine wpAny_call (codeAny_of_tree ?_)
 show wpAny (model prog w) _ (callAny (.type "set") _) _ _ _
 refine wpAny_pure ⟨Code.quiet_builtin _ (by decide +kernel),codeAny_builtin F.entry_type_call ?_⟩
 rw[Around.under_plain (weight_type_call_type "set" [.ref l] []) rfl]
 repeat (any_goals (first | assumption | wp_step))
 refine codeAny_mono (q6F (.ref l) (E:=E) (Q:=λv s1=>v=.ref s.heap.objs.size/\s1 = {s with heap:=s.heap.push (set0 w)}) ⟨rfl,rfl⟩) λr s1 q=>?_
 cases r with
 | error e=>exact q
 | ok f=>
  cases f with
  | ret v=>
   obtain⟨e1,e2⟩:=q
   subst e1
   subst e2
   have g0:(s.heap.push (set0 w)).get? s.heap.objs.size=some (set0 w):=Heap.get?_push_size _ rfl
   have ty:Shared.TypeIs {s with heap:=s.heap.push (set0 w)} (.ref s.heap.objs.size) "set":=⟨_,g0,rfl⟩
   have n1:=F.called_set.init.lookup
   have n2:=F.called_set.init.bind (.ref s.heap.objs.size)
   repeat (any_goals (first | assumption | wp_step))
   refine codeAny_mono (codeAny_call_builtin (R:=wants (λv s2=>v=.none/\∃h' tk,s2 = {s with heap:=h',toks:=tk} /\ SetI prog w h' s.heap.objs.size (fm (λi=>ns.getD i 0) items.size) /\
     ∀b o,s.heap.get? b=some o->h'.get? b=some o) E) F.called_set.init.plain F.entry_set_init (check_set_init_1 ty ?_)) λr2 s2 q2=>?_
   ·obtain⟨⟨k1,k2,k3,k4⟩,kl,kc,kn,kd⟩:=hl
    dsimp only at kc kd
    subst kc
    subst kd
    have kl':(s.heap.push (set0 w)).get? l=some {cls:=.type "list",dict:=k2,data:=.seq items kn,slots:=k4}:=Heap.get?_push_of_some _ kl
    have il:(s.heap.push (set0 w)).IsList l items:=⟨_,kl',rfl,kn,rfl⟩
    have p1:=F.sub_list_set
    have p2:=F.sub_list_frozenset
    have p3:(Value.type "list" == Value.type "dict")=false:=by decide
    unfold Builtin.«set.__init__» noKeywords Builtin.Frozenset.updateFrom
    generalize hP:pyIter=PI
    wp_walk
    subst hP
    refine wpAny_pyIter_list il (wpAny_bind (wpAny_runValue ?_))
    have l0:l<s.heap.objs.size:=Heap.lt_size kl
    have z1:(s.heap.push (set0 w)).objs.size=s.heap.objs.size+1:=Heap.size_push _ _
    have a1:l≠(s.heap.push (set0 w)).objs.size:=by rw[z1];exact Nat.ne_of_lt (Nat.lt_succ_of_lt l0)
    have a2:s.heap.objs.size∉[(s.heap.push (set0 w)).objs.size,l]:=by
     rw[z1]
     intro z
     rcases List.mem_cons.mp z with z | z
     ·exact absurd z (Nat.ne_of_lt (Nat.lt_succ_self _))
     ·exact absurd (List.mem_singleton.mp z) (Nat.ne_of_gt l0)
    refine z0a ((Walks.list (by show A.handled=none;exact hh) _ l a1 items).toS) s.heap.objs.size a2 (λi=>ns.getD i 0) (λi v e=>IntsAre.int_at hi i v (by rw[Array.getElem?_toList];exact e)) hb
     items.size 0 _ (Nat.zero_add _) ⟨⟨_,Heap.get?_push_size _ rfl,rfl,rfl⟩,il.push _⟩ (z6z (Heap.get?_push_of_some _ g0)) λs3 hm S3=>?_
    obtain⟨h3,g3,d3,t3,o3⟩:=s3
    have b1:g3=s.gens:=hm.gens
    have b2:d3=s.drawn:=hm.drawn
    have b3:o3=s.os:=hm.os
    subst b1
    subst b2
    subst b3
    show wpAny (model prog w) _ _ _ _ _
    refine wpAny_pure ?_
    show wpAny (model prog w) _ (ret Value.none) _ _ _
    refine wpAny_pure ⟨rfl,h3,t3,rfl,S3,λb o e=>?_⟩
    have b4:=Heap.lt_size e
    refine hm.heap b o (λz=>?_) (Heap.get?_push_of_some _ (Heap.get?_push_of_some _ e))
    rcases List.mem_cons.mp z with z | z
    ·exact absurd z (Nat.ne_of_lt b4)
    ·have:=List.mem_singleton.mp z
     rw[z1]at this
     exact absurd this (Nat.ne_of_lt (Nat.lt_succ_of_lt b4))
   ·cases r2 with
    | error e=>exact q2
    | ok f2=>
     cases f2 with
     | ret v2=>
      obtain⟨c1,h',tk,c2,c3,c4⟩:=q2
      subst c1
      subst c2
      repeat (any_goals (first | assumption | wp_step))
      exact h h' tk c3 c4
     | _=>exact q2.elim
  | _=>exact q.elim
end
end L2
end
noncomputable section
namespace L2
open PySem PyProof.Rows
def q1k(h:Heap)(I a:Addr)(f:Value)(i n ep:Nat):Prop:=∃o,h.get? I=some o/\o.cls=.type "set_iterator" /\ o.data=.fields #[f,.int i 0,.ref a,.int n 0,.int ep 0]
def q2W(h:Heap)(a:Addr)(es:Array (Int×Value))(ep:Nat)(t:SetTable):Prop:=∃o,h.get? a=some o/\o.ExactSet/\o.data=.set es ep t
theorem q1k.typeIs{s:Shared}{I a:Addr}{f:Value}{i n ep:Nat}(x:q1k s.heap I a f i n ep):s.TypeIs (.ref I) "set_iterator":=let ⟨o,e,c,_⟩:=x;⟨o,e,c⟩
theorem q1k.at{h h':Heap}{I a:Addr}{f:Value}{i n ep:Nat}(x:q1k h I a f i n ep)(k:∀o,h.get? I=some o->h'.get? I=some o):q1k h' I a f i n ep:=let ⟨o,e,c⟩:=x;⟨o,k o e,c⟩
theorem q2W.at{h h':Heap}{a:Addr}{es:Array (Int×Value)}{ep:Nat}{t:SetTable}(x:q2W h a es ep t)(k:∀o,h.get? a=some o->h'.get? a=some o):q2W h' a es ep t:=let ⟨o,e,c⟩:=x;⟨o,k o e,c⟩
theorem q2W.typeIs{s:Shared}{a:Addr}{es:Array (Int×Value)}{ep:Nat}{t:SetTable}(x:q2W s.heap a es ep t):s.TypeIs (.ref a) "set":=let ⟨o,e,c,_⟩:=x;⟨o,e,c.1⟩
theorem q1Q:Slot "set_iterator" "__next__" "set_iterator.__next__":=
 .of (owner:="set_iterator") (n:="__next__") (by rw[typeLookup_type,builtinLookup_eq_fast];kernel_rfl) (by decide +kernel) (by decide +kernel) (by decide +kernel)
  (by first | exact .inl (by decide +kernel) | exact .inr (by decide +kernel)) (by rw[isSubtype_type];kernel_rfl)
theorem q4j:entryFor table "set_iterator.__next__" = some Builtin.«set_iterator.__next__»:=entryFor_of_tree (by kernel_rfl)
theorem q5G(v:Value):argsOk "set_iterator.__next__" ⟨[v],[]⟩:=by unfold argsOk;kernel_rfl
theorem z3f:entryFor table "set.__iter__" = some Builtin.«frozenset.__iter__»:=entryFor_alias (id':="frozenset.__iter__") (by kernel_rfl) rfl (by decide +kernel) (by kernel_rfl)
section
variable {prog:Program} {w:World} {A:Around} {E:Value->Shared->Prop} {s:Shared} {I a:Addr} {es:Array (Int×Value)} {ep:Nat} {t:SetTable} {Q:Option Value->Shared->Prop}
theorem q6Y{h:Heap}{o:Obj}{f:Value}{i:Nat}{n:Nat}(e:h.get? I=some o)(c:o.cls=.type "set_iterator")(d:o.data=.fields #[f,.int i 0,.ref a,.int n 0,.int ep 0]) :
  q1k (h.update I (Obj.mapFields (·.setIfInBounds 1 (rawInt ((i:Int)+1))))) I a f (i+1) n ep:=by
 refine⟨_,Heap.get?_update_self _ e (Obj.isFreed_of_fields (Obj.data_mapFields d _)),(Obj.cls_mapFields ..).trans c,?_⟩
 rw[Obj.data_mapFields d]
 simp[rawInt]
theorem q8h{h:Heap}{o:Obj}{f:Value}(g:Value){i:Nat}{n:Nat}(e:h.get? I=some o)(c:o.cls=.type "set_iterator")(d:o.data=.fields #[f,.int i 0,.ref a,.int n 0,.int ep 0]) :
  q1k (h.update I (Obj.mapFields (·.setIfInBounds 0 g))) I a g i n ep:=by
 refine⟨_,Heap.get?_update_self _ e (Obj.isFreed_of_fields (Obj.data_mapFields d _)),(Obj.cls_mapFields ..).trans c,?_⟩
 rw[Obj.data_mapFields d]
 simp
theorem q8L{slot i j:Nat}{x:Value}(hI:q1k s.heap I a (.int slot 0) i es.size ep)(hS:q2W s.heap a es ep t)(hf:t.fits es.size=true)
  (hn:∀(A:Around) (E':Value->Shared->Prop) (Q':Option (Value×Nat)->Shared->Prop),Q' (some (x,j)) s->wpAny (model prog w) A (setNext a slot i ep) Q' E' s)
  (hQ:∀h',q1k h' I a (.int j 0) (i+1) es.size ep->Heap.SameBut I s.heap h'->Q (some x) {s with heap:=h'}):wpAny (model prog w) A (pyNext (.ref I)) Q E s:=by
 obtain⟨o,ho,hc,hd⟩:=id hI
 obtain⟨p,hp,hx,hq⟩:=id hS
 unfold pyNext
 refine wpAny_bind (wpAny_attempt (wpAny_callSpecial?_slot (name:=Str.ofString "__next__") hI.typeIs q1Q (wpAny_call_entry q1Q hI.typeIs q4j ?_ (q5G _))))
 unfold Builtin.«set_iterator.__next__»
 refine wpAny_bind (wpAny_pure ?_)
 dsimp only
 refine wpAny_bind (wpAny_fieldsOf ho hd ?_)
 dsimp only
 refine wpAny_bind (wpAny_setEntries_of hp hq hf ?_)
 rw[show(((es.size:Nat):Int) != ((es.size:Nat):Int))=false by simp,if_neg Bool.false_ne_true]
 simp only[Int.toNat_natCast]
 refine wpAny_bind (hn _ _ _ ?_)
 dsimp only
 refine wpAny_bind (wpAny_setField ho hd (by simp) ?_)
 have I1:=q8h (ep:=ep) (rawInt j) ho hc hd
 obtain⟨o1,ho1,hc1,hd1⟩:=id I1
 refine wpAny_bind (wpAny_setField ho1 hd1 (by simp) (wpAny_pure ⟨x,rfl,wpAny_pure (hQ _ (q6Y ho1 hc1 hd1) ?_)⟩))
 exact(Heap.SameBut.update ..).trans (Heap.SameBut.update ..)
theorem z1n{slot i:Nat}(hh:A.handled=none)(hI:q1k s.heap I a (.int slot 0) i es.size ep)(hS:q2W s.heap a es ep t)(hf:t.fits es.size=true)
  (hn:∀(A:Around) (E':Value->Shared->Prop) (Q':Option (Value×Nat)->Shared->Prop),Q' none s->wpAny (model prog w) A (setNext a slot i ep) Q' E' s)
  (hQ:∀h',Heap.ExtBut I s.heap h'->Q none {s with heap:=h'}):wpAny (model prog w) A (pyNext (.ref I)) Q E s:=by
 obtain⟨o,ho,hc,hd⟩:=id hI
 obtain⟨p,hp,hx,hq⟩:=id hS
 unfold pyNext
 refine wpAny_bind (wpAny_attempt (wpAny_callSpecial?_slot (name:=Str.ofString "__next__") hI.typeIs q1Q (wpAny_call_entry q1Q hI.typeIs q4j ?_ (q5G _))))
 unfold Builtin.«set_iterator.__next__»
 refine wpAny_bind (wpAny_pure ?_)
 dsimp only
 refine wpAny_bind (wpAny_fieldsOf ho hd ?_)
 dsimp only
 refine wpAny_bind (wpAny_setEntries_of hp hq hf ?_)
 rw[show(((es.size:Nat):Int) != ((es.size:Nat):Int))=false by simp,if_neg Bool.false_ne_true]
 simp only[Int.toNat_natCast]
 refine wpAny_bind (hn _ _ _ ?_)
 dsimp only
 refine wpAny_bind (wpAny_setField ho hd (by simp) ?_)
 refine wpAny_bind ?_
 simp only[newExc,newTuple]
 refine wpAny_bind (wpAny_newObj_type ?_ (by size_fits))
 refine wpAny_bind (m:=firstArgMember _ _) (wpAny_of_eq (a:=Value.none) (by first | rfl | (simp only[firstArgMember];rfl)) ?_)
 refine wpAny_newObj_type ?_ (by size_fits)
 simp only[raiseNew]
 refine wpAny_bind (wpAny_handled ?_)
 rw[show A.in1.handled=none from hh]
 refine wpAny_bind (wpAny_pure (wpAny_throw ?_))
 refine wpAny_bind (wpAny_isInstance (T:="StopIteration") (b:=true) ⟨_,Heap.get?_push_size _ rfl,rfl⟩ isSubtype_stop ?_)
 exact wpAny_pure (hQ _ (((Heap.SameBut.update ..).extBut.push _).push _))
theorem z2Z{q:Addr}{ps:Array Value}{i k:Nat}{x:Value}{z:Int}(hI:q1k s.heap I a (.ref q) i es.size ep)(hS:q2W s.heap a es ep t)(hf:t.fits es.size=true)(ht:IsTup s.heap q ps)(hk:ps[i]? = some (.int k 0))(hx:es[k]? = some (z,x))
  (hQ:∀h',q1k h' I a (.ref q) (i+1) es.size ep->Heap.SameBut I s.heap h'->Q (some x) {s with heap:=h'}):wpAny (model prog w) A (pyNext (.ref I)) Q E s:=by
 obtain⟨o,ho,hc,hd⟩:=id hI
 obtain⟨p,hp,hxx,hq⟩:=id hS
 unfold pyNext
 refine wpAny_bind (wpAny_attempt (wpAny_callSpecial?_slot (name:=Str.ofString "__next__") hI.typeIs q1Q (wpAny_call_entry q1Q hI.typeIs q4j ?_ (q5G _))))
 unfold Builtin.«set_iterator.__next__»
 refine wpAny_bind (wpAny_pure ?_)
 dsimp only
 refine wpAny_bind (wpAny_fieldsOf ho hd ?_)
 dsimp only
 refine wpAny_bind (wpAny_setEntries_of hp hq hf ?_)
 rw[show(((es.size:Nat):Int) != ((es.size:Nat):Int))=false by simp,if_neg Bool.false_ne_true]
 simp only[Int.toNat_natCast]
 obtain⟨oq,hoq,hcq,nq,hdq⟩:=ht
 refine wpAny_bind (wpAny_seqItems hoq hdq ?_)
 dsimp only
 rw[hk]
 dsimp only
 unfold setNextDrawn
 simp only[Int.toNat_natCast]
 refine wpAny_bind (wpAny_bind (wpAny_setState_of hp hq hf ?_))
 dsimp only
 rw[show(ep != ep)=false by simp,if_neg Bool.false_ne_true]
 rw[hx]
 refine wpAny_pure ?_
 refine wpAny_bind (wpAny_setField ho hd (by simp) (wpAny_pure ⟨x,rfl,wpAny_pure (hQ _ (q6Y ho hc hd) (Heap.SameBut.update ..))⟩))
theorem z5j{q:Addr}{ps:Array Value}{i:Nat}(hh:A.handled=none)(hI:q1k s.heap I a (.ref q) i es.size ep)(hS:q2W s.heap a es ep t)(hf:t.fits es.size=true)(ht:IsTup s.heap q ps)(hk:ps[i]? = none)
  (hQ:∀h',Heap.ExtBut I s.heap h'->Q none {s with heap:=h'}):wpAny (model prog w) A (pyNext (.ref I)) Q E s:=by
 obtain⟨o,ho,hc,hd⟩:=id hI
 obtain⟨p,hp,hx,hq⟩:=id hS
 unfold pyNext
 refine wpAny_bind (wpAny_attempt (wpAny_callSpecial?_slot (name:=Str.ofString "__next__") hI.typeIs q1Q (wpAny_call_entry q1Q hI.typeIs q4j ?_ (q5G _))))
 unfold Builtin.«set_iterator.__next__»
 refine wpAny_bind (wpAny_pure ?_)
 dsimp only
 refine wpAny_bind (wpAny_fieldsOf ho hd ?_)
 dsimp only
 refine wpAny_bind (wpAny_setEntries_of hp hq hf ?_)
 rw[show(((es.size:Nat):Int) != ((es.size:Nat):Int))=false by simp,if_neg Bool.false_ne_true]
 simp only[Int.toNat_natCast]
 obtain⟨oq,hoq,hcq,nq,hdq⟩:=ht
 refine wpAny_bind (wpAny_seqItems hoq hdq ?_)
 dsimp only
 rw[hk]
 dsimp only
 refine wpAny_bind (wpAny_setField ho hd (by simp) ?_)
 obtain⟨o1,ho1,hc1,hd1⟩:=q8h (ep:=ep) (rawInt 0) ho hc hd
 refine wpAny_bind (wpAny_setField ho1 hd1 (by simp) ?_)
 refine wpAny_bind ?_
 simp only[newExc,newTuple]
 refine wpAny_bind (wpAny_newObj_type ?_ (by size_fits))
 refine wpAny_bind (m:=firstArgMember _ _) (wpAny_of_eq (a:=Value.none) (by first | rfl | (simp only[firstArgMember];rfl)) ?_)
 refine wpAny_newObj_type ?_ (by size_fits)
 simp only[raiseNew]
 refine wpAny_bind (wpAny_handled ?_)
 rw[show A.in1.handled=none from hh]
 refine wpAny_bind (wpAny_pure (wpAny_throw ?_))
 refine wpAny_bind (wpAny_isInstance (T:="StopIteration") (b:=true) ⟨_,Heap.get?_push_size _ rfl,rfl⟩ isSubtype_stop ?_)
 exact wpAny_pure (hQ _ ((((Heap.SameBut.update ..).trans (Heap.SameBut.update ..)).extBut.push _).push _))
end
end L2
end
noncomputable section
namespace L2
open PySem PyProof.Rows
section
variable {prog:Program} {w:World} {A:Around} {E:Value->Shared->Prop} {s:Shared} {I a:Addr} {es:Array (Int×Value)} {ep:Nat} {t:SetTable}
theorem z2b{slot i:Nat}{Q:Option (Value×Nat)->Shared->Prop}(ho:q0K w=true)(hS:q2W s.heap a es ep t)(hf:t.fits es.size=true)
  (h:Q (((pickOrder (w.params.setOrder a ep) es)[i]?).map λe=>(e.2,slot)) s):wpAny (model prog w) A (setNext a slot i ep) Q E s:=by
 obtain⟨p,hp,hx,hq⟩:=id hS
 unfold setNext
 refine wpAny_bind (wpAny_setState_of hp hq hf ?_)
 dsimp only
 unfold setsByText
 refine wpAny_bind (wpAny_bind (wpAny_askSetting (wpAny_pure ?_)))
 show wpAny (model prog w) A (if q0K w=true then _ else _) Q E s
 rw[if_pos ho]
 rw[show(ep != ep)=false by simp,if_neg Bool.false_ne_true]
 refine wpAny_bind ?_
 unfold setWalk
 refine wpAny_bind (wpAny_setState_of hp hq hf ?_)
 dsimp only
 unfold setsByText
 refine wpAny_bind (wpAny_bind (wpAny_askSetting (wpAny_pure ?_)))
 show wpAny (model prog w) A (if q0K w=true then _ else _) _ E s
 rw[if_pos ho]
 exact wpAny_bind (wpAny_askSetting (wpAny_pure (wpAny_pure h)))
theorem z4c{slot i:Nat}{Q:Option (Value×Nat)->Shared->Prop}(ho:q0K w=false)(hd:(!t.plain&&decide (es.size>1))=false)(hl:t.led=true)(hS:q2W s.heap a es ep t)(hf:t.fits es.size=true)
  (h:Q (match es[SetTable.below t.place slot]?,t.place[SetTable.below t.place slot]? with | some (_,x),some j=>some (x,j+1) | _,_=>none) s):wpAny (model prog w) A (setNext a slot i ep) Q E s:=by
 obtain⟨p,hp,hx,hq⟩:=id hS
 unfold setNext
 refine wpAny_bind (wpAny_setState_of hp hq hf ?_)
 dsimp only
 unfold setsByText
 refine wpAny_bind (wpAny_bind (wpAny_askSetting (wpAny_pure ?_)))
 show wpAny (model prog w) A (if q0K w=true then _ else _) Q E s
 rw[if_neg (by rw[ho];exact Bool.false_ne_true)]
 show wpAny (model prog w) A (if(!t.plain&&decide (es.size>1))=true then _ else _) Q E s
 rw[hd,if_neg Bool.false_ne_true]
 refine wpAny_bind ?_
 show wpAny (model prog w) A (if(!t.led && !es.isEmpty)=true then _ else _) _ E s
 rw[hl]
 exact wpAny_pure (wpAny_pure h)
theorem z4U{α:Type}{Q:List α->Shared->Prop}:∀(n:Nat) (xs:List α) (s:Shared),xs.length=n->(∀l d,l.Perm xs->Q l {s with drawn:=d})->wpAny (model prog w) A (drawOrder n xs) Q E s:=by
 intro n
 induction n generalizing Q with
 | zero=>
  intro xs s hl h
  have:xs=[]:=List.length_eq_zero_iff.mp hl
  subst this
  exact wpAny_pure (h [] s.drawn .rfl)
 | succ n ih=>
  intro xs s hl h
  cases xs with
  | nil=>cases hl
  | cons y r=>
   show wpAny (model prog w) A (choose .order (y::r).length >>= _) Q E s
   have key:∀i,i<(y::r).length->wpAny (model prog w) A (match(y::r)[i]? with
     | some x=>do return x::(←drawOrder n ((y::r).eraseIdx i))
     | none=>unsupported "internal:drawOrder") Q E {s with drawn:=s.drawn.bump .order}:=λi hi=>by
    have hg:(y::r)[i]? = some (y::r)[i]:=List.getElem?_eq_getElem hi
    rw[hg]
    refine wpAny_bind (ih _ _ (by rw[List.length_eraseIdx,if_pos hi];omega) λl d p=>wpAny_pure (h _ d ?_))
    exact(List.Perm.cons _ p).trans (q3Q hi rfl)
   refine wpAny_bind λΓ p hΓ=>⟨by simp,?_⟩
   exact key _ (Nat.mod_lt _ (by simp))
def q7O(f:Value)(a:Addr)(n ep:Nat):Obj:={cls:=.type "set_iterator",data:=.fields #[f,.int 0 0,.ref a,.int n 0,.int ep 0]}
def z0q(l:List Nat):Obj:={cls:=.type "tuple",data:=.seq (l.map λ(i:Nat)=>Value.int i 0).toArray}
theorem q5J{h:Heap}{f:Value}{n:Nat}:q1k (h.push (q7O f a n ep)) h.objs.size a f 0 n ep:=⟨_,Heap.get?_push_size _ rfl,rfl,rfl⟩
theorem z2D{Q:Value->Shared->Prop}(hS:q2W s.heap a es ep t)(hf:t.fits es.size=true)(hb:es.size<=sizeLine)
  (h1:(!q0K w&&(!t.plain&&decide (es.size>1)))=false->Q (.ref s.heap.objs.size) {s with heap:=s.heap.push (q7O (.int 0 0) a es.size ep)})
  (h2:∀l d,q0K w=false->l.Perm (List.range es.size)->Q (.ref (s.heap.objs.size+1)) {s with heap:=(s.heap.push (z0q l)).push (q7O (.ref s.heap.objs.size) a es.size ep),drawn:=d}) :
  wpAny (model prog w) A (pyIter (.ref a)) Q E s:=by
 obtain⟨p,hp,hx,hq⟩:=id hS
 refine wpAny_pyIter_slot hS.typeIs F.slot_set_iter (wpAny_call_entry F.slot_set_iter hS.typeIs z3f ?_ (F.args_set_iter_1 _))
 unfold Builtin.«frozenset.__iter__» Builtin.Frozenset.slot0 slotArgs
 simp only[List.isEmpty_nil,Bool.not_true,Bool.false_eq_true,↓reduceIte,bind_assoc,List.length_nil,bne_self_eq_false]
 unfold Builtin.Frozenset.addrOf Builtin.Frozenset.sizeOf
 refine wpAny_bind (wpAny_pure ?_)
 try dsimp only
 refine wpAny_bind (wpAny_pure ?_)
 refine wpAny_bind (wpAny_bind (wpAny_setEntries_of hp hq hf (wpAny_pure ?_)))
 unfold setDrawn
 refine wpAny_bind (wpAny_bind (wpAny_setState_of hp hq hf ?_))
 dsimp only
 unfold setsByText
 refine wpAny_bind (wpAny_bind (wpAny_askSetting (wpAny_pure (wpAny_pure ?_))))
 show wpAny (model prog w) _ (if(!q0K w&&(!t.plain&&decide (es.size>1)))=true then _ else _) _ _ _
 by_cases hc:(!q0K w&&(!t.plain&&decide (es.size>1)))=true
 ·rw[if_pos hc]
  have ho:q0K w=false:=by
   cases e:q0K w with
   | false=>rfl
   | true=>rw[e]at hc;cases hc
  refine wpAny_bind (z4U es.size (List.range es.size) s (List.length_range) λl d pl=>?_)
  have hl:l.length=es.size:=by rw[pl.length_eq,List.length_range]
  unfold newTuple
  refine wpAny_bind (wpAny_newObj_type ?_ (by show(l.map _).toArray.size<=_;simp;omega))
  have hp':(s.heap.push {cls:=.type "tuple",data:=.seq (l.map λ(i:Nat)=>rawInt i).toArray}).get? a=some p:=Heap.get?_push_of_some _ hp
  refine wpAny_bind (wpAny_setEpoch_of hp' hq hf ?_)
  refine wpAny_bind (wpAny_newObj_type (wpAny_pure ⟨_,rfl,"set_iterator",_,⟨_,Heap.get?_push_size _ rfl,rfl⟩,q1Q.lookup,?_⟩))
  have z:(s.heap.push {cls:=.type "tuple",data:=.seq (l.map λ(i:Nat)=>rawInt i).toArray}).objs.size=s.heap.objs.size+1:=Heap.size_push _ _
  have:=h2 l d ho pl
  rw[←z]at this
  exact this
 ·rw[if_neg hc]
  refine wpAny_bind (wpAny_pure ?_)
  refine wpAny_bind (wpAny_setEpoch_of hp hq hf ?_)
  refine wpAny_bind (wpAny_newObj_type (wpAny_pure ⟨_,rfl,"set_iterator",_,⟨_,Heap.get?_push_size _ rfl,rfl⟩,q1Q.lookup,?_⟩))
  exact h1 (by simpa using hc)
end
section
variable {prog:Program} {w:World} {A:Around} {E:Value->Shared->Prop} {s:Shared} {I a:Addr} {es:Array (Int×Value)} {ep:Nat} {t:SetTable}
abbrev Nx(prog:Program)(w:World)(I:Addr)(fp:List Addr)(n:Nat)(ws:List Value)(St:Nat->Heap->Prop):Prop:=
 ∀A:Around,A.handled=none->WalksS prog w A I fp [I] (λa b=>b=a) n (λi v=>ws[i]? = some v) (λi s=>St i s.heap)
theorem z5Y {fp : List Addr} {n : Nat} {ws : List Value} {St : Nat -> Heap -> Prop} (hI : I ∈ fp) (hz : ws.length = n)
    (fr : ∀ i h h', St i h -> (∀ b ∈ fp, ∀ o, h.get? b = some o -> h'.get? b = some o) -> St i h')
    (it : ∀ (A : Around) (E : Value -> Shared -> Prop) (Q : Option Value -> Shared -> Prop) (s : Shared) i v, A.handled = none -> ws[i]? = some v -> St i s.heap -> (∀ h', St (i + 1) h' -> Heap.SameBut I s.heap h' -> Q (some v) { s with heap := h' }) -> wpAny (model prog w) A (pyNext (.ref I)) Q E s)
    (dn : ∀ (A : Around) (E : Value -> Shared -> Prop) (Q : Option Value -> Shared -> Prop) (s : Shared), A.handled = none -> St n s.heap -> (∀ h', Heap.ExtBut I s.heap h' -> Q none { s with heap := h' }) -> wpAny (model prog w) A (pyNext (.ref I)) Q E s)
    (sf : ∀ (A : Around) (E : Value -> Shared -> Prop) (Q : Value -> Shared -> Prop) (s : Shared) i, St i s.heap -> Q (.ref I) s -> wpAny (model prog w) A (pyIter (.ref I)) Q E s) : Nx prog w I fp n ws St := λ A hh =>
  { sub := λ b hb => by rw [List.mem_singleton.mp hb]; exact hI
    grefl := λ _ => rfl
    gtrans := λ _ _ _ h1 h2 => h2.trans h1
    frame := λ i s h' tk st _ k => fr i s.heap h' st k
    item := λ i s Q E hi st hQ => by
      have hg : ws[i]? = some ws[i] := List.getElem?_eq_getElem (by omega)
      exact it A E Q s i _ hh hg st λ h' st' sb => hQ _ _ hg st' ⟨λ b o hb e => sb.extBut b o (λ z => hb (List.mem_singleton.mpr z)) e, rfl, rfl, rfl, Nat.le_refl _⟩
    done := λ s Q E st hQ => dn A E Q s hh st λ h' eb => hQ _ ⟨λ b o hb e => eb b o (λ z => hb (List.mem_singleton.mpr z)) e, rfl, rfl, rfl, Nat.le_refl _⟩
    self := λ i s Q E st hQ => sf A E Q s i st hQ }
theorem q5M{h h':Heap}{b:Addr}(sb:Heap.SameBut I h h')(hb:b≠I):∀o,h.get? b=some o->h'.get? b=some o:=λo e=>sb.extBut b o hb e
theorem q8R:Slot "set_iterator" "__iter__" "set_iterator.__iter__":=
 .of (owner:="set_iterator") (n:="__iter__") (by rw[typeLookup_type,builtinLookup_eq_fast];kernel_rfl) (by decide +kernel) (by decide +kernel) (by decide +kernel)
  (by first | exact .inl (by decide +kernel) | exact .inr (by decide +kernel)) (by rw[isSubtype_type];kernel_rfl)
theorem z1j:entryFor table "set_iterator.__iter__" = some Builtin.«dict_keyiterator.__iter__»:=entryFor_alias (id':="dict_keyiterator.__iter__") (by kernel_rfl) rfl (by decide +kernel) (by kernel_rfl)
theorem z3x(v:Value):argsOk "set_iterator.__iter__" ⟨[v],[]⟩:=by unfold argsOk;kernel_rfl
theorem q7z{f:Value}{i n:Nat}{Q:Value->Shared->Prop}(hI:q1k s.heap I a f i n ep)(h:Q (.ref I) s):wpAny (model prog w) A (pyIter (.ref I)) Q E s:=by
 refine wpAny_pyIter_slot hI.typeIs q8R (wpAny_call_entry q8R hI.typeIs z1j ?_ (z3x _))
 show wpAny (model prog w) _ (ret (.ref I)) _ _ s
 exact wpAny_pure ⟨_,rfl,"set_iterator",_,hI.typeIs,q1Q.lookup,h⟩
theorem q9W(ho:q0K w=true)(hf:t.fits es.size=true)(hne:a≠I) :
  Nx prog w I [I,a] es.size ((pickOrder (w.params.setOrder a ep) es).toList.map (·.2)) (λi h=>q1k h I a (.int (0:Nat) 0) i es.size ep/\q2W h a es ep t):=by
 have hz:(pickOrder (w.params.setOrder a ep) es).size=es.size:=by
  have:=(q3d (w.params.setOrder a ep) es).length_eq
  rwa [Array.length_toList,Array.length_toList]at this
 refine z5Y (by simp) (by rw[List.length_map,Array.length_toList,hz]) (λi h h' st k=>⟨st.1.at (k I (by simp)),st.2.at (k a (by simp))⟩) (λA E Q s i v hh hv st hQ=>?_) (λA E Q s hh st hQ=>?_) λA E Q s i st h=>q7z st.1 h
 ·obtain⟨e,he,hev⟩:∃e,(pickOrder (w.params.setOrder a ep) es)[i]? = some e/\e.2=v:=by
   rw[List.getElem?_map,Array.getElem?_toList]at hv
   cases q:(pickOrder (w.params.setOrder a ep) es)[i]? with
   | none=>rw[q]at hv;cases hv
   | some e=>rw[q]at hv;cases hv;exact⟨e,rfl,rfl⟩
  refine q8L (slot:=0) (j:=0) (x:=v) st.1 st.2 hf (λA E' Q' q=>z2b ho st.2 hf (by rw[he,Option.map_some,hev];exact q)) λh' st' sb=>?_
  exact hQ h' ⟨st',st.2.at (q5M sb hne)⟩ sb
 ·refine z1n (slot:=0) hh st.1 st.2 hf (λA E' Q' q=>z2b ho st.2 hf (by rw[Array.getElem?_eq_none (by omega)];exact q)) hQ
def slotAt(t:SetTable):Nat->Nat
 | 0=>0
 | i+1=>t.place.getD i 0+1
theorem q4a(ht:Rise t.place):∀{i:Nat},i<=t.place.size->SetTable.below t.place (slotAt t i)=i
 | 0,_=>q9H ht
 | i+1,h=>by
  have hg:t.place[i]? = some t.place[i]:=Array.getElem?_eq_getElem (by omega)
  show SetTable.below t.place (t.place.getD i 0+1)=i+1
  rw[Array.getD_eq_getD_getElem?,hg]
  exact q9j ht hg
theorem z2G(ho:q0K w=false)(hd:(!t.plain&&decide (es.size>1))=false)(ht:Tab t (!q0K w))(hf:t.fits es.size=true)(hne:a≠I) :
  Nx prog w I [I,a] es.size (es.toList.map (·.2)) (λi h=>q1k h I a (.int (slotAt t i:Nat) 0) i es.size ep/\q2W h a es ep t/\i<=es.size):=by
 have hl:t.led=true:=by rw[ht.led,ho];rfl
 have hz:t.place.size=es.size:=by
  unfold SetTable.fits at hf
  rw[Bool.and_eq_true]at hf
  exact beq_iff_eq.mp hf.1
 refine z5Y (by simp) (by rw[List.length_map,Array.length_toList]) (λi h h' st k=>⟨st.1.at (k I (by simp)),st.2.1.at (k a (by simp)),st.2.2⟩) (λA E Q s i v hh hv st hQ=>?_) (λA E Q s hh st hQ=>?_) λA E Q s i st h=>q7z st.1 h
 ·obtain⟨z,he⟩:∃z,es[i]? = some (z,v):=by
   rw[List.getElem?_map,Array.getElem?_toList]at hv
   cases q:es[i]? with
   | none=>rw[q]at hv;cases hv
   | some e=>rw[q]at hv;cases hv;exact⟨e.1,rfl⟩
  have hi:i<es.size:=by
   rcases Nat.lt_or_ge i es.size with h | h
   ·exact h
   ·rw[Array.getElem?_eq_none h]at he;cases he
  have hg:t.place[i]? = some t.place[i]:=Array.getElem?_eq_getElem (by omega)
  have hb:=q4a ht.rise (i:=i) (by omega)
  have hj:slotAt t (i+1)=t.place[i]+1:=by
   show t.place.getD i 0+1=_
   rw[Array.getD_eq_getD_getElem?,hg]
   rfl
  refine q8L (slot:=slotAt t i) (j:=slotAt t (i+1)) (x:=v) st.1 st.2.1 hf (λA E' Q' q=>z4c ho hd hl st.2.1 hf (by rw[hb,he,hg];rw[hj]at q;exact q)) λh' st' sb=>?_
  exact hQ h' ⟨st',st.2.1.at (q5M sb hne),hi⟩ sb
 ·have hb:=q4a ht.rise (i:=es.size) (by omega)
  refine z1n (slot:=slotAt t es.size) hh st.1 st.2.1 hf (λA E' Q' q=>z4c ho hd hl st.2.1 hf (by rw[hb,Array.getElem?_eq_none (Nat.le_refl _)];exact q)) hQ
theorem q9A{q:Addr}{l:List Nat}(hp:l.Perm (List.range es.size))(hf:t.fits es.size=true)(hne:a≠I)(hq:q≠I) :
  Nx prog w I [I,a,q] es.size (l.map λi=>(es.getD i (0,.none)).2) (λi h=>q1k h I a (.ref q) i es.size ep/\q2W h a es ep t/\IsTup h q (l.map λ(i:Nat)=>Value.int i 0).toArray):=by
 have hl:l.length=es.size:=by rw[hp.length_eq,List.length_range]
 refine z5Y (by simp) (by rw[List.length_map,hl]) (λi h h' st k=>⟨st.1.at (k I (by simp)),st.2.1.at (k a (by simp)),let ⟨o,e,r⟩:=st.2.2;⟨o,k q (by simp) o e,r⟩⟩) (λA E Q s i v hh hv st hQ=>?_) (λA E Q s hh st hQ=>?_) λA E Q s i st h=>q7z st.1 h
 ·obtain⟨k,hk,hkv⟩:∃k,l[i]? = some k/\(es.getD k (0,.none)).2=v:=by
   rw[List.getElem?_map]at hv
   cases q:l[i]? with
   | none=>rw[q]at hv;cases hv
   | some k=>rw[q]at hv;cases hv;exact⟨k,rfl,rfl⟩
  have hks:k<es.size:=by
   have:=hp.mem_iff.mp (List.mem_iff_getElem?.mpr ⟨i,hk⟩)
   exact List.mem_range.mp this
  have he:es[k]? = some es[k]:=Array.getElem?_eq_getElem hks
  have hv2:es[k].2=v:=by
   rw[←hkv,Array.getD_eq_getD_getElem?,he]
   rfl
  refine z2Z (k:=k) (z:=es[k].1) (x:=v) st.1 st.2.1 hf st.2.2 (by rw[←Array.getElem?_toList,List.toList_toArray,List.getElem?_map,hk];rfl) (by rw[he,←hv2]) λh' st' sb=>?_
  exact hQ h' ⟨st',st.2.1.at (q5M sb hne),let ⟨o,e,r⟩:=st.2.2;⟨o,q5M sb hq o e,r⟩⟩ sb
 ·refine z5j hh st.1 st.2.1 hf st.2.2 (Array.getElem?_eq_none (by rw[List.size_toArray,List.length_map];omega)) hQ
end
end L2
end
noncomputable section
namespace L2
open PySem PyProof.Rows
section
variable {prog:Program} {w:World} {A:Around} {E:Value->Shared->Prop} {s:Shared} {I a:Addr} {es:Array (Int×Value)} {ep:Nat} {t:SetTable} {ks:List Int}
theorem z3e(hT:s.TypeIs (.ref a) "set"){Q:Bool->Shared->Prop}(h:Q false s):wpAny (model prog w) A (Builtin.List.listLengthHint (.ref a)) Q E s:=by
 unfold Builtin.List.listLengthHint
 refine wpAny_bind (wpAny_specialOf hT F.slot_set_len.lookup ?_)
 generalize hid:("set.__len__" : String)=id0
 wp_delta
 rw[show splitId id0=some ("set","__len__")from by subst hid;decide +kernel]
 subst hid
 refine wpAny_bind (wpAny_isInstance (T:="set") (b:=true) hT (by rw[isSubtype_type];kernel_rfl) ?_)
 refine wpAny_ite_split (λz=>absurd z (by decide)) λ_=>?_
 refine wpAny_ite_split (λ_=>?_) λz=>absurd (by decide +kernel) z
 exact wpAny_bind (wpAny_typeOf hT (wpAny_pure h))
theorem q8u{S:Addr}{fp:List Addr}{n c0:Nat}{ws:List Value}{St:Nat->Heap->Prop}{c:Bool->Bool}{s1:Shared}{res:Value}{R:Result->Shared->Prop}{EE:Value->Shared->Prop}(W:Nx prog w I fp n ws St)(hh:A.handled=none)(hn:n<=sizeLine)(hSf:S∉fp)
  (hT:s1.TypeIs (.ref a) "set") (st:St 0 s1.heap) (hS:s1.heap.get? S=some {cls:=.type "list",data:=.seq #[] c0})
  (hR:∀h' tk acc c',(∀b o,b≠S->b≠I->s1.heap.get? b=some o->h'.get? b=some o)->h'.get? S=some {cls:=.type "list",dict:=none,data:=.seq acc c',slots:=#[]} -> acc.toList=ws->R (.ok (.ret res)) {s1 with heap:=h',toks:=tk}) (hw:ws.length=n) :
  wpAny (model prog w) A.in1 (do
   let room ←holding [Value.ref I] (Builtin.List.listLengthHint (.ref a))
   if c room=true then do
    rule "list.extend.makes-room"
    Builtin.List.listTouch (.ref S)
    again (.builtin "list.extend.loop" ⟨[.ref S,.ref I,res],[]⟩)
   else again (.builtin "list.extend.loop" ⟨[.ref S,.ref I,res],[]⟩))
   (λfin s'=>match fin with | .done f=>R (.ok f) s' | .again c'=>c'.quiet=true/\codeAny (model prog w) A c' R s') EE s1:=by
 have loop:∀(h:Heap) (c1 tk:Nat),St 0 h->(∀b o,b≠S->s1.heap.get? b=some o->h.get? b=some o)->h.get? S=some {cls:=.type "list",data:=.seq #[] c1} ->
   codeAny (model prog w) A (.builtin "list.extend.loop" ⟨[.ref S,.ref I,res],[]⟩) R {s1 with heap:=h,toks:=tk}:=λh c1 tk st1 k e=>by
  refine codeAny_extend_loopS (W A.in1 hh) hn S hSf res n 0 _ #[] c1 rfl (Nat.zero_le _) st1 e (ItemsOf.nil _) λs' acc c' hm e' ac=>?_
  have b1:s' = {s1 with heap:=s'.heap,toks:=s'.toks}:=by
   have q1:s'.gens=s1.gens:=hm.gens
   have q2:s'.drawn=s1.drawn:=hm.drawn
   have q3:s'.os=s1.os:=hm.os
   obtain⟨h',g',d',t',o'⟩:=s'
   dsimp only at q1 q2 q3
   subst q1
   subst q2
   subst q3
   rfl
  rw[b1]
  refine hR s'.heap s'.toks acc c' (λb o hb hi q=>hm.heap b o (λz=>?_) (k b o hb q)) e' ?_
  ·rcases List.mem_cons.mp z with z | z
   ·exact hb z
   ·exact hi (List.mem_singleton.mp z)
  ·refine List.ext_getElem? λj=>?_
   by_cases hj:j<n
   ·have hj':j<acc.size:=by rw[ac.1];exact hj
    have q1:acc[j]? = some acc[j]:=Array.getElem?_eq_getElem hj'
    rw[Array.getElem?_toList,q1]
    exact(ac.2 j _ q1).symm
   ·rw[List.getElem?_eq_none (by rw[Array.length_toList,ac.1];omega),List.getElem?_eq_none (by omega)]
 refine wpAny_bind (wpAny_holding (z3e hT ?_))
 refine wpAny_ite_split (λ_=>?_) λ_=>wpAny_pure ⟨plainId_quiet F.plain_extend_loop _,loop s1.heap c0 s1.toks st (λb o _ e=>e) hS⟩
 refine wpAny_bind (wpAny_rule (wpAny_bind ?_))
 show wpAny (model prog w) A.in1 (updateSeq S (·.push .none) >>= λ_=>updateSeq S (·.pop)) _ _ _
 refine wpAny_bind (wpAny_updateSeq hS rfl ?_)
 have e2:=Heap.get?_update_self (Obj.mapSeq (·.push Value.none)) hS rfl
 refine wpAny_updateSeq (hz:=by seq_fits) e2 rfl ?_
 have e3:=Heap.get?_update_self (Obj.mapSeq (·.pop)) e2 rfl
 have oth:∀b o,b≠S->s1.heap.get? b=some o->((s1.heap.update S (Obj.mapSeq (·.push Value.none))).update S (Obj.mapSeq (·.pop))).get? b=some o:=λb o hb e=>
  (Heap.get?_update_other _ _ (Ne.symm hb)).trans ((Heap.get?_update_other _ _ (Ne.symm hb)).trans e)
 refine wpAny_pure ⟨plainId_quiet F.plain_extend_loop _,loop _ _ s1.toks ?_ oth e3⟩
 exact(W A.in1 hh).frame 0 s1 _ s1.toks st (Nat.le_refl _) λb hb o e=>oth b o (λz=>hSf (z▸hb)) e
def EndC(s:Shared)(a:Addr)(ws:List Value)(I:Addr)(d:Drawn)(r:Result)(s':Shared):Prop:=
 ∃h' tk acc c',r=.ok (.ret (.ref s.heap.objs.size))/\s' = {s with heap:=h',toks:=tk,drawn:=d} /\ h'.get? s.heap.objs.size=some {cls:=.type "list",dict:=none,data:=.seq acc c',slots:=#[]} /\ acc.toList=ws /\
  ∀b o,b≠s.heap.objs.size->b≠I->s.heap.get? b=some o->h'.get? b=some o
theorem q7C{Q:List Value->Shared->Prop}(hh:A.handled=none)(hS:SetI prog w s.heap a ks)
  (h:∀vs h' tk d,IntsAre vs (vs.map q3N)->(vs.map q3N).Perm ks->(∀b o,s.heap.get? b=some o->h'.get? b=some o)->s.heap.objs.size<h'.objs.size->Q vs {s with heap:=h',toks:=tk,drawn:=d}):wpAny (model prog w) A (collect (.ref a)) Q E s:=by
 obtain⟨o,es,ep,t,ho,hx,hd,hel,hp,hb,hf,ht⟩:=id hS
 have hz:es.size<=sizeLine:=fits_of_scanBound hb
 have hInts:∀vs:List Value,vs.Perm (es.toList.map (·.2))->IntsAre vs (vs.map q3N)/\(vs.map q3N).Perm ks:=λvs p=>by
  refine⟨?_,(p.map _).trans (by rw[List.map_map];exact hp)⟩
  have all:∀v∈vs,∃tk,v=.int (q3N v) tk:=λv hv=>by
   obtain⟨e,he,q⟩:=List.mem_map.mp (p.mem_iff.mp hv)
   obtain⟨tk,e2⟩:=q8G hel he
   exact⟨tk,by rw[←q];exact e2⟩
  clear p
  induction vs with
  | nil=>exact .nil
  | cons v r ih=>
   obtain⟨tk,e⟩:=all v (List.mem_cons_self ..)
   rw[List.map_cons]
   have q:=ih λu hu=>all u (List.mem_cons_of_mem _ hu)
   generalize hn:q3N v=n at e
   subst e
   exact .cons n tk q
 have hat:a<s.heap.objs.size:=Heap.lt_size ho
 unfold collect
 refine wpAny_bind (wpAny_runValue (codeAny_builtin F.entry_proto_collect ?_))
 rw[Around.under_plainId F.plain_proto_collect]
 show wpAny (model prog w) A.in1 (newList [] >>= λl=>again (.builtin "list.__iadd__" ⟨[l,.ref a],[]⟩)) _ _ s
 refine wpAny_bind (wpAny_newObj_type ?_)
 refine wpAny_pure ⟨plainId_quiet F.plain_list_iadd _,codeAny_builtin F.entry_list_iadd ?_⟩
 rw[Around.under_plainId F.plain_list_iadd]
 have hS1:(s.heap.push {cls:=.type "list",data:=.seq ([]:List Value).toArray}).get? s.heap.objs.size=some {cls:=.type "list",data:=.seq ([]:List Value).toArray}:=Heap.get?_push_size _ rfl
 have hA1:q2W (s.heap.push {cls:=.type "list",data:=.seq ([]:List Value).toArray}) a es ep t:=⟨o,Heap.get?_push_of_some _ ho,hx,hd⟩
 show wpAny (model prog w) A.in1 (Builtin.List.listExtendWith (.ref s.heap.objs.size) (.ref a) (.ref s.heap.objs.size)) _ _ _
 unfold Builtin.List.listExtendWith
 refine wpAny_bind (wpAny_typeOf (T:="set") ⟨o,Heap.get?_push_of_some _ ho,hx.1⟩ ?_)
 have h1:Builtin.List.listSameRef (.ref s.heap.objs.size) (.ref a)=false:=by
  unfold Builtin.List.listSameRef
  exact beq_eq_false_iff_ne.mpr (Nat.ne_of_gt hat)
 have h2:(Value.type "set" == Value.type "list")=false:=by decide
 have h3:(Value.type "set" == Value.type "tuple")=false:=by decide
 simp only[h1,h2,h3,Bool.or_false,Bool.false_eq_true,if_false]
 refine wpAny_bind (z2D (t:=t) hA1 hf hz ?_ ?_)
 ·intro hnd
  have hne:a≠(s.heap.push {cls:=.type "list",data:=.seq ([]:List Value).toArray}).objs.size:=by rw[Heap.size_push];exact Nat.ne_of_lt (Nat.lt_succ_of_lt hat)
  have hSf:s.heap.objs.size∉[(s.heap.push {cls:=.type "list",data:=.seq ([]:List Value).toArray}).objs.size,a]:=λz=>by
   rw[Heap.size_push]at z
   rcases List.mem_cons.mp z with z | z
   ·exact absurd z (Nat.ne_of_lt (Nat.lt_succ_self _))
   ·exact absurd (List.mem_singleton.mp z) (Nat.ne_of_gt hat)
  obtain⟨ws,St,p,W,st⟩:∃ws St,ws.Perm (es.toList.map (·.2))/\Nx prog w (s.heap.push {cls:=.type "list",data:=.seq ([]:List Value).toArray}).objs.size [(s.heap.push {cls:=.type "list",data:=.seq ([]:List Value).toArray}).objs.size,a] es.size ws St /\
    St 0 ((s.heap.push {cls:=.type "list",data:=.seq ([]:List Value).toArray}).push (q7O (.int 0 0) a es.size ep)):=by
   by_cases hot:q0K w=true
   ·exact⟨_,_,(q3d _ es).map _,q9W (t:=t) (ep:=ep) hot hf hne,q5J,hA1.at λ_=>Heap.get?_push_of_some _⟩
   ·have hot:q0K w=false:=by simpa using hot
    rw[hot]at hnd
    exact⟨_,_,.rfl,z2G (ep:=ep) hot (by simpa using hnd) ht hf hne,q5J,hA1.at λ_=>Heap.get?_push_of_some _,Nat.zero_le _⟩
  refine wpAny_mono (q8u (A:=A) (a:=a) (c0:=0) (s1:={s with heap:=(s.heap.push {cls:=.type "list",data:=.seq ([]:List Value).toArray}).push (q7O (.int 0 0) a es.size ep)}) (R:=EndC s a ws (s.heap.push {cls:=.type "list",data:=.seq ([]:List Value).toArray}).objs.size s.drawn)
   W hh hz hSf ⟨o,Heap.get?_push_of_some _ (Heap.get?_push_of_some _ ho),hx.1⟩ st (Heap.get?_push_of_some _ hS1) (λh' tk acc c' k e ea=>⟨h',tk,acc,c',rfl,rfl,e,ea,λb u h1 h2 q=>k b u h1 h2 (Heap.get?_push_of_some _ (Heap.get?_push_of_some _ q))⟩) (by rw[p.length_eq,List.length_map,Array.length_toList])) ?_ λ_ _ e=>e
  have tail:∀r s',EndC s a ws (s.heap.push {cls:=.type "list",data:=.seq ([]:List Value).toArray}).objs.size s.drawn r s'->∃h' tk acc c',r=.ok (.ret (.ref s.heap.objs.size))/\s' = {s with heap:=h',toks:=tk} /\ h'.get? s.heap.objs.size=some {cls:=.type "list",dict:=none,data:=.seq acc c',slots:=#[]} /\ Q acc.toList s':=λr s' ⟨h',tk,acc,c',e1,e2,e,ea,k⟩=>by
   obtain⟨q1,q2⟩:=hInts ws p
   refine⟨h',tk,acc,c',e1,e2,e,?_⟩
   rw[ea,e2]
   refine h ws h' tk s.drawn q1 q2 (λb u q=>k b u (Nat.ne_of_lt (Heap.lt_size q)) ?_ q) (Heap.lt_size e)
   rw[Heap.size_push]
   exact Nat.ne_of_lt (Nat.lt_succ_of_lt (Heap.lt_size q))
  intro fin s' hf'
  cases fin with
  | done f=>
   obtain⟨h',tk,acc,c',e1,e2,e,hq⟩:=tail _ _ hf'
   cases e1
   subst e2
   exact wpAny_bind (wpAny_load e (wpAny_pure hq))
  | again c'=>
   refine⟨hf'.1,codeAny_mono hf'.2 λr s' hr=>?_⟩
   obtain⟨h',tk,acc,c',e1,e2,e,hq⟩:=tail _ _ hr
   subst e1
   subst e2
   exact wpAny_bind (wpAny_load e (wpAny_pure hq))
 ·intro l d hot pl
  have z1:(s.heap.push {cls:=.type "list",data:=.seq ([]:List Value).toArray}).objs.size=s.heap.objs.size+1:=Heap.size_push _ _
  have hl:l.length=es.size:=by rw[pl.length_eq,List.length_range]
  have p:(l.map λi=>(es.getD i (0,.none)).2).Perm (es.toList.map (·.2)):=by
   refine(pl.map _).trans (List.Perm.of_eq ?_)
   refine List.ext_getElem? λj=>?_
   have e1:es.toList[j]? = es[j]?:=Array.getElem?_toList
   rw[List.getElem?_map,List.getElem?_map,e1]
   by_cases hj:j<es.size
   ·rw[List.getElem?_range hj,Option.map_some,Array.getD_eq_getD_getElem?,Array.getElem?_eq_getElem hj]
    rfl
   ·have e2:(List.range es.size)[j]? = none:=List.getElem?_eq_none (by rw[List.length_range];omega)
    rw[e2,Array.getElem?_eq_none (by omega)]
    rfl
  have hne:a≠(s.heap.push {cls:=.type "list",data:=.seq ([]:List Value).toArray}).objs.size+1:=by rw[z1];exact Nat.ne_of_lt (Nat.lt_succ_of_lt (Nat.lt_succ_of_lt hat))
  have hqe:(s.heap.push {cls:=.type "list",data:=.seq ([]:List Value).toArray}).objs.size≠(s.heap.push {cls:=.type "list",data:=.seq ([]:List Value).toArray}).objs.size+1:=Nat.ne_of_lt (Nat.lt_succ_self _)
  have hSf:s.heap.objs.size∉[(s.heap.push {cls:=.type "list",data:=.seq ([]:List Value).toArray}).objs.size+1,a,(s.heap.push {cls:=.type "list",data:=.seq ([]:List Value).toArray}).objs.size]:=λz=>by
   rw[z1]at z
   rcases List.mem_cons.mp z with z | z
   ·exact absurd z (Nat.ne_of_lt (Nat.lt_succ_of_lt (Nat.lt_succ_self _)))
   ·rcases List.mem_cons.mp z with z | z
    ·exact absurd z (Nat.ne_of_gt hat)
    ·exact absurd (List.mem_singleton.mp z) (Nat.ne_of_lt (Nat.lt_succ_self _))
  have W:=q9A (prog:=prog) (w:=w) (ep:=ep) (t:=t) pl hf hne hqe
  have hI:q1k (((s.heap.push {cls:=.type "list",data:=.seq ([]:List Value).toArray}).push (z0q l)).push (q7O (.ref (s.heap.push {cls:=.type "list",data:=.seq ([]:List Value).toArray}).objs.size) a es.size ep))
    ((s.heap.push {cls:=.type "list",data:=.seq ([]:List Value).toArray}).objs.size+1) a (.ref (s.heap.push {cls:=.type "list",data:=.seq ([]:List Value).toArray}).objs.size) 0 es.size ep:=by
   have:=q5J (a:=a) (ep:=ep) (h:=(s.heap.push {cls:=.type "list",data:=.seq ([]:List Value).toArray}).push (z0q l)) (f:=.ref (s.heap.push {cls:=.type "list",data:=.seq ([]:List Value).toArray}).objs.size) (n:=es.size)
   have z2:((s.heap.push {cls:=.type "list",data:=.seq ([]:List Value).toArray}).push (z0q l)).objs.size=(s.heap.push {cls:=.type "list",data:=.seq ([]:List Value).toArray}).objs.size+1:=Heap.size_push _ _
   rw[z2]at this
   exact this
  refine wpAny_mono (q8u (A:=A) (a:=a) (c0:=0) (s1:={s with heap:=((s.heap.push {cls:=.type "list",data:=.seq ([]:List Value).toArray}).push (z0q l)).push (q7O (.ref (s.heap.push {cls:=.type "list",data:=.seq ([]:List Value).toArray}).objs.size) a es.size ep),drawn:=d}) (R:=EndC s a (l.map λi=>(es.getD i (0,.none)).2) ((s.heap.push {cls:=.type "list",data:=.seq ([]:List Value).toArray}).objs.size+1) d)
   W hh hz hSf ⟨o,Heap.get?_push_of_some _ (Heap.get?_push_of_some _ (Heap.get?_push_of_some _ ho)),hx.1⟩ ⟨hI,hA1.at λ_ e=>Heap.get?_push_of_some _ (Heap.get?_push_of_some _ e),⟨_,Heap.get?_push_of_some _ (Heap.get?_push_size _ rfl),rfl,_,rfl⟩⟩ (Heap.get?_push_of_some _ (Heap.get?_push_of_some _ hS1)) (λh' tk acc c' k e ea=>⟨h',tk,acc,c',rfl,rfl,e,ea,λb u h1 h2 q=>k b u h1 h2 (Heap.get?_push_of_some _ (Heap.get?_push_of_some _ (Heap.get?_push_of_some _ q)))⟩) (by rw[p.length_eq,List.length_map,Array.length_toList])) ?_ λ_ _ e=>e
  have tail:∀r s',EndC s a (l.map λi=>(es.getD i (0,.none)).2) ((s.heap.push {cls:=.type "list",data:=.seq ([]:List Value).toArray}).objs.size+1) d r s'->∃h' tk acc c',r=.ok (.ret (.ref s.heap.objs.size))/\s' = {s with heap:=h',toks:=tk,drawn:=d} /\ h'.get? s.heap.objs.size=some {cls:=.type "list",dict:=none,data:=.seq acc c',slots:=#[]} /\ Q acc.toList s':=λr s' ⟨h',tk,acc,c',e1,e2,e,ea,k⟩=>by
   obtain⟨q1,q2⟩:=hInts _ p
   refine⟨h',tk,acc,c',e1,e2,e,?_⟩
   rw[ea,e2]
   refine h _ h' tk d q1 q2 (λb u q=>k b u (Nat.ne_of_lt (Heap.lt_size q)) ?_ q) (Heap.lt_size e)
   rw[z1]
   exact Nat.ne_of_lt (Nat.lt_succ_of_lt (Nat.lt_succ_of_lt (Heap.lt_size q)))
  intro fin s' hf'
  cases fin with
  | done f=>
   obtain⟨h',tk,acc,c',e1,e2,e,hq⟩:=tail _ _ hf'
   cases e1
   subst e2
   exact wpAny_bind (wpAny_load e (wpAny_pure hq))
  | again c'=>
   refine⟨hf'.1,codeAny_mono hf'.2 λr s' hr=>?_⟩
   obtain⟨h',tk,acc,c',e1,e2,e,hq⟩:=tail _ _ hr
   subst e1
   subst e2
   exact wpAny_bind (wpAny_load e (wpAny_pure hq))
theorem q9M{Q:Value->Shared->Prop}(hh:A.handled=none)(hS:SetI prog w s.heap a ks)(h64:ks.length<64)
  (h:∀h' tk d p vs ns e,(∀b o,s.heap.get? b=some o->h'.get? b=some o)->s.heap.objs.size<=p->h'.get? p=some (seqObj "list" vs e)->IntsAre vs.toList ns->ns.Perm ks->ns.Pairwise (· <= ·)->Q (.ref p) {s with heap:=h',toks:=tk,drawn:=d}) :
  wpAny (model prog w) A (call (.builtin "sorted") [.ref a]) Q E s:=by
 refine Calls.call_function_entry kind_sorted plain_sorted entry_sorted (args_sorted1 _) ?_
 unfold Builtin.«sorted»
 refine wpAny_bind (m:=checkCount "sorted" 1 1 _) (wpAny_pure ?_)
 refine wpAny_bind (q7C (by exact hh) hS λvs h1 tk d i1 p1 k1 z1=>?_)
 have hl:vs.length<64:=by
  have:=p1.length_eq
  rw[List.length_map]at this
  omega
 refine wpAny_bind (wpAny_newList ?_ (by rw[sizeLine_eq];omega))
 have hL:(h1.push (seqObj "list" vs.toArray 0)).get? h1.objs.size=some (seqObj "list" vs.toArray 0):=Heap.get?_push_size _ rfl
 refine wpAny_bind (wpAny_holding (wpAny_call_entry slot_list_sort ⟨_,hL,rfl⟩ entry_list_sort (list_sort_tree hL i1 hl λout ns q1 q2 q3=>⟨_,rfl,?_⟩) (args_list_sort _)))
 refine wpAny_pure ⟨_,rfl,?_⟩
 obtain⟨e,he⟩:=sortedHeap_at (out:=out) hL
 refine h _ tk d _ out ns e (λb o q=>?_) (Nat.le_of_lt z1) he q1 (q2.trans p1) q3
 have hb:=Heap.lt_size (k1 b o q)
 rw[sortedHeap_old (Nat.ne_of_lt hb) (by rw[size_push'];exact Nat.lt_succ_of_lt hb)]
 exact Heap.get?_push_of_some _ (k1 b o q)
end
end L2
end
noncomputable section
namespace L2
open PySem PySem.Spec PyProof.Rows
section
variable {prog:Program} {w:World} {A:Around} {E:Value->Shared->Prop} {s:Shared}
theorem z5S{l:List Int}{i:Nat}(h:i<l.length):l.getD i 0∈l:=by
 rw[List.getD_eq_getElem?_getD,List.getElem?_eq_getElem h]
 exact List.getElem_mem h
theorem minL{l:Addr}{vs:List Value}{ns:List Int}{Q:Value->Shared->Prop}(hh:A.handled=none)(hl:s.heap.IsList l vs.toArray)(hi:IntsAre vs ns)(hz:ns≠[])
  (h:∀h' M (t:Tok) tk,(∀b o,s.heap.get? b=some o->h'.get? b=some o)->M∈ns->(∀a∈ns,M<=a)->Q (.int M t) {s with heap:=h',toks:=tk}):wpAny (model prog w) A (call (.builtin "min") [.ref l]) Q E s:=by
 obtain⟨ys,e⟩:=hi.allInts.items
 have en:ns=ys.toList.map (·.1):=by rw[←hi.numsOf,←nums_intItems,←e]
 have zy:0<ys.size:=by
  have q:0<ns.length:=List.length_pos_iff.mpr hz
  rwa [en,List.length_map,Array.length_toList]at q
 rw[e]at hl
 refine min_intList hh hl zy λv h1 tk q k=>?_
 obtain⟨t,ev⟩:=intItems_at q
 subst ev
 obtain⟨g1,g2⟩:=argBest_lt (numAt ys) (ys.size - 1)
 refine h h1 _ t tk k ?_ λa ha=>?_
 ·rw[en,numAt_eq]
  exact z5S (by rw[List.length_map,Array.length_toList];omega)
 ·rw[en]at ha
  obtain⟨j,hj,ej⟩:=mem_getD ha
  subst ej
  rw[List.length_map,Array.length_toList]at hj
  rw[←numAt_eq]
  exact g2 j (by omega)
theorem maxL{l:Addr}{vs:List Value}{ns:List Int}{Q:Value->Shared->Prop}(hh:A.handled=none)(hl:s.heap.IsList l vs.toArray)(hi:IntsAre vs ns)(hz:ns≠[])
  (h:∀h' M (t:Tok) tk,(∀b o,s.heap.get? b=some o->h'.get? b=some o)->M∈ns->(∀a∈ns,a<=M)->Q (.int M t) {s with heap:=h',toks:=tk}):wpAny (model prog w) A (call (.builtin "max") [.ref l]) Q E s:=by
 obtain⟨ys,e⟩:=hi.allInts.items
 have en:ns=ys.toList.map (·.1):=by rw[←hi.numsOf,←nums_intItems,←e]
 have zy:0<ys.size:=by
  have q:0<ns.length:=List.length_pos_iff.mpr hz
  rwa [en,List.length_map,Array.length_toList]at q
 rw[e]at hl
 refine max_intList hh hl zy λv h1 tk q k=>?_
 obtain⟨t,ev⟩:=intItems_at q
 subst ev
 obtain⟨g1,g2⟩:=argBest_gt (numAt ys) (ys.size - 1)
 refine h h1 _ t tk k ?_ λa ha=>?_
 ·rw[en,numAt_eq]
  exact z5S (by rw[List.length_map,Array.length_toList];omega)
 ·rw[en]at ha
  obtain⟨j,hj,ej⟩:=mem_getD ha
  subst ej
  rw[List.length_map,Array.length_toList]at hj
  rw[←numAt_eq]
  exact g2 j (by omega)
theorem extL{l b:Addr}{items new:Array Value}{n:Nat}{Q:Value->Shared->Prop}(e:s.heap.get? l=some {cls:=.type "list",data:=.seq items n})(hb:s.heap.IsList b new\/IsTup s.heap b new)(hz:items.size+new.size<=sizeLine)
  (h:Q .none {s with heap:=s.heap.update l (Obj.mapSeq (· ++ new))}):wpAny (model prog w) A (call (.builtin "list.extend") [.ref l,.ref b]) Q E s:=by
 have ht:s.TypeIs (.ref l) "list":=⟨_,e,rfl⟩
 refine wpAny_call_entry F.slot_list_extend ht F.entry_list_extend ?_ (F.args_list_extend_2 _ _)
 unfold Builtin.«list.extend»
 refine wpAny_bind (wpAny_pure ?_)
 show wpAny (model prog w) _ (Builtin.List.listExtendWith (.ref l) (.ref b) .none) _ _ _
 unfold Builtin.List.listExtendWith
 obtain⟨ob,eb,T,hT,n2,hd⟩:∃ob,s.heap.get? b=some ob/\∃T:String,(ob.cls=.type T/\(T = "list" \/ T = "tuple"))/\∃n2,ob.data=.seq new n2:=by
  rcases hb with⟨o,a1,a2,a3,a4⟩ | ⟨o,a1,a2,a3,a4⟩
  ·exact⟨o,a1,"list",⟨a2,.inl rfl⟩,a3,a4⟩
  ·exact⟨o,a1,"tuple",⟨a2,.inr rfl⟩,a3,a4⟩
 refine wpAny_bind (wpAny_typeOf (T:=T) ⟨ob,eb,hT.1⟩ ?_)
 have c:(Builtin.List.listSameRef (.ref l) (.ref b)||Value.type T == .type "list" || Value.type T == .type "tuple")=true:=by
  rcases hT.2 with z | z<;>subst z
  ·rw[show(Value.type "list" == Value.type "list")=true by decide,Bool.or_true,Bool.true_or]
  ·rw[show(Value.type "tuple" == Value.type "tuple")=true by decide,Bool.or_true]
 rw[if_pos c]
 refine wpAny_bind (listItems_at eb hd (wpAny_bind (listItems_at e rfl ?_)))
 rw[if_neg (by rw[q8P hz,Bool.and_false];exact Bool.false_ne_true)]
 refine wpAny_bind (listUpdate_at e rfl ?_ (by omega) (by show(items++new).size<=_;rw[Array.size_append];omega))
 exact wpAny_pure ⟨_,rfl,h⟩
end
section
variable {X:Cx} {pos:Pos}
def y0F(K:PySem.W.Frag):V->List V->Hp->VK->Prop:=λx vs H Q=>∃l b xs zs,x=.ref l/\vs=[.ref b]/\H l=some (.lst xs)/\(SqL K H b zs\/SqT K H b zs)/\xs.length+zs.length<=sizeLine/\Q .non (upd H l (.lst (xs++zs)))
theorem z8z:MtM X "list.extend" (y0F X.K):=by
 intro pins s σ H x vs v us Q I rx rv h
 obtain⟨l,b,xs,zs,rfl,rfl,hH,hB,hz,q⟩:=h
 cases rx
 obtain⟨u,rfl,ru⟩:=rv.one
 cases ru
 obtain⟨z,its,n,r,hl,e⟩:=I.lstM hH
 obtain⟨its2,r2,ob⟩:∃its2:List Value,Vals zs its2/\(s.heap.IsList b its2.toArray\/IsTup s.heap b its2.toArray):=by
  rcases hB with hB | hB
  ·obtain⟨its2,r2,pl,_⟩:=I.list hB
   exact⟨its2,r2,.inl pl.isList⟩
  ·obtain⟨its2,r2,pl,_⟩:=I.tuple hB
   exact⟨its2,r2,.inr pl⟩
 have e2:=r2.length
 refine extL e ob (by rw[List.size_toArray,List.size_toArray];omega) ?_
 refine⟨.non,_,I.lset (its':=its++its2) (t':=s.toks) hH e (by simp) (r.append r2) ?_,rfl,q⟩
 rw[List.length_append]
 omega
theorem z0W:∀{ns:List Int} {us:List Value},Vals (ns.map V.int) us->IntsAre us ns
 | [],us,h=>by cases h;exact .nil
 | n::ns,us,h=>by
  cases h with
  | cons r t=>
   obtain⟨tk,rfl⟩:=r
   exact .cons n tk (z0W t)
theorem z8Y:∀{ns:List Int} {us:List Value},IntsAre us ns->Vals (ns.map V.int) us
 | _,_,.nil=>.nil
 | _,_,.cons n t h=>.cons ⟨t,rfl⟩ (z8Y h)
theorem z0g(hc:X.calm=true):q1F X (.builtin "min") (λxs H Q=>∃(a:Addr) (ns:List Int),xs=[.ref a]/\SqL X.K H a (ns.map V.int)/\ns≠[]/\∀M,M∈ns->(∀x∈ns,M<=x)->Q (.int M) H):=by
 intro pins s σ H xs us Q I r h
 obtain⟨a,ns,rfl,hq,hz,q⟩:=h
 obtain⟨u,rfl,r1⟩:=q4X r
 cases r1
 obtain⟨its,rv,pl,_⟩:=I.list hq
 exact minL (I.ok.hd hc) pl.isList (z0W rv) hz λh' M t tk k m1 m2=>⟨.int M,H,I.kept k,⟨t,rfl⟩,q M m1 m2⟩
theorem z1J(hc:X.calm=true):q1F X (.builtin "max") (λxs H Q=>∃(a:Addr) (ns:List Int),xs=[.ref a]/\SqL X.K H a (ns.map V.int)/\ns≠[]/\∀M,M∈ns->(∀x∈ns,x<=M)->Q (.int M) H):=by
 intro pins s σ H xs us Q I r h
 obtain⟨a,ns,rfl,hq,hz,q⟩:=h
 obtain⟨u,rfl,r1⟩:=q4X r
 cases r1
 obtain⟨its,rv,pl,_⟩:=I.list hq
 exact maxL (I.ok.hd hc) pl.isList (z0W rv) hz λh' M t tk k m1 m2=>⟨.int M,H,I.kept k,⟨t,rfl⟩,q M m1 m2⟩
def setO(P:Program)(w:World)(a:Addr)(ks:List Int):HO:=.ext λh=>SetI P w h a ks
theorem z5n{P:Program}{w:World}{H:Hp}{h:Heap}{a:Addr}{ks:List Int}(x:SetI P w h a ks):q0V P w H h a (setO P w a ks):=
 ⟨x,let ⟨o,_,_,_,e,_⟩:=x;⟨o,e⟩,λh1 h2 q k=>q.at k⟩
theorem z6u(ns:List Int):fm (λi=>ns.getD i 0) ns.length=ns.foldl dk []:=by
 unfold fm
 congr 1
 refine List.ext_getElem? λj=>?_
 rw[List.getElem?_map]
 by_cases hj:j<ns.length
 ·rw[List.getElem?_range hj,Option.map_some,List.getD_eq_getElem?_getD,List.getElem?_eq_getElem hj]
  rfl
 ·rw[List.getElem?_eq_none (by rw[List.length_range];omega),List.getElem?_eq_none (by omega)]
  rfl
theorem z0A(hc:X.calm=true):q1F X (.type "set") (λxs H Q=>∃(a:Addr) (ns:List Int),xs=[.ref a]/\SqL X.K H a (ns.map V.int)/\ns.length<4000/\∀p,H p=none->Q (.ref p) (upd H p (setO X.prog X.w p (ns.foldl dk [])))):=by
 intro pins s σ H xs us Q I r h
 obtain⟨a,ns,rfl,hq,hz,q⟩:=h
 obtain⟨u,rfl,r1⟩:=q4X r
 cases r1
 obtain⟨its,rv,pl,_⟩:=I.list hq
 have hi:=z0W rv
 have hl:its.length=ns.length:=by rw[←rv.length,List.length_map]
 refine z9F (I.ok.hd hc) pl.isList hi (by rw[List.size_toArray,hl];show _<4096;omega) λh' tk S k=>?_
 have hz2:its.toArray.size=ns.length:=by rw[List.size_toArray,hl]
 rw[hz2,z6u]at S
 exact⟨.ref s.heap.objs.size,_,I.laid k (Nat.le_refl _) (z5n S),rfl,q _ I.fresh⟩
theorem q9E(hc:X.calm=true):q1F X (.builtin "sorted") (λxs H Q=>∃(p:Addr) (ks:List Int),xs=[.ref p]/\H p=some (setO X.prog X.w p ks)/\ks.length<64/\∀(q:Addr) (ms:List Int),H q=none->ms.Perm ks->ms.Pairwise (· <= ·)->Q (.ref q) (upd H q (.lst (ms.map V.int)))):=by
 intro pins s σ H xs us Q I r h
 obtain⟨p,ks,rfl,hH,hz,q⟩:=h
 obtain⟨u,rfl,r1⟩:=q4X r
 cases r1
 have S:SetI X.prog X.w s.heap p ks:=(I.hok p _ hH).1
 refine q9M (I.ok.hd hc) S hz λh' tk d p' vs ns e k hp he hi hpm hpw=>?_
 have hv:=z8Y hi
 have hl:ns.length<=sizeLine:=by
  rw[hpm.length_eq,sizeLine_eq]
  omega
 have ok:q0V X.prog X.w (upd H p' (.lst (ns.map V.int))) h' p' (.lst (ns.map V.int)):=⟨by rw[List.length_map];exact hl,vs.toList,e,hv,by rw[Array.toArray_toList];exact he⟩
 have I1:=I.laid (t':=tk) k hp ok
 refine⟨.ref p',_,?_,rfl,q p' ns (I.hok.fresh hp) hpm hpw⟩
 exact⟨I1.ok,I1.os,I1.bare,I1.base,I1.loc,I1.cell,I1.free,I1.freeC,I1.pin,I1.hok,I1.len⟩
end
end L2
end
noncomputable section
namespace L2
open PySem PySem.Spec PySem.Calls PyProof.Rows PySem.W
section
variable {prog:Program} {w:World} {A:Around} {E:Value->Shared->Prop} {s:Shared}
theorem q7q{t:Addr}{xs:Array (Int×Tok)}{Q:Value->Shared->Prop}(hh:A.handled=none)(ht:s.heap.IsTuple t (intItems xs))(hne:0<xs.size)
  (h:∀v h' tk,(intItems xs)[argBest (λi j=>decide (numAt xs i<numAt xs j)) (xs.size - 1)]? = some v->(∀b o,s.heap.get? b=some o->h'.get? b=some o)->Q v {s with heap:=h',toks:=tk}) :
  wpAny (model prog w) A (call (.builtin "min") [.ref t]) Q E s:=by
 obtain⟨o,ho,hc,n,hd⟩:=id ht
 have hlt:t<s.heap.objs.size:=Heap.lt_size ho
 refine call_min_walk (wpAny_pyIter_tuple ht ?_)
 refine⟨_,_,_,_,_,_,_,rfl,Walks.tuple (A:=A.in1) hh _ t (Nat.ne_of_lt hlt) (intItems xs),⟨⟨_,Heap.get?_push_size _ rfl,rfl,rfl⟩,ht.push _⟩,λb hb=>?_,by simpa[intItems]using hne,CmpOf.ints_lt (numAt xs) (λ_ _=>intItems_at),λv h' tk hP hk=>?_⟩
 ·show b<(s.heap.push _).objs.size
  rw[Heap.size_push]
  rcases List.mem_cons.mp hb with rfl | hb
  ·exact Nat.lt_succ_self _
  ·rcases List.mem_cons.mp hb with rfl | hb
   ·exact Nat.lt_succ_of_lt hlt
   ·cases hb
 ·refine h v h' tk (by simpa[intItems]using hP) λb o e=>hk b o (λhm=>?_) (Heap.get?_push_of_some _ e)
  rcases List.mem_cons.mp hm with e1 | hm
  ·exact absurd (e1▸Heap.lt_size e) (Nat.lt_irrefl _)
  ·cases hm
end
section
variable {prog:Program} {w:World} {A:Around} {E:Value->Shared->Prop} {s:Shared}
end
end L2
end
noncomputable section
namespace L2
open PySem PySem.Spec PyProof.Rows
section
variable {prog:Program} {w:World} {A:Around} {E:Value->Shared->Prop} {s:Shared}
theorem minT{l:Addr}{vs:List Value}{ns:List Int}{Q:Value->Shared->Prop}(hh:A.handled=none)(hl:s.heap.IsTuple l vs.toArray)(hi:IntsAre vs ns)(hz:ns≠[])
  (h:∀h' M (t:Tok) tk,(∀b o,s.heap.get? b=some o->h'.get? b=some o)->M∈ns->(∀a∈ns,M<=a)->Q (.int M t) {s with heap:=h',toks:=tk}):wpAny (model prog w) A (call (.builtin "min") [.ref l]) Q E s:=by
 obtain⟨ys,e⟩:=hi.allInts.items
 have en:ns=ys.toList.map (·.1):=by rw[←hi.numsOf,←nums_intItems,←e]
 have zy:0<ys.size:=by
  have q:0<ns.length:=List.length_pos_iff.mpr hz
  rwa [en,List.length_map,Array.length_toList]at q
 rw[e]at hl
 refine q7q hh hl zy λv h1 tk q k=>?_
 obtain⟨t,ev⟩:=intItems_at q
 subst ev
 obtain⟨g1,g2⟩:=argBest_lt (numAt ys) (ys.size - 1)
 refine h h1 _ t tk k ?_ λa ha=>?_
 ·rw[en,numAt_eq]
  exact z5S (by rw[List.length_map,Array.length_toList];omega)
 ·rw[en]at ha
  obtain⟨j,hj,ej⟩:=mem_getD ha
  subst ej
  rw[List.length_map,Array.length_toList]at hj
  rw[←numAt_eq]
  exact g2 j (by omega)
end
section
variable {X:Cx}
theorem z1p(hc:X.calm=true):q1F X (.builtin "min") (λxs H Q=>∃(a:Addr) (ns:List Int),xs=[.ref a]/\SqT X.K H a (ns.map V.int)/\ns≠[]/\∀M,M∈ns->(∀x∈ns,M<=x)->Q (.int M) H):=by
 intro pins s σ H xs us Q I r h
 obtain⟨a,ns,rfl,hq,hz,q⟩:=h
 obtain⟨u,rfl,r1⟩:=q4X r
 cases r1
 obtain⟨its,rv,pl,_⟩:=I.tuple hq
 exact minT (I.ok.hd hc) pl (z0W rv) hz λh' M t tk k m1 m2=>⟨.int M,H,I.kept k,⟨t,rfl⟩,q M m1 m2⟩
end
end L2
end
noncomputable section
namespace L2
open PySem PySem.Spec PyProof.Rows
section
variable {prog:Program} {w:World} {A:Around} {E:Value->Shared->Prop} {s:Shared}
theorem z3O{items:Array Value}{bs:List Bool}(e:items.toList=bs.map Value.bool):TruthOf prog w A (λi v=>items[i]? = some v) (λi=>bs.getD i false):=by
 intro i v s Q E hP hQ
 have h1:(bs.map Value.bool)[i]? = some v:=by rw[←e,Array.getElem?_toList];exact hP
 rw[List.getElem?_map]at h1
 obtain⟨b,h2,rfl⟩:=Option.map_eq_some_iff.mp h1
 have hQ':Q (bs.getD i false) s:=hQ
 rw[List.getD_eq_getElem?_getD,h2]at hQ'
 exact PySem.wpAny_truthy_bool hQ'
theorem z2e(bs:List Bool):(List.range bs.length).any (λi=>bs.getD i false)=bs.any id:=by
 rw[Bool.eq_iff_iff,List.any_eq_true,List.any_eq_true]
 constructor
 ·rintro⟨i,hi,h⟩
  have hi:=List.mem_range.mp hi
  rw[List.getD_eq_getElem?_getD,List.getElem?_eq_getElem hi]at h
  exact⟨_,List.getElem_mem hi,h⟩
 ·rintro⟨x,hx,h⟩
  obtain⟨i,hi,rfl⟩:=List.getElem_of_mem hx
  refine⟨i,List.mem_range.mpr hi,?_⟩
  rw[List.getD_eq_getElem?_getD,List.getElem?_eq_getElem hi]
  exact h
theorem anyL{l:Addr}{items:Array Value}{bs:List Bool}{Q:Value->Shared->Prop}(hh:A.handled=none)(hl:s.heap.IsList l items)(e:items.toList=bs.map Value.bool)
  (h:∀h' tk,(∀b o,s.heap.get? b=some o->h'.get? b=some o)->Q (.bool (bs.any id)) {s with heap:=h',toks:=tk}):wpAny (model prog w) A (call (.builtin "any") [.ref l]) Q E s:=by
 have hlt:l<s.heap.objs.size:=by obtain⟨_,e,_⟩:=hl;exact Heap.lt_size e
 have hn:items.size=bs.length:=by rw[←Array.length_toList,e,List.length_map]
 refine call_any_walk (wpAny_pyIter_list hl ⟨_,_,_,_,_,_,λi=>bs.getD i false,rfl,Walks.list (A:=A.in1) hh s.heap.objs.size l (Nat.ne_of_lt hlt) items,⟨⟨_,Heap.get?_push_size _ rfl,rfl,rfl⟩,hl.push _⟩,z3O e,λh' tk hk=>?_⟩)
 rw[hn,z2e]
 exact h h' tk λb o eb=>hk b o (by simp;exact Nat.ne_of_lt (Heap.lt_size eb)) (Heap.get?_push_of_some _ eb)
end
section
variable {X:Cx}
theorem z7V:∀{bs:List Bool} {us:List Value},Vals (bs.map V.bl) us->us=bs.map Value.bool
 | [],_,h=>by cases h;rfl
 | b::bs,_,h=>by
  cases h with
  | cons r t=>
   rw[z7V t]
   cases(show _=Value.bool b from r)
   rfl
theorem z0t(hc:X.calm=true):q1F X (.builtin "any") (λxs H Q=>∃(a:Addr) (bs:List Bool),xs=[.ref a]/\SqL X.K H a (bs.map V.bl)/\Q (.bl (bs.any id)) H):=by
 intro pins s σ H xs us Q I r h
 obtain⟨a,bs,rfl,hq,q⟩:=h
 obtain⟨u,rfl,r1⟩:=q4X r
 cases r1
 obtain⟨its,rv,pl,_⟩:=I.list hq
 exact anyL (I.ok.hd hc) pl.isList (by simpa using z7V rv) λh' tk k=>⟨.bl _,H,I.kept k,rfl,q⟩
end
end L2
end
noncomputable section
namespace L2
open PySem
structure Sg where
 N:List Str
 sc:List (Str×NameKind)
 fn:List Str
 bl:List Str
 cl:List Str
 top:Bool
 lp:Bool
def q0I:Expr->Option Str | .Name x _=>some x | _=>none
def q3o:Expr->Option Const | .Constant c _ _=>some c | _=>none
def z3E:Expr->Option (Expr×Operator×Expr) | .BinOp a o b _=>some (a,o,b) | _=>none
def asUn:Expr->Option (UnaryOp×Expr) | .UnaryOp o a _=>some (o,a) | _=>none
def z2P:Expr->Option (Expr×List CmpOp×List Expr) | .Compare a o b _=>some (a,o,b) | _=>none
def q8F:Expr->Option (BoolOp×List Expr) | .BoolOp o es _=>some (o,es) | _=>none
def asIf:Expr->Option (Expr×Expr×Expr) | .IfExp c a b _=>some (c,a,b) | _=>none
def z1E:Expr->Option (List Expr) | .List es _=>some es | _=>none
def q3l:Expr->Option (List Expr) | .Tuple es _ _=>some es | _=>none
def q5E:Expr->Option (Expr×Expr) | .Subscript a b _=>some (a,b) | _=>none
def q4J:Expr->Option (Option Expr×Option Expr×Option Expr) | .Slice a b c _=>some (a,b,c) | _=>none
def q1y:Expr->Option (Expr×List Expr×List Keyword×Pos) | .Call f as ks p=>some (f,as,ks,p) | _=>none
def q3W:Expr->Option (Expr×Str×Pos) | .Attribute a n p=>some (a,n,p) | _=>none
def z0U:Expr->Option (Expr×List Comprehension×Scope) | .ListComp e gs sc _=>some (e,gs,sc) | _=>none
def q0s:Expr->Bool | .Starred _ _=>true | _=>false
def q3s:Expr->Bool | .Slice _ _ _ _=>true | _=>false
def q2Y:Expr->Bool | .Set _ _ _=>true | _=>false
def q4b:Expr->Bool | .ListComp _ _ _ _=>true | .SetComp _ _ _ _=>true | .DictComp _ _ _ _ _=>true | _=>false
theorem q0m{e:Expr}{x:Str}(h:q0I e=some x):∃p,e=.Name x p:=by
 cases e<;>simp[q0I]at h;subst h;exact⟨_,rfl⟩
theorem q5v{e:Expr}{x:Const}(h:q3o e=some x):∃k p,e=.Constant x k p:=by
 cases e<;>simp[q3o]at h;subst h;exact⟨_,_,rfl⟩
theorem q6a{e a b:Expr}{o:Operator}(h:z3E e=some (a,o,b)):∃p,e=.BinOp a o b p:=by
 cases e<;>simp[z3E]at h;obtain⟨rfl,rfl,rfl⟩:=h;exact⟨_,rfl⟩
theorem q5P{e a:Expr}{o:UnaryOp}(h:asUn e=some (o,a)):∃p,e=.UnaryOp o a p:=by
 cases e<;>simp[asUn]at h;obtain⟨rfl,rfl⟩:=h;exact⟨_,rfl⟩
theorem q4q{e a:Expr}{os:List CmpOp}{bs:List Expr}(h:z2P e=some (a,os,bs)):∃p,e=.Compare a os bs p:=by
 cases e<;>simp[z2P]at h;obtain⟨rfl,rfl,rfl⟩:=h;exact⟨_,rfl⟩
theorem q3w{e:Expr}{o:BoolOp}{es:List Expr}(h:q8F e=some (o,es)):∃p,e=.BoolOp o es p:=by
 cases e<;>simp[q8F]at h;obtain⟨rfl,rfl⟩:=h;exact⟨_,rfl⟩
theorem z1K{e c a b:Expr}(h:asIf e=some (c,a,b)):∃p,e=.IfExp c a b p:=by
 cases e<;>simp[asIf]at h;obtain⟨rfl,rfl,rfl⟩:=h;exact⟨_,rfl⟩
theorem q6S{e:Expr}{es:List Expr}(h:z1E e=some es):∃p,e=.List es p:=by
 cases e<;>simp[z1E]at h;subst h;exact⟨_,rfl⟩
theorem q2L{e:Expr}{es:List Expr}(h:q3l e=some es):∃k p,e=.Tuple es k p:=by
 cases e<;>simp[q3l]at h;subst h;exact⟨_,_,rfl⟩
theorem q1a{e a b:Expr}(h:q5E e=some (a,b)):∃p,e=.Subscript a b p:=by
 cases e<;>simp[q5E]at h;obtain⟨rfl,rfl⟩:=h;exact⟨_,rfl⟩
theorem q3P{e:Expr}{a b c:Option Expr}(h:q4J e=some (a,b,c)):∃p,e=.Slice a b c p:=by
 cases e<;>simp[q4J]at h;obtain⟨rfl,rfl,rfl⟩:=h;exact⟨_,rfl⟩
theorem q0A{e f:Expr}{as:List Expr}{ks:List Keyword}{p:Pos}(h:q1y e=some (f,as,ks,p)):e=.Call f as ks p:=by
 cases e<;>simp[q1y]at h;obtain⟨rfl,rfl,rfl,rfl⟩:=h;rfl
theorem q2H{e a:Expr}{n:Str}{p:Pos}(h:q3W e=some (a,n,p)):e=.Attribute a n p:=by
 cases e<;>simp[q3W]at h;obtain⟨rfl,rfl,rfl⟩:=h;rfl
theorem q9X{e x:Expr}{gs:List Comprehension}{sc:Scope}(h:z0U e=some (x,gs,sc)):∃p,e=.ListComp x gs sc p:=by
 cases e<;>simp[z0U]at h;obtain⟨rfl,rfl,rfl⟩:=h;exact⟨_,rfl⟩
def visB(sg:Sg)(x:Str):Bool:=sg.sc.lookup x==some .local||sg.sc.lookup x==some .cell||sg.sc.lookup x==some .free
def gloB(sg:Sg)(x:Str):Bool:=sg.sc.lookup x==some .globalImplicit
def locB(sg:Sg)(x:Str):Bool:=sg.sc.lookup x==some .local||sg.sc.lookup x==some .cell
def q4e(sg:Sg)(i:Nat)(x:Str):Bool:=sg.N[i]? == some x&&visB sg x&&x != "__debug__" && x != "__classdict__"
def bltB(sg:Sg)(x:Str)(f:Expr):Bool:=q0I f==some x&&gloB sg x&&sg.bl.contains x
def z8W:Bi->Str
 | .len=>"len" | .min=>"min" | .max=>"max" | .any=>"any" | .sset=>"sorted" | .list=>"list" | .tuple=>"tuple"
def z4r:Mt->Str
 | .bitLength=>"bit_length" | .index=>"index" | .get=>"get"
structure CParts where
 elt:Expr
 tg:Expr
 it:Expr
 ifs:List Expr
 sc:Scope
def q5y(e:Expr):Option CParts:=match z0U e with
 | some (elt,[⟨tg,it,ifs,a⟩],sc)=>if a=0 then some ⟨elt,tg,it,ifs,sc⟩else none
 | _=>none
theorem q4M{e:Expr}{c:CParts}(h:q5y e=some c):∃p,e=.ListComp c.elt [⟨c.tg,c.it,c.ifs,0⟩] c.sc p:=by
 unfold q5y at h
 split at h
 ·rename_i elt tg it ifs a sc q
  split at h
  ·rename_i ha
   cases h
   subst ha
   exact q9X q
  ·cases h
 ·cases h
def q1z(sg:Sg)(tn:List Str)(fr:List (Option Nat)):List Str:=tn++(fr.drop tn.length).map λo=>match o with | some i=>sg.N.getD i "" | none=>""
def z0G:Tg->Expr->Option (List Str)
 | .one _,e=>(q0I e).map λx=>[x]
 | .many is,e=>match q3l e with
  | some es=>if es.length=is.length then es.mapM q0I else none
  | none=>none
def tgOk(sg:Sg):Tg->Expr->Bool
 | .one i,e=>match q0I e with
  | some x=>sg.N[i]? == some x&&locB sg x
  | none=>false
 | .many is,e=>match q3l e with
  | some es=>es.length==is.length&&2<=es.length&&(is.zip es).all λp=>match q0I p.2 with
   | some x=>sg.N[p.1]? == some x&&locB sg x
   | none=>false
  | none=>false
def q4U:List Str->Bool
 | []=>true
 | x::r=>!r.contains x&&q4U r
def q3m:Tg->List Nat
 | .one i=>[i]
 | .many is=>is
def q3t(sg:Sg)(N':List Str)(fr:List (Option Nat))(sc:Scope)(tg:Tg):Bool:=(q3m tg).all (λi=>fr[i]? == some none) &&
 sc.kind == .function&&q4U N'&&q4U (sc.names.map (·.1))&&fr.length==N'.length &&
 (fr.zip N').all (λp=>match p.1 with | some i=>sg.N[i]? == some p.2&&sc.names.contains (p.2,.free) | none=>true) &&
 sc.names.all λy=>if y.2 == .free then sg.sc.lookup y.1==some .cell||sg.sc.lookup y.1==some .free else true
def q9V:ME->Bool
 | .comp _ _ _ _=>true
 | .compi _ _ _ _ _=>true
 | _=>false
def isZp:ME->Bool
 | .itm _=>true
 | _=>false
mutual
def corE(sg:Sg)(w:Bool):ME->Expr->Bool
 | .var i,e=>match q0I e with | some x=>q4e sg i x | none=>false
 | .int i,e=>q3o e==some (.int i)
 | .bl i,e=>q3o e==some (.bool i)
 | .str x,e=>q3o e==some (.str x)&&decide (x.length<=1000)
 | .non,e=>q3o e==some .none
 | .glb x,e=>q0I e==some x&&gloB sg x&&x != "__debug__"
 | .bin op a b,e=>match z3E e with | some (ea,o,eb)=>o==op&&corE sg false a ea&&corE sg false b eb | none=>false
 | .neg a,e=>match asUn e with | some (o,ea)=>o == .USub&&corE sg false a ea | none=>false
 | .not a,e=>match asUn e with | some (o,ea)=>o == .Not&&corE sg false a ea | none=>false
 | .cmp op a b,e=>match z2P e with | some (ea,[o],[eb])=>o==op&&corE sg false a ea&&corE sg false b eb && !q2Y eb | _=>false
 | .chain op op' a b c,e=>match z2P e with | some (ea,[o,o'],[eb,ec])=>o==op&&o'==op'&&corE sg false a ea&&corE sg false b eb&&corE sg false c ec && !q2Y ec | _=>false
 | .and ms,e=>match q8F e with | some (o,es)=>o == .And&&q0Y sg ms es | none=>false
 | .or ms,e=>match q8F e with | some (o,es)=>o == .Or&&q0Y sg ms es | none=>false
 | .ite c a b,e=>match asIf e with | some (ec,ea,eb)=>corE sg false c ec&&corE sg false a ea&&corE sg false b eb | none=>false
 | .lst ms,e=>match z1E e with | some es=>q0Y sg ms es | none=>false
 | .tup ms,e=>match q3l e with | some es=>q0Y sg ms es | none=>false
 | .dc0,e=>match e with | .Dict [] [] _=>true | _=>false
 | .ix a b,e=>match q5E e with | some (ea,eb)=>corE sg false a ea&&corE sg false b eb && !q3s eb | none=>false
 | .sl a lo hi,e=>match q5E e with
  | some (ea,es)=>(match q4J es with | some (some el,some eh,none)=>corE sg false a ea&&corE sg false lo el&&corE sg false hi eh | _=>false)
  | none=>false
 | .slf a lo,e=>match q5E e with
  | some (ea,es)=>(match q4J es with | some (some el,none,none)=>corE sg false a ea&&corE sg false lo el | _=>false)
  | none=>false
 | .slt a hi,e=>match q5E e with
  | some (ea,es)=>(match q4J es with | some (none,some eh,none)=>corE sg false a ea&&corE sg false hi eh | _=>false)
  | none=>false
 | .call f ms,e=>match q1y e with
  | some (ef,es,[],_)=>(match q0I ef with | some x=>sg.fn[f]? == some x&&gloB sg x&&x != "__debug__" | none=>false) && !es.isEmpty&&q0Y sg ms es
  | _=>false
 | .bi f ms,e=>match q1y e with
  | some (ef,es,[],_)=>bltB sg (z8W f) ef && !es.isEmpty&&(match f with
   | .sset=>(match es with
    | [e1]=>(match q1y e1 with
     | some (ef',es',[],_)=>bltB sg "set" ef'&&es'.length==1&&q0Y sg ms es'
     | _=>false)
    | _=>false)
   | _=>q0Y sg ms es)
  | _=>false
 | .isi a ts,e=>match q1y e with
  | some (ef,[ea,et],[],_)=>bltB sg "isinstance" ef&&corE sg false a ea && !q0s ea && !q0s et&&(match ts with
   | [t]=>q0I et==some t&&gloB sg t&&sg.bl.contains t&&q1f.contains t
   | [t,u]=>(match q3l et with
    | some [e1,e2]=>(q0I e1==some t&&gloB sg t&&sg.bl.contains t&&q1f.contains t)&&(q0I e2==some u&&gloB sg u&&sg.bl.contains u&&q1f.contains u)
    | _=>false)
   | _=>false)
  | _=>false
 | .meth m a ms,e=>match q1y e with
  | some (ef,[],[],pos)=>(match q3W ef with
   | some (ea,n,apos)=>n==z4r m&&corE sg false a ea&&((q0I ea).isSome||(z3E ea).isSome)&&apos.endLine==pos.line&&ms.isEmpty
   | none=>false)
  | _=>false
 | .comp elt tg it fr,e=>match q5y e with
  | some c=>c.ifs.isEmpty&&(corE sg true it c.it&&(!isZp it||(q3l c.tg).isSome)) && !q2Y c.it&&(match z0G tg c.tg with
   | some tn=>q3t sg (q1z sg tn fr) fr c.sc tg&&tgOk ⟨q1z sg tn fr,c.sc.names,sg.fn,sg.bl,sg.cl,false,true⟩ tg c.tg&&corE ⟨q1z sg tn fr,c.sc.names,sg.fn,sg.bl,sg.cl,false,true⟩ false elt c.elt
   | none=>false)
  | none=>false
 | .compi elt tg it cd fr,e=>match q5y e with
  | some c=>(corE sg true it c.it&&(!isZp it||(q3l c.tg).isSome)) && !q2Y c.it&&(match z0G tg c.tg,c.ifs with
   | some tn,[ec]=>q3t sg (q1z sg tn fr) fr c.sc tg&&tgOk ⟨q1z sg tn fr,c.sc.names,sg.fn,sg.bl,sg.cl,false,true⟩ tg c.tg&&corE ⟨q1z sg tn fr,c.sc.names,sg.fn,sg.bl,sg.cl,false,true⟩ false elt c.elt&&corE ⟨q1z sg tn fr,c.sc.names,sg.fn,sg.bl,sg.cl,false,true⟩ false cd ec
   | _,_=>false)
  | none=>false
 | .idx a b,e=>match q1y e with
  | some (ef,[eb],[],pos)=>(match q3W ef with
   | some (ea,n,apos)=>n == "index" && corE sg false a ea&&(q0I ea).isSome&&apos.endLine==pos.line&&corE sg false b eb && !q0s eb
   | none=>false)
  | _=>false
 | .rng ms,e=>w&&(match q1y e with
  | some (ef,es,[],_)=>bltB sg "range" ef&&q0Y sg ms es&&decide (es.length<=3)
  | _=>false)
 | .itm a,e=>w&&(match q1y e with
  | some (ef,[],[],pos)=>(match q3W ef with
   | some (o,n,apos)=>n == "items" && corE sg false a o&&apos.endLine==pos.line&&(q0I o).isSome
   | none=>false)
  | _=>false)
 | .dgp i k,e=>match q5E e with
  | some (o,ek)=>(match q0I o with | some x=>q4e sg i x | none=>false)&&corE sg false k ek && !q3s ek
  | none=>false
 | .callv i xs ms,e=>match q1y e with
  | some (ef,es,[],_)=>(match q0I ef with | some x=>q4e sg i x | none=>false)&&(xs.all λp=>sg.fn[p.2]? == some p.1) && !es.isEmpty&&q0Y sg ms es
  | _=>false
def q0Y(sg:Sg):List ME->List Expr->Bool
 | [],[]=>true
 | m::ms,e::es=>corE sg false m e && !q0s e&&q0Y sg ms es
 | _,_=>false
end
def q1b:Str:="_law_hung"
def hunB(sg:Sg)(i:Nat)(v:Expr):Option Expr:=match q1y v with
 | some (ef,[ea,eo],[],_)=>(match q0I ef,q0I eo with
  | some f,some x=>if f==q1b&&gloB sg f&&q4e sg i x && !q0s ea then some ea else none
  | _,_=>none)
 | _=>none
mutual
def corS(sg:Sg):MS->Stmt->Bool
 | .set i _ e,s=>match s with
  | .Assign [t] v pos=>(match t with
   | .Name x pt=>sg.N[i]? == some x&&locB sg x&&corE sg false e v&&(!q4b v||q9V e)
   | _=>false)
  | _=>false
 | .app i e,s=>match s with
  | .Expr v _=>(match q1y v with
   | some (ef,[ea],[],pos)=>(match q3W ef with
    | some (o,n,apos)=>n == "append" && (match q0I o with | some x=>q4e sg i x | none=>false)&&corE sg false e ea && !q0s ea&&apos.endLine==pos.line
    | none=>false)
   | _=>false)
  | _=>false
 | .ext i e,s=>match s with
  | .Expr v _=>(match q1y v with
   | some (ef,[ea],[],pos)=>(match q3W ef with
    | some (o,n,apos)=>n == "extend" && (match q0I o with | some x=>q4e sg i x | none=>false)&&corE sg false e ea && !q0s ea&&apos.endLine==pos.line
    | none=>false)
   | _=>false)
  | _=>false
 | .seti i k e,s=>match s with
  | .Assign [t] v _=>(match q5E t with
   | some (o,ek)=>(match q0I o with | some x=>q4e sg i x | none=>false)&&corE sg false k ek && !q3s ek&&corE sg false e v
   | none=>false)
  | _=>false
 | .exp e,s=>match s with
  | .Expr v _=>corE sg false e v && !q4b v
  | _=>false
 | .ret e,s=>match s with
  | .Return (some v) _=>corE sg false e v
  | _=>false
 | .iff c a b,s=>match s with
  | .If ec ea eb _=>corE sg false c ec&&q3h sg a ea&&q3h sg b eb
  | _=>false
 | .fo tg it body,s=>match s with
  | .For t i b [] _=>sg.lp&&tgOk sg tg t&&(corE sg true it i&&(!isZp it||(q3l t).isSome)) && !q2Y i&&q3h sg body b
  | _=>false
 | .wh c body,s=>match s with
  | .While t b [] _=>sg.lp&&corE sg false c t&&q3h sg body b
  | _=>false
 | .sep i,s=>match s with
  | .Assign [t] v _=>(match q0I t with
   | some x=>(match v with | .Dict [] [] _=>sg.N[i]? == some x&&locB sg x | _=>false)
   | none=>false)
  | _=>false
 | .dpp i ks e,s=>match s with
  | .Assign [t] v _=>(match q5E t with
   | some (o,ek)=>(match q0I o with | some x=>q4e sg i x | none=>false)&&(match q3l ek with | some es=>q0Y sg ks es | none=>false)&&corE sg false e v && !q4b v
   | none=>false)
  | _=>false
 | .retd i,s=>match s with
  | .Return (some v) _=>(match q0I v with | some x=>q4e sg i x | none=>false)
  | _=>false
 | .rse c e,s=>match s with
  | .Raise (some v) none _=>(match q1y v with
   | some (ef,[ea],[],_)=>sg.top&&q0I ef==some c&&gloB sg c&&c != "__debug__" && corE sg false e ea && !q0s ea
   | _=>false)
  | _=>false
 | .frz _,_=>false
def q3h(sg:Sg):List MS->List Stmt->Bool
 | [],[]=>true
 | .frz _::ms,ss=>q3h sg ms ss
 | m::ms,s::ss=>corS sg m s&&q3h sg ms ss
 | _,_=>false
end
end L2
end
noncomputable section
namespace L2
open PySem PySem.Spec PyProof.Rows
structure Dm where
 K:PySem.W.Frag
 mg:Str->Option Value
abbrev Cx.D(X:Cx):Dm:=⟨X.K,X.mg⟩
def SqS(K:PySem.W.Frag)(H:Hp)(a:Addr)(xs:List V):Prop:=(∃o,H a=some (.frz o (.lst xs))) \/
 ∃(o:Obj) (its:Array Value) (n:Nat),K.lookup a=some o/\o.cls=.type "list" /\ o.dict=none/\o.data=.seq its n/\its.size<=sizeLine/\Vals xs its.toList
theorem SqS.sq{K:PySem.W.Frag}{H:Hp}{a:Addr}{xs:List V}(h:SqS K H a xs):SqL K H a xs:=by
 rcases h with h | h
 ·exact .inl (.inr h)
 ·exact .inr h
theorem SqS.of{K:PySem.W.Frag}{H:Hp}{a:Addr}{xs:List V}(hO:Only H)(h:SqL K H a xs):SqS K H a xs:=by
 rcases h with(h | h) | h
 ·rcases hO a with z | ⟨o,ys,z⟩
  ·rw[h]at z;cases z
  ·rw[h]at z;cases z
 ·exact .inl h
 ·exact .inr h
theorem Same.sqs{K:PySem.W.Frag}{H H':Hp}{a:Addr}{xs:List V}(e:Same H H')(h:SqS K H a xs):SqS K H' a xs:=by
 rcases h with⟨o,h⟩ | h
 ·exact .inl ⟨o,e _ _ h⟩
 ·exact .inr h
def dKey:Key->DKey
 | .inl i=>.i i
 | .inr x=>.s x
def mutO:HO->Bool
 | .lst _=>true
 | .dK _=>true
 | .dT _=>true
 | _=>false
mutual
def Rep(D:Dm)(H:Hp):DV->V->Prop
 | .non,v=>v=.non
 | .bl b,v=>v=.bl b
 | .int i,v=>v=.int i
 | .str x,v=>v=.str x/\x.length<=sizeLine
 | .tup ds,v=>∃a xs,v=.ref a/\SqT D.K H a xs/\RepL D H ds xs
 | .lst ds,v=>∃a xs,v=.ref a/\H a=some (.lst xs)/\RepL D H ds xs
 | .dct ks vs,v=>(∃a o kvs,v=.ref a/\H a=some (.frz o (.dK kvs))/\kvs.map (λp=>dKey p.1)=ks/\RepL D H vs (kvs.map (·.2)))\/∃a o kvs,v=.ref a/\H a=some (.frz o (.dT kvs))/\kvs.map (λp=>DKey.t p.1)=ks/\RepL D H vs (kvs.map (·.2))
 | .exc c,v=>∃a C,v=.ref a/\D.mg c=some C/\H a=some (excO a C)
 | .fn x,v=>∃f,v=.ref f/\D.mg x=some (.ref f)
 | .scr ns,v=>∃a,v=.ref a/\SqS D.K H a (ns.map V.int)
def RepL(D:Dm)(H:Hp):List DV->List V->Prop
 | [],xs=>xs=[]
 | d::ds,xs=>∃v vs,xs=v::vs/\Rep D H d v/\RepL D H ds vs
end
theorem Same.tseq{K:PySem.W.Frag}{H H':Hp}{a:Addr}{xs:List V}(e:Same H H')(h:SqT K H a xs):SqT K H' a xs:=by
 rcases h with(h | ⟨o,h⟩) | h
 ·exact .inl (.inl (e _ _ h))
 ·exact .inl (.inr ⟨o,e _ _ h⟩)
 ·exact .inr h
mutual
theorem Rep.mono{D:Dm}{H H':Hp}(e:Same H H'):∀{d:DV} {v:V},Rep D H d v->Rep D H' d v
 | .non,_,h=>by unfold Rep at h ⊢;exact h
 | .bl _,_,h=>by unfold Rep at h ⊢;exact h
 | .int _,_,h=>by unfold Rep at h ⊢;exact h
 | .str _,_,h=>by unfold Rep at h ⊢;exact h
 | .tup ds,_,h=>by
  unfold Rep at h ⊢
  obtain⟨a,xs,e1,e2,e3⟩:=h
  exact⟨a,xs,e1,e.tseq e2,RepL.mono e e3⟩
 | .lst ds,_,h=>by
  unfold Rep at h ⊢
  obtain⟨a,xs,e1,e2,e3⟩:=h
  exact⟨a,xs,e1,e _ _ e2,RepL.mono e e3⟩
 | .dct _ _,_,h=>by
  unfold Rep at h ⊢
  rcases h with⟨a,o,kvs,e1,e2,e3,e4⟩ | ⟨a,o,kvs,e1,e2,e3,e4⟩
  ·exact .inl ⟨a,o,kvs,e1,e _ _ e2,e3,RepL.mono e e4⟩
  ·exact .inr ⟨a,o,kvs,e1,e _ _ e2,e3,RepL.mono e e4⟩
 | .exc C,_,h=>by
  unfold Rep at h ⊢
  obtain⟨a,C,e1,e2,e3⟩:=h
  exact⟨a,C,e1,e2,e _ _ e3⟩
 | .fn _,_,h=>by unfold Rep at h ⊢;exact h
 | .scr _,_,h=>by
  unfold Rep at h ⊢
  obtain⟨a,e1,e2⟩:=h
  exact⟨a,e1,e.sqs e2⟩
theorem RepL.mono{D:Dm}{H H':Hp}(e:Same H H'):∀{ds:List DV} {xs:List V},RepL D H ds xs->RepL D H' ds xs
 | [],_,h=>by unfold RepL at h ⊢;exact h
 | d::ds,_,h=>by
  unfold RepL at h ⊢
  obtain⟨v,vs,e1,e2,e3⟩:=h
  exact⟨v,vs,e1,Rep.mono e e2,RepL.mono e e3⟩
end
section
variable {D:Dm} {H H':Hp} {v:V} {xs ys:List V} {ds es:List DV} {d:DV}
theorem q0y{i:Int}:Rep D H (.int i) v↔v=.int i:=by unfold Rep;exact Iff.rfl
theorem q4c{i:Bool}:Rep D H (.bl i) v↔v=.bl i:=by unfold Rep;exact Iff.rfl
theorem q2t{i:Str}:Rep D H (.str i) v↔(v=.str i/\i.length<=sizeLine):=by unfold Rep;exact Iff.rfl
theorem q4A:Rep D H .non v↔v=.non:=by unfold Rep;exact Iff.rfl
theorem q0H:Rep D H (.tup ds) v↔∃a xs,v=.ref a/\SqT D.K H a xs/\RepL D H ds xs:=by unfold Rep;exact Iff.rfl
theorem q0G:Rep D H (.lst ds) v↔∃a xs,v=.ref a/\H a=some (.lst xs)/\RepL D H ds xs:=by unfold Rep;exact Iff.rfl
theorem z4z{x:Str}:Rep D H (.fn x) v↔∃f,v=.ref f/\D.mg x=some (.ref f):=by unfold Rep;exact Iff.rfl
theorem q2v{ns:List Int}:Rep D H (.scr ns) v↔∃a,v=.ref a/\SqS D.K H a (ns.map V.int):=by unfold Rep;exact Iff.rfl
theorem q3j{ks:List DKey}{vs:List DV}:Rep D H (.dct ks vs) v↔((∃a o kvs,v=.ref a/\H a=some (.frz o (.dK kvs))/\kvs.map (λp=>dKey p.1)=ks/\RepL D H vs (kvs.map (·.2)))\/∃a o kvs,v=.ref a/\H a=some (.frz o (.dT kvs))/\kvs.map (λp=>DKey.t p.1)=ks/\RepL D H vs (kvs.map (·.2))):=by unfold Rep;exact Iff.rfl
theorem q0x:RepL D H [] xs↔xs=[]:=by unfold RepL;exact Iff.rfl
theorem q0j:RepL D H (d::ds) xs↔∃v vs,xs=v::vs/\Rep D H d v/\RepL D H ds vs:=by
 constructor
 ·intro h;unfold RepL at h;exact h
 ·intro h;unfold RepL;exact h
end
theorem RepL.length{D:Dm}{H:Hp}:∀{ds:List DV} {xs:List V},RepL D H ds xs->xs.length=ds.length
 | [],_,h=>by rw[q0x.mp h];rfl
 | d::ds,_,h=>by
  obtain⟨v,vs,e1,_,e3⟩:=q0j.mp h
  rw[e1,List.length_cons,List.length_cons,RepL.length e3]
theorem RepL.get{D:Dm}{H:Hp}:∀{ds:List DV} {xs:List V} {i:Nat} {d:DV},RepL D H ds xs->ds[i]? = some d->∃v,xs[i]? = some v/\Rep D H d v
 | [],_,_,_,_,e=>by simp at e
 | d::ds,_,i,d',h,e=>by
  obtain⟨v,vs,e1,e2,e3⟩:=q0j.mp h
  subst e1
  cases i with
  | zero=>simp at e;subst e;exact⟨v,rfl,e2⟩
  | succ i=>simpa using RepL.get (i:=i) e3 (by simpa using e)
theorem RepL.append{D:Dm}{H:Hp}:∀{ds es:List DV} {xs ys:List V},RepL D H ds xs->RepL D H es ys->RepL D H (ds++es) (xs++ys)
 | [],_,_,_,h,h'=>by rw[q0x.mp h];exact h'
 | d::ds,_,_,_,h,h'=>by
  obtain⟨v,vs,e1,e2,e3⟩:=q0j.mp h
  subst e1
  exact q0j.mpr ⟨v,_,rfl,e2,RepL.append e3 h'⟩
theorem RepL.one{D:Dm}{H:Hp}{d:DV}{v:V}(h:Rep D H d v):RepL D H [d] [v]:=q0j.mpr ⟨v,[],rfl,h,q0x.mpr rfl⟩
theorem RepL.take{D:Dm}{H:Hp}:∀{ds:List DV} {xs:List V} (n:Nat),RepL D H ds xs->RepL D H (ds.take n) (xs.take n)
 | _,_,0,_=>q0x.mpr rfl
 | [],_,n+1,h=>by rw[q0x.mp h];exact q0x.mpr rfl
 | d::ds,_,n+1,h=>by
  obtain⟨v,vs,e1,e2,e3⟩:=q0j.mp h
  subst e1
  exact q0j.mpr ⟨v,_,rfl,e2,RepL.take n e3⟩
theorem RepL.drop{D:Dm}{H:Hp}:∀{ds:List DV} {xs:List V} (n:Nat),RepL D H ds xs->RepL D H (ds.drop n) (xs.drop n)
 | _,_,0,h=>h
 | [],_,n+1,h=>by rw[q0x.mp h];exact q0x.mpr rfl
 | d::ds,_,n+1,h=>by
  obtain⟨v,vs,e1,e2,e3⟩:=q0j.mp h
  subst e1
  exact RepL.drop n e3
theorem RepL.set{D:Dm}{H:Hp}{d:DV}{v:V}(q:Rep D H d v):∀{ds:List DV} {xs:List V} (n:Nat),RepL D H ds xs->RepL D H (ds.set n d) (xs.set n v)
 | [],_,n,h=>by rw[q0x.mp h];exact q0x.mpr rfl
 | _::ds,_,0,h=>by
  obtain⟨v,vs,e1,e2,e3⟩:=q0j.mp h
  subst e1
  exact q0j.mpr ⟨_,_,rfl,q,e3⟩
 | _::ds,_,n+1,h=>by
  obtain⟨v,vs,e1,e2,e3⟩:=q0j.mp h
  subst e1
  exact q0j.mpr ⟨_,_,rfl,e2,RepL.set q n e3⟩
theorem RepL.rep{D:Dm}{H:Hp}{ds:List DV}{xs:List V}(h:RepL D H ds xs):∀k:Nat,RepL D H (List.replicate k ds).flatten (List.replicate k xs).flatten
 | 0=>q0x.mpr rfl
 | k+1=>by
  rw[List.replicate_succ,List.replicate_succ,List.flatten_cons,List.flatten_cons]
  exact h.append (RepL.rep h k)
theorem q1M{D:Dm}{H:Hp}:∀(ns:List Int),RepL D H (ns.map DV.int) (ns.map V.int)
 | []=>q0x.mpr rfl
 | n::ns=>q0j.mpr ⟨_,_,rfl,q0y.mpr rfl,q1M ns⟩
def wo(O:List Addr)(H:Hp):Hp:=λb=>if b∈O then none else H b
theorem z8v{O:List Addr}{H:Hp}{b:Addr}(h:b∈O):wo O H b=none:=if_pos h
theorem q0r{O:List Addr}{H:Hp}{b:Addr}(h:b∉O):wo O H b=H b:=if_neg h
theorem q0S{O:List Addr}{H:Hp}{b:Addr}{o:HO}(h:wo O H b=some o):b∉O/\H b=some o:=by
 by_cases hb:b∈O
 ·rw[z8v hb]at h;cases h
 ·rw[q0r hb]at h;exact⟨hb,h⟩
theorem Same.wo{O:List Addr}{H H':Hp}(e:Same H H'):Same (wo O H) (wo O H'):=λb o h=>by
 obtain⟨hb,h⟩:=q0S h
 rw[q0r hb];exact e b o h
theorem q1d{O:List Addr}{H:Hp}:Same (L2.wo O H) H:=λb o h=>(q0S h).2
theorem q0T{O O':List Addr}{H:Hp}(h:∀b∈O',b∈O):Same (L2.wo O H) (L2.wo O' H):=λb o e=>by
 obtain⟨hb,e⟩:=q0S e
 rw[q0r λz=>hb (h b z)];exact e
theorem q0p{H:Hp}{p:Addr}{o:HO}(h:H p=none):Same H (upd H p o):=λb u q=>by rw[q0l (q0z q h)];exact q
structure Hid(O W:List Addr)(H0 H:Hp):Prop where
 ot:∀a∈O++W,H0 a≠none
 same:Same H0 H
 wl:∀a∈W,∃o,H0 a=some o/\mutO o=true
 dj:∀a∈W,a∉O
 om:∀a∈O,∃o,H0 a=some o/\mutO o=true
def Hdn(O:List Addr)(H:Hp):Prop:=∀a∈O,∃o,H a=some o/\mutO o=true
theorem Hdn.ne{O:List Addr}{H:Hp}(h:Hdn O H):∀a∈O,H a≠none:=λa ha q=>by obtain⟨o,e,_⟩:=h a ha;rw[q]at e;cases e
theorem Hid.omS{O W:List Addr}{H0 H H':Hp}(h:Hid O W H0 H)(e:Same H0 H'):Hdn O H':=λa ha=>by obtain⟨o,q,m⟩:=h.om a ha;exact⟨o,e _ _ q,m⟩
theorem Hid.omW{O W:List Addr}{H0 H:Hp}{p:Addr}{x:HO}(h:Hid O W H0 H)(hp:p∈W):Hdn O (upd H0 p x):=λa ha=>by
 obtain⟨o,q,m⟩:=h.om a ha
 exact⟨o,by rw[q0l λz=>h.dj p hp (by rw[←z];exact ha)];exact q,m⟩
theorem Hid.hdO{O W:List Addr}{H0 H:Hp}(h:Hid O W H0 H):Hdn O H:=h.omS h.same
theorem Hid.hdA{O W:List Addr}{H0 H:Hp}(h:Hid O W H0 H):Hdn (O++W) H:=λa ha=>by
 rcases List.mem_append.mp ha with z | z
 ·exact h.hdO a z
 ·obtain⟨o,q,m⟩:=h.wl a z;exact⟨o,h.same _ _ q,m⟩
theorem Hid.mono{O W:List Addr}{H0 H H':Hp}(h:Hid O W H0 H)(e:Same H H'):Hid O W H0 H':=⟨h.ot,h.same.trans e,h.wl,h.dj,h.om⟩
theorem Hid.newOut{O W:List Addr}{H0 H:Hp}(h:Hid O W H0 H){p:Addr}(hp:H p=none):p∉O++W:=λz=>h.ot p z (h.same.free hp)
mutual
theorem Rep.immut{D:Dm}{O W:List Addr}{H:Hp}(hw:∀a∈W,∃o,H a=some o/\mutO o=true):∀{d:DV} {v:V},d.immut=true->Rep D (L2.wo O H) d v->Rep D (L2.wo (O++W) H) d v
 | .non,_,_,h=>by unfold Rep at h ⊢;exact h
 | .bl _,_,_,h=>by unfold Rep at h ⊢;exact h
 | .int _,_,_,h=>by unfold Rep at h ⊢;exact h
 | .str _,_,_,h=>by unfold Rep at h ⊢;exact h
 | .tup ds,_,m,h=>by
  unfold Rep at h ⊢
  obtain⟨a,xs,e1,e2,e3⟩:=h
  have m':DV.immuts ds=true:=by unfold DV.immut at m;exact m
  refine⟨a,xs,e1,?_,RepL.immut hw m' e3⟩
  rcases e2 with(h | ⟨o,h⟩) | h
  ·obtain⟨ha,h⟩:=q0S h
   refine .inl (.inl ?_)
   rw[q0r λz=>?_]
   ·exact h
   ·rcases List.mem_append.mp z with z | z
    ·exact ha z
    ·obtain⟨ys,q,m⟩:=hw a z;rw[h]at q;cases q;cases m
  ·obtain⟨ha,h⟩:=q0S h
   refine .inl (.inr ⟨o,?_⟩)
   rw[q0r λz=>?_]
   ·exact h
   ·rcases List.mem_append.mp z with z | z
    ·exact ha z
    ·obtain⟨ys,q,m⟩:=hw a z;rw[h]at q;cases q;cases m
  ·exact .inr h
 | .lst ds,_,m,_=>by unfold DV.immut at m;cases m
 | .dct _ _,_,m,_=>by unfold DV.immut at m;cases m
 | .exc C,_,_,h=>by
  unfold Rep at h ⊢
  obtain⟨a,C,e1,e2,e3⟩:=h
  obtain⟨ha,h⟩:=q0S e3
  refine⟨a,C,e1,e2,?_⟩
  rw[q0r λz=>?_]
  ·exact h
  ·rcases List.mem_append.mp z with z | z
   ·exact ha z
   ·obtain⟨ys,q,m⟩:=hw a z;rw[h]at q;cases q;cases m
 | .fn _,_,_,h=>by unfold Rep at h ⊢;exact h
 | .scr ns,_,_,h=>by
  unfold Rep at h ⊢
  obtain⟨a,e1,e2⟩:=h
  refine⟨a,e1,?_⟩
  rcases e2 with⟨o,h⟩ | h
  ·obtain⟨ha,h⟩:=q0S h
   refine .inl ⟨o,?_⟩
   rw[q0r λz=>?_]
   ·exact h
   ·rcases List.mem_append.mp z with z | z
    ·exact ha z
    ·obtain⟨ys,q,m⟩:=hw a z;rw[h]at q;cases q;cases m
  ·exact .inr h
theorem RepL.immut{D:Dm}{O W:List Addr}{H:Hp}(hw:∀a∈W,∃o,H a=some o/\mutO o=true):∀{ds:List DV} {xs:List V},DV.immuts ds=true->RepL D (L2.wo O H) ds xs->RepL D (L2.wo (O++W) H) ds xs
 | [],_,_,h=>by unfold RepL at h ⊢;exact h
 | d::ds,_,m,h=>by
  unfold RepL at h ⊢
  obtain⟨v,vs,e1,e2,e3⟩:=h
  unfold DV.immuts at m
  rw[Bool.and_eq_true]at m
  exact⟨v,vs,e1,Rep.immut hw m.1 e2,RepL.immut hw m.2 e3⟩
end
def RepT(D:Dm)(W:List Addr)(Ht H:Hp)(d:DV)(v:V):Prop:=match d with
 | .lst ds=>∃a xs,v=.ref a/\a∈W/\Ht a=some (.lst xs)/\RepL D H ds xs
 | d=>Rep D H d v
theorem RepT.mono{D:Dm}{W:List Addr}{Ht Ht' H H':Hp}{d:DV}{v:V}(et:Same Ht Ht')(e:Same H H')(h:RepT D W Ht H d v):RepT D W Ht' H' d v:=by
 cases d with
 | lst ds=>obtain⟨a,xs,e1,e0,e2,e3⟩:=h;exact⟨a,xs,e1,e0,et _ _ e2,e3.mono e⟩
 | non=>exact Rep.mono (D:=D) (d:=.non) (v:=v) e h
 | bl b=>exact Rep.mono (D:=D) (d:=.bl b) (v:=v) e h
 | int b=>exact Rep.mono (D:=D) (d:=.int b) (v:=v) e h
 | str b=>exact Rep.mono (D:=D) (d:=.str b) (v:=v) e h
 | tup b=>exact Rep.mono (D:=D) (d:=.tup b) (v:=v) e h
 | dct b c=>exact Rep.mono (D:=D) (d:=.dct b c) (v:=v) e h
 | exc b=>exact Rep.mono (D:=D) (d:=.exc b) (v:=v) e h
 | fn b=>exact Rep.mono (D:=D) (d:=.fn b) (v:=v) e h
 | scr b=>exact Rep.mono (D:=D) (d:=.scr b) (v:=v) e h
theorem RepT.rep{D:Dm}{W:List Addr}{Ht H:Hp}{d:DV}{v:V}(e:Same H Ht)(h:RepT D W Ht H d v):Rep D Ht d v:=by
 cases d with
 | lst ds=>obtain⟨a,xs,e1,e0,e2,e3⟩:=h;exact q0G.mpr ⟨a,xs,e1,e2,e3.mono e⟩
 | non=>exact Rep.mono (D:=D) (d:=.non) (v:=v) e h
 | bl b=>exact Rep.mono (D:=D) (d:=.bl b) (v:=v) e h
 | int b=>exact Rep.mono (D:=D) (d:=.int b) (v:=v) e h
 | str b=>exact Rep.mono (D:=D) (d:=.str b) (v:=v) e h
 | tup b=>exact Rep.mono (D:=D) (d:=.tup b) (v:=v) e h
 | dct b c=>exact Rep.mono (D:=D) (d:=.dct b c) (v:=v) e h
 | exc b=>exact Rep.mono (D:=D) (d:=.exc b) (v:=v) e h
 | fn b=>exact Rep.mono (D:=D) (d:=.fn b) (v:=v) e h
 | scr b=>exact Rep.mono (D:=D) (d:=.scr b) (v:=v) e h
def Got(D:Dm)(O W:List Addr)(H0 H:Hp)(d:DV)(c:Cl)(v:V):Prop:=match c with
 | .weak=>Rep D (L2.wo O H) d v
 | .top=>RepT D W (L2.wo O H) (L2.wo (O++W) H) d v
 | .strong=>Rep D (L2.wo (O++W) H) d v
 | .fresh=>∃p xs ds,v=.ref p/\d=.lst ds/\H0 p=none/\H p=some (.lst xs)/\RepL D (L2.wo (p::(O++W)) H) ds xs
 | .ft=>∃t ts p xs ds es,v=.ref t/\d=.tup (.lst ds::es)/\SqT D.K (L2.wo (O++W) H) t (.ref p::ts)/\H0 p=none/\H p=some (.lst xs)/\RepL D (L2.wo (p::(O++W)) H) ds xs/\RepL D (L2.wo (p::(O++W)) H) es ts
section
variable {D:Dm} {O W:List Addr} {H0 H H':Hp} {d:DV} {ds:List DV} {c:Cl} {v:V}
theorem q7k:∀b∈O,b∈O++W:=λ_ h=>List.mem_append_left _ h
theorem Got.mono(h:Got D O W H0 H d c v)(e:Same H H'):Got D O W H0 H' d c v:=by
 cases c with
 | weak=>exact Rep.mono e.wo h
 | top=>exact RepT.mono e.wo e.wo h
 | strong=>exact Rep.mono e.wo h
 | fresh=>
  obtain⟨p,xs,ds,e1,e2,e3,e4,e5⟩:=h
  exact⟨p,xs,ds,e1,e2,e3,e _ _ e4,e5.mono e.wo⟩
 | ft=>
  obtain⟨t,ts,p,xs,ds,es,e1,e2,e0,e3,e4,e5,e6⟩:=h
  exact⟨t,ts,p,xs,ds,es,e1,e2,e.wo.tseq e0,e3,e _ _ e4,e5.mono e.wo,e6.mono e.wo⟩
theorem Got.since{H1:Hp}(h:Got D O W H1 H d c v)(e:Same H0 H1):Got D O W H0 H d c v:=by
 cases c with
 | weak=>exact h
 | top=>exact h
 | strong=>exact h
 | fresh=>
  obtain⟨p,xs,ds,e1,e2,e3,e4,e5⟩:=h
  exact⟨p,xs,ds,e1,e2,e.free e3,e4,e5⟩
 | ft=>
  obtain⟨t,ts,p,xs,ds,es,e1,e2,e0,e3,e4,e5,e6⟩:=h
  exact⟨t,ts,p,xs,ds,es,e1,e2,e0,e.free e3,e4,e5,e6⟩
theorem Got.ft(h:Got D O W H0 H d .ft v)(hd:Hid O W H0 H):Rep D (L2.wo (O++W) H) d v:=by
 obtain⟨t,ts,p,xs,ds,es,e1,e2,e0,e3,e4,e5,e6⟩:=h
 have hp:p∉O++W:=λz=>hd.ot p z e3
 have up:Same (L2.wo (p::(O++W)) H) (L2.wo (O++W) H):=q0T λb hb=>List.mem_cons_of_mem _ hb
 rw[e2]
 exact q0H.mpr ⟨t,_,e1,e0,q0j.mpr ⟨_,_,rfl,q0G.mpr ⟨p,xs,rfl,by rw[q0r hp];exact e4,e5.mono up⟩,e6.mono up⟩⟩
theorem Got.strong(h:Got D O W H0 H d .fresh v)(hd:Hid O W H0 H):Rep D (L2.wo (O++W) H) d v:=by
 obtain⟨p,xs,ds,e1,e2,e3,e4,e5⟩:=h
 have hp:p∉O++W:=λz=>hd.ot p z e3
 rw[e2]
 exact q0G.mpr ⟨p,xs,e1,by rw[q0r hp];exact e4,e5.mono (q0T λb hb=>List.mem_cons_of_mem _ hb)⟩
theorem Got.weak(h:Got D O W H0 H d c v)(hd:Hid O W H0 H):Rep D (L2.wo O H) d v:=by
 cases c with
 | weak=>exact h
 | top=>exact RepT.rep (q0T q7k) h
 | strong=>exact Rep.mono (q0T q7k) h
 | fresh=>exact Rep.mono (q0T q7k) (h.strong hd)
 | ft=>exact Rep.mono (q0T q7k) (h.ft hd)
theorem Got.all(h:Got D O W H0 H d c v)(hd:Hid O W H0 H):Rep D H d v:=Rep.mono q1d (h.weak hd)
theorem Got.stro(h:Got D O W H0 H d c v)(hd:Hid O W H0 H)(hs:L2.stro d c=true):Rep D (L2.wo (O++W) H) d v:=by
 cases c with
 | strong=>exact h
 | fresh=>exact h.strong hd
 | ft=>exact h.ft hd
 | weak=>exact Rep.immut (λa ha=>by obtain⟨xs,e,m⟩:=hd.wl a ha;exact⟨xs,hd.same _ _ e,m⟩) hs (h.weak hd)
 | top=>exact Rep.immut (λa ha=>by obtain⟨xs,e,m⟩:=hd.wl a ha;exact⟨xs,hd.same _ _ e,m⟩) hs (h.weak hd)
theorem Got.items(h:Got D O W H0 H (.lst ds) c v)(hd:Hid O W H0 H)(hc:c ≠ .weak):∃a xs,v=.ref a/\H a=some (.lst xs)/\RepL D (L2.wo (O++W) H) ds xs:=by
 cases c with
 | weak=>exact absurd rfl hc
 | top=>
  obtain⟨a,xs,e1,e0,e2,e3⟩:=h
  exact⟨a,xs,e1,q1d _ _ e2,e3⟩
 | strong=>
  obtain⟨a,xs,e1,e2,e3⟩:=q0G.mp h
  exact⟨a,xs,e1,q1d _ _ e2,e3⟩
 | fresh=>
  obtain⟨a,xs,e1,e2,e3⟩:=q0G.mp (h.strong hd)
  exact⟨a,xs,e1,q1d _ _ e2,e3⟩
 | ft=>
  obtain⟨a,xs,e1,e2,e3⟩:=q0G.mp (h.ft hd)
  exact⟨a,xs,e1,q1d _ _ e2,e3⟩
theorem Got.itemsT(h:Got D O W H0 H (.tup ds) c v)(hd:Hid O W H0 H)(hc:c ≠ .weak):∃a xs,v=.ref a/\SqT D.K H a xs/\RepL D (L2.wo (O++W) H) ds xs:=by
 cases c with
 | weak=>exact absurd rfl hc
 | top=>
  obtain⟨a,xs,e1,e2,e3⟩:=q0H.mp (show Rep D (L2.wo (O++W) H) (.tup ds) v from h)
  exact⟨a,xs,e1,q1d.tseq e2,e3⟩
 | strong=>
  obtain⟨a,xs,e1,e2,e3⟩:=q0H.mp h
  exact⟨a,xs,e1,q1d.tseq e2,e3⟩
 | fresh=>
  obtain⟨p,xs,ds,e1,e2,e3,e4,e5⟩:=h
  cases e2
 | ft=>
  obtain⟨a,xs,e1,e2,e3⟩:=q0H.mp (h.ft hd)
  exact⟨a,xs,e1,q1d.tseq e2,e3⟩
theorem Got.lst(h:Got D O W H0 H (.lst ds) c v)(hd:Hid O W H0 H):∃a xs,v=.ref a/\H a=some (.lst xs)/\RepL D (L2.wo O H) ds xs:=by
 obtain⟨a,xs,e1,e2,e3⟩:=q0G.mp (h.weak hd)
 exact⟨a,xs,e1,q1d _ _ e2,e3⟩
theorem Got.tup(h:Got D O W H0 H (.tup ds) c v)(hd:Hid O W H0 H):∃a xs,v=.ref a/\SqT D.K H a xs/\RepL D (L2.wo O H) ds xs:=by
 obtain⟨a,xs,e1,e2,e3⟩:=q0H.mp (h.weak hd)
 exact⟨a,xs,e1,q1d.tseq e2,e3⟩
def q1N(O W:List Addr):Cl->List Addr
 | .weak=>O
 | _=>O++W
theorem Got.lstC(h:Got D O W H0 H (.lst ds) c v)(hd:Hid O W H0 H):∃a xs,v=.ref a/\H a=some (.lst xs)/\RepL D (L2.wo (q1N O W c) H) ds xs:=by
 cases c with
 | weak=>exact h.lst hd
 | top=>exact h.items hd (by intro z;cases z)
 | strong=>exact h.items hd (by intro z;cases z)
 | fresh=>exact h.items hd (by intro z;cases z)
 | ft=>exact h.items hd (by intro z;cases z)
theorem Got.tupC(h:Got D O W H0 H (.tup ds) c v)(hd:Hid O W H0 H):∃a xs,v=.ref a/\SqT D.K H a xs/\RepL D (L2.wo (q1N O W c) H) ds xs:=by
 cases c with
 | weak=>exact h.tup hd
 | top=>exact h.itemsT hd (by intro z;cases z)
 | strong=>exact h.itemsT hd (by intro z;cases z)
 | fresh=>exact h.itemsT hd (by intro z;cases z)
 | ft=>exact h.itemsT hd (by intro z;cases z)
theorem Got.item(h:Rep D (L2.wo (q1N O W c) H) d v):Got D O W H0 H d c.item v:=by
 cases c<;>exact h
theorem q0F{i:Int}(hc:c ≠ .fresh:=by intro z;cases z)(hc':c ≠ .ft:=by intro z;cases z):Got D O W H0 H (.int i) c (.int i):=by
 have q:∀H,Rep D H (.int i) (.int i):=λH=>q0y.mpr rfl
 cases c with
 | fresh=>exact absurd rfl hc
 | ft=>exact absurd rfl hc'
 | weak=>exact q (L2.wo O H)
 | strong=>exact q (L2.wo (O++W) H)
 | top=>exact q (L2.wo (O++W) H)
theorem q3u{i:Bool}:Got D O W H0 H (.bl i) .strong (.bl i):=(q4c.mpr rfl:Rep D (L2.wo (O++W) H) (.bl i) (.bl i))
theorem z5K:Got D O W H0 H .non .strong .non:=(q4A.mpr rfl:Rep D (L2.wo (O++W) H) .non .non)
theorem Got.int{i:Int}(h:Got D O W H0 H (.int i) c v)(hd:Hid O W H0 H):v=.int i:=q0y.mp (h.weak hd)
theorem Got.bl{i:Bool}(h:Got D O W H0 H (.bl i) c v)(hd:Hid O W H0 H):v=.bl i:=q4c.mp (h.weak hd)
theorem Got.str{x:Str}(h:Got D O W H0 H (.str x) c v)(hd:Hid O W H0 H):v=.str x/\x.length<=sizeLine:=q2t.mp (h.weak hd)
theorem q2e{p:Addr}{xs:List V}(hd:Hid O W H0 H)(hp:H p=none)(r:RepL D (L2.wo (O++W) H) ds xs):Got D O W H0 (upd H p (.lst xs)) (.lst ds) .fresh (.ref p):=by
 refine⟨p,xs,ds,rfl,rfl,hd.same.free hp,q0t,r.mono λb o e=>?_⟩
 obtain⟨hb,e⟩:=q0S e
 have hbp:b≠p:=q0z e hp
 rw[q0r (by intro z;rcases List.mem_cons.mp z with z | z;exact hbp z;exact hb z),q0l hbp]
 exact e
theorem q6o{p:Addr}{xs:List V}(hd:Hid O W H0 H)(hp:H p=none)(r:RepL D (L2.wo O H) ds xs):Got D O W H0 (upd H p (.lst xs)) (.lst ds) .weak (.ref p):=by
 have hpo:p∉O:=λz=>hd.newOut hp (List.mem_append_left _ z)
 exact q0G.mpr ⟨p,xs,rfl,by rw[q0r hpo];exact q0t,r.mono (q0p hp).wo⟩
theorem q4n{p:Addr}{xs:List V}(hd:Hid O W H0 H)(hp:H p=none)(r:RepL D (L2.wo (q1N O W c) H) ds xs):Got D O W H0 (upd H p (.lst xs)) (.lst ds) (Cl.anew c c) (.ref p):=by
 cases c with
 | weak=>exact q6o hd hp r
 | top=>exact q2e hd hp r
 | strong=>exact q2e hd hp r
 | fresh=>exact q2e hd hp r
 | ft=>exact q2e hd hp r
theorem q4Q{p:Addr}{xs:List V}(hd:Hid O W H0 H)(hp:H p=none)(r:RepL D (L2.wo (O++W) H) ds xs):Got D O W H0 (upd H p (.tup xs)) (.tup ds) .strong (.ref p):=
 q0H.mpr ⟨p,xs,rfl,SqT.of (by rw[q0r (hd.newOut hp)];exact q0t),r.mono (q0p hp).wo⟩
theorem q8Z{p:Addr}{xs:List V}(hd:Hid O W H0 H)(hp:H p=none)(r:RepL D (L2.wo O H) ds xs):Got D O W H0 (upd H p (.tup xs)) (.tup ds) .weak (.ref p):=
 q0H.mpr ⟨p,xs,rfl,SqT.of (by rw[q0r λz=>hd.newOut hp (List.mem_append_left _ z)];exact q0t),r.mono (q0p hp).wo⟩
theorem q8n{p:Addr}{xs:List V}(hd:Hid O W H0 H)(hp:H p=none)(r:RepL D (L2.wo (q1N O W c) H) ds xs):Got D O W H0 (upd H p (.tup xs)) (.tup ds) c.item (.ref p):=by
 cases c with
 | weak=>exact q8Z hd hp r
 | top=>exact q4Q hd hp r
 | strong=>exact q4Q hd hp r
 | fresh=>exact q4Q hd hp r
 | ft=>exact q4Q hd hp r
end
inductive GotL (D:Dm) (O W:List Addr) (H0 H:Hp):List (DV×Cl)->List V->Prop where
 | nil:GotL D O W H0 H [] []
 | cons {d:DV} {c:Cl} {v:V} {l:List (DV×Cl)} {vs:List V}:Got D O W H0 H d c v->GotL D O W H0 H l vs->GotL D O W H0 H ((d,c)::l) (v::vs)
section
variable {D:Dm} {O W:List Addr} {H0 H H':Hp}
theorem GotL.repL{l:List (DV×Cl)}{vs:List V}(h:GotL D O W H0 H l vs)(hd:Hid O W H0 H):RepL D (L2.wo O H) (l.map (·.1)) vs:=by
 induction h with
 | nil=>exact q0x.mpr rfl
 | cons h _ ih=>exact q0j.mpr ⟨_,_,rfl,h.weak hd,ih⟩
theorem GotL.stros{l:List (DV×Cl)}{vs:List V}(h:GotL D O W H0 H l vs)(hd:Hid O W H0 H)(hs:L2.stros l=true):RepL D (L2.wo (O++W) H) (l.map (·.1)) vs:=by
 induction h with
 | nil=>exact q0x.mpr rfl
 | cons h _ ih=>
  unfold L2.stros at hs
  rw[List.all_cons,Bool.and_eq_true]at hs
  exact q0j.mpr ⟨_,_,rfl,h.stro hd hs.1,ih hs.2⟩
theorem GotL.length{l:List (DV×Cl)}{vs:List V}(h:GotL D O W H0 H l vs):vs.length=l.length:=by
 induction h with
 | nil=>rfl
 | cons _ _ ih=>rw[List.length_cons,List.length_cons,ih]
theorem GotL.strong{l:List (DV×Cl)}{vs:List V}(h:GotL D O W H0 H l vs)(hd:Hid O W H0 H)(hs:(l.all λp=>p.2 == .strong||p.2 == .fresh)=true):RepL D (L2.wo (O++W) H) (l.map (·.1)) vs:=by
 refine h.stros hd ?_
 unfold L2.stros
 rw[List.all_eq_true]at hs ⊢
 intro p hp
 have:=hs p hp
 unfold L2.stro
 cases e:p.2<;>rw[e]at this<;>first | rfl | cases this
theorem GotL.one{d:DV}{c:Cl}{vs:List V}(h:GotL D O W H0 H [(d,c)] vs):∃v,vs=[v]/\Got D O W H0 H d c v:=by
 cases h with
 | cons h t=>cases t;exact⟨_,rfl,h⟩
theorem GotL.two{d d':DV}{c c':Cl}{vs:List V}(h:GotL D O W H0 H [(d,c),(d',c')] vs):∃v v',vs=[v,v']/\Got D O W H0 H d c v/\Got D O W H0 H d' c' v':=by
 cases h with
 | cons h t=>obtain⟨v',e,h'⟩:=t.one;subst e;exact⟨_,_,rfl,h,h'⟩
theorem GotL.three{d d' d2:DV}{c c' c2:Cl}{vs:List V}(h:GotL D O W H0 H [(d,c),(d',c'),(d2,c2)] vs):∃v v' v2,vs=[v,v',v2]/\Got D O W H0 H d c v/\Got D O W H0 H d' c' v'/\Got D O W H0 H d2 c2 v2:=by
 cases h with
 | cons h t=>obtain⟨v',v2,e,h',h2⟩:=t.two;subst e;exact⟨_,_,_,rfl,h,h',h2⟩
end
def O2At(H:Hp)(W:List Addr)(p:Addr)(L:List (Addr×List Int)):Prop:=p∈W/\H p=some (.lst (L.map λq=>.ref q.1))/\(∀q∈L,q.1∈W/\H q.1=some (.lst (q.2.map V.int)))/\(p::L.map (·.1)).Nodup
def o2D(L:List (Addr×List Int)):DV:=.lst (L.map λq=>.lst (q.2.map DV.int))
theorem O2At.mono{H H':Hp}{W:List Addr}{p:Addr}{L:List (Addr×List Int)}(h:O2At H W p L)(e:Same H H'):O2At H' W p L:=⟨h.1,e _ _ h.2.1,λq hq=>⟨(h.2.2.1 q hq).1,e _ _ (h.2.2.1 q hq).2⟩,h.2.2.2⟩
theorem O2At.sub{H:Hp}{W W':List Addr}{p:Addr}{L:List (Addr×List Int)}(h:O2At H W p L)(e:∀a∈p::L.map (·.1),a∈W->a∈W'):O2At H W' p L:=
 ⟨e _ (List.mem_cons_self ..) h.1,h.2.1,λq hq=>⟨e _ (List.mem_cons_of_mem _ (List.mem_map.mpr ⟨q,hq,rfl⟩)) (h.2.2.1 q hq).1,(h.2.2.1 q hq).2⟩,h.2.2.2⟩
theorem O2At.dom{H:Hp}{W:List Addr}{p a:Addr}{L:List (Addr×List Int)}(h:O2At H W p L)(ha:a∈p::L.map (·.1)):a∈W/\∃xs,H a=some (.lst xs):=by
 rcases List.mem_cons.mp ha with z | z
 ·rw[z];exact⟨h.1,_,h.2.1⟩
 ·obtain⟨q,hq,rfl⟩:=List.mem_map.mp z
  exact⟨(h.2.2.1 q hq).1,_,(h.2.2.1 q hq).2⟩
theorem O2At.write{H:Hp}{W:List Addr}{p a:Addr}{o:HO}{L:List (Addr×List Int)}(h:O2At H W p L)(ha:a∉p::L.map (·.1)):O2At (upd H a o) W p L:=
 ⟨h.1,by rw[q0l λz=>ha (by rw[←z];exact List.mem_cons_self ..)];exact h.2.1,λq hq=>⟨(h.2.2.1 q hq).1,by rw[q0l λz=>ha (by rw[←z];exact List.mem_cons_of_mem _ (List.mem_map.mpr ⟨q,hq,rfl⟩))];exact(h.2.2.1 q hq).2⟩,h.2.2.2⟩
def odD(L:List (Int×Int)):DV:=.dct (L.map λp=>.i p.1) (L.map λp=>.int p.2)
def odK(L:List (Int×Int)):List (Key×V):=L.map λp=>(.inl p.1,.int p.2)
def oeD(L:List ((Int×Int)×Int)):DV:=.dct (L.map λp=>.t [.inl p.1.1,.inl p.1.2]) (L.map λp=>.int p.2)
def oeK(L:List ((Int×Int)×Int)):List (List Key×V):=L.map λp=>([.inl p.1.1,.inl p.1.2],.int p.2)
def dicO:HO->Bool
 | .dK _=>true
 | .dT _=>true
 | _=>false
def OdOk(d:DV)(o:HO):Prop:=(∃L,d=odD L/\o=.dK (odK L))\/∃L,d=.tup [oeD L]/\o=.dT (oeK L)
theorem OdOk.dic{d:DV}{o:HO}(h:OdOk d o):dicO o=true:=by rcases h with⟨L,_,e⟩ | ⟨L,_,e⟩<;>rw[e]<;>rfl
theorem OdOk.mut{d:DV}{o:HO}(h:OdOk d o):mutO o=true:=by rcases h with⟨L,_,e⟩ | ⟨L,_,e⟩<;>rw[e]<;>rfl
def OdAt(H:Hp)(σ:St)(δ:List Sv)(W:List Addr):Prop:=∀(i:Nat) d,δ[i]? = some (.od d)->(∃a o,OdOk d o/\σ[i]? = some (some (.ref a))/\a∈W/\H a=some o)/\∀(j:Nat) d',δ[j]? = some (.od d')->j=i
theorem OdAt.step{H H':Hp}{σ σ':St}{δ δ':List Sv}{W W':List Addr}(h:OdAt H σ δ W)(hδ:∀(j:Nat) d,δ'[j]? = some (.od d)->δ[j]? = some (.od d)/\σ'[j]? = σ[j]?)(hW:∀a∈W,(∃o,H a=some o/\dicO o=true)->a∈W')(hH:∀a o,a∈W->H a=some o->dicO o=true->H' a=some o):OdAt H' σ' δ' W':=λi d q=>by
 obtain⟨q1,q2⟩:=hδ i d q
 obtain⟨⟨a,L,e0,e1,e2,e3⟩,u⟩:=h i d q1
 exact⟨⟨a,L,e0,by rw[q2];exact e1,hW a e2 ⟨_,e3,e0.dic⟩,hH a _ e2 e3 e0.dic⟩,λj d' z=>u j d' (hδ j d' z).1⟩
theorem q9e{σ:St}{δ:List Sv}{i:Nat}{X:Sv}(x:Option V)(hX:∀d,X ≠ .od d):∀(j:Nat) d,(δ.set i X)[j]? = some (.od d)->δ[j]? = some (.od d)/\(σ.set i x)[j]? = σ[j]?:=λj d h=>by
 have hj:j≠i:=λz=>by
  subst z
  have hl:j<δ.length:=by
   have:=(List.getElem?_eq_some_iff.mp h).1
   rw[List.length_set]at this;exact this
  rw[List.getElem?_set_self hl]at h
  exact hX d (Option.some.inj h)
 rw[List.getElem?_set_ne (Ne.symm hj)]at h ⊢
 exact⟨h,rfl⟩
theorem z2d{σ:St}{δ:List Sv}{i:Nat}{X:Sv}(hX:∀d,X ≠ .od d):∀(j:Nat) d,(δ.set i X)[j]? = some (.od d)->δ[j]? = some (.od d)/\σ[j]? = σ[j]?:=λj d h=>⟨(q9e (σ:=σ) none hX j d h).1,rfl⟩
structure RSt(D:Dm)(H:Hp)(σ:St)(δ:List Sv)(O W:List Addr):Prop where
 val:∀(i:Nat) d,δ[i]? = some (.val d)->∃v,σ[i]? = some (some v)/\Rep D (L2.wo (O++W) H) d v
 own:∀(i:Nat) d,δ[i]? = some (.own d)->∃a xs ds,d=.lst ds/\σ[i]? = some (some (.ref a))/\a∈W/\H a=some (.lst xs)/\RepL D (L2.wo (O++W) H) ds xs
 inj:∀(i j:Nat) a d d',δ[i]? = some (.own d)->δ[j]? = some (.own d')->σ[i]? = some (some (.ref a))->σ[j]? = some (some (.ref a))->i=j
 ot:∀(i:Nat) d,δ[i]? = some (.ot d)->(∃t ts p xs ds es,d=.tup (.lst ds::es)/\σ[i]? = some (some (.ref t))/\SqT D.K (L2.wo (O++W) H) t (.ref p::ts)/\p∈W/\H p=some (.lst xs)/\RepL D (L2.wo (O++W) H) ds xs/\RepL D (L2.wo (O++W) H) es ts /\
  ∀(j:Nat) d',δ[j]? = some (.own d')->σ[j]? ≠ some (some (.ref p)))/\∀(j:Nat) d',δ[j]? = some (.ot d')->j=i
 o2:∀(i:Nat) d,δ[i]? = some (.o2 d)->(∃p L,d=o2D L/\σ[i]? = some (some (.ref p))/\O2At H W p L/\∀(j:Nat) d' a,δ[j]? = some (.own d')->σ[j]? = some (some (.ref a))->a∉p::L.map (·.1))/\(∀(j:Nat) d',δ[j]? = some (.o2 d')->j=i)/\∀(j:Nat) d',δ[j]? ≠ some (.ot d')
 od:OdAt H σ δ W
 len:σ.length=δ.length
 hid:Hid O W H H
theorem Hid.later{O W:List Addr}{H H':Hp}(h:Hid O W H H)(e:Same H H'):Hid O W H' H':=⟨λa ha q=>h.ot a ha (e.free q),Same.refl _,λa ha=>by obtain⟨xs,q,m⟩:=h.wl a ha;exact⟨xs,e _ _ q,m⟩,h.dj,h.omS e⟩
theorem RSt.mono{D:Dm}{H H':Hp}{σ:St}{δ:List Sv}{O W:List Addr}(R:RSt D H σ δ O W)(e:Same H H'):RSt D H' σ δ O W where
 val:=λi d h=>by obtain⟨v,e1,e2⟩:=R.val i d h;exact⟨v,e1,e2.mono e.wo⟩
 own:=λi ds h=>by obtain⟨a,xs,ds,e0,e1,e2,e3,e4⟩:=R.own i ds h;exact⟨a,xs,ds,e0,e1,e2,e _ _ e3,e4.mono e.wo⟩
 inj:=R.inj
 ot:=λi d h=>by
  obtain⟨⟨t,ts,p,xs,ds,es,e0,e1,e2,e3,e4,e5,e6,e7⟩,u⟩:=R.ot i d h
  exact⟨⟨t,ts,p,xs,ds,es,e0,e1,e.wo.tseq e2,e3,e _ _ e4,e5.mono e.wo,e6.mono e.wo,e7⟩,u⟩
 o2:=λi d h=>by
  obtain⟨⟨p,L,e0,e1,e2,e3⟩,u,n⟩:=R.o2 i d h
  exact⟨⟨p,L,e0,e1,e2.mono e,e3⟩,u,n⟩
 od:=R.od.step (λj d h=>⟨h,rfl⟩) (λ_ h _=>h) (λa kvs _ h _=>e _ _ h)
 len:=R.len
 hid:=R.hid.later e
def Post(D:Dm)(E:St->XK)(σ:St)(O W:List Addr)(H0 H:Hp)(Q:VK):Re->Prop
 | .ok d c=>∀v H',Same H H'->Got D O W H0 H' d c v->Q v H'
 | .ex c=>∀H' C,D.mg c=some C->Same H H'->E σ C none H'
def dE(D:Dm)(E:St->XK)(δ:List Sv)(r:Re):TE:=λσ H Q=>∃O W,RSt D H σ δ O W/\Post D E σ O W H H Q r
def z9Z(D:Dm)(E:St->XK)(σ:St)(O W:List Addr)(H0 H:Hp)(Q:List V->Hp->Prop):Rs->Prop
 | .ok l=>∀vs H',Same H H'->GotL D O W H0 H' l vs->Q vs H'
 | .ex c=>∀H' C,D.mg c=some C->Same H H'->E σ C none H'
def dA(D:Dm)(E:St->XK)(δ:List Sv)(r:Rs):TA:=λσ H Q=>∃O W,RSt D H σ δ O W/\z9Z D E σ O W H H Q r
def z3d(D:Dm)(E:St->XK)(σ:St)(H:Hp)(Q:Bool->Hp->Prop):Rt->Prop
 | .ok b=>∀H',Same H H'->Q b H'
 | .ex c=>∀H' C,D.mg c=some C->Same H H'->E σ C none H'
def dT(D:Dm)(E:St->XK)(δ:List Sv)(r:Rt):TT:=λσ H Q=>∃O W,RSt D H σ δ O W/\z3d D E σ H Q r
theorem Post.step{D:Dm}{E:St->XK}{σ:St}{O W:List Addr}{H0 H H1:Hp}{Q:VK}{r:Re}(h:Post D E σ O W H0 H Q r)(e:Same H H1):Post D E σ O W H0 H1 Q r:=by
 cases r with
 | ok d c=>exact λv H' s g=>h v H' (e.trans s) g
 | ex c=>exact λH' C m s=>h H' C m (e.trans s)
theorem Post.later{D:Dm}{E:St->XK}{σ:St}{O W:List Addr}{H0 H H1:Hp}{Q:VK}{r:Re}(h:Post D E σ O W H0 H Q r)(e:Same H H1)(e0:Same H0 H1):Post D E σ O W H1 H1 Q r:=by
 cases r with
 | ok d c=>exact λv H' s g=>h v H' (e.trans s) (g.since e0)
 | ex c=>exact λH' C m s=>h H' C m (e.trans s)
theorem GotL.since{D:Dm}{O W:List Addr}{H0 H1 H:Hp}{l:List (DV×Cl)}{vs:List V}(h:GotL D O W H1 H l vs)(e:Same H0 H1):GotL D O W H0 H l vs:=by
 induction h with
 | nil=>exact .nil
 | cons g _ ih=>exact .cons (g.since e) ih
theorem z3d.later{D:Dm}{E:St->XK}{σ:St}{H H1:Hp}{Q:Bool->Hp->Prop}{r:Rt}(h:z3d D E σ H Q r)(e:Same H H1):z3d D E σ H1 Q r:=by
 cases r with
 | ok b=>exact λH' s=>h H' (e.trans s)
 | ex c=>exact λH' C m s=>h H' C m (e.trans s)
theorem PE.weak{X:Cx}{e:Expr}{t t':TE}(h:PE X e t)(k:∀σ H Q,t' σ H Q->t σ H Q):PE X e t':=λpins s σ H Q I q=>h pins s σ H Q I (k σ H Q q)
theorem PT.weak{X:Cx}{e:Expr}{t t':TT}(h:PT X e t)(k:∀σ H Q,t' σ H Q->t σ H Q):PT X e t':=λpins s σ H Q I q=>h pins s σ H Q I (k σ H Q q)
theorem PW.weak{X:Cx}{e:Expr}{t t':TT}(h:PW X e t)(k:∀σ H Q,t' σ H Q->t σ H Q):PW X e t':=λwhole pins s σ H Q I q=>h whole pins s σ H Q I (k σ H Q q)
theorem PA.weak{X:Cx}{e:List Expr}{t t':TA}(h:PA X e t)(k:∀σ H Q,t' σ H Q->t σ H Q):PA X e t':=λpos pins s σ H Q I q=>h pos pins s σ H Q I (k σ H Q q)
theorem PS.weak{X:Cx}{e:Stmt}{t t':TS}(h:PS X e t)(k:∀D σ H,t' D σ H->t D σ H):PS X e t':=λpins s σ H D I q=>h pins s σ H D I (k D σ H q)
theorem PSs.weak{X:Cx}{e:List Stmt}{t t':TS}(h:PSs X e t)(k:∀D σ H,t' D σ H->t D σ H):PSs X e t':=λpins s σ H D I q=>h pins s σ H D I (k D σ H q)
theorem q5H{X:Cx}{e:Expr}:PW X e (λ_ _ _=>False):=λ_ _ _ _ _ _ _ h=>h.elim
theorem q5Q{X:Cx}{e:Expr}:PT X e (λ_ _ _=>False):=λ_ _ _ _ _ _ h=>h.elim
theorem q1c{X:Cx}{e:Expr}:PE X e (λ_ _ _=>False):=λ_ _ _ _ _ _ h=>h.elim
theorem z0T{X:Cx}{e:List Expr}:PA X e (λ_ _ _=>False):=λ_ _ _ _ _ _ _ h=>h.elim
end L2
end
noncomputable section
namespace L2
open PySem PySem.Spec PyProof.Rows
theorem q1Y{n:Nat}(h:n<=mostLen):n<=sizeLine:=Nat.le_trans h (by decide)
section
variable {X:Cx} {E:St->XK} {δ:List Sv} {a b c e:Expr} {es:List Expr}
theorem z4O{r:V->Hp->VK->Prop}{k:DV->Cl->Option Re}{ra:Option Re}{re:Re}(hop:∀ta,PE X a ta->PE X e (tUn r ta))(ha:∀q,ra=some q->PE X a (dE X.D E δ q))(h:Re.thn ra k=some re)
  (hr:∀O W H0 H x Q dx cx σ,k dx cx=some re->Hid O W H0 H->Got X.D O W H0 H dx cx x->Post X.D E σ O W H0 H Q re->r x H Q):PE X e (dE X.D E δ re):=by
 cases hra:ra with
 | none=>rw[hra]at h;cases h
 | some q=>
  rw[hra]at h
  have A:=ha q hra
  cases q with
  | ex c=>
   cases h
   exact(hop _ A).weak λσ H Q ⟨O,W,R,p⟩=>⟨O,W,R,p⟩
  | ok dx cx=>
   have h':k dx cx=some re:=h
   exact(hop _ A).weak λσ H Q ⟨O,W,R,p⟩=>⟨O,W,R,λx H1 s1 g1=>hr O W H H1 x Q dx cx σ h' (R.hid.mono s1) g1 (p.step s1)⟩
theorem q8o{r:R2}{k:DV->Cl->DV->Cl->Option Re}{ra rb:Option Re}{re:Re}(ha:∀q,ra=some q->PE X a (dE X.D E δ q))(hb:∀q,rb=some q->PE X b (dE X.D E δ q))
  (h:(Re.thn ra λx cx=>Re.thn rb λy cy=>k x cx y cy)=some re)
  (hr:∀O W H0 H x y Q dx cx dy cy σ,k dx cx dy cy=some re->Hid O W H0 H->Got X.D O W H0 H dx cx x->Got X.D O W H0 H dy cy y->Post X.D E σ O W H0 H Q re->r x y H Q) :
  ∃ta tb,PE X a ta/\PE X b tb/\∀σ H Q,dE X.D E δ re σ H Q->tOp r ta tb σ H Q:=by
 cases hra:ra with
 | none=>rw[hra]at h;cases h
 | some q=>
  rw[hra]at h
  have A:=ha q hra
  cases q with
  | ex c=>
   cases h
   exact⟨_,_,A,q1c,λσ H Q ⟨O,W,R,p⟩=>⟨O,W,R,p⟩⟩
  | ok dx cx=>
   have h':(Re.thn rb λy cy=>k dx cx y cy)=some re:=h
   cases hrb:rb with
   | none=>rw[hrb]at h';cases h'
   | some q=>
    rw[hrb]at h'
    have B:=hb q hrb
    cases q with
    | ex c=>
     cases h'
     exact⟨_,_,A,B,λσ H Q ⟨O,W,R,p⟩=>⟨O,W,R,λx H1 s1 g1=>⟨O,W,R.mono s1,λH' C m s=>p H' C m (s1.trans s)⟩⟩⟩
    | ok dy cy=>
     have h2:k dx cx dy cy=some re:=h'
     exact⟨_,_,A,B,λσ H Q ⟨O,W,R,p⟩=>⟨O,W,R,λx H1 s1 g1=>⟨O,W,R.mono s1,λy H2 s2 g2=>
      hr O W H H2 x y Q dx cx dy cy σ h2 ((R.hid.mono s1).mono s2) (g1.mono s2) (g2.since s1) (p.step (s1.trans s2))⟩⟩⟩
theorem z0j{r:R2}{k:DV->Cl->DV->Cl->Option Re}{ra rb:Option Re}{re:Re}(hop:∀ta tb,PE X a ta->PE X b tb->PE X e (tOp r ta tb))(ha:∀q,ra=some q->PE X a (dE X.D E δ q))(hb:∀q,rb=some q->PE X b (dE X.D E δ q))
  (h:(Re.thn ra λx cx=>Re.thn rb λy cy=>k x cx y cy)=some re)
  (hr:∀O W H0 H x y Q dx cx dy cy σ,k dx cx dy cy=some re->Hid O W H0 H->Got X.D O W H0 H dx cx x->Got X.D O W H0 H dy cy y->Post X.D E σ O W H0 H Q re->r x y H Q):PE X e (dE X.D E δ re):=by
 obtain⟨ta,tb,A,B,q⟩:=q8o ha hb h hr
 exact(hop _ _ A B).weak q
theorem q3E{r:List V->Hp->VK->Prop}{k:List (DV×Cl)->Option Re}{ra:Option Rs}{re:Re}(hop:∀t,PA X es t->PE X e (tCB r t))(ha:∀q,ra=some q->PA X es (dA X.D E δ q))(h:Rs.thn ra k=some re)
  (hr:∀O W H0 H vs Q l σ,k l=some re->Hid O W H0 H->GotL X.D O W H0 H l vs->Post X.D E σ O W H0 H Q re->r vs H Q):PE X e (dE X.D E δ re):=by
 cases hra:ra with
 | none=>rw[hra]at h;cases h
 | some q=>
  rw[hra]at h
  have A:=ha q hra
  cases q with
  | ex c=>
   cases h
   exact(hop _ A).weak λσ H Q ⟨O,W,R,p⟩=>⟨O,W,R,p⟩
  | ok l=>
   have h':k l=some re:=h
   exact(hop _ A).weak λσ H Q ⟨O,W,R,p⟩=>⟨O,W,R,λvs H1 s1 g1=>hr O W H H1 vs Q l σ h' (R.hid.mono s1) g1 (p.step s1)⟩
end
theorem q7y{D:Dm}{H:Hp}:∀{L:List (Addr×List Int)},(∀q∈L,H q.1=some (.lst (q.2.map V.int)))->RepL D H (L.map λq=>.lst (q.2.map DV.int)) (L.map λq=>.ref q.1)
 | [],_=>q0x.mpr rfl
 | q::L,h=>q0j.mpr ⟨_,_,rfl,q0G.mpr ⟨q.1,_,rfl,h q (List.mem_cons_self ..),q1M _⟩,q7y λq' hq=>h q' (List.mem_cons_of_mem _ hq)⟩
section
variable {X:Cx} {E:St->XK} {δ:List Sv} {pos:Pos}
theorem z6H{i:Nat}{x:Str}{r:Re}(hN:X.N[i]? = some x)(hv:Vis X.env.scope x)(hd:(x==("__debug__" : Str))=false)(hcd:(x==("__classdict__" : Str))=false)
  (h:(match δ[i]? with | some (.val d)=>some (Re.ok d .strong) | some (.own d)=>some (.ok d .top) | some (.ot d)=>some (.ok d .weak) | some (.o2 d)=>some (.ok d .weak) | _=>none)=some r):PE X (.Name x pos) (dE X.D E δ r):=
 (q3V hN hv hd hcd).weak λσ H Q ⟨O,W,R,p⟩=>by
  split at h
  ·rename_i d q
   cases h
   obtain⟨v,e1,e2⟩:=R.val i d q
   exact⟨v,e1,p v H (Same.refl H) e2⟩
  ·rename_i d q
   cases h
   obtain⟨a,xs,ds,e0,e1,e2,e3,e4⟩:=R.own i d q
   subst e0
   refine⟨.ref a,e1,p _ H (Same.refl H) ⟨a,xs,rfl,e2,?_,e4⟩⟩
   rw[q0r (R.hid.dj a e2)]
   exact e3
  ·rename_i d q
   cases h
   obtain⟨⟨t,ts,p1,xs,ds,es,e0,e1,e2,e3,e4,e5,e6,e7⟩,_⟩:=R.ot i d q
   subst e0
   have up:Same (L2.wo (O++W) H) (L2.wo O H):=q0T q7k
   refine⟨.ref t,e1,p _ H (Same.refl H) (q0H.mpr ⟨t,_,rfl,up.tseq e2,q0j.mpr ⟨_,_,rfl,q0G.mpr ⟨p1,xs,rfl,?_,e5.mono up⟩,e6.mono up⟩⟩:Rep X.D (L2.wo O H) (.tup (.lst ds::es)) (.ref t))⟩
   rw[q0r (R.hid.dj p1 e3)]
   exact e4
  ·rename_i d q
   cases h
   obtain⟨⟨a,L,e0,e1,e2,_⟩,_,_⟩:=R.o2 i d q
   subst e0
   refine⟨.ref a,e1,p _ H (Same.refl H) (q0G.mpr ⟨a,_,rfl,by rw[q0r (R.hid.dj a e2.1)];exact e2.2.1,?_⟩:Rep X.D (L2.wo O H) (o2D L) (.ref a))⟩
   exact q7y λq hq=>by rw[q0r (R.hid.dj q.1 (e2.2.2.1 q hq).1)];exact(e2.2.2.1 q hq).2
  ·cases h
theorem z5B{i:Int}{j:Nat}:PE X (.Constant (.int i) j pos) (dE X.D E δ (.ok (.int i) .strong)):=z7Q.weak λσ H Q ⟨O,W,R,p⟩=>p _ H (Same.refl H) q0F
theorem z8C{i:Bool}{j:Nat}:PE X (.Constant (.bool i) j pos) (dE X.D E δ (.ok (.bl i) .strong)):=y0i.weak λσ H Q ⟨O,W,R,p⟩=>p _ H (Same.refl H) q3u
theorem z6L{i:Str}{j:Nat}(h:i.length<=sizeLine):PE X (.Constant (.str i) j pos) (dE X.D E δ (.ok (.str i) .strong)):=z9N.weak λσ H Q ⟨O,W,R,p⟩=>p _ H (Same.refl H) (q2t.mpr ⟨rfl,h⟩:Rep X.D (L2.wo (O++W) H) (.str i) (.str i))
theorem z5p{j:Nat}:PE X (.Constant .none j pos) (dE X.D E δ (.ok .non .strong)):=z8h.weak λσ H Q ⟨O,W,R,p⟩=>p _ H (Same.refl H) z5K
end
section
variable {X:Cx} {E:St->XK} {δ:List Sv} {a b c e:Expr} {pos:Pos} {ra rb:Option Re} {re:Re}
theorem z1S{O W:List Addr}{H0 H:Hp}{C:Int->Int->Prop}{g:Int->Int->V}{x y:V}{Q:VK}{i j:Int}{ca cb:Cl}{D:Dm}(hd:Hid O W H0 H)(gx:Got D O W H0 H (.int i) ca x)(gy:Got D O W H0 H (.int j) cb y)(hc:C i j)(q:Q (g i j) H):rI C g x y H Q:=
 ⟨i,j,gx.int hd,gy.int hd,hc,q⟩
theorem z0C{O W:List Addr}{H0 H:Hp}{g:Int->Int->V}{x y:V}{Q:VK}{i j:Int}{ca cb:Cl}{D:Dm}(hd:Hid O W H0 H)(gx:Got D O W H0 H (.int i) ca x)(gy:Got D O W H0 H (.int j) cb y)(q:Q (g i j) H):rI0 g x y H Q:=
 ⟨i,j,gx.int hd,gy.int hd,q⟩
theorem z7n{ca cb:Cl}(h:ca ≠ .weak)(h':cb ≠ .weak):Cl.anew ca cb=.fresh:=by
 cases ca<;>cases cb<;>first | rfl | exact absurd rfl h | exact absurd rfl h'
def z3M(i j:Int):Prop:=CMul i j\/(i.natAbs<2^2000/\j.natAbs<2^2000)
theorem z2c{i:Int}{n:Nat}(h:i.natAbs<2^n):Builtin.Int.intBits i<=n:=by
 unfold Builtin.Int.intBits
 by_cases hi:i=0
 ·subst hi;exact Nat.zero_le n
 ·rw[if_neg (by simpa using hi)]
  have:i.natAbs≠0:=λz=>hi (Int.natAbs_eq_zero.mp z)
  exact(Nat.log2_lt this).mpr h
theorem z3M.ok{i j:Int}(h:z3M i j):IntMulOk i j:=by
 rcases h with h | ⟨h1,h2⟩
 ·exact h.ok
 ·unfold IntMulOk
  have b1:=z2c h1
  have b2:=z2c h2
  have:Builtin.Int.intTooBig ((Builtin.Int.intBits i:Int)+(Builtin.Int.intBits j:Int))=false:=by
   unfold Builtin.Int.intTooBig
   rw[decide_eq_false]
   have:((bitsLine:Nat):Int)=134217728:=by decide
   omega
  rw[this,Bool.and_false]
  exact Bool.false_ne_true
theorem z5r:OpR X (binaryOp .Mult) (rI z3M λi j=>.int (i*j)):=opI λ_ _ _ _ _ _ _ hc q=>mul_int q hc.ok
theorem z2X:OpR X (binaryOp .FloorDiv) (rI (λ_ j=>0<j/\j<2^200) λi j=>.int (i/j)):=opI λi j _ _ _ _ _ hc q=>by
 have h1:(0:Int)<j:=hc.1
 have h2:j.natAbs<2^200:=by have:=hc.2;omega
 refine floordiv_int (by omega) (by rw[Int.fdiv_eq_ediv_of_nonneg i (by omega)];exact q) (.inl (PyProof.noPylong_of_log2 ?_))
 exact Nat.lt_of_lt_of_le ((Nat.log2_lt (by omega)).mpr h2) (by decide)
def binR(X:Cx):Operator->R2
 | .Add=>λx y H Q=>rI0 (λi j=>.int (i+j)) x y H Q\/rCat x y H Q
 | .Sub=>rI0 λi j=>.int (i - j)
 | .Mult=>λx y H Q=>rI z3M (λi j=>.int (i*j)) x y H Q\/rRep x y H Q
 | .Mod=>rI (λ_ j=>0<j) λi j=>.int (i%j)
 | .FloorDiv=>rI (λ_ j=>0<j/\j<2^200) λi j=>.int (i/j)
 | .LShift=>rI CPow λi j=>.int (i*2^j.toNat)
 | .RShift=>rI (λ_ j=>0<=j) λi j=>.int (i/2^j.toNat)
 | .BitAnd=>rI0 λi j=>.int (Builtin.bitAnd i j)
 | _=>λ_ _ _ _=>False
theorem z9s{op:Operator}:OpR X (binaryOp op) (binR X op):=by
 cases op with
 | Add=>exact z7G.or z9u
 | Sub=>exact z8Q
 | Mult=>exact z5r.or z8T
 | Mod=>exact z8g
 | FloorDiv=>exact z2X
 | LShift=>exact z8t
 | RShift=>exact z9g
 | BitAnd=>exact z8S
 | BitOr=>exact λ_ _ _ _ _ _ _ _ _ _ _ _ h=>h.elim
 | BitXor=>exact λ_ _ _ _ _ _ _ _ _ _ _ _ h=>h.elim
 | MatMult=>exact λ_ _ _ _ _ _ _ _ _ _ _ _ h=>h.elim
 | Div=>exact λ_ _ _ _ _ _ _ _ _ _ _ _ h=>h.elim
 | Pow=>exact λ_ _ _ _ _ _ _ _ _ _ _ _ h=>h.elim
theorem z8u{O W:List Addr}{H0 H:Hp}{op:Operator}{x y:V}{dx dy:DV}{cx cy:Cl}{Q:VK}{σ:St}(h:binD op dx dy cx cy=some re)(hd:Hid O W H0 H)(gx:Got X.D O W H0 H dx cx x)(gy:Got X.D O W H0 H dy cy y)
  (p:Post X.D E σ O W H0 H Q re):binR X op x y H Q:=by
 unfold binD at h
 split at h
 ·cases h;exact .inl (z0C hd gx gy (p _ H (Same.refl H) q0F))
 ·cases h;exact z0C hd gx gy (p _ H (Same.refl H) q0F)
 ·split at h
  ·rename_i m
   cases h
   refine .inl (z1S hd gx gy ?_ (p _ H (Same.refl H) q0F))
   unfold q2X at m
   simp only[Bool.or_eq_true,Bool.and_eq_true,decide_eq_true_eq]at m
   exact m
  ·cases h
 ·split at h
  ·rename_i m;cases h;exact z1S hd gx gy m (p _ H (Same.refl H) q0F)
  ·cases h
 ·split at h
  ·rename_i m;cases h;exact z1S hd gx gy m (p _ H (Same.refl H) q0F)
  ·cases h
 ·split at h
  ·rename_i m;cases h;exact z1S hd gx gy m (p _ H (Same.refl H) q0F)
  ·cases h
 ·split at h
  ·rename_i m;cases h;exact z1S hd gx gy m (p _ H (Same.refl H) q0F)
  ·cases h
 ·cases h;exact z0C hd gx gy (p _ H (Same.refl H) q0F)
 ·rename_i xs ys
  split at h
  ·rename_i m
   cases h
   by_cases hw:cx ≠ .weak/\cy ≠ .weak
   ·obtain⟨l1,v1,e1,k1,r1⟩:=gx.items hd hw.1
    obtain⟨l2,v2,e2,k2,r2⟩:=gy.items hd hw.2
    refine .inr (⟨l1,l2,v1,v2,e1,e2,k1,k2,by rw[r1.length,r2.length];exact q1Y m,λq hq=>p _ _ (q0p hq) ?_⟩)
    rw[z7n hw.1 hw.2]
    exact q2e hd hq (r1.append r2)
   ·obtain⟨l1,v1,e1,k1,r1⟩:=gx.lst hd
    obtain⟨l2,v2,e2,k2,r2⟩:=gy.lst hd
    refine .inr (⟨l1,l2,v1,v2,e1,e2,k1,k2,by rw[r1.length,r2.length];exact q1Y m,λq hq=>p _ _ (q0p hq) ?_⟩)
    have:Cl.anew cx cy=.weak:=by
     cases cx<;>cases cy<;>first | rfl | exact absurd ⟨(by intro z;cases z),(by intro z;cases z)⟩ hw
    rw[this]
    exact q6o hd hq (r1.append r2)
  ·cases h
 ·rename_i xs k
  split at h
  ·rename_i m
   cases h
   obtain⟨l1,v1,e1,k1,r1⟩:=gx.lstC hd
   refine .inr ⟨l1,k,v1,e1,gy.int hd,k1,m.2.1,m.2.2,by rw[r1.length];exact q1Y m.1,λq hq=>p _ _ (q0p hq) (q4n hd hq (r1.rep _))⟩
  ·cases h
 ·cases h
theorem z5Q{op:Operator}(ha:∀q,ra=some q->PE X a (dE X.D E δ q))(hb:∀q,rb=some q->PE X b (dE X.D E δ q))(h:(Re.thn ra λx cx=>Re.thn rb λy cy=>binD op x y cx cy)=some re):PE X (.BinOp a op b pos) (dE X.D E δ re):=
 z0j (λ_ _=>y1j z9s) ha hb h λO W H0 H x y Q dx cx dy cy σ k hd gx gy p=>z8u k hd gx gy p
theorem z6M(ha:∀q,ra=some q->PE X a (dE X.D E δ q))(h:(Re.thn ra λx _=>match x with | .int i=>some (.ok (.int (-i)) .strong) | _=>none)=some re):PE X (.UnaryOp .USub a pos) (dE X.D E δ re):=
 z4O (λ_=>z9U z8P) ha h λO W H0 H x Q dx cx σ k hd gx p=>by
  split at k
  ·cases k;exact⟨_,gx.int hd,p _ H (Same.refl H) q0F⟩
  ·cases k
theorem z9z{ds:List DV}{i:Int}:atD ds i=L2.atI ds i:=rfl
theorem RepL.atI{D:Dm}{H:Hp}{ds:List DV}{xs:List V}{i:Int}{d:DV}(h:RepL D H ds xs)(e:atD ds i=some d):∃v,L2.atI xs i=some v/\Rep D H d v:=by
 rw[z9z]at e
 unfold L2.atI at e ⊢
 rw[h.length]
 cases q:ixN ds.length i with
 | none=>rw[q]at e;cases e
 | some j=>
  rw[q]at e
  exact h.get e
theorem y1l{O W:List Addr}{H0 H:Hp}{x y:V}{dx dy:DV}{cx cy:Cl}{Q:VK}{σ:St}(h:((ixD dx dy).map λd=>Re.ok d cx.item)=some re)(hd:Hid O W H0 H)(gx:Got X.D O W H0 H dx cx x)(gy:Got X.D O W H0 H dy cy y)
  (p:Post X.D E σ O W H0 H Q re):rIx X.K x y H Q:=by
 obtain⟨d,h1,h2⟩:=Option.map_eq_some_iff.mp h
 cases h2
 unfold ixD at h1
 split at h1
 ·rename_i ns i
  obtain⟨a,e1,e2⟩:=q2v.mp (gx.all hd)
  obtain⟨n,h3,h4⟩:=Option.map_eq_some_iff.mp h1
  cases h4
  have q:L2.atI (ns.map V.int) i=some (.int n):=by
   unfold L2.atI
   rw[List.length_map]
   have h3':((ixN ns.length i).bind λj=>ns[j]?)=some n:=h3
   cases z:ixN ns.length i with
   | none=>rw[z]at h3';cases h3'
   | some j=>
    rw[z]at h3'
    have h5:ns[j]? = some n:=h3'
    show(ns.map V.int)[j]? = _
    rw[List.getElem?_map,h5];rfl
  refine .inl ⟨a,_,i,_,e1,gy.int hd,e2.sq,q,p _ H (Same.refl H) ?_⟩
  cases cx<;>exact q0F
 ·obtain⟨a,xs,e1,e2,e3⟩:=gx.lstC hd
  obtain⟨v,q1,q2⟩:=e3.atI h1
  exact .inl ⟨a,xs,_,v,e1,gy.int hd,SqL.of e2,q1,p _ H (Same.refl H) (Got.item q2)⟩
 ·obtain⟨a,xs,e1,e2,e3⟩:=gx.tupC hd
  obtain⟨v,q1,q2⟩:=e3.atI h1
  exact .inr (.inl ⟨a,xs,_,v,e1,gy.int hd,e2,q1,p _ H (Same.refl H) (Got.item q2)⟩)
 ·rename_i z i
  obtain⟨e1,e2⟩:=gx.str hd
  cases q:q1S z.cps.size i with
  | none=>rw[q]at h1;cases h1
  | some j=>
   rw[q]at h1
   obtain⟨ch,h3,h4⟩:=Option.map_eq_some_iff.mp (show((z.cps[j]?).map λc=>DV.str ⟨#[c]⟩)=some d from h1)
   cases h4
   refine .inr (.inr ⟨z,i,ch,e1,gy.int hd,e2,?_,p _ H (Same.refl H) ?_⟩)
   ·unfold L2.atI
    have:ixN z.cps.toList.length i=some j:=by rw[Array.length_toList];exact q
    rw[this]
    show z.cps.toList[j]? = some ch
    rw[Array.getElem?_toList];exact h3
   ·have one:Rep X.D (L2.wo (O++W) H) (.str ⟨#[ch]⟩) (.str ⟨#[ch]⟩):=q2t.mpr ⟨rfl,by show(1:Nat)<=sizeLine;decide⟩
    have one':Rep X.D (L2.wo O H) (.str ⟨#[ch]⟩) (.str ⟨#[ch]⟩):=q2t.mpr ⟨rfl,by show(1:Nat)<=sizeLine;decide⟩
    cases cx<;>first | exact one | exact one'
 ·cases h1
theorem z9j(ha:∀q,ra=some q->PE X a (dE X.D E δ q))(hb:∀q,rb=some q->PE X b (dE X.D E δ q))(hs:q3s b=false)(h:(Re.thn ra λx cx=>Re.thn rb λy _=>(ixD x y).map λd=>.ok d cx.item)=some re):PE X (.Subscript a b pos) (dE X.D E δ re):=
 z0j (λ_ _ h1 h2=>y0q z9A h1 h2 (by cases b<;>first | (intro _ _;rfl) | cases hs)) ha hb h λO W H0 H x y Q dx cx dy cy σ k hd gx gy p=>y1l k hd gx gy p
theorem q6i(n d:Nat)(o:Option Int):slIx n d o=HT.sIx n d o:=by cases o<;>rfl
theorem RepL.cut{D:Dm}{H:Hp}{ds:List DV}{xs:List V}(h:RepL D H ds xs)(lo hi:Option Int):RepL D H (cutD ds lo hi) (cutV xs lo hi):=by
 unfold cutD cutV
 rw[q6i,q6i,←h.length]
 exact(h.drop _).take _
theorem z6t{O W:List Addr}{H0 H:Hp}{x:V}{dx:DV}{cx:Cl}{Q:VK}{σ:St}{lo hi:Option Int}(h:((slD dx lo hi).map λd=>Re.ok d (slCl dx cx))=some re)(hd:Hid O W H0 H)(gx:Got X.D O W H0 H dx cx x)
  (p:Post X.D E σ O W H0 H Q re):rSlL X.K x lo hi H Q\/rSlT X.K x lo hi H Q:=by
 obtain⟨d,h1,h2⟩:=Option.map_eq_some_iff.mp h
 cases h2
 unfold slD at h1
 split at h1
 ·rename_i ns
  cases h1
  obtain⟨a,e1,e2⟩:=q2v.mp (gx.all hd)
  exact .inl ⟨a,_,e1,e2.sq,λq hq=>p _ _ (q0p hq) (q2e hd hq ((q1M ns).cut lo hi))⟩
 ·cases h1
  obtain⟨a,xs,e1,e2,e3⟩:=gx.lstC hd
  exact .inl ⟨a,xs,e1,SqL.of e2,λq hq=>p _ _ (q0p hq) (q4n hd hq (e3.cut lo hi))⟩
 ·rename_i ds
  split at h1
  ·cases h1
  ·rename_i m
   cases h1
   obtain⟨a,xs,e1,e2,e3⟩:=gx.tupC hd
   refine .inr ⟨a,xs,e1,e2,?_,λq hq=>p _ _ (q0p hq) (q8n hd hq (e3.cut lo hi))⟩
   rw[q6i,q6i,←e3.length]at m
   exact m
 ·cases h1
theorem q3a:SlR X (λx lo hi H Q=>rSlL X.K x lo hi H Q\/rSlT X.K x lo hi H Q):=z7m.or z9o
theorem q7b{i:Int}{cl:Cl}(h:PE X b (dE X.D E δ (.ok (.int i) cl))):PO X (some b) (λσ H Q=>∃O W,RSt X.D H σ δ O W/\∀H',Same H H'->Q (some i) H'):=λpins s σ H Q I ⟨O,W,R,p⟩=>
 z0o h pins s σ H Q I ⟨O,W,R,λv H' s1 g=>⟨i,g.int (R.hid.mono s1),p H' s1⟩⟩
theorem z2L{c:Str}(h:PE X b (dE X.D E δ (.ex c))):PO X (some b) (λσ H Q=>∃O W,RSt X.D H σ δ O W/\Post X.D E σ O W H H (λ_ _=>False) (.ex c)):=λpins s σ H Q I ⟨O,W,R,p⟩=>
 z0o h pins s σ H Q I ⟨O,W,R,p⟩
theorem q3x{o:Option Expr}:PO X o (λ_ _ _=>False):=λ_ _ _ _ _ _ h=>h.elim
theorem z5X{p2:Pos}(ha:∀q,ra=some q->PE X a (dE X.D E δ q))(hb:∀q,rb=some q->PE X b (dE X.D E δ q))(h:(Re.thn ra λx cx=>Re.thn rb λl _=>match l with
  | .int l=>(slD x (some l) none).map λd=>.ok d (slCl x cx) | _=>none)=some re):PE X (.Subscript a (.Slice (some b) none none p2) pos) (dE X.D E δ re):=by
 cases hra:ra with
 | none=>rw[hra]at h;cases h
 | some q=>
  rw[hra]at h
  have A:=ha q hra
  cases q with
  | ex c=>cases h;exact(q1t q3a A q3x q3M).weak λσ H Q ⟨O,W,R,p⟩=>⟨O,W,R,p⟩
  | ok dx cx=>
   cases hrb:rb with
   | none=>rw[hrb]at h;cases h
   | some q=>
    rw[hrb]at h
    have B:=hb q hrb
    cases q with
    | ex c=>cases h;exact(q1t q3a A (z2L B) q3M).weak λσ H Q ⟨O,W,R,p⟩=>⟨O,W,R,λx H1 s1 g1=>⟨O,W,R.mono s1,λH' C m s=>p H' C m (s1.trans s)⟩⟩
    | ok dy cy=>
     have h':(match(generalizing:=false) dy with | .int l=>(slD dx (some l) none).map λd=>Re.ok d (slCl dx cx) | _=>none)=some re:=h
     split at h'
     ·rename_i l
      exact(q1t q3a A (q7b B) q3M).weak λσ H Q ⟨O,W,R,p⟩=>⟨O,W,R,λx H1 s1 g1=>⟨O,W,R.mono s1,λH2 s2=>z6t h' ((R.hid.mono s1).mono s2) (g1.mono s2) (p.step (s1.trans s2))⟩⟩
     ·cases h'
theorem z6A{p2:Pos}(ha:∀q,ra=some q->PE X a (dE X.D E δ q))(hb:∀q,rb=some q->PE X b (dE X.D E δ q))(h:(Re.thn ra λx cx=>Re.thn rb λl _=>match l with
  | .int l=>(slD x none (some l)).map λd=>.ok d (slCl x cx) | _=>none)=some re):PE X (.Subscript a (.Slice none (some b) none p2) pos) (dE X.D E δ re):=by
 cases hra:ra with
 | none=>rw[hra]at h;cases h
 | some q=>
  rw[hra]at h
  have A:=ha q hra
  cases q with
  | ex c=>cases h;exact(q1t q3a A q3M q3x).weak λσ H Q ⟨O,W,R,p⟩=>⟨O,W,R,p⟩
  | ok dx cx=>
   cases hrb:rb with
   | none=>rw[hrb]at h;cases h
   | some q=>
    rw[hrb]at h
    have B:=hb q hrb
    cases q with
    | ex c=>cases h;exact(q1t q3a A q3M (z2L B)).weak λσ H Q ⟨O,W,R,p⟩=>⟨O,W,R,λx H1 s1 g1=>⟨O,W,R.mono s1,λH' C m s=>p H' C m (s1.trans s)⟩⟩
    | ok dy cy=>
     have h':(match(generalizing:=false) dy with | .int l=>(slD dx none (some l)).map λd=>Re.ok d (slCl dx cx) | _=>none)=some re:=h
     split at h'
     ·rename_i l
      exact(q1t q3a A q3M (q7b B)).weak λσ H Q ⟨O,W,R,p⟩=>⟨O,W,R,λx H1 s1 g1=>⟨O,W,R.mono s1,λH2 s2=>z6t h' ((R.hid.mono s1).mono s2) (g1.mono s2) (p.step (s1.trans s2))⟩⟩
     ·cases h'
theorem z9H{p2:Pos}{rc:Option Re}(ha:∀q,ra=some q->PE X a (dE X.D E δ q))(hb:∀q,rb=some q->PE X b (dE X.D E δ q))(hc:∀q,rc=some q->PE X c (dE X.D E δ q))(h:(Re.thn ra λx cx=>Re.thn rb λl _=>match l with
  | .int l=>Re.thn rc λu _=>(match u with
   | .int u=>(slD x (some l) (some u)).map λd=>.ok d (slCl x cx) | _=>none) | _=>none)=some re):PE X (.Subscript a (.Slice (some b) (some c) none p2) pos) (dE X.D E δ re):=by
 cases hra:ra with
 | none=>rw[hra]at h;cases h
 | some q=>
  rw[hra]at h
  have A:=ha q hra
  cases q with
  | ex c=>cases h;exact(q1t q3a A q3x q3x).weak λσ H Q ⟨O,W,R,p⟩=>⟨O,W,R,p⟩
  | ok dx cx=>
   cases hrb:rb with
   | none=>rw[hrb]at h;cases h
   | some q=>
    rw[hrb]at h
    have B:=hb q hrb
    cases q with
    | ex c=>cases h;exact(q1t q3a A (z2L B) q3x).weak λσ H Q ⟨O,W,R,p⟩=>⟨O,W,R,λx H1 s1 g1=>⟨O,W,R.mono s1,λH' C m s=>p H' C m (s1.trans s)⟩⟩
    | ok dy cy=>
     have h':(match(generalizing:=false) dy with | .int l=>Re.thn rc λu _=>(match u with | .int u=>(slD dx (some l) (some u)).map λd=>Re.ok d (slCl dx cx) | _=>none) | _=>none)=some re:=h
     split at h'
     ·rename_i l
      cases hrc:rc with
      | none=>rw[hrc]at h';cases h'
      | some q=>
       rw[hrc]at h'
       have C:=hc q hrc
       cases q with
       | ex c'=>
        cases h'
        exact(q1t q3a A (q7b B) (z2L C)).weak λσ H Q ⟨O,W,R,p⟩=>⟨O,W,R,λx H1 s1 g1=>⟨O,W,R.mono s1,λH2 s2=>⟨O,W,(R.mono s1).mono s2,λH' C m s=>p H' C m (s1.trans (s2.trans s))⟩⟩⟩
       | ok dz cz=>
        have h2:(match(generalizing:=false) dz with | .int u=>(slD dx (some l) (some u)).map λd=>Re.ok d (slCl dx cx) | _=>none)=some re:=h'
        split at h2
        ·rename_i u
         exact(q1t q3a A (q7b B) (q7b C)).weak λσ H Q ⟨O,W,R,p⟩=>⟨O,W,R,λx H1 s1 g1=>⟨O,W,R.mono s1,λH2 s2=>⟨O,W,(R.mono s1).mono s2,λH3 s3=>z6t h2 (((R.hid.mono s1).mono s2).mono s3) ((g1.mono s2).mono s3) (p.step (s1.trans (s2.trans s3)))⟩⟩⟩
        ·cases h2
     ·cases h'
end
end L2
end
noncomputable section
namespace L2
open PySem PySem.Spec PyProof.Rows
mutual
def toP:DV->PyData
 | .non=>.none | .bl b=>.bool b | .int i=>.int i | .str x=>.str x
 | .tup ds=>.tuple (toPs ds) | .lst ds=>.list (toPs ds)
 | _=>.none
def toPs:List DV->List PyData
 | []=>[]
 | d::r=>toP d::toPs r
end
mutual
theorem q6n:∀(n m:Nat) (d e:DV),d.plain n=true->e.plain m=true->PyData.eqv (toP d) (toP e)=deq d e
 | n,m,.non,e,_,h=>by cases e<;>first | (cases m<;>simp[DV.plain]at h;done) | (simp only[toP,PyData.eqv,deq])
 | n,m,.bl _,e,_,h=>by cases e<;>first | (cases m<;>simp[DV.plain]at h;done) | (simp only[toP,PyData.eqv,deq])
 | n,m,.int _,e,_,h=>by cases e<;>first | (cases m<;>simp[DV.plain]at h;done) | (simp only[toP,PyData.eqv,deq])
 | n,m,.str x,e,_,h=>by
  cases e with
  | str y=>simp only[toP,PyData.eqv,deq];rfl
  | non=>simp only[toP,PyData.eqv,deq]
  | bl _=>simp only[toP,PyData.eqv,deq]
  | int _=>simp only[toP,PyData.eqv,deq]
  | tup _=>simp only[toP,PyData.eqv,deq]
  | lst _=>simp only[toP,PyData.eqv,deq]
  | dct _ _=>cases m<;>simp[DV.plain]at h
  | exc _=>cases m<;>simp[DV.plain]at h
  | fn _=>cases m<;>simp[DV.plain]at h
  | scr _=>cases m<;>simp[DV.plain]at h
 | 0,_,.tup _,_,h,_=>by simp[DV.plain]at h
 | 0,_,.lst _,_,h,_=>by simp[DV.plain]at h
 | n+1,m,.tup ds,e,h,h'=>by
  cases e with
  | tup es=>
   cases m with
   | zero=>simp[DV.plain]at h'
   | succ m=>
    simp only[toP,PyData.eqv,deq]
    exact q6f n m ds es (by simpa[DV.plain]using h) (by simpa[DV.plain]using h')
  | non=>simp only[toP,PyData.eqv,deq]
  | bl _=>simp only[toP,PyData.eqv,deq]
  | int _=>simp only[toP,PyData.eqv,deq]
  | str _=>simp only[toP,PyData.eqv,deq]
  | lst _=>simp only[toP,PyData.eqv,deq]
  | dct _ _=>cases m<;>simp[DV.plain]at h'
  | exc _=>cases m<;>simp[DV.plain]at h'
  | fn _=>cases m<;>simp[DV.plain]at h'
  | scr _=>cases m<;>simp[DV.plain]at h'
 | n+1,m,.lst ds,e,h,h'=>by
  cases e with
  | lst es=>
   cases m with
   | zero=>simp[DV.plain]at h'
   | succ m=>
    simp only[toP,PyData.eqv,deq]
    exact q6f n m ds es (by simpa[DV.plain]using h) (by simpa[DV.plain]using h')
  | non=>simp only[toP,PyData.eqv,deq]
  | bl _=>simp only[toP,PyData.eqv,deq]
  | int _=>simp only[toP,PyData.eqv,deq]
  | str _=>simp only[toP,PyData.eqv,deq]
  | tup _=>simp only[toP,PyData.eqv,deq]
  | dct _ _=>cases m<;>simp[DV.plain]at h'
  | exc _=>cases m<;>simp[DV.plain]at h'
  | fn _=>cases m<;>simp[DV.plain]at h'
  | scr _=>cases m<;>simp[DV.plain]at h'
 | n,_,.dct _ _,_,h,_=>by cases n<;>simp[DV.plain]at h
 | n,_,.exc _,_,h,_=>by cases n<;>simp[DV.plain]at h
 | n,_,.fn _,_,h,_=>by cases n<;>simp[DV.plain]at h
 | n,_,.scr _,_,h,_=>by cases n<;>simp[DV.plain]at h
theorem q6f:∀(n m:Nat) (ds es:List DV),DV.plains n ds=true->DV.plains m es=true->PyData.eqvAll (toPs ds) (toPs es)=deqs ds es
 | _,_,[],[],_,_=>by simp only[toPs,PyData.eqvAll,deqs]
 | _,_,[],_::_,_,_=>by simp only[toPs,PyData.eqvAll,deqs]
 | _,_,_::_,[],_,_=>by simp only[toPs,PyData.eqvAll,deqs]
 | n,m,d::ds,e::es,h,h'=>by
  simp only[DV.plains,Bool.and_eq_true]at h h'
  simp only[toPs,PyData.eqvAll,deqs,q6n n m d e h.1 h'.1,q6f n m ds es h.2 h'.2]
end
mutual
theorem q3S:∀(n:Nat) (d:DV),d.plain n=true->(toP d).canLay0=true/\(toP d).depth<=n
 | n,.non,_=>by simp[toP,PyData.canLay0,PyData.depth]
 | n,.bl _,_=>by simp[toP,PyData.canLay0,PyData.depth]
 | n,.int _,_=>by simp[toP,PyData.canLay0,PyData.depth]
 | n,.str x,h=>by
  have h':(x.cps.all (· < 0x110000))=true:=by cases n<;>simpa[DV.plain]using h
  simp only[toP,PyData.canLay0,PyData.depth]
  exact⟨h',Nat.zero_le _⟩
 | 0,.tup _,h=>by simp[DV.plain]at h
 | 0,.lst _,h=>by simp[DV.plain]at h
 | n+1,.tup ds,h=>by
  have q:=q2m n ds (by simpa[DV.plain]using h)
  simp only[toP,PyData.canLay0,PyData.depth,q.1,true_and]
  have:=q.2
  omega
 | n+1,.lst ds,h=>by
  have q:=q2m n ds (by simpa[DV.plain]using h)
  simp only[toP,PyData.canLay0,PyData.depth,q.1,true_and]
  have:=q.2
  omega
 | n,.dct _ _,h=>by cases n<;>simp[DV.plain]at h
 | n,.exc _,h=>by cases n<;>simp[DV.plain]at h
 | n,.fn _,h=>by cases n<;>simp[DV.plain]at h
 | n,.scr _,h=>by cases n<;>simp[DV.plain]at h
theorem q2m:∀(n:Nat) (ds:List DV),DV.plains n ds=true->PyData.canLayAll0 (toPs ds)=true/\PyData.depthAll (toPs ds)<=n
 | _,[],_=>by simp[toPs,PyData.canLayAll0,PyData.depthAll]
 | n,d::ds,h=>by
  simp only[DV.plains,Bool.and_eq_true]at h
  have q:=q3S n d h.1
  have q':=q2m n ds h.2
  simp only[toPs,PyData.canLayAll0,PyData.depthAll,q.1,q'.1,Bool.and_self,true_and]
  have a:=q.2
  have b:=q'.2
  omega
end
section
variable {X:Cx} {pins:List (Addr×Obj)} {σ:St} {H:Hp} {s:Shared}
mutual
theorem q1g(I:Inv X pins σ H s):∀(n:Nat) {d:DV} {v:V} {u:Value},d.plain n=true->Rep X.D H d v->RelV v u->∃as,Reads s.heap u (toP d) as
 | _,.non,_,_,_,h,r=>by rw[q4A.mp h]at r;cases r;exact⟨_,Reads.none⟩
 | _,.bl b,_,_,_,h,r=>by rw[q4c.mp h]at r;cases r;exact⟨_,Reads.bool b⟩
 | _,.int i,_,_,_,h,r=>by rw[q0y.mp h]at r;obtain⟨t,rfl⟩:=r;exact⟨_,Reads.int i t⟩
 | _,.str x,_,_,_,h,r=>by rw[(q2t.mp h).1]at r;obtain⟨t,rfl⟩:=r;exact⟨_,Reads.str x t⟩
 | 0,.tup _,_,_,p,_,_=>by simp[DV.plain]at p
 | 0,.lst _,_,_,p,_,_=>by simp[DV.plain]at p
 | n+1,.tup ds,_,_,p,h,r=>by
  obtain⟨a,xs,e1,e2,e3⟩:=q0H.mp h
  rw[e1]at r;cases r
  obtain⟨its,rv,⟨o,h1,h2,k,h3⟩,_⟩:=I.tuple e2
  obtain⟨as,q⟩:=q4K I n (by simpa[DV.plain]using p) e3 rv
  rw[toP]
  exact⟨as,Reads.tuple h1 h2 h3 (by simpa using q)⟩
 | n+1,.lst ds,_,_,p,h,r=>by
  obtain⟨a,xs,e1,e2,e3⟩:=q0G.mp h
  rw[e1]at r;cases r
  obtain⟨_,its,k,rv,_,h1⟩:=I.lstM e2
  obtain⟨as,q⟩:=q4K I n (by simpa[DV.plain]using p) e3 rv
  rw[toP]
  exact⟨_,Reads.list h1 rfl rfl (by simpa using q)⟩
 | n,.dct _ _,_,_,h,_,_=>by cases n<;>simp[DV.plain]at h
 | n,.exc _,_,_,h,_,_=>by cases n<;>simp[DV.plain]at h
 | n,.fn _,_,_,h,_,_=>by cases n<;>simp[DV.plain]at h
 | n,.scr _,_,_,h,_,_=>by cases n<;>simp[DV.plain]at h
theorem q4K(I:Inv X pins σ H s):∀(n:Nat) {ds:List DV} {vs:List V} {us:List Value},DV.plains n ds=true->RepL X.D H ds vs->Vals vs us->∃as,ReadsAll s.heap us (toPs ds) as
 | _,[],_,_,_,h,r=>by rw[q0x.mp h]at r;cases r;exact⟨_,ReadsAll.nil⟩
 | n,d::ds,_,_,p,h,r=>by
  simp only[DV.plains,Bool.and_eq_true]at p
  obtain⟨v,vs,e1,e2,e3⟩:=q0j.mp h
  subst e1
  cases r with
  | cons r1 r2=>
   obtain⟨as,q⟩:=q1g I n p.1 e2 r1
   obtain⟨bs,q'⟩:=q4K I n p.2 e3 r2
   rw[toPs]
   exact⟨_,ReadsAll.cons q q'⟩
end
theorem q6U{d:DV}(h:d.plain 60=true):SeqAt.shaped (toP d)=true:=by
 have q:=q3S 60 d h
 unfold SeqAt.shaped
 rw[q.1,Bool.true_and]
 exact decide_eq_true (Nat.le_trans q.2 (by decide))
theorem q7Y{d:DV}(h:d.plain 60=true):∀(ds:List DV),DV.plains 60 ds=true->((toPs ds).any λy=>PyData.eqv y (toP d))=ds.any λx=>deq x d
 | [],_=>rfl
 | e::ds,p=>by
  simp only[DV.plains,Bool.and_eq_true]at p
  rw[toPs,List.any_cons,List.any_cons,q6n 60 60 e d p.1 h,q7Y h ds p.2]
end
section
variable {X:Cx} {E:St->XK} {δ:List Sv} {a b c e:Expr} {pos:Pos} {ra rb rc:Option Re} {re:Re}
def cmpR(X:Cx)(op:CmpOp):R2:=λx y H Q=>∃dx dy k,cmpD op dx dy=some k/\Rep X.D H dx x/\Rep X.D H dy y/\Q (.bl k) H
theorem q5s{op:CmpOp}(hu:X.A.units+64<cLine):OpR X (compareOp op) (cmpR X op):=by
 intro pins s σ H x y v u Q I rx ry h
 obtain⟨dx,dy,k,hk,r1,r2,q⟩:=h
 have fin:∀{k':Bool},k'=k->EP X pins σ Q (.bool k') s:=λ{k'} e=>⟨.bl k',H,I,rfl,by rw[e];exact q⟩
 unfold cmpD at hk
 split at hk
 ·cases hk;exact y0P pins s σ H x y v u Q I rx ry ⟨_,_,q0y.mp r1,q0y.mp r2,q⟩
 ·cases hk;exact y0Y pins s σ H x y v u Q I rx ry ⟨_,_,q0y.mp r1,q0y.mp r2,q⟩
 ·cases hk;exact y0o pins s σ H x y v u Q I rx ry ⟨_,_,q0y.mp r1,q0y.mp r2,q⟩
 ·cases hk;exact y0v pins s σ H x y v u Q I rx ry ⟨_,_,q0y.mp r1,q0y.mp r2,q⟩
 ·split at hk
  ·rename_i p
   rw[Bool.and_eq_true]at p
   cases hk
   obtain⟨as,q1⟩:=q1g I 60 p.1 r1 rx
   obtain⟨bs,q2⟩:=q1g I 60 p.2 r2 ry
   exact eq_dataH q1 q2 (q6U p.1) (q6U p.2) hu (fin (q6n 60 60 _ _ p.1 p.2))
  ·cases hk
 ·rename_i ds
  split at hk
  ·rename_i p
   rw[Bool.and_eq_true]at p
   cases hk
   obtain⟨as,q1⟩:=q1g I 60 p.1 r1 rx
   obtain⟨bs,q2⟩:=q1g I 61 (d:=.lst ds) (by simpa[DV.plain]using p.2) r2 ry
   rw[toP]at q2
   have l1:=q3S 60 _ p.1
   have l2:=q2m 60 ds p.2
   have l3:=l1.2
   exact SeqAt.in_list_reads q2 q1 l2.1 l1.1 (by omega) (fin (q7Y p.1 ds p.2))
  ·cases hk
 ·rename_i ds
  split at hk
  ·rename_i p
   rw[Bool.and_eq_true]at p
   cases hk
   obtain⟨as,q1⟩:=q1g I 60 p.1 r1 rx
   obtain⟨bs,q2⟩:=q1g I 61 (d:=.lst ds) (by simpa[DV.plain]using p.2) r2 ry
   rw[toP]at q2
   have l1:=q3S 60 _ p.1
   have l2:=q2m 60 ds p.2
   have l3:=l1.2
   exact SeqAt.notIn_list_reads q2 q1 l2.1 l1.1 (by omega) (fin (by rw[q7Y p.1 ds p.2]))
  ·cases hk
 ·cases hk
theorem q4x{op:CmpOp}{b:Expr}(h:q2Y b=false):behindInMarks op b=false:=by
 cases b<;>first | rfl | cases h
theorem z7A{op:CmpOp}(hu:X.A.units+64<cLine)(ha:∀q,ra=some q->PE X a (dE X.D E δ q))(hb:∀q,rb=some q->PE X b (dE X.D E δ q))(hs:q2Y b=false)
  (h:(Re.thn ra λx _=>Re.thn rb λy _=>(cmpD op x y).map λk=>.ok (.bl k) .strong)=some re):PE X (.Compare a [op] [b] pos) (dE X.D E δ re):=
 z0j (λ_ _ h1 h2=>z5f (q5s hu) h1 h2 (q4x hs)) ha hb h λO W H0 H x y Q dx cx dy cy σ k hd gx gy p=>by
  obtain⟨k',e1,e2⟩:=Option.map_eq_some_iff.mp k
  cases e2
  exact⟨dx,dy,k',e1,gx.all hd,gy.all hd,p _ H (Same.refl H) q3u⟩
theorem z0p{op:CmpOp}(ha:∀q,ra=some q->PE X a (dE X.D E δ q))(hb:∀q,rb=some q->PE X b (dE X.D E δ q))
  (h:(Re.thn ra λx _=>Re.thn rb λy _=>(cmpD op x y).map λk=>.ok (.bl k) .strong)=some re):∃ta tb,PE X a ta/\PE X b tb/\∀σ H Q,dE X.D E δ re σ H Q->tOp (cmpR X op) ta tb σ H Q:=
 q8o ha hb h λO W H0 H x y Q dx cx dy cy σ k hd gx gy p=>by
  obtain⟨k',e1,e2⟩:=Option.map_eq_some_iff.mp k
  cases e2
  exact⟨dx,dy,k',e1,gx.all hd,gy.all hd,p _ H (Same.refl H) q3u⟩
theorem z4b{r:Rt}{σ:St}{H:Hp}{Q:Bool->Hp->Prop}(hb:∀d c,re=.ok d c->∃k,d=.bl k)(h:tstD (some re)=some r)(q:dT X.D E δ r σ H Q):dE X.D E δ re σ H (λx H'=>∃k,x=.bl k/\Q k H'):=by
 obtain⟨O,W,R,p⟩:=q
 cases re with
 | ex c=>cases h;exact⟨O,W,R,p⟩
 | ok d c=>
  obtain⟨k,rfl⟩:=hb d c rfl
  cases h
  exact⟨O,W,R,λv H' s g=>⟨k,g.bl (R.hid.mono s),p H' s⟩⟩
theorem z9w{op:CmpOp}(h:(Re.thn ra λx _=>Re.thn rb λy _=>(cmpD op x y).map λk=>.ok (.bl k) .strong)=some re):∀d c,re=.ok d c->∃k,d=.bl k:=by
 intro d c e
 subst e
 cases ra with
 | none=>cases h
 | some q=>
  cases q with
  | ex c=>cases h
  | ok d c=>
   cases rb with
   | none=>cases h
   | some q=>
    cases q with
    | ex c=>cases h
    | ok d' c'=>
     obtain⟨k,_,e⟩:=Option.map_eq_some_iff.mp (show((cmpD op d d').map λk=>Re.ok (.bl k) .strong)=_ from h)
     cases e
     exact⟨k,rfl⟩
theorem z2A{op:CmpOp}{r:Rt}(hu:X.A.units+64<cLine)(ha:∀q,ra=some q->PE X a (dE X.D E δ q))(hb:∀q,rb=some q->PE X b (dE X.D E δ q))(hs:q2Y b=false)
  (h:tstD (Re.thn ra λx _=>Re.thn rb λy _=>(cmpD op x y).map λk=>.ok (.bl k) .strong)=some r):PT X (.Compare a [op] [b] pos) (dT X.D E δ r):=by
 cases q:(Re.thn ra λx _=>Re.thn rb λy _=>(cmpD op x y).map λk=>Re.ok (.bl k) .strong)with
 | none=>rw[q]at h;cases h
 | some re=>
  rw[q]at h
  obtain⟨ta,tb,A,B,w⟩:=z0p ha hb q
  exact(z6V (q5s hu) A B (q4x hs)).weak λσ H Q z=>w σ H _ (z4b (z9w q) h z)
theorem q3U{op op':CmpOp}{b c:Expr}(h:q2Y c=false):lastMarks [op,op'] [b,c]=false:=by
 show behindInMarks op' c=false
 exact q4x h
theorem q4y{op op':CmpOp}(ha:∀q,ra=some q->PE X a (dE X.D E δ q))(hb:∀q,rb=some q->PE X b (dE X.D E δ q))(hc:∀q,rc=some q->PE X c (dE X.D E δ q))
  (h:(Re.thn ra λx _=>Re.thn rb λy _=>match cmpD op x y with
   | none=>none
   | some false=>some (.ok (.bl false) .strong)
   | some true=>Re.thn rc λz _=>(cmpD op' y z).map λk=>.ok (.bl k) .strong)=some re):∃ta tb tc,PE X a ta/\PE X b tb/\PE X c tc/\(∀σ H Q,dE X.D E δ re σ H Q->z1x (cmpR X op) (cmpR X op') ta tb tc σ H Q)/\∀d cl,re=.ok d cl->∃k,d=.bl k:=by
 cases hra:ra with
 | none=>rw[hra]at h;cases h
 | some q=>
  rw[hra]at h
  have A:=ha q hra
  cases q with
  | ex c=>cases h;exact⟨_,_,_,A,q1c,q1c,λσ H Q ⟨O,W,R,p⟩=>⟨O,W,R,p⟩,λd cl z=>nomatch z⟩
  | ok dx cx=>
   cases hrb:rb with
   | none=>rw[hrb]at h;cases h
   | some q=>
    rw[hrb]at h
    have B:=hb q hrb
    cases q with
    | ex c=>cases h;exact⟨_,_,_,A,B,q1c,λσ H Q ⟨O,W,R,p⟩=>⟨O,W,R,λx H1 s1 g1=>⟨O,W,R.mono s1,λH' C m s=>p H' C m (s1.trans s)⟩⟩,λd cl z=>nomatch z⟩
    | ok dy cy=>
     have h':(match(generalizing:=false) cmpD op dx dy with
      | none=>none
      | some false=>some (Re.ok (.bl false) .strong)
      | some true=>Re.thn rc λz _=>(cmpD op' dy z).map λk=>.ok (.bl k) .strong)=some re:=h
     split at h'
     ·cases h'
     ·rename_i e1
      cases h'
      exact⟨_,_,_,A,B,q1c,λσ H Q ⟨O,W,R,p⟩=>⟨O,W,R,λx H1 s1 g1=>⟨O,W,R.mono s1,λy H2 s2 g2=>
       ⟨dx,dy,false,e1,(g1.mono s2).all ((R.hid.mono s1).mono s2),g2.all ((R.mono s1).hid.mono s2),false,rfl,by rw[if_neg Bool.false_ne_true];exact p _ _ (s1.trans s2) q3u⟩⟩⟩,λd cl z=>by cases z;exact⟨_,rfl⟩⟩
     ·rename_i e1
      cases hrc:rc with
      | none=>rw[hrc]at h';cases h'
      | some q=>
       rw[hrc]at h'
       have C:=hc q hrc
       cases q with
       | ex c'=>
        cases h'
        exact⟨_,_,_,A,B,C,λσ H Q ⟨O,W,R,p⟩=>⟨O,W,R,λx H1 s1 g1=>⟨O,W,R.mono s1,λy H2 s2 g2=>
         ⟨dx,dy,true,e1,(g1.mono s2).all ((R.hid.mono s1).mono s2),g2.all ((R.mono s1).hid.mono s2),true,rfl,by rw[if_pos rfl];exact⟨O,W,(R.mono s1).mono s2,λH' C m s=>p H' C m (s1.trans (s2.trans s))⟩⟩⟩⟩,λd cl z=>nomatch z⟩
       | ok dz cz=>
        obtain⟨k,e2,e3⟩:=Option.map_eq_some_iff.mp (show((cmpD op' dy dz).map λk=>Re.ok (.bl k) .strong)=some re from h')
        cases e3
        exact⟨_,_,_,A,B,C,λσ H Q ⟨O,W,R,p⟩=>⟨O,W,R,λx H1 s1 g1=>⟨O,W,R.mono s1,λy H2 s2 g2=>
         ⟨dx,dy,true,e1,(g1.mono s2).all ((R.hid.mono s1).mono s2),g2.all ((R.mono s1).hid.mono s2),true,rfl,by
          rw[if_pos rfl]
          exact⟨O,W,(R.mono s1).mono s2,λz H3 s3 g3=>⟨dy,dz,k,e2,(g2.mono s3).all (((R.mono s1).hid.mono s2).mono s3),g3.all (((R.mono s1).mono s2).hid.mono s3),p _ _ (s1.trans (s2.trans s3)) q3u⟩⟩⟩⟩⟩,λd cl z=>by cases z;exact⟨_,rfl⟩⟩
theorem z2k{op op':CmpOp}(hu:X.A.units+64<cLine)(ha:∀q,ra=some q->PE X a (dE X.D E δ q))(hb:∀q,rb=some q->PE X b (dE X.D E δ q))(hc:∀q,rc=some q->PE X c (dE X.D E δ q))(hs:q2Y c=false)
  (h:(Re.thn ra λx _=>Re.thn rb λy _=>match cmpD op x y with
   | none=>none
   | some false=>some (.ok (.bl false) .strong)
   | some true=>Re.thn rc λz _=>(cmpD op' y z).map λk=>.ok (.bl k) .strong)=some re):PE X (.Compare a [op,op'] [b,c] pos) (dE X.D E δ re):=by
 obtain⟨ta,tb,tc,A,B,C,w,_⟩:=q4y ha hb hc h
 exact(z3p (q5s hu) (q5s hu) A B C (q3U hs)).weak w
theorem q9P{op op':CmpOp}{r:Rt}(hu:X.A.units+64<cLine)(ha:∀q,ra=some q->PE X a (dE X.D E δ q))(hb:∀q,rb=some q->PE X b (dE X.D E δ q))(hc:∀q,rc=some q->PE X c (dE X.D E δ q))(hs:q2Y c=false)
  (h:tstD (Re.thn ra λx _=>Re.thn rb λy _=>match cmpD op x y with
   | none=>none
   | some false=>some (.ok (.bl false) .strong)
   | some true=>Re.thn rc λz _=>(cmpD op' y z).map λk=>.ok (.bl k) .strong)=some r):PT X (.Compare a [op,op'] [b,c] pos) (dT X.D E δ r):=by
 cases q:(Re.thn ra λx _=>Re.thn rb λy _=>match cmpD op x y with
   | none=>none
   | some false=>some (Re.ok (.bl false) .strong)
   | some true=>Re.thn rc λz _=>(cmpD op' y z).map λk=>.ok (.bl k) .strong)with
 | none=>rw[q]at h;cases h
 | some re=>
  rw[q]at h
  obtain⟨ta,tb,tc,A,B,C,w,hbl⟩:=q4y ha hb hc q
  exact(z2E (q5s hu) (q5s hu) A B C (q3U hs)).weak λσ H Q z=>w σ H _ (z4b hbl h z)
end
section
variable {X:Cx} {E:St->XK} {δ:List Sv} {a b c e:Expr} {es:List Expr} {pos:Pos} {ra:Option Re} {rt ru:Option Rt} {r:Rt} {re:Re}
theorem q5q{D:Dm}{H:Hp}{d:DV}{v:V}{k:Bool}(h:q2r d=some k)(r:Rep D H d v):TruV D.K v H k:=by
 cases d with
 | non=>cases h;rw[q4A.mp r];rfl
 | bl b=>cases h;rw[q4c.mp r];rfl
 | int i=>cases h;rw[q0y.mp r];rfl
 | str x=>
  cases h
  obtain⟨e1,e2⟩:=q2t.mp r
  rw[e1]
  refine⟨e2,?_⟩
  show(x.cps.size != 0)=(((x.cps.size:Nat):Int) != 0)
  cases x.cps.size with
  | zero=>rfl
  | succ n=>simp only[bne,Nat.add_eq_zero_iff];rw[Bool.eq_iff_iff];simp;omega
 | tup ds=>
  cases h
  obtain⟨a,xs,e1,e2,e3⟩:=q0H.mp r
  rw[e1]
  refine .inr (.inl ⟨xs,e2,?_⟩)
  have:=e3.length
  cases xs<;>cases ds<;>first | rfl | cases this
 | lst ds=>
  cases h
  obtain⟨a,xs,e1,e2,e3⟩:=q0G.mp r
  rw[e1]
  refine .inl ⟨xs,SqL.of e2,?_⟩
  have:=e3.length
  cases xs<;>cases ds<;>first | rfl | cases this
 | dct _ _=>cases h
 | exc _=>cases h
 | fn _=>cases h
 | scr _=>cases h
theorem z1m(ha:∀q,ra=some q->PE X e (dE X.D E δ q))(he:∀whole,isTrue e X.env whole=(do let v ←whole;standAt e.pos;holding [v] (truthy v)))(h:tstD ra=some r):PT X e (dT X.D E δ r):=by
 cases hra:ra with
 | none=>rw[hra]at h;cases h
 | some q=>
  rw[hra]at h
  have A:=ha q hra
  cases q with
  | ex c=>cases h;exact(q8q A he).weak λσ H Q ⟨O,W,R,p⟩=>⟨O,W,R,p⟩
  | ok d cl=>
   obtain⟨k,e1,e2⟩:=Option.map_eq_some_iff.mp (show(q2r d).map Rt.ok=some r from h)
   cases e2
   exact(q8q A he).weak λσ H Q ⟨O,W,R,p⟩=>⟨O,W,R,λx H1 s1 g1=>⟨k,q5q e1 (g1.all (R.hid.mono s1)),p H1 s1⟩⟩
theorem z7k{ta:TE}(ha:PE X a ta):PE X (.UnaryOp .Not a pos) (tUn (λx H Q=>∃k,TruV X.K x H k/\Q (.bl (!k)) H) ta):=by
 intro pins s σ H Q I h
 refine UnaryOp_ (thn (ha pins s σ H _ I h) λv s1 ⟨x,H1,I1,r1,q1⟩=>?_)
 obtain⟨k,t,q1⟩:=q1
 exact not_of (thn (q8W pins s1 σ H1 x v (λb H'=>b=k/\H'=H1) I1 r1 ⟨k,t,rfl,rfl⟩) λb s2 ⟨H2,I2,e1,e2⟩=>by
  subst e1 e2
  exact⟨.bl (!b),H2,I2,rfl,q1⟩)
theorem z6d(ha:∀q,ra=some q->PE X a (dE X.D E δ q))(h:(Re.thn ra λx _=>(q2r x).map λk=>.ok (.bl (!k)) .strong)=some re):PE X (.UnaryOp .Not a pos) (dE X.D E δ re):=
 z4O (λ_=>z7k) ha h λO W H0 H x Q dx cx σ k hd gx p=>by
  obtain⟨b,e1,e2⟩:=Option.map_eq_some_iff.mp k
  cases e2
  exact⟨b,q5q e1 (gx.all hd),p _ H (Same.refl H) q3u⟩
theorem q7u{ta tb:TE}(ha:PE X a ta)(hb:PE X (.BoolOp .And (b::es) pos) tb):PE X (.BoolOp .And (a::b::es) pos) (λσ H Q=>ta σ H λx H1=>∃k,TruV X.K x H1 k/\if k=true then tb σ H1 Q else Q x H1):=by
 intro pins s σ H Q I h
 refine BoolOp_and (thn (ha pins s σ H _ I h) λv s1 ⟨x,H1,I1,r1,q1⟩=>?_)
 obtain⟨k,t,q1⟩:=q1
 refine thn (q8W pins s1 σ H1 x v (λb H'=>b=k/\H'=H1) I1 r1 ⟨k,t,rfl,rfl⟩) λc s2 ⟨H2,I2,e1,e2⟩=>?_
 subst e1 e2
 cases c with
 | true=>exact hb pins s2 σ H2 Q I2 q1
 | false=>exact⟨x,H2,I2,r1,q1⟩
theorem z2f{ta tb:TE}(ha:PE X a ta)(hb:PE X (.BoolOp .Or (b::es) pos) tb):PE X (.BoolOp .Or (a::b::es) pos) (λσ H Q=>ta σ H λx H1=>∃k,TruV X.K x H1 k/\if k=true then Q x H1 else tb σ H1 Q):=by
 intro pins s σ H Q I h
 refine BoolOp_or (thn (ha pins s σ H _ I h) λv s1 ⟨x,H1,I1,r1,q1⟩=>?_)
 obtain⟨k,t,q1⟩:=q1
 refine thn (q8W pins s1 σ H1 x v (λb H'=>b=k/\H'=H1) I1 r1 ⟨k,t,rfl,rfl⟩) λc s2 ⟨H2,I2,e1,e2⟩=>?_
 subst e1 e2
 cases c with
 | false=>exact hb pins s2 σ H2 Q I2 q1
 | true=>exact⟨x,H2,I2,r1,q1⟩
theorem z5V{rb:Option Re}(ha:∀q,ra=some q->PE X a (dE X.D E δ q))(hb:∀q,rb=some q->PE X (.BoolOp .And (b::es) pos) (dE X.D E δ q))(h:(Re.thn ra λx c=>andD x c rb)=some re):PE X (.BoolOp .And (a::b::es) pos) (dE X.D E δ re):=by
 cases hra:ra with
 | none=>rw[hra]at h;cases h
 | some q=>
  rw[hra]at h
  have A:=ha q hra
  cases q with
  | ex c=>cases h;exact(q7u A q1c).weak λσ H Q ⟨O,W,R,p⟩=>⟨O,W,R,p⟩
  | ok d cl=>
   have h':andD d cl rb=some re:=h
   unfold andD at h'
   split at h'
   ·cases h'
   ·rename_i t
    exact(q7u A (hb re h')).weak λσ H Q ⟨O,W,R,p⟩=>⟨O,W,R,λx H1 s1 g1=>⟨true,q5q t (g1.all (R.hid.mono s1)),iteT ⟨O,W,R.mono s1,p.later s1 s1⟩⟩⟩
   ·rename_i t
    cases h'
    exact(q7u A q1c).weak λσ H Q ⟨O,W,R,p⟩=>⟨O,W,R,λx H1 s1 g1=>⟨false,q5q t (g1.all (R.hid.mono s1)),iteF (p _ H1 s1 g1)⟩⟩
theorem z7K{rb:Option Re}(ha:∀q,ra=some q->PE X a (dE X.D E δ q))(hb:∀q,rb=some q->PE X (.BoolOp .Or (b::es) pos) (dE X.D E δ q))(h:(Re.thn ra λx c=>orD x c rb)=some re):PE X (.BoolOp .Or (a::b::es) pos) (dE X.D E δ re):=by
 cases hra:ra with
 | none=>rw[hra]at h;cases h
 | some q=>
  rw[hra]at h
  have A:=ha q hra
  cases q with
  | ex c=>cases h;exact(z2f A q1c).weak λσ H Q ⟨O,W,R,p⟩=>⟨O,W,R,p⟩
  | ok d cl=>
   have h':orD d cl rb=some re:=h
   unfold orD at h'
   split at h'
   ·cases h'
   ·rename_i t
    cases h'
    exact(z2f A q1c).weak λσ H Q ⟨O,W,R,p⟩=>⟨O,W,R,λx H1 s1 g1=>⟨true,q5q t (g1.all (R.hid.mono s1)),iteT (p _ H1 s1 g1)⟩⟩
   ·rename_i t
    exact(z2f A (hb re h')).weak λσ H Q ⟨O,W,R,p⟩=>⟨O,W,R,λx H1 s1 g1=>⟨false,q5q t (g1.all (R.hid.mono s1)),iteF ⟨O,W,R.mono s1,p.later s1 s1⟩⟩⟩
theorem q8a{k:DV->Cl->Option Re}(h:tstD (Re.thn ra k)=some r):(ra=none/\False)\/(∃c,ra=some (.ex c)/\r=.ex c)\/∃d c,ra=some (.ok d c)/\tstD (k d c)=some r:=by
 cases hra:ra with
 | none=>rw[hra]at h;cases h
 | some q=>
  rw[hra]at h
  cases q with
  | ex c=>cases h;exact .inr (.inl ⟨c,rfl,rfl⟩)
  | ok d c=>exact .inr (.inr ⟨d,c,rfl,h⟩)
theorem z4v{d:DV}{c:Cl}{r:Rt}(h:tstD (some (.ok d c))=some r):∃k,q2r d=some k/\r=.ok k:=by
 obtain⟨k,e1,e2⟩:=Option.map_eq_some_iff.mp (show(q2r d).map Rt.ok=some r from h)
 exact⟨k,e1,e2.symm⟩
theorem z3S(ha:∀q,tstD ra=some q->PT X a (dT X.D E δ q))(h:tstD (Re.thn ra λx _=>(q2r x).map λk=>.ok (.bl (!k)) .strong)=some r):PT X (.UnaryOp .Not a pos) (dT X.D E δ r):=by
 rcases q8a h with⟨_,z⟩ | ⟨c,e1,e2⟩ | ⟨d,c,e1,e2⟩
 ·exact z.elim
 ·subst e1 e2
  exact(z4a (ha (.ex c) rfl)).weak λσ H Q ⟨O,W,R,p⟩=>⟨O,W,R,p⟩
 ·cases t:q2r d with
  | none=>rw[t]at e2;cases e2
  | some k=>
   rw[t]at e2
   cases e2
   have A:=ha (.ok k) (by rw[e1];show(q2r d).map Rt.ok=_;rw[t];rfl)
   exact(z4a A).weak λσ H Q ⟨O,W,R,p⟩=>⟨O,W,R,λH1 s1=>p H1 s1⟩
theorem z3i{rb:Option Re}(ha:∀q,tstD ra=some q->PT X a (dT X.D E δ q))(hb:∀q,tstD rb=some q->PW X (.BoolOp .And (b::es) pos) (dT X.D E δ q))(h:tstD (Re.thn ra λx c=>andD x c rb)=some r):PW X (.BoolOp .And (a::b::es) pos) (dT X.D E δ r):=by
 rcases q8a h with⟨_,z⟩ | ⟨c,e1,e2⟩ | ⟨d,c,e1,e2⟩
 ·exact z.elim
 ·subst e1 e2
  exact(z1v (ha (.ex c) rfl) q5H).weak λσ H Q ⟨O,W,R,p⟩=>⟨O,W,R,p⟩
 ·unfold andD at e2
  cases t:q2r d with
  | none=>rw[t]at e2;cases e2
  | some k=>
   rw[t]at e2
   have A:=ha (.ok k) (by rw[e1];show(q2r d).map Rt.ok=_;rw[t];rfl)
   cases k with
   | true=>exact(z1v A (hb r e2)).weak λσ H Q ⟨O,W,R,p⟩=>⟨O,W,R,λH1 s1=>iteT ⟨O,W,R.mono s1,p.later s1⟩⟩
   | false=>
    obtain⟨k,t',rfl⟩:=z4v e2
    rw[t]at t';cases t'
    exact(z1v A q5H).weak λσ H Q ⟨O,W,R,p⟩=>⟨O,W,R,λH1 s1=>iteF (p H1 s1)⟩
theorem z6B{rb:Option Re}(ha:∀q,tstD ra=some q->PT X a (dT X.D E δ q))(hb:∀q,tstD rb=some q->PW X (.BoolOp .Or (b::es) pos) (dT X.D E δ q))(h:tstD (Re.thn ra λx c=>orD x c rb)=some r):PW X (.BoolOp .Or (a::b::es) pos) (dT X.D E δ r):=by
 rcases q8a h with⟨_,z⟩ | ⟨c,e1,e2⟩ | ⟨d,c,e1,e2⟩
 ·exact z.elim
 ·subst e1 e2
  exact(z5z (ha (.ex c) rfl) q5H).weak λσ H Q ⟨O,W,R,p⟩=>⟨O,W,R,p⟩
 ·unfold orD at e2
  cases t:q2r d with
  | none=>rw[t]at e2;cases e2
  | some k=>
   rw[t]at e2
   have A:=ha (.ok k) (by rw[e1];show(q2r d).map Rt.ok=_;rw[t];rfl)
   cases k with
   | false=>exact(z5z A (hb r e2)).weak λσ H Q ⟨O,W,R,p⟩=>⟨O,W,R,λH1 s1=>iteF ⟨O,W,R.mono s1,p.later s1⟩⟩
   | true=>
    obtain⟨k,t',rfl⟩:=z4v e2
    rw[t]at t';cases t'
    exact(z5z A q5H).weak λσ H Q ⟨O,W,R,p⟩=>⟨O,W,R,λH1 s1=>iteT (p H1 s1)⟩
theorem q5R{tc t u:TT}(hc:PT X c tc)(ha:PT X a t)(hb:PT X b u):PT X (.IfExp c a b pos) (λσ H Q=>tc σ H λk H1=>if k=true then t σ H1 Q else u σ H1 Q):=by
 intro pins s σ H Q I h
 refine isTrue_IfExp (thn (hc pins s σ H _ I h) λk s1 ⟨H1,I1,q1⟩=>?_)
 cases k with
 | true=>exact ha pins s1 σ H1 Q I1 q1
 | false=>exact hb pins s1 σ H1 Q I1 q1
theorem z3h{rb:Option Re}(hc:∀q,rt=some q->PT X c (dT X.D E δ q))(ha:∀q,tstD ra=some q->PT X a (dT X.D E δ q))(hb:∀q,tstD rb=some q->PT X b (dT X.D E δ q))(h:tstD (Rt.thn rt λk=>if k then ra else rb)=some r):PT X (.IfExp c a b pos) (dT X.D E δ r):=by
 cases hrt:rt with
 | none=>rw[hrt]at h;cases h
 | some q=>
  rw[hrt]at h
  have C:=hc q hrt
  cases q with
  | ex c=>cases h;exact(q5R C q5Q q5Q).weak λσ H Q ⟨O,W,R,p⟩=>⟨O,W,R,p⟩
  | ok k=>
   cases k with
   | true=>exact(q5R C (ha r h) q5Q).weak λσ H Q ⟨O,W,R,p⟩=>⟨O,W,R,λH1 s1=>iteT ⟨O,W,R.mono s1,p.later s1⟩⟩
   | false=>exact(q5R C q5Q (hb r h)).weak λσ H Q ⟨O,W,R,p⟩=>⟨O,W,R,λH1 s1=>iteF ⟨O,W,R.mono s1,p.later s1⟩⟩
theorem z6o{rb rc:Option Re}(hc:∀q,rt=some q->PT X c (dT X.D E δ q))(ha:∀q,rb=some q->PE X a (dE X.D E δ q))(hb:∀q,rc=some q->PE X b (dE X.D E δ q))
  (h:(Rt.thn rt λk=>if k then rb else rc)=some re):PE X (.IfExp c a b pos) (dE X.D E δ re):=by
 cases hrt:rt with
 | none=>rw[hrt]at h;cases h
 | some q=>
  rw[hrt]at h
  have C:=hc q hrt
  cases q with
  | ex c=>cases h;exact(q6l C q1c q1c).weak λσ H Q ⟨O,W,R,p⟩=>⟨O,W,R,p⟩
  | ok k=>
   cases k with
   | true=>
    have h':rb=some re:=h
    exact(q6l C (ha re h') q1c).weak λσ H Q ⟨O,W,R,p⟩=>⟨O,W,R,λH1 s1=>iteT ⟨O,W,R.mono s1,p.later s1 s1⟩⟩
   | false=>
    have h':rc=some re:=h
    exact(q6l C q1c (hb re h')).weak λσ H Q ⟨O,W,R,p⟩=>⟨O,W,R,λH1 s1=>iteF ⟨O,W,R.mono s1,p.later s1 s1⟩⟩
theorem q0q{e:Expr}{es:List Expr}{env:Env}(h:q0s e=false):starEach (e::es) env=(false,eval e env)::starEach es env:=by
 cases e<;>first | rfl | cases h
theorem z2K:PA X [] (dA X.D E δ (.ok [])):=q3X.weak λσ H Q ⟨O,W,R,p⟩=>p [] H (Same.refl H) .nil
theorem z1w{rs:Option Rs}{q:Rs}(hs:q0s e=false)(ha:∀q,ra=some q->PE X e (dE X.D E δ q))(hb:∀q,rs=some q->PA X es (dA X.D E δ q))
  (h:(match(generalizing:=false) ra with | none=>none | some (.ex c)=>some (Rs.ex c) | some (.ok d c)=>(match(generalizing:=false) rs with | none=>none | some (.ex c)=>some (.ex c) | some (.ok l)=>some (.ok ((d,c)::l))))=some q):PA X (e::es) (dA X.D E δ q):=by
 cases hra:ra with
 | none=>rw[hra]at h;cases h
 | some z=>
  rw[hra]at h
  have A:=ha z hra
  cases z with
  | ex c=>cases h;exact(q1n A z0T (q0q hs)).weak λσ H Q ⟨O,W,R,p⟩=>⟨O,W,R,p⟩
  | ok d cl=>
   cases hrs:rs with
   | none=>rw[hrs]at h;cases h
   | some y=>
    rw[hrs]at h
    have B:=hb y hrs
    cases y with
    | ex c=>cases h;exact(q1n A B (q0q hs)).weak λσ H Q ⟨O,W,R,p⟩=>⟨O,W,R,λx H1 s1 g1=>⟨O,W,R.mono s1,λH' C m s=>p H' C m (s1.trans s)⟩⟩
    | ok l=>
     cases h
     exact(q1n A B (q0q hs)).weak λσ H Q ⟨O,W,R,p⟩=>⟨O,W,R,λx H1 s1 g1=>⟨O,W,R.mono s1,λvs H2 s2 g2=>p _ H2 (s1.trans s2) (.cons (g1.mono s2) (g2.since s1))⟩⟩
theorem z7p{rs:Option Rs}(ha:∀q,rs=some q->PA X es (dA X.D E δ q))(h:(Rs.thn rs λl=>if l.length<=mostLen then some (.ok (.lst (l.map (·.1))) (if stros l then .fresh else .weak))else none)=some re):PE X (.List es pos) (dE X.D E δ re):=
 q3E (r:=λvs H Q=>vs.length<=sizeLine/\∀p,H p=none->Q (.ref p) (upd H p (.lst vs))) (λ_=>z9h) ha h λO W H0 H vs Q l σ k hd g p=>by
  split at k
  ·rename_i m
   cases k
   refine⟨by rw[g.length];exact q1Y m,λq hq=>p _ _ (q0p hq) ?_⟩
   by_cases z:stros l=true
   ·rw[if_pos z];exact q2e hd hq (g.stros hd z)
   ·rw[if_neg z];exact q6o hd hq (g.repL hd)
  ·cases k
theorem z6P{rs:Option Rs}{x1:Nat}(ha:∀q,rs=some q->PA X es (dA X.D E δ q))(h:(Rs.thn rs λl=>if l.length<=mostLen then some (.ok (.tup (l.map (·.1))) (if stros l then .strong else .weak))else none)=some re):PE X (.Tuple es x1 pos) (dE X.D E δ re):=
 q3E (r:=λvs H Q=>vs.length<=sizeLine/\∀p,H p=none->Q (.ref p) (upd H p (.tup vs))) (λ_=>z1P) ha h λO W H0 H vs Q l σ k hd g p=>by
  split at k
  ·rename_i m
   cases k
   refine⟨by rw[g.length];exact q1Y m,λq hq=>p _ _ (q0p hq) ?_⟩
   by_cases z:stros l=true
   ·rw[if_pos z];exact q4Q hd hq (g.stros hd z)
   ·rw[if_neg z];exact q8Z hd hq (g.repL hd)
  ·cases k
end
end L2
end
noncomputable section
namespace L2
open PySem PySem.Spec PyProof.Rows
theorem q6q:∀ds:List DV,toPs ds=ds.map toP
 | []=>by rw[toPs];rfl
 | d::r=>by rw[toPs,q6q r];rfl
theorem q7T{y:DV}:∀{ds:List DV} {j:Nat},q4g y ds=some j->∃h:j<ds.length,deq ds[j] y=true/\∀m (hm:m<ds.length),m<j->deq ds[m] y=false
 | [],j,h=>by cases h
 | d::r,j,h=>by
  unfold q4g at h
  split at h
  ·rename_i e
   cases h
   exact⟨Nat.succ_pos _,e,λm _ hm=>absurd hm (Nat.not_lt_zero _)⟩
  ·rename_i e
   obtain⟨k,h1,rfl⟩:=Option.map_eq_some_iff.mp h
   obtain⟨hk,h2,h3⟩:=q7T h1
   refine⟨Nat.succ_lt_succ hk,h2,λm hm hlt=>?_⟩
   cases m with
   | zero=>exact Bool.eq_false_iff.mpr e
   | succ m=>exact h3 m (Nat.lt_of_succ_lt_succ hm) (Nat.lt_of_succ_lt_succ hlt)
theorem q6K{n:Nat}:∀{ds:List DV} {m:Nat} (h:m<ds.length),DV.plains n ds=true->(ds[m]).plain n=true
 | d::r,0,_,p=>by simp only[DV.plains,Bool.and_eq_true]at p;exact p.1
 | d::r,m+1,h,p=>by simp only[DV.plains,Bool.and_eq_true]at p;exact q6K (ds:=r) (Nat.lt_of_succ_lt_succ h) p.2
section
variable {X:Cx} {pins:List (Addr×Obj)} {σ:St} {H:Hp} {s:Shared} {E:St->XK} {δ:List Sv} {o e:Expr} {to te:TE} {apos cpos:Pos} {ra rb:Option Re} {re:Re}
theorem q8t{y:DV}{ds:List DV}{j:Nat}(p:y.plain 60=true)(q:DV.plains 60 ds=true)(h:q4g y ds=some j) :
  ∃h:j<(toPs ds).length,PyData.eqv (toPs ds)[j] (toP y)=true/\∀m (hm:m<(toPs ds).length),m<j->PyData.eqv (toPs ds)[m] (toP y)=false:=by
 obtain⟨hj,h1,h2⟩:=q7T h
 have hl:(toPs ds).length=ds.length:=by rw[q6q,List.length_map]
 have ha:∀m (h1:m<(toPs ds).length) (h2:m<ds.length),PyData.eqv (toPs ds)[m] (toP y)=deq ds[m] y:=λm h1 h2=>by
  rw[←q6n 60 60 ds[m] y (q6K h2 q) p]
  congr 1
  simp only[q6q,List.getElem_map]
 exact⟨by omega,(ha j (by omega) hj).trans h1,λm hm hlt=>(ha m hm (by omega)).trans (h2 m (by omega) hlt)⟩
theorem z5N{x y:V}{v u:Value}{ds:List DV}{dy:DV}{j:Nat}{Q:VK}(hu:X.A.units+64<cLine)(I:Inv X pins σ H s)(rx:RelV x v)(ry:RelV y u)(r1:Rep X.D H (.lst ds) x)(r2:Rep X.D H dy y)(p:dy.plain 60=true)(q:DV.plains 60 ds=true)(hl:ds.length<=mostLen)
  (h:q4g dy ds=some j) (k:Q (.int j) H):wpAny (model X.prog X.w) X.A (call (.builtin "list.index") [v,u]) (EP X pins σ Q) X.xe s:=by
 obtain⟨as,q1⟩:=q1g I 60 p r2 ry
 obtain⟨bs,q2⟩:=q1g I 61 (d:=.lst ds) (by simpa[DV.plain]using q) r1 rx
 rw[toP]at q2
 have l1:=q3S 60 _ p
 have l2:=q2m 60 ds q
 have l3:=l1.2
 obtain⟨hj,f1,f2⟩:=q8t p q h
 have hj2:=(q7T h).1
 exact SeqAt.index_list_reads q2 q1 l2.1 l1.1 (by omega) hj (by have:mostLen=1000000:=rfl;omega) f1 f2 ⟨.int j,H,I.tok _,⟨_,rfl⟩,k⟩
theorem z6J{x y:V}{v u:Value}{ds:List DV}{dy:DV}{j:Nat}{Q:VK}(hu:X.A.units+64<cLine)(I:Inv X pins σ H s)(rx:RelV x v)(ry:RelV y u)(r1:Rep X.D H (.tup ds) x)(r2:Rep X.D H dy y)(p:dy.plain 60=true)(q:DV.plains 60 ds=true)
  (h:q4g dy ds=some j) (k:Q (.int j) H):wpAny (model X.prog X.w) X.A (call (.builtin "tuple.index") [v,u]) (EP X pins σ Q) X.xe s:=by
 obtain⟨as,q1⟩:=q1g I 60 p r2 ry
 obtain⟨bs,q2⟩:=q1g I 61 (d:=.tup ds) (by simpa[DV.plain]using q) r1 rx
 rw[toP]at q2
 have l1:=q3S 60 _ p
 have l2:=q2m 60 ds q
 have l3:=l1.2
 obtain⟨hj,f1,f2⟩:=q8t p q h
 exact SeqAt.index_tuple_reads q2 q1 l2.1 l1.1 (by omega) hj f1 f2 ⟨.int j,H,I.tok _,⟨_,rfl⟩,k⟩
def tIdx(X:Cx)(to te:TE):TE:=λσ H Q=>to σ H λx H1=>(∃ds,Rep X.D H1 (.lst ds) x/\te σ H1 λy H2=>∃ds dy j,Rep X.D H2 (.lst ds) x/\Rep X.D H2 dy y/\dy.plain 60=true/\DV.plains 60 ds=true/\ds.length<=mostLen/\q4g dy ds=some j/\Q (.int j) H2) \/
 (∃ds,Rep X.D H1 (.tup ds) x/\te σ H1 λy H2=>∃ds dy j,Rep X.D H2 (.tup ds) x/\Rep X.D H2 dy y/\dy.plain 60=true/\DV.plains 60 ds=true/\q4g dy ds=some j/\Q (.int j) H2)
theorem z4n(hu:X.A.units+64<cLine)(ho:PE X o to)(ha:PE X e te)(hbase:attributeBase o "index" X.env (eval o X.env)=eval o X.env)(hline:(apos.endLine==cpos.line)=true)(hs:starEach [e] X.env=[(false,eval e X.env)]) :
  PE X (.Call (.Attribute o "index" apos) [e] [] cpos) (tIdx X to te):=by
 intro pins s σ H Q I h
 refine wpAny_Call_method_late hbase (by rw[hs];rfl) hline rfl (thn (ho pins s σ H _ I h) λv s1 ⟨x,H1,I1,r1,q1⟩=>?_)
 rcases q1 with⟨ds,d1,q1⟩ | ⟨ds,d1,q1⟩
 ·obtain⟨a,xs,e1,e2,e3⟩:=q0G.mp d1
  subst e1
  cases(show v=Value.ref a from r1)
  obtain⟨its,_,pl,_⟩:=I1.list (SqL.of e2)
  refine⟨"list","list.index",PySem.F.plainAttrs_list,PySem.F.slot_list_index,PySem.F.type_list_index,pl.isList.typeIs,λb eb=>?_,?_⟩
  ·cases eb
   obtain⟨o,n,e,c,hd,_⟩:=pl
   exact⟨o,e,hd⟩
  ·rw[hs]
   refine Calls.callWith_builtin rfl (Calls.evalArgs_plain (Calls.spliced_cons (thn (ha pins s1 σ H1 _ I1 q1) λu s2 ⟨y,H2,I2,r2,ds',dy,j,d2,d3,p1,p2,p3,p4,k⟩=>Calls.spliced_nil ?_)))
   exact z5N hu I2 (show RelV (.ref a) (Value.ref a)from rfl) r2 d2 d3 p1 p2 p3 p4 k
 ·obtain⟨a,xs,e1,e2,e3⟩:=q0H.mp d1
  subst e1
  cases(show v=Value.ref a from r1)
  obtain⟨ob,n1,n2,n3⟩:=I1.tupleN e2
  refine⟨"tuple","tuple.index",PySem.F.plainAttrs_tuple,PySem.F.slot_tuple_index,PySem.F.type_tuple_index,⟨ob,n1,n2⟩,λb eb=>?_,?_⟩
  ·cases eb
   exact⟨ob,n1,n3⟩
  ·rw[hs]
   refine Calls.callWith_builtin rfl (Calls.evalArgs_plain (Calls.spliced_cons (thn (ha pins s1 σ H1 _ I1 q1) λu s2 ⟨y,H2,I2,r2,ds',dy,j,d2,d3,p1,p2,p3,k⟩=>Calls.spliced_nil ?_)))
   exact z6J hu I2 (show RelV (.ref a) (Value.ref a)from rfl) r2 d2 d3 p1 p2 p3 k
theorem z6w(hu:X.A.units+64<cLine)(ha:∀q,ra=some q->PE X o (dE X.D E δ q))(hb:∀q,rb=some q->PE X e (dE X.D E δ q))(hbase:attributeBase o "index" X.env (eval o X.env)=eval o X.env)(hline:(apos.endLine==cpos.line)=true)(hs:starEach [e] X.env=[(false,eval e X.env)])
  (h:(Re.thn ra λx _=>if seqB x then Re.thn rb λy _=>(idxD x y).map λd=>.ok d .strong else none)=some re):PE X (.Call (.Attribute o "index" apos) [e] [] cpos) (dE X.D E δ re):=by
 cases hra:ra with
 | none=>rw[hra]at h;cases h
 | some q=>
  rw[hra]at h
  have A:=ha q hra
  cases q with
  | ex c=>
   cases h
   exact(z4n hu A q1c hbase hline hs).weak λσ H Q ⟨O,W,R,p⟩=>⟨O,W,R,p⟩
  | ok dx cx=>
   have h0:(if seqB dx then Re.thn rb λy _=>(idxD dx y).map λd=>Re.ok d .strong else none)=some re:=h
   have hsq:seqB dx=true:=by
    cases z:seqB dx with
    | true=>rfl
    | false=>rw[z]at h0;cases h0
   rw[if_pos hsq]at h0
   have h':(Re.thn rb λy _=>(idxD dx y).map λd=>.ok d .strong)=some re:=h0
   cases hrb:rb with
   | none=>rw[hrb]at h';cases h'
   | some q=>
    rw[hrb]at h'
    have B:=hb q hrb
    have C:=z4n hu A B hbase hline hs (apos:=apos) (cpos:=cpos)
    cases q with
    | ex c=>
     cases h'
     cases dx with
     | lst ds=>exact C.weak λσ H Q ⟨O,W,R,p⟩=>⟨O,W,R,λx H1 s1 g1=>.inl ⟨ds,g1.all (R.hid.mono s1),O,W,R.mono s1,λH' C m s=>p H' C m (s1.trans s)⟩⟩
     | tup ds=>exact C.weak λσ H Q ⟨O,W,R,p⟩=>⟨O,W,R,λx H1 s1 g1=>.inr ⟨ds,g1.all (R.hid.mono s1),O,W,R.mono s1,λH' C m s=>p H' C m (s1.trans s)⟩⟩
     | _=>cases hsq
    | ok dy cy=>
     have h2:((idxD dx dy).map λd=>Re.ok d .strong)=some re:=h'
     obtain⟨d,h3,h4⟩:=Option.map_eq_some_iff.mp h2
     subst h4
     unfold idxD at h3
     split at h3
     ·rename_i ds
      split at h3
      ·rename_i m
       obtain⟨j,f1,rfl⟩:=Option.map_eq_some_iff.mp h3
       rw[Bool.and_eq_true,Bool.and_eq_true,decide_eq_true_eq]at m
       exact C.weak λσ H Q ⟨O,W,R,p⟩=>⟨O,W,R,λx H1 s1 g1=>.inl ⟨ds,g1.all (R.hid.mono s1),O,W,R.mono s1,λy H2 s2 g2=>
        ⟨ds,dy,j,(g1.mono s2).all ((R.hid.mono s1).mono s2),(g2.since s1).all ((R.hid.mono s1).mono s2),m.1.1,m.1.2,m.2,f1,p _ H2 (s1.trans s2) q0F⟩⟩⟩
      ·cases h3
     ·rename_i ds
      split at h3
      ·rename_i m
       obtain⟨j,f1,rfl⟩:=Option.map_eq_some_iff.mp h3
       rw[Bool.and_eq_true,Bool.and_eq_true,decide_eq_true_eq]at m
       exact C.weak λσ H Q ⟨O,W,R,p⟩=>⟨O,W,R,λx H1 s1 g1=>.inr ⟨ds,g1.all (R.hid.mono s1),O,W,R.mono s1,λy H2 s2 g2=>
        ⟨ds,dy,j,(g1.mono s2).all ((R.hid.mono s1).mono s2),(g2.since s1).all ((R.hid.mono s1).mono s2),m.1.1,m.1.2,f1,p _ H2 (s1.trans s2) q0F⟩⟩⟩
      ·cases h3
     ·cases h3
end
end L2
end
noncomputable section
namespace L2
open PySem PySem.Spec PyProof.Rows
def GotR(D:Dm)(O:List Addr)(H0 H:Hp)(d:DV)(fr:Bool)(v:V):Prop:=match fr with
 | false=>Rep D (L2.wo O H) d v
 | true=>∃p xs ds,v=.ref p/\d=.lst ds/\H0 p=none/\H p=some (.lst xs)/\RepL D (L2.wo (p::O) H) ds xs
def GotF(H H':Hp)(xs:List DV)(v:V):Prop:=∃(p:Addr) (L:List (Addr×List Int)),v=.ref p/\xs=L.map (λq=>.lst (q.2.map DV.int))/\H p=none/\H' p=some (.lst (L.map λq=>.ref q.1))/\(∀q∈L,H q.1=none/\H' q.1=some (.lst (q.2.map V.int)))/\(p::L.map (·.1)).Nodup
theorem GotF.since{H0 H1 H:Hp}{xs:List DV}{v:V}(g:GotF H1 H xs v)(f:∀a,H1 a=none->H0 a=none):GotF H0 H xs v:=by
 obtain⟨p,L,e1,e2,e3,e4,e5,e6⟩:=g
 exact⟨p,L,e1,e2,f _ e3,e4,λq hq=>⟨f _ (e5 q hq).1,(e5 q hq).2⟩,e6⟩
theorem GotF.items{D:Dm}{H0 H:Hp}{xs:List DV}{v:V}{Z:List Addr}(g:GotF H0 H xs v)(hz:∀a∈Z,H0 a≠none):∃p vs,v=.ref p/\H0 p=none/\H p=some (.lst vs)/\RepL D (L2.wo (p::Z) H) xs vs:=by
 obtain⟨p,L,e1,e2,e3,e4,e5,e6⟩:=g
 refine⟨p,_,e1,e3,e4,?_⟩
 rw[e2]
 refine q7y λq hq=>?_
 rw[q0r λz=>?_]
 ·exact(e5 q hq).2
 ·rcases List.mem_cons.mp z with z | z
  ·exact(List.nodup_cons.mp e6).1 (List.mem_map.mpr ⟨q,hq,z⟩)
  ·exact hz _ z (e5 q hq).1
theorem GotF.fresh{D:Dm}{O W:List Addr}{H0 H1 H:Hp}{xs:List DV}{v:V}(g:GotF H0 H xs v)(hd:Hid O W H0 H1):Got D O W H0 H (.lst xs) .fresh v:=by
 obtain⟨p,vs,e1,e2,e3,e4⟩:=g.items (D:=D) (Z:=O++W) hd.ot
 exact⟨p,vs,xs,e1,rfl,e2,e3,e4⟩
def GotT(D:Dm)(O:List Addr)(H0 H:Hp)(d:DV)(v:V):Prop:=(∃t ts p xs ds es,v=.ref t/\d=.tup (.lst ds::es)/\SqT D.K (L2.wo O H) t (.ref p::ts)/\H0 p=none/\H p=some (.lst xs)/\RepL D (L2.wo (p::O) H) ds xs/\RepL D (L2.wo (p::O) H) es ts)\/∃xs,d=.lst xs/\GotF H0 H xs v
def spF(D:Dm)(n:Nat)(f:List DV->Option Ou):Sp:=λvs H Q E=>∃O ds o,Hdn O H/\ds.length=n/\RepL D (L2.wo O H) ds vs/\f ds=some o /\
 (match o with | .v d fr=>∀v H',Same H H'->GotR D O H H' d fr v->Q v H' | .t d=>∀v H',Same H H'->GotT D O H H' d v->Q v H' | .x c=>∀H' C,D.mg c=some C->Same H H'->E C none H')
def spH(D:Dm)(f:DV->List DV->Option (DV×List DV)):Sp:=λvs H Q _=>∃O p v d ds xs r,vs=[v,.ref p]/\Hdn O H/\p∉O/\H p=some (.lst xs)/\Rep D (L2.wo (O++[p]) H) d v/\RepL D (L2.wo (O++[p]) H) ds xs/\f d ds=some r /\
 ∀v' H' xs',Same (L2.wo [p] H) H'->H' p=some (.lst xs')->Rep D (L2.wo (O++[p]) H') r.1 v'->RepL D (L2.wo (O++[p]) H') r.2 xs'->Q v' H'
section
variable {X:Cx} {E:St->XK} {δ:List Sv} {e:Expr} {es:List Expr} {pos p:Pos} {re:Re} {rs:Option Rs} {k:Nat} {fa:Addr} {fd:FuncData} {ps:List Str} {x:Str}
theorem q6I{F:Nat->List DV->Option Ou}{f:Nat}{e0:Expr}{Pre:St->Hp->Prop}(hn:∀ds o,F f ds=some o->ds.length=ps.length)(C:∀t,PA X (e::es) t->PE X e0 (λσ H Q=>Pre σ H/\z1o (spF X.D ps.length (F f)) [] E t σ H Q))(pre:∀σ H O W,RSt X.D H σ δ O W->Pre σ H)(ha:∀q,rs=some q->PA X (e::es) (dA X.D E δ q))
  (h:(Rs.thn rs λl=>q3n F f l)=some re):PE X e0 (dE X.D E δ re):=by
 cases hrs:rs with
 | none=>rw[hrs]at h;cases h
 | some q=>
  rw[hrs]at h
  have A:=ha q hrs
  cases q with
  | ex c=>cases h;exact(C _ A).weak λσ H Q ⟨O,W,R,p⟩=>⟨pre _ _ _ _ R,O,W,R,p⟩
  | ok l=>
   have h':q3n F f l=some re:=h
   unfold q3n at h'
   split at h'
   ·cases h'
   ·rename_i c e1
    cases h'
    refine(C _ A).weak λσ H Q ⟨O,W,R,p⟩=>⟨pre _ _ _ _ R,O,W,R,λvs H1 s1 g1=>?_⟩
    have hd:=R.hid.mono s1
    show spF X.D ps.length (F f) (vs++[]) H1 Q (E σ)
    rw[List.append_nil]
    exact⟨O,_,_,hd.hdO,hn _ _ e1,g1.repL hd,e1,λH' C m s=>p H' C m (s1.trans s)⟩
   ·rename_i d e1
    cases h'
    refine(C _ A).weak λσ H Q ⟨O,W,R,p⟩=>⟨pre _ _ _ _ R,O,W,R,λvs H1 s1 g1=>?_⟩
    have hd:=R.hid.mono s1
    show spF X.D ps.length (F f) (vs++[]) H1 Q (E σ)
    rw[List.append_nil]
    by_cases z:(l.all λp=>p.2 == .strong||p.2 == .fresh)=true
    ·rw[if_pos z]at p
     refine⟨O++W,_,_,hd.hdA,hn _ _ e1,g1.strong hd z,e1,λv H' s g=>p v H' (s1.trans s) ?_⟩
     rcases g with⟨t,ts,q,xs,ds,es,f1,f2,f0,f3,f4,f5,f6⟩ | ⟨xs,f1,f2⟩
     ·subst f2
      exact⟨t,ts,q,xs,ds,es,f1,rfl,f0,s1.free f3,f4,f5,f6⟩
     ·subst f1
      exact(f2.since λa ha=>s1.free ha).fresh hd
    ·rw[if_neg z]at p
     refine⟨O,_,_,hd.hdO,hn _ _ e1,g1.repL hd,e1,λv H' s g=>p v H' (s1.trans s) ?_⟩
     rcases g with⟨t,ts,q,xs,ds,es,f1,f2,f0,f3,f4,f5,f6⟩ | ⟨xs,f1,f2⟩
     ·have hq:q∉O:=λz=>hd.ot q (List.mem_append_left _ z) (s1.free f3)
      have up:Same (L2.wo (q::O) H') (L2.wo O H'):=q0T λb hb=>List.mem_cons_of_mem _ hb
      rw[f2]
      exact q0H.mpr ⟨t,_,f1,f0,q0j.mpr ⟨_,_,rfl,q0G.mpr ⟨q,xs,rfl,by rw[q0r hq];exact f4,f5.mono up⟩,f6.mono up⟩⟩
     ·subst f1
      have hO:∀a∈O,H1 a≠none:=λa ha q=>hd.ot a (List.mem_append_left _ ha) (s1.free q)
      obtain⟨q,vs,g1',g2',g3',g4'⟩:=f2.items (D:=X.D) hO
      have hq:q∉O:=λz=>hO q z g2'
      exact q0G.mpr ⟨q,vs,g1',by rw[q0r hq];exact g3',g4'.mono (q0T λb hb=>List.mem_cons_of_mem _ hb)⟩
   ·rename_i d fr e1
    cases h'
    refine(C _ A).weak λσ H Q ⟨O,W,R,p⟩=>⟨pre _ _ _ _ R,O,W,R,λvs H1 s1 g1=>?_⟩
    have hd:=R.hid.mono s1
    show spF X.D ps.length (F f) (vs++[]) H1 Q (E σ)
    rw[List.append_nil]
    by_cases z:(l.all λp=>p.2 == .strong||p.2 == .fresh)=true
    ·rw[if_pos z]at p
     refine⟨O++W,_,_,hd.hdA,hn _ _ e1,g1.strong hd z,e1,λv H' s g=>p v H' (s1.trans s) ?_⟩
     cases fr with
     | false=>exact g
     | true=>
      obtain⟨q,xs,ds,e1,e2,e3,e4,e5⟩:=g
      exact⟨q,xs,ds,e1,e2,s1.free e3,e4,e5⟩
    ·rw[if_neg z]at p
     refine⟨O,_,_,hd.hdO,hn _ _ e1,g1.repL hd,e1,λv H' s g=>p v H' (s1.trans s) ?_⟩
     cases fr with
     | false=>exact g
     | true=>
      obtain⟨q,xs,ds,e1,e2,e3,e4,e5⟩:=g
      have hq:q∉O:=λz=>hd.ot q (List.mem_append_left _ z) (s1.free e3)
      rw[e2]
      exact q0G.mpr ⟨q,xs,e1,by rw[q0r hq];exact e4,e5.mono (q0T λb hb=>List.mem_cons_of_mem _ hb)⟩
theorem z2I{F:Nat->List DV->Option Ou}{f:Nat}(fo:FnOk X.prog X.w X.K X.mg X.base (CXx X.prog X.w X.base) k fa fd ps (spF X.D ps.length (F f)))(hn:∀ds o,F f ds=some o->ds.length=ps.length)(hr:Room k X.A)(hg:Gl X x)(hm:X.mg x=some (.ref fa))(hk:PySem.W.keepIn X.K (.ref fa)=true)
  (hb:q2J X.K fd ps []) (hx:q3r (CXx X.prog X.w X.base) X E) (ha:∀q,rs=some q->PA X (e::es) (dA X.D E δ q)) (hdb:(x==("__debug__" : Str))=false) (hs:q0s e=false) (hss:es.any q0s=false)
  (h:(Rs.thn rs λl=>q3n F f l)=some re):PE X (.Call (.Name x p) (e::es) [] pos) (dE X.D E δ re):=by
 have plain:∀(es:List Expr),es.any q0s=false->(backTo pos (starEach es X.env)).any (·.1)=false:=by
  intro es
  induction es with
  | nil=>intro _;rfl
  | cons y ys ih=>
   intro q
   rw[List.any_cons,Bool.or_eq_false_iff]at q
   rw[q0q q.1]
   show(false||(backTo pos (starEach ys X.env)).any (·.1))=false
   rw[ih q.2];rfl
 exact q6I (Pre:=λ_ _=>True) hn (λt hA=>(z3W (p:=p) (pos:=pos) fo hr hg hm hk hb .nil hx hA hdb (q0q hs) (plain es hss)).weak λσ H Q h=>h.2) (λ_ _ _ _ _=>trivial) ha h
end
section
variable {X:Cx} {E:St->XK} {δ:List Sv} {e:Expr} {es:List Expr} {pos p:Pos} {re:Re} {rs:Option Rs}
theorem q2Q{env:Env}{pos:Pos}:∀(es:List Expr),es.any q0s=false->(backTo pos (starEach es env)).any (·.1)=false
 | [],_=>rfl
 | y::ys,q=>by
  rw[List.any_cons,Bool.or_eq_false_iff]at q
  rw[q0q q.1]
  show(false||(backTo pos (starEach ys env)).any (·.1))=false
  rw[q2Q ys q.2];rfl
theorem z3G{CX:CXT}{sp:Sp}{dvs:List V}{ds:List Value}{k i:Nat}{fa:Addr}{fd:FuncData}{ps:List Str}{x:Str}{t:TA}(fo:FnOk X.prog X.w X.K X.mg X.base CX k fa fd ps sp)(hr:Room k X.A)(hv:PE X (.Name x p) (tVar i))(hk:PySem.W.keepIn X.K (.ref fa)=true)(hb:q2J X.K fd ps ds)(hd:Vals dvs ds)(hx:q3r CX X E)
  (ha:PA X (e::es) t) (he:starEach (e::es) X.env=(false,eval e X.env)::starEach es X.env:=by rfl) (hpl:(backTo pos (starEach es X.env)).any (·.1)=false:=by rfl) :
  PE X (.Call (.Name x p) (e::es) [] pos) (λσ H Q=>σ[i]? = some (some (.ref fa))/\z1o sp dvs E t σ H Q):=by
 intro pins s σ H Q I h
 obtain⟨h0,h⟩:=h
 refine wpAny_Call_Name_kw (thn (hv pins s σ H (λv H1=>v=.ref fa/\H1=H) I ⟨_,h0,rfl,rfl⟩) λu s1 ⟨v,H1,I1,r1,q1,q2⟩=>?_)
 subst q1 q2
 obtain rfl:u=Value.ref fa:=r1
 refine PySem.W.callWith_K (h₀:=X.base) I.ok.mod.kin hk (thn (ha pos pins s1 σ H1 _ I1 h) λus s2 ⟨vs,H2,I2,r,q⟩=>⟨I2.kIn,?_⟩) he hpl
 exact z0K fo hr hb hd hx I2 r q
theorem q9Z{F:Nat->List DV->Option Ou}{i f k:Nat}{x y:Str}{fa:Addr}{fd:FuncData}{ps:List Str}(fo:FnOk X.prog X.w X.K X.mg X.base (CXx X.prog X.w X.base) k fa fd ps (spF X.D ps.length (F f)))(hn:∀ds o,F f ds=some o->ds.length=ps.length)(hr:Room k X.A)(hv:PE X (.Name x p) (tVar i))(hm:X.mg y=some (.ref fa))(hk:PySem.W.keepIn X.K (.ref fa)=true)
  (hb:q2J X.K fd ps []) (hx:q3r (CXx X.prog X.w X.base) X E) (hi:δ[i]? = some (.val (.fn y))) (ha:∀q,rs=some q->PA X (e::es) (dA X.D E δ q)) (hs:q0s e=false) (hss:es.any q0s=false)
  (h:(Rs.thn rs λl=>q3n F f l)=some re):PE X (.Call (.Name x p) (e::es) [] pos) (dE X.D E δ re):=by
 refine q6I (Pre:=λσ _=>σ[i]? = some (some (.ref fa))) hn (λt hA=>z3G (p:=p) (pos:=pos) fo hr hv hk hb .nil hx hA (q0q hs) (q2Q es hss)) (λσ H O W R=>?_) ha h
 obtain⟨v,e1,e2⟩:=R.val i _ hi
 obtain⟨g,q1,q2⟩:=z4z.mp e2
 have q3:X.mg y=some (.ref g):=q2
 rw[hm]at q3
 cases q3
 rw[e1,q1]
def biR(X:Cx)(k:List (DV×Cl)->Option Re):List V->Hp->VK->Prop:=λvs H Q=>∃l re O W H0,k l=some re/\Hid O W H0 H/\GotL X.D O W H0 H l vs/\∃d c,re=.ok d c/\∀v H',Same H H'->Got X.D O W H0 H' d c v->Q v H'
theorem q8f{k:List (DV×Cl)->Option Re}{x:Str}{id:String}(hc:q1F X (.builtin id) (biR X k))(hk:∀l re,k l=some re->∃d c,re=.ok d c)(hg:Gl X x)(hm:X.mg x=none)(hv:bootBuiltins x=some (.builtin id))(hn:x ≠ "__name__")(hdb:(x==("__debug__" : Str))=false)
  (ha:∀q,rs=some q->PA X (e::es) (dA X.D E δ q)) (hs:q0s e=false) (hss:es.any q0s=false) (h:Rs.thn rs k=some re):PE X (.Call (.Name x p) (e::es) [] pos) (dE X.D E δ re):=
 q3E (λ_ hA=>q4i hc hg hm hv hA hn hdb (q0q hs) (q2Q es hss)) ha h λO W H0 H vs Q l σ hl hd g p=>by
  obtain⟨d,c,rfl⟩:=hk l re hl
  exact⟨l,_,O,W,H0,hl,hd,g,d,c,rfl,p⟩
theorem z0f{k:List (DV×Cl)->Option Re}{x:Str}{T:String}(hc:q1F X (.type T) (biR X k))(hk:∀l re,k l=some re->∃d c,re=.ok d c)(hg:Gl X x)(hm:X.mg x=none)(hv:bootBuiltins x=some (.type T))(hn:x ≠ "__name__")(hdb:(x==("__debug__" : Str))=false)
  (ha:∀q,rs=some q->PA X (e::es) (dA X.D E δ q)) (hs:q0s e=false) (hss:es.any q0s=false) (h:Rs.thn rs k=some re):PE X (.Call (.Name x p) (e::es) [] pos) (dE X.D E δ re):=
 q3E (λ_ hA=>q6G hc hg hm hv hA hn hdb (q0q hs) (q2Q es hss)) ha h λO W H0 H vs Q l σ hl hd g p=>by
  obtain⟨d,c,rfl⟩:=hk l re hl
  exact⟨l,_,O,W,H0,hl,hd,g,d,c,rfl,p⟩
theorem z6E:∀l re,lenD l=some re->∃d c,re=.ok d c:=λl re h=>by unfold lenD at h;split at h<;>cases h<;>exact⟨_,_,rfl⟩
theorem z7z:∀l re,minD l=some re->∃d c,re=.ok d c:=λl re h=>by
 unfold minD at h
 split at h
 ·cases h;exact⟨_,_,rfl⟩
 ·split at h
  ·cases h;exact⟨_,_,rfl⟩
  ·cases h
 ·split at h
  ·cases h;exact⟨_,_,rfl⟩
  ·cases h
 ·cases h
theorem z5y:∀l re,maxD l=some re->∃d c,re=.ok d c:=λl re h=>by
 unfold maxD at h
 split at h
 ·cases h;exact⟨_,_,rfl⟩
 ·split at h
  ·cases h;exact⟨_,_,rfl⟩
  ·cases h
 ·cases h
theorem q3C{D:Dm}{H:Hp}:∀{ds:List DV} {ns:List Int} {xs:List V},ints? ds=some ns->RepL D H ds xs->xs=ns.map V.int
 | [],ns,xs,h,r=>by
  cases h
  exact q0x.mp r
 | .int i::ds,ns,xs,h,r=>by
  have h':(ints? ds).map (i :: ·)=some ns:=h
  obtain⟨ms,e1,e2⟩:=Option.map_eq_some_iff.mp h'
  obtain⟨v,vs,e3,e4,e5⟩:=q0j.mp r
  have q:=q3C e1 e5
  rw[←e2,e3,List.map_cons,q0y.mp e4,q]
 | .non::ds,ns,xs,h,_=>by cases h
 | .bl _::ds,ns,xs,h,_=>by cases h
 | .str _::ds,ns,xs,h,_=>by cases h
 | .tup _::ds,ns,xs,h,_=>by cases h
 | .lst _::ds,ns,xs,h,_=>by cases h
 | .dct _ _::ds,ns,xs,h,_=>by cases h
 | .exc _::ds,ns,xs,h,_=>by cases h
 | .fn _::ds,ns,xs,h,_=>by cases h
 | .scr _::ds,ns,xs,h,_=>by cases h
theorem q8v:∀(r:List Int) (m:Int),(minI m r=m\/minI m r∈r)/\minI m r<=m/\∀x∈r,minI m r<=x
 | [],m=>⟨.inl rfl,Int.le_refl _,λx h=>by cases h⟩
 | y::r,m=>by
  obtain⟨h0,h1,h2⟩:=q8v r (if y<m then y else m)
  unfold minI
  by_cases q:y<m
  ·rw[if_pos q]at h0 h1 h2 ⊢
   refine⟨.inr ?_,by omega,λx hx=>?_⟩
   ·rcases h0 with z | z
    ·rw[z];exact List.mem_cons_self ..
    ·exact List.mem_cons_of_mem _ z
   ·rcases List.mem_cons.mp hx with z | z
    ·rw[z];exact h1
    ·exact h2 x z
  ·rw[if_neg q]at h0 h1 h2 ⊢
   refine⟨h0.imp id (List.mem_cons_of_mem _),h1,λx hx=>?_⟩
   rcases List.mem_cons.mp hx with z | z
   ·rw[z];omega
   ·exact h2 x z
theorem q6Z:∀(r:List Int) (m:Int),(maxI m r=m\/maxI m r∈r)/\m<=maxI m r/\∀x∈r,x<=maxI m r
 | [],m=>⟨.inl rfl,Int.le_refl _,λx h=>by cases h⟩
 | y::r,m=>by
  obtain⟨h0,h1,h2⟩:=q6Z r (if m<y then y else m)
  unfold maxI
  by_cases q:m<y
  ·rw[if_pos q]at h0 h1 h2 ⊢
   refine⟨.inr ?_,by omega,λx hx=>?_⟩
   ·rcases h0 with z | z
    ·rw[z];exact List.mem_cons_self ..
    ·exact List.mem_cons_of_mem _ z
   ·rcases List.mem_cons.mp hx with z | z
    ·rw[z];exact h1
    ·exact h2 x z
  ·rw[if_neg q]at h0 h1 h2 ⊢
   refine⟨h0.imp id (List.mem_cons_of_mem _),h1,λx hx=>?_⟩
   rcases List.mem_cons.mp hx with z | z
   ·rw[z];omega
   ·exact h2 x z
theorem q8H{n M:Int}{r:List Int}(h1:M∈n::r)(h2:∀x∈n::r,M<=x):M=minI n r:=by
 obtain⟨a,b,c⟩:=q8v r n
 have d:minI n r∈n::r:=a.elim (λz=>by rw[z];exact List.mem_cons_self ..) (List.mem_cons_of_mem _)
 have e:=h2 _ d
 have f:minI n r<=M:=by
  rcases List.mem_cons.mp h1 with z | z
  ·rw[z];exact b
  ·exact c M z
 omega
theorem z2S{n M:Int}{r:List Int}(h1:M∈n::r)(h2:∀x∈n::r,x<=M):M=maxI n r:=by
 obtain⟨a,b,c⟩:=q6Z r n
 have d:maxI n r∈n::r:=a.elim (λz=>by rw[z];exact List.mem_cons_self ..) (List.mem_cons_of_mem _)
 have e:=h2 _ d
 have f:M<=maxI n r:=by
  rcases List.mem_cons.mp h1 with z | z
  ·rw[z];exact b
  ·exact c M z
 omega
theorem q4v(x:Int):∀l:List Int,(insI x l).Perm (x::l)
 | []=>.rfl
 | y::r=>by
  unfold insI
  split
  ·exact .rfl
  ·exact(List.Perm.cons y (q4v x r)).trans (List.Perm.swap x y r)
theorem q5t:∀l:List Int,(q1l l).Perm l
 | []=>.rfl
 | x::r=>(q4v x (q1l r)).trans (List.Perm.cons x (q5t r))
theorem z0e(x:Int):∀{l:List Int},l.Pairwise (· <= ·)->(insI x l).Pairwise (· <= ·)
 | [],_=>List.pairwise_singleton _ _
 | y::r,h=>by
  obtain⟨h1,h2⟩:=List.pairwise_cons.mp h
  unfold insI
  split
  ·rename_i q
   refine List.pairwise_cons.mpr ⟨λz hz=>?_,h⟩
   rcases List.mem_cons.mp hz with e | e
   ·omega
   ·have:=h1 z e
    omega
  ·rename_i q
   refine List.pairwise_cons.mpr ⟨λz hz=>?_,z0e x h2⟩
   rcases List.mem_cons.mp ((q4v x r).mem_iff.mp hz)with e | e
   ·omega
   ·exact h1 z e
theorem q8I:∀l:List Int,(q1l l).Pairwise (· <= ·)
 | []=>.nil
 | x::r=>z0e x (q8I r)
theorem z4L:∀{a b:List Int},a.Perm b->a.Pairwise (· <= ·)->b.Pairwise (· <= ·)->a=b
 | [],b,p,_,_=>(List.Perm.nil_eq p)
 | x::a,b,p,ha,hb=>by
  cases b with
  | nil=>exact absurd p.length_eq (by simp)
  | cons y b=>
   obtain⟨a1,a2⟩:=List.pairwise_cons.mp ha
   obtain⟨b1,b2⟩:=List.pairwise_cons.mp hb
   have e:x=y:=by
    have q1:=p.mem_iff.mp (List.mem_cons_self (a:=x) (l:=a))
    have q2:=p.mem_iff.mpr (List.mem_cons_self (a:=y) (l:=b))
    rcases List.mem_cons.mp q1 with z | z
    ·exact z
    ·rcases List.mem_cons.mp q2 with z2 | z2
     ·exact z2.symm
     ·have:=a1 y z2
      have:=b1 x z
      omega
   subst e
   rw[z4L (List.Perm.cons_inv p) a2 b2]
theorem z2T:∀l re,q9i l=some re->∃d c,re=.ok d c:=λl re h=>by unfold q9i at h;split at h<;>cases h<;>exact⟨_,_,rfl⟩
theorem z1Q:∀l re,q5C l=some re->∃d c,re=.ok d c:=λl re h=>by unfold q5C at h;split at h<;>cases h<;>exact⟨_,_,rfl⟩
theorem z8k:q1F X (.builtin "len") (biR X lenD):=by
 intro pins s σ H xs us Q I r h
 obtain⟨l,re,O,W,H0,hb,hd,g,d,c,rfl,p⟩:=h
 unfold lenD at hb
 split at hb
 ·cases hb
  obtain⟨v,rfl,gv⟩:=g.one
  obtain⟨a,ys,e1,e2,e3⟩:=gv.lst hd
  exact q2K pins s σ H _ us Q I r ⟨a,ys,by rw[e1],.inl (SqL.of e2),by rw[e3.length];exact p _ H (Same.refl H) q0F⟩
 ·cases hb
  obtain⟨v,rfl,gv⟩:=g.one
  obtain⟨a,ys,e1,e2,e3⟩:=gv.tup hd
  exact q2K pins s σ H _ us Q I r ⟨a,ys,by rw[e1],.inr e2,by rw[e3.length];exact p _ H (Same.refl H) q0F⟩
 ·cases hb
  obtain⟨v,rfl,gv⟩:=g.one
  obtain⟨a,e1,e2⟩:=q2v.mp (gv.all hd)
  exact q2K pins s σ H _ us Q I r ⟨a,_,by rw[e1],.inl e2.sq,by rw[List.length_map];exact p _ H (Same.refl H) q0F⟩
 ·cases hb
  obtain⟨v,rfl,gv⟩:=g.one
  obtain⟨e1,e2⟩:=gv.str hd
  exact q6s pins s σ H _ us Q I r ⟨_,by rw[e1],e2,p _ H (Same.refl H) q0F⟩
 ·cases hb
theorem z8D(hc:X.calm=true)(hu:X.A.units+1<cLine):q1F X (.builtin "min") (biR X minD):=by
 intro pins s σ H xs us Q I r h
 obtain⟨l,re,O,W,H0,hb,hd,g,d,c,rfl,p⟩:=h
 unfold minD at hb
 split at hb
 ·cases hb
  obtain⟨v,v',rfl,gv,gv'⟩:=g.two
  exact z0R hc pins s σ H _ us Q I r ⟨_,_,by rw[gv.int hd,gv'.int hd],p _ H (Same.refl H) q0F⟩
 ·split at hb
  ·rename_i n r' hq
   cases hb
   obtain⟨v,rfl,gv⟩:=g.one
   obtain⟨a,ys,e1,e2,e3⟩:=gv.lst hd
   have e4:=q3C hq e3
   subst e4
   exact z0g hc pins s σ H _ us Q I r ⟨a,n::r',by rw[e1],SqL.of e2,by simp,λM m1 m2=>by rw[q8H m1 m2];exact p _ H (Same.refl H) q0F⟩
  ·cases hb
 ·split at hb
  ·rename_i n r' hq
   cases hb
   obtain⟨v,rfl,gv⟩:=g.one
   obtain⟨a,ys,e1,e2,e3⟩:=gv.tup hd
   have e4:=q3C hq e3
   subst e4
   exact z1p hc pins s σ H _ us Q I r ⟨a,n::r',by rw[e1],e2,by simp,λM m1 m2=>by rw[q8H m1 m2];exact p _ H (Same.refl H) q0F⟩
  ·cases hb
 ·cases hb
theorem z7I(hc:X.calm=true):q1F X (.builtin "max") (biR X maxD):=by
 intro pins s σ H xs us Q I r h
 obtain⟨l,re,O,W,H0,hb,hd,g,d,c,rfl,p⟩:=h
 unfold maxD at hb
 split at hb
 ·cases hb
  obtain⟨v,v',rfl,gv,gv'⟩:=g.two
  exact z1a hc pins s σ H _ us Q I r ⟨_,_,by rw[gv.int hd,gv'.int hd],p _ H (Same.refl H) q0F⟩
 ·split at hb
  ·rename_i n r' hq
   cases hb
   obtain⟨v,rfl,gv⟩:=g.one
   obtain⟨a,ys,e1,e2,e3⟩:=gv.lst hd
   have e4:=q3C hq e3
   subst e4
   exact z1J hc pins s σ H _ us Q I r ⟨a,n::r',by rw[e1],SqL.of e2,by simp,λM m1 m2=>by rw[z2S m1 m2];exact p _ H (Same.refl H) q0F⟩
  ·cases hb
 ·cases hb
theorem q7e{D:Dm}{H:Hp}:∀{ds:List DV} {bs:List Bool} {xs:List V},bools? ds=some bs->RepL D H ds xs->xs=bs.map V.bl
 | [],bs,xs,h,r=>by
  cases h
  exact q0x.mp r
 | .bl i::ds,bs,xs,h,r=>by
  have h':(bools? ds).map (i :: ·)=some bs:=h
  obtain⟨ms,e1,e2⟩:=Option.map_eq_some_iff.mp h'
  obtain⟨v,vs,e3,e4,e5⟩:=q0j.mp r
  have q:=q7e e1 e5
  subst e2 e3 q
  rw[q4c.mp e4]
  rfl
 | .non::_,_,_,h,_=>by cases h
 | .int _::_,_,_,h,_=>by cases h
 | .str _::_,_,_,h,_=>by cases h
 | .tup _::_,_,_,h,_=>by cases h
 | .lst _::_,_,_,h,_=>by cases h
 | .exc _::_,_,_,h,_=>by cases h
 | .fn _::_,_,_,h,_=>by cases h
 | .scr _::_,_,_,h,_=>by cases h
 | .dct _ _::_,_,_,h,_=>by cases h
theorem z9f(hc:X.calm=true):q1F X (.builtin "any") (biR X anyD):=by
 intro pins s σ H xs us Q I r h
 obtain⟨l,re,O,W,H0,hb,hd,g,d,c,rfl,p⟩:=h
 unfold anyD at hb
 split at hb
 ·obtain⟨bs,hq,e⟩:=Option.map_eq_some_iff.mp hb
  cases e
  obtain⟨v,rfl,gv⟩:=g.one
  obtain⟨a,ys,e1,e2,e3⟩:=gv.lst hd
  have e4:=q7e hq e3
  subst e4
  exact z0t hc pins s σ H _ us Q I r ⟨a,bs,by rw[e1],SqL.of e2,p _ H (Same.refl H) q3u⟩
 ·cases hb
theorem z0n:bootBuiltins "any" = some (.builtin "any"):=by decide +kernel
theorem z5F:∀l re,anyD l=some re->∃d c,re=.ok d c:=by
 intro l re h
 unfold anyD at h
 split at h
 ·obtain⟨_,_,e⟩:=Option.map_eq_some_iff.mp h
  cases e;exact⟨_,_,rfl⟩
 ·cases h
theorem q6W:bootBuiltins "sorted" = some (.builtin "sorted"):=by decide +kernel
theorem z1g:bootBuiltins "set" = some (.type "set"):=by decide +kernel
theorem z3s{p':Pos}{pos':Pos}(hc:X.calm=true)(hg:Gl X "sorted")(hm:X.mg "sorted" = none)(hg':Gl X "set")(hm':X.mg "set" = none)
  (ha:∀q,rs=some q->PA X [e] (dA X.D E δ q)) (hs:q0s e=false) (h:Rs.thn rs z2l=some re):PE X (.Call (.Name "sorted" p) [.Call (.Name "set" p') [e] [] pos'] [] pos) (dE X.D E δ re):=
 q3E (r:=λvs H Q=>(∃(a:Addr) (ns:List Int),vs=[.ref a]/\SqL X.K H a (ns.map V.int)/\ns.length<4000/\∀p,H p=none->∃(p1:Addr) (ks:List Int),[V.ref p]=[.ref p1]/\upd H p (setO X.prog X.w p (ns.foldl dk [])) p1=some (setO X.prog X.w p1 ks)/\ks.length<64 /\
   ∀(q:Addr) (ms:List Int),upd H p (setO X.prog X.w p (ns.foldl dk [])) q=none->ms.Perm ks->ms.Pairwise (· <= ·)->Q (.ref q) (upd (upd H p (setO X.prog X.w p (ns.foldl dk []))) q (.lst (ms.map V.int)))))
  (λt hA=>by
   have q1:=q6G (p:=p') (pos:=pos') (z0A hc) hg' hm' z1g hA (by decide) (by decide) (q0q hs) rfl
   have q2:=q4i (p:=p) (pos:=pos) (q9E hc) hg hm q6W (q1n q1 q3X) (by decide) (by decide) rfl rfl
   exact q2.weak λσ H Q h=>h) ha h λO W H0 H vs Q l σ hl hd g pp=>by
  unfold z2l at hl
  split at hl
  ·split at hl
   ·rename_i ds c ns hq
    split at hl
    ·rename_i hb
     cases hl
     obtain⟨v,rfl,gv⟩:=g.one
     obtain⟨a,ys,e1,e2,e3⟩:=gv.lst hd
     have e4:=q3C hq e3
     subst e4
     refine⟨a,ns,by rw[e1],SqL.of e2,hb.1,λp1 hp1=>⟨p1,_,rfl,q0t,hb.2,λq ms hq1 pm pw=>?_⟩⟩
     have e5:ms=q1l (ns.foldl dk []):=z4L (pm.trans (q5t _).symm) pw (q8I _)
     subst e5
     have s1:Same H (upd H p1 (setO X.prog X.w p1 (ns.foldl dk []))):=q0p hp1
     exact pp _ _ (s1.trans (q0p hq1)) (q2e (hd.mono s1) hq1 (q1M _))
    ·cases hl
   ·cases hl
  ·cases hl
theorem z4W:q1F X (.type "list") (biR X q9i):=by
 intro pins s σ H xs us Q I r h
 obtain⟨l,re,O,W,H0,hb,hd,g,d,c,rfl,p⟩:=h
 unfold q9i at hb
 split at hb
 ·cases hb
  obtain⟨v,rfl,gv⟩:=g.one
  obtain⟨a,e1,e2⟩:=q2v.mp (gv.all hd)
  exact q2G pins s σ H _ us Q I r ⟨a,_,by rw[e1],.inl e2.sq,λq hq=>p _ _ (q0p hq) (q2e hd hq (q1M _))⟩
 ·cases hb
  obtain⟨v,rfl,gv⟩:=g.one
  obtain⟨a,ys,e1,e2,e3⟩:=gv.lstC hd
  exact q2G pins s σ H _ us Q I r ⟨a,ys,by rw[e1],.inl (SqL.of e2),λq hq=>p _ _ (q0p hq) (q4n hd hq e3)⟩
 ·cases hb
  obtain⟨v,rfl,gv⟩:=g.one
  obtain⟨a,ys,e1,e2,e3⟩:=gv.tupC hd
  exact q2G pins s σ H _ us Q I r ⟨a,ys,by rw[e1],.inr e2,λq hq=>p _ _ (q0p hq) (q4n hd hq e3)⟩
 ·cases hb
theorem z3A:q1F X (.type "tuple") (biR X q5C):=by
 intro pins s σ H xs us Q I r h
 obtain⟨l,re,O,W,H0,hb,hd,g,d,c,rfl,p⟩:=h
 unfold q5C at hb
 split at hb
 ·cases hb
  obtain⟨v,rfl,gv⟩:=g.one
  obtain⟨a,ys,e1,e2,e3⟩:=gv.lstC hd
  exact q3I pins s σ H _ us Q I r ⟨a,ys,by rw[e1],.inl ⟨SqL.of e2,λq hq=>p _ _ (q0p hq) (q8n hd hq e3)⟩⟩
 ·cases hb
  obtain⟨v,rfl,gv⟩:=g.one
  obtain⟨a,ys,e1,e2,e3⟩:=gv.tupC hd
  exact q3I pins s σ H _ us Q I r ⟨a,ys,by rw[e1],.inr ⟨e2,p _ _ (Same.refl H) (by rw[←e1];exact gv)⟩⟩
 ·cases hb
end
def tyS:DV->Option String
 | .non=>some "NoneType" | .bl _=>some "bool" | .int _=>some "int" | .str _=>some "str" | .tup _=>some "tuple" | .lst _=>some "list" | .dct _ _=>some "dict"
 | _=>none
def z8w(T t:String):Option Bool:=if(Value.type T==Value.type t)=true then some true else if PySem.W.kitMeta t=true then(fastBuiltinMro T).map (·.contains (.type t))else none
theorem z0m:(["NoneType","bool","int","str","tuple","list","dict"]:List String).all (λT=>(["int","bool","str","list","tuple","dict"]:List String).all λt=>z8w T t==some (T==t||(T == "bool" && t == "int")))=true:=by decide +kernel
theorem q2Z{K:PySem.W.Frag}(T t:String)(h1:T∈["NoneType","bool","int","str","tuple","list","dict"])(h2:t∈["int","bool","str","list","tuple","dict"]) :
  PySem.W.kitOne K (.type T) (.type t)=some (T==t||(T == "bool" && t == "int")):=by
 have q:=List.all_eq_true.mp (List.all_eq_true.mp z0m T h1) t h2
 exact(show z8w T t=_ from by simpa using q)
section
variable {X:Cx} {E:St->XK} {δ:List Sv} {e e':Expr} {pos p p':Pos} {re:Re} {ra:Option Re}
theorem z9l{pins:List (Addr×Obj)}{σ:St}{H:Hp}{s:Shared}{Q:Value->Shared->Prop}{EE:Value->Shared->Prop}{d:DV}{v:V}{u:Value}{T t:String}(I:Inv X pins σ H s)(r:Rep X.D H d v)(rv:RelV v u)(hT:tyS d=some T)(ht:t∈["int","bool","str","list","tuple","dict"])
  (h:∀tk,Q (.bool (T==t||(T == "bool" && t == "int"))) {s with toks:=tk}):wpAny (model X.prog X.w) X.A (call (.builtin "isinstance") [u,.type t]) Q EE s:=by
 cases d with
 | non=>cases hT;rw[q4A.mp r]at rv;cases rv;exact PySem.W.kia_one PySem.W.kitx_none I.kIn True.intro (q2Z _ _ (by simp) ht) (λz=>nomatch z) h
 | bl b=>cases hT;rw[q4c.mp r]at rv;cases rv;exact PySem.W.kia_one PySem.W.kitx_bool I.kIn True.intro (q2Z _ _ (by simp) ht) (λz=>nomatch z) h
 | int b=>cases hT;rw[q0y.mp r]at rv;obtain⟨tk,rfl⟩:=rv;exact PySem.W.kia_one PySem.W.kitx_int I.kIn True.intro (q2Z _ _ (by simp) ht) (λz=>nomatch z) h
 | str b=>cases hT;rw[(q2t.mp r).1]at rv;obtain⟨tk,rfl⟩:=rv;exact PySem.W.kia_one PySem.W.kitx_str I.kIn True.intro (q2Z _ _ (by simp) ht) (λz=>nomatch z) h
 | tup ds=>
  cases hT
  obtain⟨a,xs,e1,e2,e3⟩:=q0H.mp r
  rw[e1]at rv;cases rv
  obtain⟨its,_,⟨o,h1,h2,_⟩,_⟩:=I.tuple e2
  exact PySem.W.kia_one PySem.W.kitx_tuple I.kIn ⟨o,h1,h2⟩ (q2Z _ _ (by simp) ht) (λz=>nomatch z) h
 | lst ds=>
  cases hT
  obtain⟨a,xs,e1,e2,e3⟩:=q0G.mp r
  rw[e1]at rv;cases rv
  obtain⟨_,its,n,_,_,h1⟩:=I.lstM e2
  exact PySem.W.kia_one PySem.W.kitx_list I.kIn ⟨_,h1,rfl⟩ (q2Z _ _ (by simp) ht) (λz=>nomatch z) h
 | dct ks vs=>
  cases hT
  rcases q3j.mp r with⟨a,ob,kvs,e1,e2,_⟩ | ⟨a,ob,kvs,e1,e2,_⟩
  ·rw[e1]at rv;cases rv
   obtain⟨_,_,_,_,_,⟨o,_,_,h1,h2,_⟩⟩:=(show q0V X.prog X.w H s.heap a (.frz ob (.dK kvs))from I.hok a _ e2)
   exact PySem.W.kia_one PySem.W.kitx_dict I.kIn ⟨o,h1,h2.1⟩ (q2Z _ _ (by simp) ht) (λz=>nomatch z) h
  ·rw[e1]at rv;cases rv
   obtain⟨_,_,_,_,_,o,_,_,h1,h2,_⟩:=(show q0V X.prog X.w H s.heap a (.frz ob (.dT kvs))from I.hok a _ e2)
   exact PySem.W.kia_one PySem.W.kitx_dict I.kIn ⟨o,h1,h2.1⟩ (q2Z _ _ (by simp) ht) (λz=>nomatch z) h
 | exc _=>cases hT
 | fn _=>cases hT
 | scr _=>cases hT
def rIsi(X:Cx):List V->Hp->VK->Prop:=λxs H Q=>∃d T t x,xs=[x,.ty t]/\Rep X.D H d x/\tyS d=some T/\t∈["int","bool","str","list","tuple","dict"]/\Q (.bl (T==t||(T == "bool" && t == "int"))) H
theorem z3u:q1F X (.builtin "isinstance") (rIsi X):=by
 intro pins s σ H xs us Q I r h
 obtain⟨d,T,t,x,rfl,r1,hT,ht,q⟩:=h
 obtain⟨u,w',rfl,ru,rw'⟩:=z1G r
 cases rw'
 exact z9l I r1 ru hT ht λtk=>⟨.bl _,H,I.tok tk,rfl,q⟩
def q3Y:Str->Option String:=λx=>(["int","bool","str","list","tuple","dict"]:List String).find? λt=>Str.ofString t==x
theorem q5D{x:Str}{t:String}(h:q3Y x=some t):bootBuiltins x=some (.type t)/\t∈["int","bool","str","list","tuple","dict"]/\Str.ofString t=x:=by
 unfold q3Y at h
 have h1:=List.find?_some h
 have h2:=List.mem_of_find?_eq_some h
 have h3:Str.ofString t=x:=by simpa using h1
 refine⟨?_,h2,h3⟩
 subst h3
 simp only[List.mem_cons,List.not_mem_nil,or_false]at h2
 rcases h2 with rfl | rfl | rfl | rfl | rfl | rfl
 ·exact boot_int
 ·exact boot_bool
 ·exact boot_str
 ·exact boot_list
 ·exact boot_tuple
 ·exact boot_dict
def z1C:String->List Str
 | "NoneType"=>["NoneType"] | "bool"=>["bool","int"] | "int"=>["int"] | "str"=>["str"] | "tuple"=>["tuple"] | "list"=>["list"] | "dict"=>["dict"]
 | _=>[]
theorem q7v:(["NoneType","bool","int","str","tuple","list","dict"]:List String).all (λT=>(["int","bool","str","list","tuple","dict"]:List String).all λt=>(z1C T).contains (Str.ofString t)==(T==t||(T == "bool" && t == "int")))=true:=by decide +kernel
theorem z2j{d:DV}{x:Str}{t T:String}(h:q3Y x=some t)(hT:tyS d=some T):(tyOf d).contains x=(T==t||(T == "bool" && t == "int")):=by
 obtain⟨_,h2,h3⟩:=q5D h
 subst h3
 have key:∀T∈(["NoneType","bool","int","str","tuple","list","dict"]:List String),(z1C T).contains (Str.ofString t)=(T==t||(T == "bool" && t == "int")):=λT hT=>by
  have q:=List.all_eq_true.mp (List.all_eq_true.mp q7v T hT) t h2
  simpa using q
 cases d<;>cases hT
 ·exact key "NoneType" (by simp)
 ·exact key "bool" (by simp)
 ·exact key "int" (by simp)
 ·exact key "str" (by simp)
 ·exact key "tuple" (by simp)
 ·exact key "list" (by simp)
 ·exact key "dict" (by simp)
theorem z6K{G:Gs}{x:Str}{t:String}(ht:q3Y x=some t)(hg:Gl X "isinstance")(hm:X.mg "isinstance" = none)(hgx:Gl X x)(hmx:X.mg x=none)(hnx:x ≠ "__name__")(hdx:(x==("__debug__" : Str))=false)
  (ha:∀q,ra=some q->PE X e (dE X.D E δ q)) (hs:q0s e=false) (h:(Re.thn ra λy _=>(isiD G y [x]).map λk=>.ok (.bl k) .strong)=some re):PE X (.Call (.Name "isinstance" p) [e,.Name x p'] [] pos) (dE X.D E δ re):=by
 obtain⟨b1,b2,b3⟩:=q5D ht
 have T:PE X (.Name x p') (tC (.ty t)):=q7S hgx hmx b1 rfl hnx hdx
 have C:=λta (hA:PE X e ta)=>q4i (p:=p) (pos:=pos) z3u hg hm boot_isinstance (q1n hA (q1n T q3X) (q0q hs)) (by decide) (by decide) (q0q hs)
 cases hra:ra with
 | none=>rw[hra]at h;cases h
 | some q=>
  rw[hra]at h
  have A:=ha q hra
  cases q with
  | ex c=>cases h;exact(C _ A).weak λσ H Q ⟨O,W,R,p⟩=>⟨O,W,R,p⟩
  | ok d cl=>
   obtain⟨k,e1,e2⟩:=Option.map_eq_some_iff.mp (show((isiD G d [x]).map λk=>Re.ok (.bl k) .strong)=some re from h)
   cases e2
   have key:∃T,tyS d=some T/\k=(tyOf d).contains x:=by
    unfold isiD at e1
    have px:q1f.contains x=true:=by
     rw[←b3]
     simp only[List.mem_cons,List.not_mem_nil,or_false]at b2
     rcases b2 with rfl | rfl | rfl | rfl | rfl | rfl<;>decide +kernel
    cases d<;>first
     | (simp only[px,if_true]at e1;cases e1;exact⟨_,rfl,rfl⟩)
     | cases e1
   obtain⟨T,hT,hk⟩:=key
   exact(C _ A).weak λσ H Q ⟨O,W,R,p⟩=>⟨O,W,R,λv H1 s1 g1=>⟨d,T,t,v,rfl,g1.all (R.hid.mono s1),hT,b2,by rw[←z2j ht hT,←hk];exact p _ H1 s1 q3u⟩⟩
end
end L2
end
noncomputable section
namespace L2
open PySem PySem.Spec PyProof.Rows
def tyIs(T t:String):Bool:=T==t||(T == "bool" && t == "int")
theorem z6Q{K:PySem.W.Frag}{T t1 t2:String}(h:T∈["NoneType","bool","int","str","tuple","list","dict"])(h1:t1∈["int","bool","str","list","tuple","dict"])(h2:t2∈["int","bool","str","list","tuple","dict"]) :
  PySem.W.kitAny K (.type T) [.type t1,.type t2]=some (tyIs T t1||tyIs T t2):=by
 have e1:PySem.W.kitOne K (.type T) (.type t1)=some (tyIs T t1):=q2Z T t1 h h1
 have e2:PySem.W.kitOne K (.type T) (.type t2)=some (tyIs T t2):=q2Z T t2 h h2
 unfold PySem.W.kitAny
 rw[e1]
 cases tyIs T t1 with
 | true=>rfl
 | false=>
  show PySem.W.kitAny K (.type T) [.type t2]=_
  unfold PySem.W.kitAny
  rw[e2]
  cases tyIs T t2<;>rfl
section
variable {X:Cx} {E:St->XK} {δ:List Sv} {e:Expr} {pos p:Pos} {ra:Option Re} {re:Re}
theorem z8b{pins:List (Addr×Obj)}{σ:St}{H:Hp}{s:Shared}{d:DV}{v:V}{u:Value}{T:String}(I:Inv X pins σ H s)(r:Rep X.D H d v)(rv:RelV v u)(hT:tyS d=some T) :
  ∃HH:Heap->Prop,PySem.W.KitX X.K u (.type T) HH/\HH s.heap/\u ≠ .builtin "__main__.__loader__#opaque" /\ T∈["NoneType","bool","int","str","tuple","list","dict"]:=by
 cases d with
 | non=>cases hT;rw[q4A.mp r]at rv;cases rv;exact⟨_,PySem.W.kitx_none,True.intro,(λz=>nomatch z),by simp⟩
 | bl b=>cases hT;rw[q4c.mp r]at rv;cases rv;exact⟨_,PySem.W.kitx_bool,True.intro,(λz=>nomatch z),by simp⟩
 | int b=>cases hT;rw[q0y.mp r]at rv;obtain⟨tk,rfl⟩:=rv;exact⟨_,PySem.W.kitx_int,True.intro,(λz=>nomatch z),by simp⟩
 | str b=>cases hT;rw[(q2t.mp r).1]at rv;obtain⟨tk,rfl⟩:=rv;exact⟨_,PySem.W.kitx_str,True.intro,(λz=>nomatch z),by simp⟩
 | tup ds=>
  cases hT
  obtain⟨a,xs,e1,e2,e3⟩:=q0H.mp r
  rw[e1]at rv;cases rv
  obtain⟨its,_,⟨o,h1,h2,_⟩,_⟩:=I.tuple e2
  exact⟨_,PySem.W.kitx_tuple,⟨o,h1,h2⟩,(λz=>nomatch z),by simp⟩
 | lst ds=>
  cases hT
  obtain⟨a,xs,e1,e2,e3⟩:=q0G.mp r
  rw[e1]at rv;cases rv
  obtain⟨_,its,n,_,_,h1⟩:=I.lstM e2
  exact⟨_,PySem.W.kitx_list,⟨_,h1,rfl⟩,(λz=>nomatch z),by simp⟩
 | dct ks vs=>
  cases hT
  rcases q3j.mp r with⟨a,ob,kvs,e1,e2,_⟩ | ⟨a,ob,kvs,e1,e2,_⟩
  ·rw[e1]at rv;cases rv
   obtain⟨_,_,_,_,_,⟨o,_,_,h1,h2,_⟩⟩:=(show q0V X.prog X.w H s.heap a (.frz ob (.dK kvs))from I.hok a _ e2)
   exact⟨_,PySem.W.kitx_dict,⟨o,h1,h2.1⟩,(λz=>nomatch z),by simp⟩
  ·rw[e1]at rv;cases rv
   obtain⟨_,_,_,_,_,o,_,_,h1,h2,_⟩:=(show q0V X.prog X.w H s.heap a (.frz ob (.dT kvs))from I.hok a _ e2)
   exact⟨_,PySem.W.kitx_dict,⟨o,h1,h2.1⟩,(λz=>nomatch z),by simp⟩
 | exc _=>cases hT
 | fn _=>cases hT
 | scr _=>cases hT
def y1u(X:Cx):List V->Hp->VK->Prop:=λxs H Q=>∃d T t1 t2 x q,xs=[x,.ref q]/\Rep X.D H d x/\tyS d=some T/\t1∈["int","bool","str","list","tuple","dict"]/\t2∈["int","bool","str","list","tuple","dict"]/\H q=some (.tup [.ty t1,.ty t2])/\Q (.bl (tyIs T t1||tyIs T t2)) H
theorem z0b:q1F X (.builtin "isinstance") (y1u X):=by
 intro pins s σ H xs us Q I r h
 obtain⟨d,T,t1,t2,x,q,rfl,r1,hT,h1,h2,hq,k⟩:=h
 obtain⟨u,w',rfl,ru,rw'⟩:=z1G r
 cases rw'
 obtain⟨HH,Z,z1,z2,z3⟩:=z8b I r1 ru hT
 obtain⟨its,ri,⟨⟨oc,od,oda,osl⟩,o1,o2,n,o3⟩,_⟩:=I.tuple (SqT.of hq)
 obtain⟨u1,u2,e,v1,v2⟩:=z1G ri
 have o2':oc=.type "tuple":=o2
 have o3':oda=.seq its.toArray n:=o3
 subst o2' o3'
 cases v1;cases v2
 subst e
 exact PySem.W.kia_tup Z I.kIn z1 o1 (z6Q z3 h1 h2) z2 λtk=>⟨.bl _,H,I.tok tk,rfl,k⟩
theorem z3J{x1 x2:Str}{t1 t2:String}{p1 p2 tp:Pos}{kk:Nat}{kf:DV->Option Bool}(h1:q3Y x1=some t1)(h2:q3Y x2=some t2)(hg:Gl X "isinstance")(hm:X.mg "isinstance" = none)
  (g1:Gl X x1) (m1:X.mg x1=none) (n1:x1 ≠ "__name__") (d1:(x1==("__debug__" : Str))=false) (g2:Gl X x2) (m2:X.mg x2=none) (n2:x2 ≠ "__name__") (d2:(x2==("__debug__" : Str))=false)
  (hkf:∀d k,kf d=some k->∃T,tyS d=some T/\k=((tyOf d).contains x1||(tyOf d).contains x2))
  (ha:∀q,ra=some q->PE X e (dE X.D E δ q)) (hs:q0s e=false) (h:(Re.thn ra λy _=>(kf y).map λk=>.ok (.bl k) .strong)=some re) :
  PE X (.Call (.Name "isinstance" p) [e,.Tuple [.Name x1 p1,.Name x2 p2] kk tp] [] pos) (dE X.D E δ re):=by
 obtain⟨b1,b2,b3⟩:=q5D h1
 obtain⟨c1,c2,c3⟩:=q5D h2
 have T1:PE X (.Name x1 p1) (tC (.ty t1)):=q7S g1 m1 b1 rfl n1 d1
 have T2:PE X (.Name x2 p2) (tC (.ty t2)):=q7S g2 m2 c1 rfl n2 d2
 have TT:=z1P (pos:=tp) (x1:=kk) (q1n T1 (q1n T2 q3X))
 have C:=λta (hA:PE X e ta)=>q4i (p:=p) (pos:=pos) z0b hg hm boot_isinstance (q1n hA (q1n TT q3X) (q0q hs)) (by decide) (by decide) (q0q hs)
 cases hra:ra with
 | none=>rw[hra]at h;cases h
 | some q=>
  rw[hra]at h
  have A:=ha q hra
  cases q with
  | ex c=>cases h;exact(C _ A).weak λσ H Q ⟨O,W,R,p⟩=>⟨O,W,R,p⟩
  | ok d cl=>
   obtain⟨k,e1,e2⟩:=Option.map_eq_some_iff.mp (show((kf d).map λk=>Re.ok (.bl k) .strong)=some re from h)
   cases e2
   obtain⟨T,hT,hk⟩:=hkf d k e1
   have ek:k=(tyIs T t1||tyIs T t2):=by rw[hk,z2j h1 hT,z2j h2 hT];rfl
   exact(C _ A).weak λσ H Q ⟨O,W,R,p⟩=>⟨O,W,R,λv H1 s1 g1=>⟨show(2:Nat)<=sizeLine by decide,λq hq=>⟨d,T,t1,t2,v,q,rfl,(g1.all (R.hid.mono s1)).mono (q0p hq),hT,b2,c2,q0t,by rw[←ek];exact p _ _ (s1.trans (q0p hq)) q3u⟩⟩⟩
end
end L2
end
noncomputable section
namespace L2
open PySem PySem.Spec PyProof.Rows
section
variable {X:Cx} {E:St->XK} {δ:List Sv} {v:Expr} {te:TE} {pos kpos:Pos} {i:Int} {j:Nat}
theorem Inv.notSys{pins:List (Addr×Obj)}{σ:St}{H:Hp}{s:Shared}(I:Inv X pins σ H s){a:Addr}(h:s.heap.objs.size<=a):(a==sysModules)=false:=by
 have h1:mainGlobals<X.base.objs.size:=I.mod.glob.lt
 have h2:=Nat.le_trans I.ok.bsz I.sz
 have:(1:Nat)<a:=Nat.lt_of_lt_of_le (Nat.lt_of_le_of_lt (by decide:(1:Nat)<=mainGlobals) h1) (Nat.le_trans h2 h)
 exact beq_eq_false_iff_ne.mpr (Nat.ne_of_gt this)
theorem q4F{O:List Addr}{H:Hp}{p b:Addr}{o u:HO}(hp:H p=some (.dK []))(h:L2.wo O H b=some u)(hu:u ≠ .dK []):L2.wo O (upd H p o) b=some u:=by
 obtain⟨hb,e⟩:=q0S h
 rw[q0r hb,q0l (λz=>by rw[z,hp]at e;cases e;exact hu rfl)]
 exact e
mutual
theorem z7d{D:Dm}{O:List Addr}{H:Hp}{p:Addr}{o:HO}(hp:H p=some (.dK [])):∀{d:DV} {v:V},Rep D (L2.wo O H) d v->Rep D (L2.wo O (upd H p o)) d v
 | .non,_,h=>by unfold Rep at h ⊢;exact h
 | .bl _,_,h=>by unfold Rep at h ⊢;exact h
 | .int _,_,h=>by unfold Rep at h ⊢;exact h
 | .str _,_,h=>by unfold Rep at h ⊢;exact h
 | .tup ds,_,h=>by
  unfold Rep at h ⊢
  obtain⟨a,xs,e1,e2,e3⟩:=h
  refine⟨a,xs,e1,?_,q3K hp e3⟩
  rcases e2 with(h | ⟨o,h⟩) | h
  ·exact .inl (.inl (q4F hp h (by intro z;cases z)))
  ·exact .inl (.inr ⟨o,q4F hp h (by intro z;cases z)⟩)
  ·exact .inr h
 | .lst ds,_,h=>by
  unfold Rep at h ⊢
  obtain⟨a,xs,e1,e2,e3⟩:=h
  exact⟨a,xs,e1,q4F hp e2 (by intro z;cases z),q3K hp e3⟩
 | .dct _ _,_,h=>by
  unfold Rep at h ⊢
  rcases h with⟨a,ob,kvs,e1,e2,e3,e4⟩ | ⟨a,ob,kvs,e1,e2,e3,e4⟩
  ·exact .inl ⟨a,ob,kvs,e1,q4F hp e2 (by intro z;cases z),e3,q3K hp e4⟩
  ·exact .inr ⟨a,ob,kvs,e1,q4F hp e2 (by intro z;cases z),e3,q3K hp e4⟩
 | .exc C,_,h=>by
  unfold Rep at h ⊢
  obtain⟨a,C,e1,e2,e3⟩:=h
  exact⟨a,C,e1,e2,q4F hp e3 (by intro z;cases z)⟩
 | .fn _,_,h=>by unfold Rep at h ⊢;exact h
 | .scr _,_,h=>by
  unfold Rep at h ⊢
  obtain⟨a,e1,e2⟩:=h
  refine⟨a,e1,?_⟩
  rcases e2 with⟨o,h⟩ | h
  ·exact .inl ⟨o,q4F hp h (by intro z;cases z)⟩
  ·exact .inr h
theorem q3K{D:Dm}{O:List Addr}{H:Hp}{p:Addr}{o:HO}(hp:H p=some (.dK [])):∀{ds:List DV} {xs:List V},RepL D (L2.wo O H) ds xs->RepL D (L2.wo O (upd H p o)) ds xs
 | [],_,h=>by unfold RepL at h ⊢;exact h
 | d::ds,_,h=>by
  unfold RepL at h ⊢
  obtain⟨v,vs,e1,e2,e3⟩:=h
  exact⟨v,vs,e1,z7d hp e2,q3K hp e3⟩
end
theorem z7t:PE X (.Dict [] [] pos) (λσ H Q=>∀a o,H a=none->Q (.ref a) (upd H a (.frz o (.dK [])))):=λpins s σ H Q I h=>
 wpAny_Dict_empty ⟨.ref s.heap.objs.size,_,I.laid (a:=s.heap.objs.size) (o:=.frz {cls:=.type "dict",data:=.dict #[]} (.dK [])) (t':=s.toks) (λ_ _ q=>Heap.get?_push_of_some _ q) (Nat.le_refl _) ⟨Heap.get?_push_size _ rfl,Nat.zero_le _,I.notSys (Nat.le_refl _),[],.nil,Heap.DictOf.new _⟩,rfl,h _ _ (I.hok.fresh (Nat.le_refl _))⟩
theorem z7a:PE X (.Dict [] [] pos) (dE X.D E δ (.ok (.dct [] []) .strong)):=
 z7t.weak λσ H Q ⟨O,W,R,p⟩ a ob ha=>p _ _ (q0p ha) (q3j.mpr (.inl ⟨a,ob,_,rfl,by rw[q0r λz=>R.hid.ot a z ha];exact q0t,rfl,q0x.mpr rfl⟩):Rep X.D (L2.wo (O++W) _) (.dct [] []) _)
end
end L2
end
noncomputable section
namespace L2
open PySem PySem.Spec PyProof.Rows
structure Wk(D:Dm)(J:It)(ds:List DV)(Oc Oi:List Addr)(H1:Hp):Prop where
 go:∀i H,Same (L2.wo Oc H1) (L2.wo Oc H)->i<ds.length->J.go i H
 same:∀i H x H',J.yld i H x H'->Same H H'
 yld:∀i H x H' d O2,Same (L2.wo Oc H1) (L2.wo Oc H)->Same (L2.wo Oi H1) (L2.wo Oi H)->J.yld i H x H'->ds[i]? = some d->(∀a∈O2,H a≠none/\(a∈Oi\/H1 a=none))->Rep D (L2.wo O2 H') d x
 stop:∀H,Same (L2.wo Oc H1) (L2.wo Oc H)->J.stop ds.length H
def hidW(O W:List Addr):Cl->List Addr
 | .top=>O
 | .weak=>O
 | _=>O++W
def y0S(D:Dm)(E:St->XK)(σ:St)(O W:List Addr)(H:Hp)(R:It->Hp->Prop):Ri->Prop
 | .ok ds c=>∀J H',Same H H'->Wk D J ds (hidW O W c) (q1N O W c) H'->R J H'
 | .ex c=>∀H' C,D.mg c=some C->Same H H'->E σ C none H'
def dI(D:Dm)(E:St->XK)(δ:List Sv)(r:Ri):TI:=λσ H R=>∃O W,RSt D H σ δ O W/\y0S D E σ O W H R r
theorem PI.weak{X:Cx}{tg iter:Expr}{t t':TI}(h:PI X tg iter t)(k:∀σ H R,t' σ H R->t σ H R):PI X tg iter t':=λpins s σ H R I q=>h pins s σ H R I (k σ H R q)
theorem z4N{O O2:List Addr}{H1 H:Hp}(s:Same (L2.wo O H1) (L2.wo O H))(h:∀a∈O2,H a≠none/\(a∈O\/H1 a=none)):Same (L2.wo O H1) (L2.wo O2 H):=λb o e=>by
 have q:=s b o e
 obtain⟨hb,e⟩:=q0S e
 obtain⟨_,q⟩:=q0S q
 rw[q0r λz=>?_]
 ·exact q
 ·rcases(h b z).2 with w | w
  ·exact hb w
  ·rw[w]at e;cases e
theorem Wk.list{D:Dm}{ds:List DV}{Oc Oi:List Addr}{H1:Hp}{a:Addr}{xs:List V}(h:SqL D.K (L2.wo Oc H1) a xs)(r:RepL D (L2.wo Oi H1) ds xs):Wk D (Itl D.K a) ds Oc Oi H1 where
 go:=λi H s hi=>⟨xs,xs[i]'(by rw[r.length];exact hi),q1d.seq (s.seq h),List.getElem?_eq_getElem _⟩
 same:=λi H x H' y=>by rw[y.1];exact Same.refl _
 yld:=λi H x H' d O2 s s' y e ho=>by
  obtain⟨e1,y⟩:=y
  subst e1
  obtain⟨v,q1,q2⟩:=r.get e
  have:=y xs (q1d.seq (s.seq h))
  rw[q1]at this;cases this
  exact q2.mono (z4N s' ho)
 stop:=λH s=>⟨xs,q1d.seq (s.seq h),by rw[r.length];exact Nat.le_refl _⟩
theorem Wk.tup{D:Dm}{ds:List DV}{Oc Oi:List Addr}{H1:Hp}{a:Addr}{xs:List V}(h:SqT D.K (L2.wo Oc H1) a xs)(r:RepL D (L2.wo Oi H1) ds xs):Wk D (Itt D.K a) ds Oc Oi H1 where
 go:=λi H s hi=>⟨xs,xs[i]'(by rw[r.length];exact hi),q1d.tseq (s.tseq h),List.getElem?_eq_getElem _⟩
 same:=λi H x H' y=>by rw[y.1];exact Same.refl _
 yld:=λi H x H' d O2 s s' y e ho=>by
  obtain⟨e1,y⟩:=y
  subst e1
  obtain⟨v,q1,q2⟩:=r.get e
  have:=y xs (q1d.tseq (s.tseq h))
  rw[q1]at this;cases this
  exact q2.mono (z4N s' ho)
 stop:=λH s=>⟨xs,q1d.tseq (s.tseq h),by rw[r.length];exact Nat.le_refl _⟩
theorem q3g(lo:Int)(n:Nat):(upTo lo n).length=n:=by unfold upTo;rw[List.length_map,List.length_range]
theorem z2J{lo:Int}{n i:Nat}{d:DV}(h:(upTo lo n)[i]? = some d):i<n/\d=.int (lo+i):=by
 have hl:i<n:=by have:=(List.getElem?_eq_some_iff.mp h).1;rw[q3g]at this;exact this
 unfold upTo at h
 rw[List.getElem?_map,List.getElem?_range hl]at h
 cases h
 exact⟨hl,rfl⟩
theorem Wk.range{D:Dm}{Oc Oi:List Addr}{H1:Hp}(lo:Int)(n:Nat):Wk D (Itr lo n) (upTo lo n) Oc Oi H1 where
 go:=λi H s hi=>by rw[q3g]at hi;exact hi
 same:=λi H x H' y=>by rw[y.1];exact Same.refl _
 yld:=λi H x H' d O2 s s' y e ho=>by
  obtain⟨e1,y⟩:=y
  subst e1
  obtain⟨_,e2⟩:=z2J e
  subst e2
  exact q0y.mpr y
 stop:=λH s=>by rw[q3g];exact Nat.le_refl _
theorem q2s(hi:Int)(n:Nat):(q1P hi n).length=n:=by unfold q1P;rw[List.length_map,List.length_range]
theorem q9s{hi:Int}{n i:Nat}{d:DV}(h:(q1P hi n)[i]? = some d):i<n/\d=.int (hi - i):=by
 have hl:i<n:=by have:=(List.getElem?_eq_some_iff.mp h).1;rw[q2s]at this;exact this
 unfold q1P at h
 rw[List.getElem?_map,List.getElem?_range hl]at h
 cases h
 exact⟨hl,rfl⟩
theorem Wk.down{D:Dm}{Oc Oi:List Addr}{H1:Hp}(hi:Int)(n:Nat):Wk D (Itd hi n) (q1P hi n) Oc Oi H1 where
 go:=λi H s h=>by rw[q2s]at h;exact h
 same:=λi H x H' y=>by rw[y.1];exact Same.refl _
 yld:=λi H x H' d O2 s s' y e ho=>by
  obtain⟨e1,y⟩:=y
  subst e1
  obtain⟨_,e2⟩:=q9s e
  subst e2
  exact q0y.mpr y
 stop:=λH s=>by rw[q2s];exact Nat.le_refl _
section
variable {X:Cx} {E:St->XK} {δ:List Sv} {tg e e':Expr} {es:List Expr} {pos p:Pos} {ra rb:Option Re} {rs:Option Rs} {ri:Ri}
theorem Got.walkL{D:Dm}{O W:List Addr}{H0 H:Hp}{ds:List DV}{c:Cl}{v:V}(g:Got D O W H0 H (.lst ds) c v)(hd:Hid O W H0 H):∃a xs,v=.ref a/\SqL D.K (L2.wo (hidW O W c) H) a xs/\RepL D (L2.wo (q1N O W c) H) ds xs:=by
 cases c with
 | weak=>obtain⟨a,xs,e1,e2,e3⟩:=q0G.mp g;exact⟨a,xs,e1,SqL.of e2,e3⟩
 | top=>obtain⟨a,xs,e1,e0,e2,e3⟩:=g;exact⟨a,xs,e1,SqL.of e2,e3⟩
 | strong=>obtain⟨a,xs,e1,e2,e3⟩:=q0G.mp g;exact⟨a,xs,e1,SqL.of e2,e3⟩
 | fresh=>obtain⟨a,xs,e1,e2,e3⟩:=q0G.mp (g.strong hd);exact⟨a,xs,e1,SqL.of e2,e3⟩
 | ft=>obtain⟨a,xs,e1,e2,e3⟩:=q0G.mp (g.ft hd);exact⟨a,xs,e1,SqL.of e2,e3⟩
theorem Got.walkT{D:Dm}{O W:List Addr}{H0 H:Hp}{ds:List DV}{c:Cl}{v:V}(g:Got D O W H0 H (.tup ds) c v)(hd:Hid O W H0 H):∃a xs,v=.ref a/\SqT D.K (L2.wo (hidW O W c) H) a xs/\RepL D (L2.wo (q1N O W c) H) ds xs:=by
 cases c with
 | weak=>exact q0H.mp g
 | top=>
  obtain⟨a,xs,e1,e2,e3⟩:=q0H.mp (show Rep D (L2.wo (O++W) H) (.tup ds) v from g)
  exact⟨a,xs,e1,(q0T q7k).tseq e2,e3⟩
 | strong=>exact q0H.mp g
 | fresh=>obtain⟨_,_,_,_,q,_⟩:=g;cases q
 | ft=>exact q0H.mp (g.ft hd)
theorem Got.walkS{D:Dm}{O W:List Addr}{H0 H:Hp}{ns:List Int}{c:Cl}{v:V}(g:Got D O W H0 H (.scr ns) c v)(hd:Hid O W H0 H):∃a,v=.ref a/\SqL D.K (L2.wo (hidW O W c) H) a (ns.map V.int):=by
 cases c with
 | weak=>obtain⟨a,e1,e2⟩:=q2v.mp g;exact⟨a,e1,e2.sq⟩
 | top=>obtain⟨a,e1,e2⟩:=q2v.mp (show Rep D (L2.wo (O++W) H) (.scr ns) v from g);exact⟨a,e1,(q0T q7k).seq e2.sq⟩
 | strong=>obtain⟨a,e1,e2⟩:=q2v.mp g;exact⟨a,e1,e2.sq⟩
 | fresh=>obtain⟨_,_,_,_,q,_⟩:=g;cases q
 | ft=>obtain⟨a,e1,e2⟩:=q2v.mp (g.ft hd);exact⟨a,e1,e2.sq⟩
theorem q8A(ha:∀q,ra=some q->PE X e (dE X.D E δ q))(h:q0L ra=some ri):PI X tg e (dI X.D E δ ri):=by
 cases hra:ra with
 | none=>rw[hra]at h;cases h
 | some q=>
  rw[hra]at h
  have A:=ha q hra
  cases q with
  | ex c=>cases h;exact(q7E A).weak λσ H R' ⟨O,W,R,p⟩=>⟨O,W,R,p⟩
  | ok d c=>
   obtain⟨ds,e1,e2⟩:=Option.map_eq_some_iff.mp (show((seqD d).map λds=>Ri.ok ds c)=some ri from h)
   cases e2
   unfold seqD at e1
   split at e1
   ·cases e1
    exact(q7E A).weak λσ H R' ⟨O,W,R,p⟩=>⟨O,W,R,λv H1 s1 g1=>by
     obtain⟨a,e1,e2⟩:=g1.walkS (R.hid.mono s1)
     exact⟨a,e1,⟨_,q1d.seq e2⟩,p _ H1 s1 (.list e2 (q1M _))⟩⟩
   ·cases e1
    exact(q7E A).weak λσ H R' ⟨O,W,R,p⟩=>⟨O,W,R,λv H1 s1 g1=>by
     obtain⟨a,xs,e1,e2,e3⟩:=g1.walkL (R.hid.mono s1)
     exact⟨a,e1,⟨xs,q1d.seq e2⟩,p _ H1 s1 (.list e2 e3)⟩⟩
   ·cases e1
    exact(z9y A).weak λσ H R' ⟨O,W,R,p⟩=>⟨O,W,R,λv H1 s1 g1=>by
     obtain⟨a,xs,e1,e2,e3⟩:=g1.walkT (R.hid.mono s1)
     exact⟨a,e1,⟨xs,q1d.tseq e2⟩,p _ H1 s1 (.tup e2 e3)⟩⟩
   ·cases e1
theorem q2g{i:Int}(h:q0E i=true) : -(2^62)<=i/\i<2^62:=by
 unfold q0E at h
 simpa[Bool.and_eq_true]using h
theorem q5K{o:Option (List DV)}{ri:Ri}(h:q0L (o.map λds=>Re.ok (.lst ds) .fresh)=some ri):∃ds,o=some ds/\ri=.ok ds .fresh:=by
 cases o with
 | none=>cases h
 | some ds=>cases h;exact⟨ds,rfl,rfl⟩
theorem q9v(hg:Gl X "range")(hm:X.mg "range" = none)(ha:∀q,rs=some q->PA X [e] (dA X.D E δ q))(hs:q0s e=false)(h:q0L (Rs.thn rs λl=>(rngD l).map λds=>Re.ok (.lst ds) .fresh)=some ri)(hl:∀l,rs=some (.ok l)->l.length=1) :
  PI X tg (.Call (.Name "range" p) [e] [] pos) (dI X.D E δ ri):=by
 have C:=λt (hA:PA X [e] t)=>z1W (tg:=tg) (p:=p) (pos:=pos) hg hm hA (q0q hs)
 cases hrs:rs with
 | none=>rw[hrs]at h;cases h
 | some q=>
  rw[hrs]at h
  have A:=ha q hrs
  cases q with
  | ex c=>cases h;exact(C _ A).weak λσ H R' ⟨O,W,R,p⟩=>⟨O,W,R,p⟩
  | ok l=>
   have l1:=hl l hrs
   obtain⟨ds,e1,e2⟩:=q5K (show q0L ((rngD l).map λds=>Re.ok (.lst ds) .fresh)=some ri from h)
   cases e2
   unfold rngD at e1
   split at e1
   ·rename_i j c
    split at e1
    ·rename_i m
     cases e1
     rw[Bool.and_eq_true]at m
     have q:=q2g m.1
     exact(C _ A).weak λσ H R' ⟨O,W,R,p⟩=>⟨O,W,R,λvs H1 s1 g1=>by
      obtain⟨v,rfl,gv⟩:=g1.one
      exact⟨j,by rw[gv.int (R.hid.mono s1)],q.1,q.2,p _ H1 s1 (.range _ _)⟩⟩
    ·cases e1
   ·cases l1
   ·cases l1
   ·cases e1
theorem q9q(hg:Gl X "range")(hm:X.mg "range" = none)(ha:∀q,rs=some q->PA X [e,e'] (dA X.D E δ q))(hs:q0s e=false)(hs':q0s e'=false)(h:q0L (Rs.thn rs λl=>(rngD l).map λds=>Re.ok (.lst ds) .fresh)=some ri)(hl:∀l,rs=some (.ok l)->l.length=2) :
  PI X tg (.Call (.Name "range" p) [e,e'] [] pos) (dI X.D E δ ri):=by
 have C:=λt (hA:PA X [e,e'] t)=>z1t (tg:=tg) (p:=p) (pos:=pos) hg hm hA (by rw[q0q hs,q0q hs'];rfl) (q0q hs')
 cases hrs:rs with
 | none=>rw[hrs]at h;cases h
 | some q=>
  rw[hrs]at h
  have A:=ha q hrs
  cases q with
  | ex c=>cases h;exact(C _ A).weak λσ H R' ⟨O,W,R,p⟩=>⟨O,W,R,p⟩
  | ok l=>
   have l1:=hl l hrs
   obtain⟨ds,e1,e2⟩:=q5K (show q0L ((rngD l).map λds=>Re.ok (.lst ds) .fresh)=some ri from h)
   cases e2
   unfold rngD at e1
   split at e1
   ·cases l1
   ·rename_i i c j c'
    split at e1
    ·rename_i m
     cases e1
     rw[Bool.and_eq_true,Bool.and_eq_true]at m
     have q:=q2g m.1.1
     have q':=q2g m.1.2
     exact(C _ A).weak λσ H R' ⟨O,W,R,p⟩=>⟨O,W,R,λvs H1 s1 g1=>by
      obtain⟨v,v',rfl,gv,gv'⟩:=g1.two
      exact⟨i,j,by rw[gv.int (R.hid.mono s1),gv'.int (R.hid.mono s1)],⟨q.1,q.2,q'.1,q'.2⟩,p _ H1 s1 (.range _ _)⟩⟩
    ·cases e1
   ·cases l1
   ·cases e1
theorem q9p{e'':Expr}(hg:Gl X "range")(hm:X.mg "range" = none)(ha:∀q,rs=some q->PA X [e,e',e''] (dA X.D E δ q))(hs:q0s e=false)(hs':q0s e'=false)(hs'':q0s e''=false)(h:q0L (Rs.thn rs λl=>(rngD l).map λds=>Re.ok (.lst ds) .fresh)=some ri)(hl:∀l,rs=some (.ok l)->l.length=3) :
  PI X tg (.Call (.Name "range" p) [e,e',e''] [] pos) (dI X.D E δ ri):=by
 have C:=λt (hA:PA X [e,e',e''] t)=>z2n (tg:=tg) (p:=p) (pos:=pos) hg hm hA (by rw[q0q hs,q0q hs',q0q hs''];rfl) (by rw[q0q hs',q0q hs''];rfl)
 cases hrs:rs with
 | none=>rw[hrs]at h;cases h
 | some q=>
  rw[hrs]at h
  have A:=ha q hrs
  cases q with
  | ex c=>cases h;exact(C _ A).weak λσ H R' ⟨O,W,R,p⟩=>⟨O,W,R,p⟩
  | ok l=>
   have l1:=hl l hrs
   obtain⟨ds,e1,e2⟩:=q5K (show q0L ((rngD l).map λds=>Re.ok (.lst ds) .fresh)=some ri from h)
   cases e2
   unfold rngD at e1
   split at e1
   ·cases l1
   ·cases l1
   ·rename_i i c j c' k c''
    split at e1
    ·rename_i m
     cases e1
     rw[Bool.and_eq_true,Bool.and_eq_true,Bool.and_eq_true,decide_eq_true_eq,decide_eq_true_eq]at m
     have q:=q2g m.1.1.1
     have q':=q2g m.1.1.2
     have k1:=m.2
     subst k1
     exact(C _ A).weak λσ H R' ⟨O,W,R,p⟩=>⟨O,W,R,λvs H1 s1 g1=>by
      obtain⟨v,v',v'',rfl,gv,gv',gv''⟩:=g1.three
      exact⟨i,j,by rw[gv.int (R.hid.mono s1),gv'.int (R.hid.mono s1),gv''.int (R.hid.mono s1)],⟨q.1,q.2,q'.1,q'.2⟩,p _ H1 s1 (.down _ _)⟩⟩
    ·cases e1
   ·cases e1
end
def q8X:List Nat->TGs
 | []=>gNil
 | i::is=>z8G (z0s i) (q8X is)
def gT(K:PySem.W.Frag):Tg->TG
 | .one i=>z0s i
 | .many is=>gTup K is.length (q8X is)
theorem RSt.setVal{D:Dm}{H:Hp}{σ:St}{δ:List Sv}{O W:List Addr}{v:V}{d:DV}(R:RSt D H σ δ O W)(r:Rep D (L2.wo (O++W) H) d v)(i:Nat):RSt D H (σ.set i (some v)) (δ.set i (.val d)) O W where
 val:=λj d' h=>by
  by_cases hj:j=i
  ·subst hj
   have hl:j<δ.length:=by
    have:=(List.getElem?_eq_some_iff.mp h).1
    rw[List.length_set]at this;exact this
   rw[List.getElem?_set_self hl]at h
   cases h
   exact⟨v,List.getElem?_set_self (by rw[R.len];exact hl),r⟩
  ·rw[List.getElem?_set_ne (Ne.symm hj)]at h ⊢
   exact R.val j d' h
 own:=λj ds' h=>by
  by_cases hj:j=i
  ·subst hj
   have hl:j<δ.length:=by
    have:=(List.getElem?_eq_some_iff.mp h).1
    rw[List.length_set]at this;exact this
   rw[List.getElem?_set_self hl]at h
   cases h
  ·rw[List.getElem?_set_ne (Ne.symm hj)]at h ⊢
   exact R.own j ds' h
 inj:=λj k a d1 d2 h1 h2 e1 e2=>by
  have ne:∀{j:Nat} {d1:DV},(δ.set i (.val d))[j]? = some (.own d1)->j≠i:=λ{j d1} h1 z=>by
   subst z
   have hl:j<δ.length:=by
    have:=(List.getElem?_eq_some_iff.mp h1).1
    rw[List.length_set]at this;exact this
   rw[List.getElem?_set_self hl]at h1
   cases h1
  have n1:=ne h1
  have n2:=ne h2
  rw[List.getElem?_set_ne (Ne.symm n1)]at h1 e1
  rw[List.getElem?_set_ne (Ne.symm n2)]at h2 e2
  exact R.inj j k a d1 d2 h1 h2 e1 e2
 ot:=λj d' h=>by
  have ne:∀{j:Nat} {s:Sv},(∀d,s ≠ .val d)->(δ.set i (.val d))[j]? = some s->j≠i:=λ{j s} hs h1 z=>by
   subst z
   have hl:j<δ.length:=by
    have:=(List.getElem?_eq_some_iff.mp h1).1
    rw[List.length_set]at this;exact this
   rw[List.getElem?_set_self hl]at h1
   cases h1
   exact hs _ rfl
  have nj:=ne (by intro d z;cases z) h
  rw[List.getElem?_set_ne (Ne.symm nj)]at h ⊢
  obtain⟨⟨t,ts,p,xs,ds,es,e0,e1,e2,e3,e4,e5,e6,e7⟩,u⟩:=R.ot j d' h
  refine⟨⟨t,ts,p,xs,ds,es,e0,e1,e2,e3,e4,e5,e6,λk d2 q=>?_⟩,λk d2 q=>?_⟩
  ·have nk:=ne (by intro d z;cases z) q
   rw[List.getElem?_set_ne (Ne.symm nk)]at q ⊢
   exact e7 k d2 q
  ·have nk:=ne (by intro d z;cases z) q
   rw[List.getElem?_set_ne (Ne.symm nk)]at q
   exact u k d2 q
 o2:=λj d' h=>by
  have ne:∀{j:Nat} {s:Sv},(∀d,s ≠ .val d)->(δ.set i (.val d))[j]? = some s->j≠i:=λ{j s} hs h1 z=>by
   subst z
   have hl:j<δ.length:=by
    have:=(List.getElem?_eq_some_iff.mp h1).1
    rw[List.length_set]at this;exact this
   rw[List.getElem?_set_self hl]at h1
   cases h1
   exact hs _ rfl
  have nj:=ne (by intro d z;cases z) h
  rw[List.getElem?_set_ne (Ne.symm nj)]at h ⊢
  obtain⟨⟨p,L,e0,e1,e2,e3⟩,u,n⟩:=R.o2 j d' h
  refine⟨⟨p,L,e0,e1,e2,λk d2 a q q2=>?_⟩,λk d2 q=>?_,λk d2 q=>?_⟩
  ·have nk:=ne (by intro d z;cases z) q
   rw[List.getElem?_set_ne (Ne.symm nk)]at q q2
   exact e3 k d2 a q q2
  ·have nk:=ne (by intro d z;cases z) q
   rw[List.getElem?_set_ne (Ne.symm nk)]at q
   exact u k d2 q
  ·have nk:=ne (by intro d z;cases z) q
   rw[List.getElem?_set_ne (Ne.symm nk)]at q
   exact n k d2 q
 od:=R.od.step (q9e _ (by intro d z;cases z)) (λ_ h _=>h) (λ_ _ _ h _=>h)
 len:=by rw[List.length_set,List.length_set];exact R.len
 hid:=R.hid
theorem q6H{D:Dm}{H:Hp}{O W:List Addr}{Q:St->Hp->Prop}:∀{is:List Nat} {ds:List DV} {xs:List V} {σ:St} {δ δ':List Sv},RSt D H σ δ O W->RepL D (L2.wo (O++W) H) ds xs->q5w δ is ds=some δ'->(∀σ',RSt D H σ' δ' O W->Q σ' H)->q8X is xs σ H Q
 | [],[],xs,σ,δ,δ',R,r,h,q=>by cases h;exact⟨q0x.mp r,q σ R⟩
 | i::is,d::ds,xs,σ,δ,δ',R,r,h,q=>by
  obtain⟨v,vs,e1,e2,e3⟩:=q0j.mp r
  exact⟨v,vs,e1,q6H (R.setVal e2 i) e3 h q⟩
 | [],_::_,_,_,_,_,_,_,h,_=>by cases h
 | _::_,[],_,_,_,_,_,_,h,_=>by cases h
theorem q2q:∀{is:List Nat} {ds:List DV} {δ δ':List Sv},q5w δ is ds=some δ'->is.length=ds.length/\δ'.length=δ.length
 | [],[],_,_,h=>by cases h;exact⟨rfl,rfl⟩
 | i::is,d::ds,δ,δ',h=>by
  obtain⟨a,b⟩:=q2q (is:=is) h
  exact⟨by rw[List.length_cons,List.length_cons,a],by rw[b,List.length_set]⟩
 | [],_::_,_,_,h=>by cases h
 | _::_,[],_,_,h=>by cases h
theorem q7w{D:Dm}{H:Hp}{O W:List Addr}{Q:St->Hp->Prop}{tg:Tg}{d:DV}{x:V}{σ:St}{δ δ':List Sv}(R:RSt D H σ δ O W)(r:Rep D (L2.wo (O++W) H) d x)(h:tg.bind d δ=some δ')(q:∀σ',RSt D H σ' δ' O W->Q σ' H):gT D.K tg x σ H Q:=by
 cases tg with
 | one i=>cases h;exact q _ (R.setVal r i)
 | many is=>
  unfold Tg.bind at h
  dsimp only at h
  split at h
  ·rename_i ds
   obtain⟨a,xs,e1,e2,e3⟩:=q0H.mp r
   exact⟨a,xs,e1,q1d.tseq e2,by rw[e3.length,(q2q h).1],q6H R e3 h q⟩
  ·cases h
theorem RSt.less{D:Dm}{H:Hp}{σ:St}{δ δ':List Sv}{O W:List Addr}(R:RSt D H σ δ' O W)(hl:δ.length=δ'.length)(h:∀(i:Nat) sv,δ[i]? = some sv->sv=.no\/δ'[i]? = some sv):RSt D H σ δ O W where
 val:=λi d e=>by
  rcases h i _ e with z | z
  ·cases z
  ·exact R.val i d z
 own:=λi d e=>by
  rcases h i _ e with z | z
  ·cases z
  ·exact R.own i d z
 inj:=λi j a d d' e e'=>by
  rcases h i _ e with z | z
  ·cases z
  ·rcases h j _ e' with y | y
   ·cases y
   ·exact R.inj i j a d d' z y
 ot:=λi d e=>by
  rcases h i _ e with z | z
  ·cases z
  ·obtain⟨⟨t,ts,p,xs,ds,es,e0,e1,e2,e3,e4,e5,e6,e7⟩,u⟩:=R.ot i d z
   refine⟨⟨t,ts,p,xs,ds,es,e0,e1,e2,e3,e4,e5,e6,λk d2 q=>?_⟩,λk d2 q=>?_⟩
   ·rcases h k _ q with y | y
    ·cases y
    ·exact e7 k d2 y
   ·rcases h k _ q with y | y
    ·cases y
    ·exact u k d2 y
 o2:=λi d e=>by
  rcases h i _ e with z | z
  ·cases z
  ·obtain⟨⟨p,L,e0,e1,e2,e3⟩,u,n⟩:=R.o2 i d z
   refine⟨⟨p,L,e0,e1,e2,λk d2 a q q2=>?_⟩,λk d2 q=>?_,λk d2 q=>?_⟩
   ·rcases h k _ q with y | y
    ·cases y
    ·exact e3 k d2 a y q2
   ·rcases h k _ q with y | y
    ·cases y
    ·exact u k d2 y
   ·rcases h k _ q with y | y
    ·cases y
    ·exact n k d2 y
 od:=R.od.step (λj d e=>by
  rcases h j _ e with z | z
  ·cases z
  ·exact⟨z,rfl⟩) (λ_ h _=>h) (λ_ _ _ h _=>h)
 len:=by rw[hl];exact R.len
 hid:=R.hid
theorem q7r:∀{is:List Nat} {ds:List DV} {δ δ':List Sv},q5w δ is ds=some δ'->(∀i∈is,δ[i]? = some .no\/δ[i]? = none)->∀(i:Nat) sv,δ[i]? = some sv->sv=.no\/δ'[i]? = some sv
 | [],[],_,_,h,_,i,sv,e=>by cases h;exact .inr e
 | j::is,d::ds,δ,δ',h,hn,i,sv,e=>by
  by_cases hij:i∈j::is
  ·rcases hn i hij with z | z
   ·rw[z]at e;cases e;exact .inl rfl
   ·rw[z]at e;cases e
  ·have hne:j≠i:=λz=>hij (by rw[z];exact List.mem_cons_self)
   have hni:i∉is:=λz=>hij (List.mem_cons_of_mem _ z)
   have key:∀{is:List Nat} {ds:List DV} {δ δ':List Sv},q5w δ is ds=some δ'->i∉is->δ[i]? = some sv->δ'[i]? = some sv:=by
    intro is
    induction is with
    | nil=>intro ds δ δ' h _ e;cases ds with
     | nil=>cases h;exact e
     | cons _ _=>cases h
    | cons k is ih=>intro ds δ δ' h hi e;cases ds with
     | nil=>cases h
     | cons d ds=>
      refine ih h (λz=>hi (List.mem_cons_of_mem _ z)) ?_
      rw[List.getElem?_set_ne (λz=>hi (by rw[z];exact List.mem_cons_self))]
      exact e
   exact .inr (key h hij e)
 | [],_::_,_,_,h,_,_,_,_=>by cases h
 | _::_,[],_,_,h,_,_,_,_=>by cases h
theorem q7a{tg:Tg}{d:DV}{δ δ':List Sv}(h:tg.bind d δ=some δ')(hn:∀i∈q3m tg,δ[i]? = some .no\/δ[i]? = none):δ.length=δ'.length/\∀(i:Nat) sv,δ[i]? = some sv->sv=.no\/δ'[i]? = some sv:=by
 cases tg with
 | one j=>
  cases h
  refine⟨(List.length_set ..).symm,λi sv e=>?_⟩
  by_cases hij:i=j
  ·subst hij
   rcases hn i (by simp[q3m])with z | z
   ·rw[z]at e;cases e;exact .inl rfl
   ·rw[z]at e;cases e
  ·exact .inr (by rw[List.getElem?_set_ne (Ne.symm hij)];exact e)
 | many is=>
  unfold Tg.bind at h
  dsimp only at h
  split at h
  ·exact⟨(q2q h).2.symm,q7r h hn⟩
  ·cases h
theorem RSt.inner{D:Dm}{H:Hp}{σ:St}{δ:List Sv}{O W:List Addr}(R:RSt D H σ δ O W)(fr:List (Option Nat))(hnd:∀(j k i:Nat),fr[j]? = some (some i)->fr[k]? = some (some i)->j=k):RSt D H (L2.inner fr σ) (q0v fr δ) O W:=by
 have look:∀(j:Nat) sv,(q0v fr δ)[j]? = some sv->sv ≠ .no->∃i,fr[j]? = some (some i)/\δ[i]? = some sv:=λj sv h hn=>by
  unfold q0v at h
  rw[List.getElem?_map]at h
  cases q:fr[j]? with
  | none=>rw[q]at h;cases h
  | some o=>
   rw[q]at h
   cases o with
   | none=>cases h;exact absurd rfl hn
   | some i=>
    refine⟨i,rfl,?_⟩
    have h':(δ.getD i .no).plain=sv:=by simpa using h
    rw[List.getD_eq_getElem?_getD]at h'
    cases z:δ[i]? with
    | none=>rw[z]at h';exact absurd h'.symm hn
    | some sv'=>
     rw[z]at h'
     cases sv' with
     | ot d=>exact absurd h'.symm hn
     | o2 d=>exact absurd h'.symm hn
     | od d=>exact congrArg some h'
     | no=>exact congrArg some h'
     | val d=>exact congrArg some h'
     | own d=>exact congrArg some h'
 have sig:∀(j i:Nat) (v:V),fr[j]? = some (some i)->σ[i]? = some (some v)->(L2.inner fr σ)[j]? = some (some v):=λj i v q e=>by
  unfold L2.inner
  rw[List.getElem?_map,q]
  simp[e]
 have noot:∀(j:Nat) d,(q0v fr δ)[j]? ≠ some (.ot d):=λj d h=>by
  unfold q0v at h
  rw[List.getElem?_map]at h
  cases q:fr[j]? with
  | none=>rw[q]at h;cases h
  | some o=>
   rw[q]at h
   cases o with
   | none=>cases h
   | some i=>
    have h':(δ.getD i .no).plain=.ot d:=by simpa using h
    cases z:δ.getD i .no with
    | ot d2=>rw[z]at h';cases h'
    | o2 d2=>rw[z]at h';cases h'
    | od d2=>rw[z]at h';cases h'
    | no=>rw[z]at h';cases h'
    | val d2=>rw[z]at h';cases h'
    | own d2=>rw[z]at h';cases h'
 have noo2:∀(j:Nat) d,(q0v fr δ)[j]? ≠ some (.o2 d):=λj d h=>by
  unfold q0v at h
  rw[List.getElem?_map]at h
  cases q:fr[j]? with
  | none=>rw[q]at h;cases h
  | some o=>
   rw[q]at h
   cases o with
   | none=>cases h
   | some i=>
    have h':(δ.getD i .no).plain=.o2 d:=by simpa using h
    cases z:δ.getD i .no with
    | ot d2=>rw[z]at h';cases h'
    | o2 d2=>rw[z]at h';cases h'
    | od d2=>rw[z]at h';cases h'
    | no=>rw[z]at h';cases h'
    | val d2=>rw[z]at h';cases h'
    | own d2=>rw[z]at h';cases h'
 refine⟨λj d h=>?_,λj d h=>?_,λj k a d d' h1 h2 e1 e2=>?_,λj d h=>absurd h (noot j d),λj d h=>absurd h (noo2 j d),λj d h=>?_,?_,R.hid⟩
 ·obtain⟨i,q1,q2⟩:=look j _ h (by intro z;cases z)
  obtain⟨v,e1,e2⟩:=R.val i d q2
  exact⟨v,sig j i v q1 e1,e2⟩
 ·obtain⟨i,q1,q2⟩:=look j _ h (by intro z;cases z)
  obtain⟨a,xs,ds,e0,e1,e2⟩:=R.own i d q2
  exact⟨a,xs,ds,e0,sig j i _ q1 e1,e2⟩
 ·obtain⟨i,q1,q2⟩:=look j _ h1 (by intro z;cases z)
  obtain⟨i',q1',q2'⟩:=look k _ h2 (by intro z;cases z)
  obtain⟨b,xs,ds,_,z1,_⟩:=R.own i d q2
  obtain⟨b',xs',ds',_,z1',_⟩:=R.own i' d' q2'
  have y:=sig j i _ q1 z1
  have y':=sig k i' _ q1' z1'
  rw[e1]at y
  rw[e2]at y'
  cases y
  cases y'
  have:=R.inj i i' a d d' q2 q2' z1 z1'
  subst this
  exact hnd j k i q1 q1'
 ·obtain⟨i,q1,q2⟩:=look j _ h (by intro z;cases z)
  obtain⟨⟨a,o,e0,e1,e2⟩,u⟩:=R.od i d q2
  refine⟨⟨a,o,e0,sig j i _ q1 e1,e2⟩,λk d' z=>?_⟩
  obtain⟨i',q1',q2'⟩:=look k _ z (by intro z;cases z)
  rw[u i' d' q2']at q1'
  exact hnd k j i q1' q1
 ·unfold L2.inner q0v;rw[List.length_map,List.length_map]
section
variable {X:Cx} {E:St->XK} {δ:List Sv} {iter elt tgE:Expr} {ifs:List Expr} {pos:Pos} {N':List Str} {scope:Scope} {fr:List (Option Nat)} {tg:Tg} {ri:Option Ri} {re:Re}
theorem q6h{D:Dm}{J:It}{ds:List DV}{O W:List Addr}{H H1:Hp}{σ:St}{c:Cl}{g:DV->Option Rc}{xs:List DV}{tc:TT}{te:TE}{δ0:List Sv}{Q:VK}(w:Wk D J ds (hidW O W c) (q1N O W c) H1)(hd0:Hid O W H H)(hc:c ≠ .weak)(R:RSt D H1 σ δ0 O W)
  (hn:∀i∈q3m tg,δ0[i]? = some .no\/δ0[i]? = none) (hz:ds.length<=sizeLine) (hx:q0C g ds=some xs) (s1:Same H H1)
  (step:∀d rc,d∈ds->g d=some rc->∃δ',tg.bind d δ0=some δ'/\∀σ' H2,Same H1 H2->RSt D H2 σ' δ' O W->∀K:Bool->Hp->Prop,(rc=.skip->∀H3,Same H2 H3->K false H3)->(∀x,rc=.item x->∀H3,Same H2 H3->K true H3)->tc σ' H2 K)
  (stepE:∀d x,d∈ds->g d=some (.item x)->∀δ',tg.bind d δ0=some δ'->∀σ' H2,Same H1 H2->RSt D H2 σ' δ' O W->∀K:VK,(∀v H3,Same H2 H3->Rep D (L2.wo (O++W) H3) x v->K v H3)->te σ' H2 K)
  (fin:∀v H',Same H H'->Got D O W H H' (.lst xs) .fresh v->Q v H') :
  z5v J (gT D.K tg) tc te (λys H'=>∀p,H' p=none->Q (.ref p) (upd H' p (.lst ys))) σ H1:=by
 have ci:q1N O W c=O++W:=by cases c<;>first | rfl | exact absurd rfl hc
 rw[ci]at w
 refine⟨λi n ys σ' H'=>n=ds.length - i/\i<=ds.length/\ys.length<=i/\RSt D H' σ' δ0 O W/\Same H1 H'/\∃done rest,q0C g (ds.drop i)=some rest/\done++rest=xs/\RepL D (L2.wo (O++W) H') done ys,
  ⟨ds.length,rfl,Nat.zero_le _,Nat.zero_le _,R,Same.refl _,[],xs,hx,rfl,q0x.mpr rfl⟩,?_⟩
 rintro i n ys σ2 H2 ⟨rfl,hi',hy,R2,s2,done,rest,h1,h2,r2⟩
 by_cases hlt:i<ds.length
 ·refine .inr ⟨w.go i H2 s2.wo hlt,Nat.lt_of_le_of_lt hy (Nat.lt_of_lt_of_le hlt hz),λx' H3 y=>?_⟩
  have y1:=w.same i H2 x' H3 y
  have y3:Rep D (L2.wo (O++W) H3) ds[i] x':=w.yld i H2 x' H3 _ (O++W) s2.wo s2.wo y (List.getElem?_eq_getElem hlt) λa ha=>⟨R2.hid.ot a ha,.inl ha⟩
  rw[List.drop_eq_getElem_cons hlt]at h1
  have hm:ds[i]∈ds:=List.getElem_mem hlt
  unfold q0C at h1
  split at h1
  ·cases h1
  ·rename_i q
   obtain⟨δ',b1,b2⟩:=step _ _ hm q
   refine q7w (R2.mono y1) y3 b1 λσ3 R3=>?_
   have back:=q7a b1 hn
   refine b2 σ3 H3 (s2.trans y1) R3 _ (λ_ H4 s4=>?_) (λx z=>nomatch z)
   show if false=true then _ else _
   rw[if_neg Bool.false_ne_true]
   exact⟨ds.length - (i+1),by omega,rfl,hlt,Nat.le_succ_of_le hy,(R3.less back.1 back.2).mono s4,(s2.trans y1).trans s4,done,rest,h1,h2,r2.mono (y1.trans s4).wo⟩
  ·rename_i x q
   split at h1
   ·cases h1
   ·rename_i rest' q'
    cases h1
    obtain⟨δ',b1,b2⟩:=step _ _ hm q
    refine q7w (R2.mono y1) y3 b1 λσ3 R3=>?_
    have back:=q7a b1 hn
    refine b2 σ3 H3 (s2.trans y1) R3 _ (λz=>nomatch z) (λx' z H4 s4=>?_)
    cases z
    show if true=true then _ else _
    rw[if_pos rfl]
    refine stepE _ x hm q δ' b1 σ3 H4 ((s2.trans y1).trans s4) (R3.mono s4) _ λv H5 s5 rv=>?_
    exact⟨ds.length - (i+1),by omega,rfl,hlt,by rw[List.length_append,List.length_singleton];omega,(R3.less back.1 back.2).mono (s4.trans s5),((s2.trans y1).trans s4).trans s5,done++[x],rest',q',by rw[List.append_assoc];exact h2,
     (r2.mono ((y1.trans s4).trans s5).wo).append (RepL.one rv)⟩
 ·have e:i=ds.length:=by omega
  subst e
  rw[List.drop_length]at h1
  cases h1
  rw[List.append_nil]at h2
  subst h2
  have s0:=s1.trans s2
  refine .inl ⟨w.stop H2 s2.wo,λp hp=>fin _ _ (s0.trans (q0p hp)) ?_⟩
  have hd:Hid O W H H2:=hd0.mono s0
  exact q2e hd hp r2
abbrev E0s:St->XK:=λ_ _ _ _=>False
theorem PE.any{Y:Cx}{e:Expr}{ι:Sort _}{t:ι->TE}(h:∀k,PE Y e (t k)):PE Y e (λσ H Q=>∃k,t k σ H Q):=λpins s σ H Q I ⟨k,q⟩=>h k pins s σ H Q I q
theorem PTs.any{Y:Cx}{ι:Sort _}{es:List Expr}{t:ι->TT}(h:∀k,PTs Y es (t k)):PTs Y es (λσ H Q=>∃k,t k σ H Q):=λpins s σ H Q I ⟨k,q⟩=>h k pins s σ H Q I q
theorem Rc.of_item{r:Option Re}{x:DV}(h:Rc.of r=some (.item x)):∃c,r=some (.ok x c)/\stro x c=true:=by
 unfold Rc.of at h
 split at h
 ·rename_i d c
  split at h
  ·rename_i m;cases h;exact⟨c,rfl,m⟩
  ·cases h
 ·cases h
theorem Rc.of_skip{r:Option Re}(h:Rc.of r=some .skip):False:=by
 unfold Rc.of at h
 split at h
 ·split at h<;>cases h
 ·cases h
theorem q4V{fr:List (Option Nat)}{δ:List Sv}{i:Nat}(h:fr[i]? = some none):(q0v fr δ)[i]? = some .no:=by
 unfold q0v
 rw[List.getElem?_map,h];rfl
def q1w(X:Cx)(E:St->XK)(δ:List Sv)(tgE iter:Expr)(ifs:List Expr)(elt:Expr)(scope:Scope)(N':List Str)(fr:List (Option Nat))(tg:Tg)(re:Re):Prop:=
 ∃wi tc te,PI X tgE iter wi/\(∀C cells s₂ H₂ fp,PTs (q0B X scope N' C cells s₂ H₂ fp) ifs tc)/\(∀C cells s₂ H₂ fp,PE (q0B X scope N' C cells s₂ H₂ fp) elt te) /\
  ∀σ H Q,dE X.D E δ re σ H Q->z7e fr wi (gT X.K tg) tc te σ H Q
theorem q5S{iter:Expr}{env:Env}(hset:q2Y iter=false):∀x,foldedSetIterable iter env x=pure x:=by cases iter<;>first | (intro _;rfl) | cases hset
theorem q1w.pe(P:q1w X E δ tgE iter ifs elt scope N' fr tg re)(S:CompScope X.N N' scope X.env.scope fr)(hc:X.calm=true)(hG:∀C cells s₂ H₂ fp,PG (q0B X scope N' C cells s₂ H₂ fp) tgE (gT X.K tg))(hset:q2Y iter=false) :
  PE X (.ListComp elt [⟨tgE,iter,ifs,0⟩] scope pos) (dE X.D E δ re):=by
 obtain⟨wi,tc,te,h1,h2,h3,h4⟩:=P
 exact(z5O (pos:=pos) S hc h1 hG h2 h3 (q5S hset)).weak h4
theorem RSt.noNames{D:Dm}{H:Hp}{σ:St}{δ:List Sv}{O W:List Addr}(R:RSt D H σ δ O W)(fr:List (Option Nat)):RSt D H (L2.inner fr σ) (q0v fr []) O []:=by
 have no:∀(j:Nat) sv,(q0v fr [])[j]? = some sv->sv=.no:=λj sv h=>by
  unfold q0v at h
  rw[List.getElem?_map]at h
  cases q:fr[j]? with
  | none=>rw[q]at h;cases h
  | some o=>
   rw[q]at h
   cases o with
   | none=>cases h;rfl
   | some i=>cases h;rfl
 refine⟨λj d h=>(by cases no j _ h),λj d h=>(by cases no j _ h),λj k a d d' h1 h2 e1 e2=>(by cases no j _ h1),λj d h=>(by cases no j _ h),λj d h=>(by cases no j _ h),λj d h=>(by cases no j _ h),?_,?_⟩
 ·unfold L2.inner q0v;rw[List.length_map,List.length_map]
 ·exact⟨λa ha=>R.hid.ot a (by rw[List.append_nil]at ha;exact List.mem_append_left _ ha),Same.refl _,λa ha=>(nomatch ha),λa ha=>(nomatch ha),R.hid.om⟩
theorem q4Y{evElt:List Sv->Option Re}(S:CompScope X.N N' scope X.env.scope fr)(hc:X.calm=true)(hnd:∀(j k i:Nat),fr[j]? = some (some i)->fr[k]? = some (some i)->j=k)(hsl:∀i∈q3m tg,fr[i]? = some none)(hi:∀q,ri=some q->PI X tgE iter (dI X.D E δ q))
  (hG:∀C cells s₂ H₂ fp,PG (q0B X scope N' C cells s₂ H₂ fp) tgE (gT X.K tg)) (he:∀δ' r,evElt δ'=some r->∀C cells s₂ H₂ fp,PE (q0B X scope N' C cells s₂ H₂ fp) elt (dE X.D E0s δ' r))
  (h:(Ri.thn ri λds c=>if c=.weak\/mostLen<ds.length then(if c=.weak/\ds.length<=mostLen then q2T (q0C (λd=>(tg.bind d (q0v fr [])).bind λδ'=>Rc.of (evElt δ')) ds)else none)else q1x (q0C (λd=>(tg.bind d (q0v fr δ)).bind λδ'=>Rc.of (evElt δ')) ds))=some re):q1w X E δ tgE iter [] elt scope N' fr tg re:=by
 cases hri:ri with
 | none=>rw[hri]at h;cases h
 | some q=>
  rw[hri]at h
  have A:=hi q hri
  refine⟨_,_,_,A,(λC cells s₂ H₂ fp=>z4S),(λC cells s₂ H₂ fp=>PE.any (ι:={p:List Sv×Re // evElt p.1=some p.2}) (t:=λk=>dE X.D E0s k.1.1 k.1.2) λk=>he k.1.1 k.1.2 k.2 C cells s₂ H₂ fp),?_⟩
  cases q with
  | ex c=>cases h;exact λσ H Q ⟨O,W,R,p⟩=>⟨O,W,R,p⟩
  | ok ds c=>
   have h':(if c=.weak\/mostLen<ds.length then(if c=.weak/\ds.length<=mostLen then q2T (q0C (λd=>(tg.bind d (q0v fr [])).bind λδ'=>Rc.of (evElt δ')) ds)else none)else q1x (q0C (λd=>(tg.bind d (q0v fr δ)).bind λδ'=>Rc.of (evElt δ')) ds))=some re:=h
   split at h'
   ·split at h'
    ·rename_i m
     obtain⟨rfl,ml⟩:=m
     unfold q2T at h'
     split at h'
     ·cases h'
     ·rename_i xs hx
      cases h'
      refine λσ H Q ⟨O,W,R,p⟩=>⟨O,W,R,λJ H1 s1 w=>?_⟩
      have w':Wk X.D J ds (hidW O [] .strong) (q1N O [] .strong) H1:=by
       show Wk X.D J ds (O++[]) (O++[]) H1
       rw[List.append_nil];exact w
      have hd0:Hid O [] H H:=(R.noNames fr).hid
      refine q6h (tg:=tg) (D:=X.D) (O:=O) (W:=[]) w' hd0 (by intro z;cases z) ((R.mono s1).noNames fr) (λi hi=>.inl (q4V (hsl i hi))) (q1Y (by omega)) hx s1 (λd rc hm hg=>?_) (λd x hm hg δ' hb σ' H2 s2 R2 K hK=>?_) (λv H' s' g'=>p v H' s' ?_)
      ·cases hb:tg.bind d (q0v fr [])with
       | none=>rw[hb]at hg;cases hg
       | some δ'=>
        rw[hb]at hg
        refine⟨δ',rfl,λσ' H2 s2 R2 K k1 k2=>?_⟩
        cases rc with
        | skip=>exact(Rc.of_skip hg).elim
        | item x=>exact k2 x rfl H2 (Same.refl _)
      ·rw[hb]at hg
       obtain⟨cl,e1,e2⟩:=Rc.of_item hg
       exact⟨⟨⟨δ',.ok x cl⟩,e1⟩,O,[],R2,λv H3 s3 g3=>hK v H3 s3 (g3.stro (R2.hid.mono s3) e2)⟩
      ·show Rep X.D (L2.wo O H') _ v
       have:=Got.strong g' (hd0.mono s')
       rw[List.append_nil]at this
       exact this
    ·cases h'
   ·rename_i m
    rw[not_or]at m
    unfold q1x at h'
    split at h'
    ·cases h'
    ·rename_i xs hx
     cases h'
     refine λσ H Q ⟨O,W,R,p⟩=>⟨O,W,R,λJ H1 s1 w=>?_⟩
     refine q6h (tg:=tg) (D:=X.D) w R.hid m.1 ((R.mono s1).inner fr hnd) (λi hi=>.inl (q4V (hsl i hi))) (q1Y (by omega)) hx s1 (λd rc hm hg=>?_) (λd x hm hg δ' hb σ' H2 s2 R2 K hK=>?_) p
     ·cases hb:tg.bind d (q0v fr δ)with
      | none=>rw[hb]at hg;cases hg
      | some δ'=>
       rw[hb]at hg
       refine⟨δ',rfl,λσ' H2 s2 R2 K k1 k2=>?_⟩
       cases rc with
       | skip=>exact(Rc.of_skip hg).elim
       | item x=>exact k2 x rfl H2 (Same.refl _)
     ·rw[hb]at hg
      obtain⟨cl,e1,e2⟩:=Rc.of_item hg
      exact⟨⟨⟨δ',.ok x cl⟩,e1⟩,O,W,R2,λv H3 s3 g3=>hK v H3 s3 (g3.stro (R2.hid.mono s3) e2)⟩
theorem q4C{evElt:List Sv->Option Re}{evC:List Sv->Option Rt}{cond:Expr}(S:CompScope X.N N' scope X.env.scope fr)(hc:X.calm=true)(hnd:∀(j k i:Nat),fr[j]? = some (some i)->fr[k]? = some (some i)->j=k)(hsl:∀i∈q3m tg,fr[i]? = some none)(hi:∀q,ri=some q->PI X tgE iter (dI X.D E δ q))
  (hG:∀C cells s₂ H₂ fp,PG (q0B X scope N' C cells s₂ H₂ fp) tgE (gT X.K tg)) (he:∀δ' r,evElt δ'=some r->∀C cells s₂ H₂ fp,PE (q0B X scope N' C cells s₂ H₂ fp) elt (dE X.D E0s δ' r))
  (ht:∀δ' r,evC δ'=some r->∀C cells s₂ H₂ fp,PT (q0B X scope N' C cells s₂ H₂ fp) cond (dT X.D E0s δ' r))
  (h:(Ri.thn ri λds c=>if c=.weak\/mostLen<ds.length then none else q1x (q0C (λd=>(tg.bind d (q0v fr δ)).bind λδ'=>Rc.test (evC δ') (Rc.of (evElt δ'))) ds))=some re):q1w X E δ tgE iter [cond] elt scope N' fr tg re:=by
 cases hri:ri with
 | none=>rw[hri]at h;cases h
 | some q=>
  rw[hri]at h
  have A:=hi q hri
  refine⟨_,_,_,A,(λC cells s₂ H₂ fp=>PTs.any (ι:={p:List Sv×Rt // evC p.1=some p.2}) (t:=λk=>dT X.D E0s k.1.1 k.1.2) λk=>z6T (ht k.1.1 k.1.2 k.2 C cells s₂ H₂ fp)),
   (λC cells s₂ H₂ fp=>PE.any (ι:={p:List Sv×Re // evElt p.1=some p.2}) (t:=λk=>dE X.D E0s k.1.1 k.1.2) λk=>he k.1.1 k.1.2 k.2 C cells s₂ H₂ fp),?_⟩
  cases q with
  | ex c=>cases h;exact λσ H Q ⟨O,W,R,p⟩=>⟨O,W,R,p⟩
  | ok ds c=>
   have h':(if c=.weak\/mostLen<ds.length then none else q1x (q0C (λd=>(tg.bind d (q0v fr δ)).bind λδ'=>Rc.test (evC δ') (Rc.of (evElt δ'))) ds))=some re:=h
   split at h'
   ·cases h'
   ·rename_i m
    rw[not_or]at m
    unfold q1x at h'
    split at h'
    ·cases h'
    ·rename_i xs hx
     cases h'
     refine λσ H Q ⟨O,W,R,p⟩=>⟨O,W,R,λJ H1 s1 w=>?_⟩
     refine q6h (tg:=tg) (D:=X.D) w R.hid m.1 ((R.mono s1).inner fr hnd) (λi hi=>.inl (q4V (hsl i hi))) (q1Y (by omega)) hx s1 (λd rc hm hg=>?_) (λd x hm hg δ' hb σ' H2 s2 R2 K hK=>?_) p
     ·cases hb:tg.bind d (q0v fr δ)with
      | none=>rw[hb]at hg;cases hg
      | some δ'=>
       rw[hb]at hg
       have hg':Rc.test (evC δ') (Rc.of (evElt δ'))=some rc:=hg
       refine⟨δ',rfl,λσ' H2 s2 R2 K k1 k2=>?_⟩
       unfold Rc.test at hg'
       split at hg'
       ·rename_i q
        refine⟨⟨⟨δ',.ok true⟩,q⟩,O,W,R2,λH3 s3=>?_⟩
        cases rc with
        | skip=>exact(Rc.of_skip hg').elim
        | item x=>exact k2 x rfl H3 s3
       ·rename_i q
        cases hg'
        exact⟨⟨⟨δ',.ok false⟩,q⟩,O,W,R2,λH3 s3=>k1 rfl H3 s3⟩
       ·cases hg'
     ·rw[hb]at hg
      have hg':Rc.test (evC δ') (Rc.of (evElt δ'))=some (.item x):=hg
      unfold Rc.test at hg'
      split at hg'
      ·obtain⟨cl,e1,e2⟩:=Rc.of_item hg'
       exact⟨⟨⟨δ',.ok x cl⟩,e1⟩,O,W,R2,λv H3 s3 g3=>hK v H3 s3 (g3.stro (R2.hid.mono s3) e2)⟩
      ·cases hg'
      ·cases hg'
end
end L2
end
noncomputable section
namespace L2
open PySem PySem.Spec PyProof.Rows
theorem Inv.turnedL{X:Cx}{pins:List (Addr×Obj)}{σ:St}{H:Hp}{s:Shared}{h':Heap}{t':Nat}{ch:List Addr}(I:Inv X pins σ H s)(k:∀b o,b∉ch->s.heap.get? b=some o->h'.get? b=some o)(hf:∀b∈ch,FpOk X pins H b):Inv X pins σ H {s with heap:=h',toks:=t'}:=by
 have nit:∀b u,H b=some u->b∉ch:=λb u e z=>by rw[(hf b z).1]at e;cases e
 refine I.step (g':=s.gens) (d':=s.drawn) (ch:=ch) (λb hb=>?_) (λb o _ _ hc e _=>k b o hc e) (λb o _ _ hc e _=>⟨o.slots,k b o hc e⟩) (λ_ _ _ _ n=>n)
  (λb o hc e=>⟨o,k b o hc e⟩) (λ_ _ e=>e) (λ_ _ _ e=>e) (λb ps e=>⟨#[],by rw[e];simp⟩) (λm hm=>?_) (λb u e=>?_) I.bare
 ·obtain⟨_,f1,_,f3,f4,f5⟩:=hf b hb
  exact⟨f3,f1,f4,f5⟩
 ·obtain⟨o,es,ep,ho,r⟩:=hm
  exact⟨o,es,ep,k _ o (λz=>(hf _ z).2.1 rfl) ho,r⟩
 ·refine(I.hok b u e).stay (λc v hc q=>k c v ?_ q) (λ_ q=>q) λ_ _ q=>q
  rcases hc with z | z
  ·rw[z];exact nit b u e
  ·exact nit c _ z
section
variable {X:Cx} {E:St->XK} {δ:List Sv} {e e':Expr} {elts:List Expr} {k:Nat} {tpos pos p:Pos} {ra rb:Option Re} {ri:Ri}
end
end L2
end
noncomputable section
namespace L2
open PySem PySem.Spec PyProof.Rows
def dEnd(D:Dm)(E:St->XK)(H0:Hp)(O:List Addr)(Dn:Ends):Out->Prop
 | .nx δ=>∀σ H W,RSt D H σ δ O W->(∀a∈W,H0 a=none)->Same H0 H->Dn.nx σ H
 | .rt d fr=>∀v H,Same H0 H->GotR D O H0 H d fr v->Dn.rt v H
 | .rtt d=>∀v H,Same H0 H->GotT D O H0 H d v->Dn.rt v H
 | .ex c δ=>∀σ H W C,D.mg c=some C->RSt D H σ δ O W->(∀a∈W,H0 a=none)->Same H0 H->E σ C none H
def dS(D:Dm)(E:St->XK)(δ:List Sv)(o:Out):TS:=λDn σ H=>∃H0 O W,RSt D H σ δ O W/\(∀a∈W,H0 a=none)/\(∀a∈O,H0 a≠none)/\Same H0 H/\dEnd D E H0 O Dn o
section
variable {X:Cx} {E:St->XK} {δ δ1:List Sv} {st:Stmt} {rest body els:List Stmt} {o:Out} {e c:Expr} {pos pos':Pos} {ra:Option Re} {rt:Option Rt} {i:Nat} {x:Str}
theorem z6C:PSs X [] (dS X.D E δ (.nx δ)):=z4V.weak λDn σ H ⟨H0,O,W,R,fr,fo,sm,k⟩=>k σ H W R fr sm
theorem z2N(h1:PS X st (dS X.D E δ (.nx δ1)))(h2:PSs X rest (dS X.D E δ1 o)):PSs X (st::rest) (dS X.D E δ o):=
 (q4m h1 h2).weak λDn σ H ⟨H0,O,W,R,fr,fo,sm,k⟩=>⟨H0,O,W,R,fr,fo,sm,λσ' H' W' R' fr' sm'=>⟨H0,O,W',R',fr',fo,sm',k⟩⟩
theorem z7W{d:DV}{fr:Bool}(h1:PS X st (dS X.D E δ (.rt d fr))):PSs X (st::rest) (dS X.D E δ (.rt d fr)):=
 (q4m h1 q1K).weak λDn σ H ⟨H0,O,W,R,fr,fo,sm,k⟩=>⟨H0,O,W,R,fr,fo,sm,k⟩
theorem z5g{d:DV}(h1:PS X st (dS X.D E δ (.rtt d))):PSs X (st::rest) (dS X.D E δ (.rtt d)):=
 (q4m h1 q1K).weak λDn σ H ⟨H0,O,W,R,fr,fo,sm,k⟩=>⟨H0,O,W,R,fr,fo,sm,k⟩
theorem z8p{c:Str}{δ':List Sv}(h1:PS X st (dS X.D E δ (.ex c δ'))):PSs X (st::rest) (dS X.D E δ (.ex c δ')):=
 (q4m h1 q1K).weak λDn σ H ⟨H0,O,W,R,fr,fo,sm,k⟩=>⟨H0,O,W,R,fr,fo,sm,k⟩
theorem q4H{D:Dm}{H0 H:Hp}{O W:List Addr}{σ:St}{Dn:Ends}{c:Str}{Q:VK}(R:RSt D H σ δ O W)(fr:∀a∈W,H0 a=none)(sm:Same H0 H)(k:dEnd D E H0 O Dn (.ex c δ)):Post D E σ O W H H Q (.ex c):=
 λH' C m s=>k σ H' W C m (R.mono s) fr (sm.trans s)
theorem z9L(hc:∀q,rt=some q->PT X c (dT X.D E δ q)){ro rp:Option Out}(h1:∀q,ro=some q->PSs X body (dS X.D E δ q))(h2:∀q,rp=some q->PSs X els (dS X.D E δ q))(h:(Rt.thnS δ rt λk=>if k then ro else rp)=some o):PS X (.If c body els pos) (dS X.D E δ o):=by
 cases hrt:rt with
 | none=>rw[hrt]at h;cases h
 | some q=>
  rw[hrt]at h
  have C:=hc q hrt
  cases q with
  | ex c=>cases h;exact(z7c C q1K q1K).weak λDn σ H ⟨H0,O,W,R,fr,fo,sm,k⟩=>⟨O,W,R,λH' C m s=>k σ H' W C m (R.mono s) fr (sm.trans s)⟩
  | ok b=>
   cases b with
   | true=>
    have h':ro=some o:=h
    exact(z7c C (h1 o h') q1K).weak λDn σ H ⟨H0,O,W,R,fr,fo,sm,k⟩=>⟨O,W,R,λH1 s1=>iteT ⟨H0,O,W,R.mono s1,fr,fo,sm.trans s1,k⟩⟩
   | false=>
    have h':rp=some o:=h
    exact(z7c C q1K (h2 o h')).weak λDn σ H ⟨H0,O,W,R,fr,fo,sm,k⟩=>⟨O,W,R,λH1 s1=>iteF ⟨H0,O,W,R.mono s1,fr,fo,sm.trans s1,k⟩⟩
theorem z5U(ha:∀q,ra=some q->PE X e (dE X.D E δ q))(h:(Re.thnS δ ra λd c=>some (retD d c))=some o):PS X (.Return (some e) pos) (dS X.D E δ o):=by
 cases hra:ra with
 | none=>rw[hra]at h;cases h
 | some q=>
  rw[hra]at h
  have A:=ha q hra
  cases q with
  | ex c=>cases h;exact(q8D A).weak λDn σ H ⟨H0,O,W,R,fr,fo,sm,k⟩=>⟨O,W,R,q4H R fr sm k⟩
  | ok d cl=>
   have h2:some (retD d cl)=some o:=h
   cases h2
   by_cases hft:cl=.ft
   ·subst hft
    refine(q8D A).weak λDn σ H ⟨H0,O,W,R,fr,fo,sm,k⟩=>⟨O,W,R,λv H1 s1 g=>(k:dEnd X.D E H0 O Dn (.rtt d)) v H1 (sm.trans s1) ?_⟩
    obtain⟨t,ts,p,xs,ds,es,e1,e2,e0,e3,e4,e5,e6⟩:=g
    have up:Same (L2.wo (p::(O++W)) H1) (L2.wo (p::O) H1):=q0T λb hb=>by rcases List.mem_cons.mp hb with z | z;exact List.mem_cons.mpr (.inl z);exact List.mem_cons_of_mem _ (List.mem_append_left _ z)
    exact .inl ⟨t,ts,p,xs,ds,es,e1,e2,(q0T q7k).tseq e0,sm.free e3,e4,e5.mono up,e6.mono up⟩
   have hrt:retD d cl=.rt d (frD d cl):=by cases cl<;>first | rfl | exact absurd rfl hft
   rw[hrt]
   refine(q8D A).weak λDn σ H ⟨H0,O,W,R,fr,fo,sm,k⟩=>⟨O,W,R,λv H1 s1 g=>(k:dEnd X.D E H0 O Dn (.rt d (frD d cl))) v H1 (sm.trans s1) ?_⟩
   have hd:=R.hid.mono s1
   cases hf:frD d cl with
   | false=>exact g.weak hd
   | true=>
    unfold frD at hf
    split at hf
    ·obtain⟨p,xs,ds,e1,e2,e3,e4,e5⟩:=g
     exact⟨p,xs,ds,e1,e2,sm.free e3,e4,e5.mono (q0T λb hb=>by rcases List.mem_cons.mp hb with z | z;exact List.mem_cons.mpr (.inl z);exact List.mem_cons_of_mem _ (List.mem_append_left _ z))⟩
    ·obtain⟨a,xs,e1,e0,e2,e3⟩:=g
     exact⟨a,xs,_,e1,rfl,fr a e0,q1d _ _ e2,e3.mono (q0T λb hb=>by rcases List.mem_cons.mp hb with z | z;rw[z];exact List.mem_append_right _ e0;exact List.mem_append_left _ z)⟩
    ·cases hf
theorem q2U{v:Expr}{t:Option Expr}{l:Nat}{env:Env}(h:q4b v=false):swapsWith v t l env=pure false:=by
 cases v<;>first | rfl | cases h
theorem z6c(ha:∀q,ra=some q->PE X e (dE X.D E δ q))(hc:q4b e=false)(h:(Re.thnS δ ra λ_ _=>some (.nx δ))=some o):PS X (.Expr e pos) (dS X.D E δ o):=by
 cases hra:ra with
 | none=>rw[hra]at h;cases h
 | some q=>
  rw[hra]at h
  have A:=ha q hra
  cases q with
  | ex c=>cases h;exact(q5I A (q2U hc)).weak λDn σ H ⟨H0,O,W,R,fr,fo,sm,k⟩=>⟨O,W,R,q4H R fr sm k⟩
  | ok d cl=>cases h;exact(q5I A (q2U hc)).weak λDn σ H ⟨H0,O,W,R,fr,fo,sm,k⟩=>⟨O,W,R,λv H1 s1 g=>k σ H1 W (R.mono s1) fr (sm.trans s1)⟩
theorem q1D{O W:List Addr}{p b:Addr}:b∈O++p::W↔b∈p::(O++W):=by
 simp only[List.mem_append,List.mem_cons]
 constructor
 ·rintro(h | h | h)
  ·exact .inr (.inl h)
  ·exact .inl h
  ·exact .inr (.inr h)
 ·rintro(h | h | h)
  ·exact .inr (.inl h)
  ·exact .inl h
  ·exact .inr (.inr h)
theorem q0c{α:Type}{l:List α}{i j:Nat}{a b:α}(h:(l.set i a)[j]? = some b)(hn:a≠b):j≠i:=λz=>by
 subst z
 have hl:j<l.length:=by
  have:=(List.getElem?_eq_some_iff.mp h).1
  rw[List.length_set]at this;exact this
 rw[List.getElem?_set_self hl]at h
 exact hn (Option.some.inj h)
theorem q3J{α:Type}{l:List α}{i:Nat}{a b:α}(h:(l.set i a)[i]? = some b):i<l.length/\a=b:=by
 have hl:i<l.length:=by
  have:=(List.getElem?_eq_some_iff.mp h).1
  rw[List.length_set]at this;exact this
 rw[List.getElem?_set_self hl]at h
 exact⟨hl,Option.some.inj h⟩
theorem RSt.alloc{D:Dm}{H H':Hp}{σ:St}{O W:List Addr}{p:Addr}{xs:List V}{ds:List DV}(R:RSt D H σ δ O W)(s:Same H H')(hp:H p=none)(hp':H' p=some (.lst xs))(r:RepL D (L2.wo (p::(O++W)) H') ds xs)(i:Nat) :
  RSt D H' (σ.set i (some (.ref p))) (δ.set i (.own (.lst ds))) O (p::W):=by
 have old:Same (L2.wo (O++W) H) (L2.wo (O++p::W) H'):=λb o e=>by
  obtain⟨hb,e⟩:=q0S e
  have hbp:b≠p:=q0z e hp
  rw[q0r (λz=>by rcases List.mem_cons.mp (q1D.mp z)with z | z;exact hbp z;exact hb z)]
  exact s b o e
 have eqv:Same (L2.wo (p::(O++W)) H') (L2.wo (O++p::W) H'):=q0T λb hb=>q1D.mp hb
 refine⟨λj d h=>?_,λj ds' h=>?_,λj k a d1 d2 h1 h2 e1 e2=>?_,λj d h=>?_,λj d h=>by
   have hj:=q0c h (by intro z;cases z)
   rw[List.getElem?_set_ne (Ne.symm hj)]at h ⊢
   obtain⟨⟨p1,L,e0,e1,e2,e3⟩,u,n⟩:=R.o2 j d h
   refine⟨⟨p1,L,e0,e1,(e2.mono s).sub λa _ ha=>List.mem_cons_of_mem _ ha,λk d2 a q q2=>?_⟩,λk d2 q=>?_,λk d2 q=>?_⟩
   ·by_cases hk:k=i
    ·subst hk
     obtain⟨_,z⟩:=q3J q2
     cases z
     intro z
     obtain⟨_,ys,w⟩:=e2.dom z
     rw[hp]at w
     cases w
    ·rw[List.getElem?_set_ne (Ne.symm hk)]at q q2
     exact e3 k d2 a q q2
   ·have hk:=q0c q (by intro z;cases z)
    rw[List.getElem?_set_ne (Ne.symm hk)]at q
    exact u k d2 q
   ·have hk:=q0c q (by intro z;cases z)
    rw[List.getElem?_set_ne (Ne.symm hk)]at q
    exact n k d2 q,R.od.step (q9e _ (by intro d z;cases z)) (λ_ h _=>List.mem_cons_of_mem _ h) (λa kvs _ h _=>s _ _ h),by rw[List.length_set,List.length_set];exact R.len,⟨λa ha=>?_,Same.refl _,λa ha=>?_,λa ha=>?_,R.hid.omS s⟩⟩
 ·have hj:=q0c h (by intro z;cases z)
  rw[List.getElem?_set_ne (Ne.symm hj)]at h ⊢
  obtain⟨v,e1,e2⟩:=R.val j d h
  exact⟨v,e1,e2.mono old⟩
 ·by_cases hj:j=i
  ·subst hj
   obtain⟨hl,e⟩:=q3J h
   cases e
   exact⟨p,xs,ds,rfl,List.getElem?_set_self (by rw[R.len];exact hl),List.mem_cons_self,hp',r.mono eqv⟩
  ·rw[List.getElem?_set_ne (Ne.symm hj)]at h ⊢
   obtain⟨a,ys,ds1,e0,e1,e2,e3,e4⟩:=R.own j ds' h
   exact⟨a,ys,ds1,e0,e1,List.mem_cons_of_mem _ e2,s _ _ e3,e4.mono old⟩
 ·have key:∀{j:Nat} {d1:DV},(δ.set i (.own (.lst ds)))[j]? = some (.own d1)->(σ.set i (some (.ref p)))[j]? = some (some (V.ref a))->(j=i/\a=p)\/(j≠i/\δ[j]? = some (.own d1)/\σ[j]? = some (some (V.ref a))/\a≠p):=λ{j d1} h e=>by
   by_cases hj:j=i
   ·subst hj
    obtain⟨_,z⟩:=q3J e
    cases z
    exact .inl ⟨rfl,rfl⟩
   ·rw[List.getElem?_set_ne (Ne.symm hj)]at h e
    refine .inr ⟨hj,h,e,λz=>?_⟩
    obtain⟨a',ys,ds1,_,q1,_,q3,_⟩:=R.own j d1 h
    rw[e]at q1;cases q1
    rw[z,hp]at q3;cases q3
  rcases key h1 e1 with⟨z1,z2⟩ | ⟨z1,z2,z3,z4⟩<;>rcases key h2 e2 with⟨y1,y2⟩ | ⟨y1,y2,y3,y4⟩
  ·rw[z1,y1]
  ·exact absurd z2 y4
  ·exact absurd y2 z4
  ·exact R.inj j k a d1 d2 z2 y2 z3 y3
 ·have hj:=q0c h (by intro z;cases z)
  rw[List.getElem?_set_ne (Ne.symm hj)]at h ⊢
  obtain⟨⟨t,ts,p1,ys,ds1,es,e0,e1,e2,e3,e4,e5,e6,e7⟩,u⟩:=R.ot j d h
  refine⟨⟨t,ts,p1,ys,ds1,es,e0,e1,old.tseq e2,List.mem_cons_of_mem _ e3,s _ _ e4,e5.mono old,e6.mono old,λk d2 q=>?_⟩,λk d2 q=>?_⟩
  ·by_cases hk:k=i
   ·subst hk
    intro z
    obtain⟨_,z⟩:=q3J z
    cases z
    rw[hp]at e4
    cases e4
   ·rw[List.getElem?_set_ne (Ne.symm hk)]at q ⊢
    exact e7 k d2 q
  ·have hk:=q0c q (by intro z;cases z)
   rw[List.getElem?_set_ne (Ne.symm hk)]at q
   exact u k d2 q
 ·rcases List.mem_cons.mp (q1D.mp ha)with z | z
  ·rw[z,hp'];intro q;cases q
  ·intro q;exact R.hid.ot a z (s.free q)
 ·rcases List.mem_cons.mp ha with z | z
  ·exact⟨_,by rw[z];exact hp',rfl⟩
  ·obtain⟨ys,q,m⟩:=R.hid.wl a z;exact⟨ys,s _ _ q,m⟩
 ·rcases List.mem_cons.mp ha with z | z
  ·intro q;exact R.hid.ot p (List.mem_append_left _ (by rw[←z];exact q)) hp
  ·exact R.hid.dj a z
theorem q7D{i:Nat}{δ:List Sv}(h:noOt i δ=true){j:Nat}{d:DV}(q:δ[j]? = some (.ot d)):j=i:=by
 unfold noOt at h
 rw[List.all_eq_true]at h
 have hj:j<δ.length:=(List.getElem?_eq_some_iff.mp q).1
 have:=h j (List.mem_range.mpr hj)
 rw[q]at this
 simpa using this
theorem q9R{i:Nat}{δ:List Sv}(h:noOt i δ=true){j:Nat}{d:DV}(q:δ[j]? = some (.o2 d)):j=i:=by
 unfold noOt at h
 rw[List.all_eq_true]at h
 have hj:j<δ.length:=(List.getElem?_eq_some_iff.mp q).1
 have:=h j (List.mem_range.mpr hj)
 rw[q]at this
 simpa using this
theorem z1b{i:Nat}{δ:List Sv}(h:noOt i δ=true){j:Nat}{d:DV}(q:δ[j]? = some (.od d)):j=i:=by
 unfold noOt at h
 rw[List.all_eq_true]at h
 have hj:j<δ.length:=(List.getElem?_eq_some_iff.mp q).1
 have:=h j (List.mem_range.mpr hj)
 rw[q]at this
 simpa using this
theorem RSt.allocT{D:Dm}{H H':Hp}{σ:St}{O W:List Addr}{t p:Addr}{ts xs:List V}{ds es:List DV}(R:RSt D H σ δ O W)(s:Same H H')(ht:SqT D.K (L2.wo (O++W) H') t (.ref p::ts))(hp:H p=none)(hp':H' p=some (.lst xs))(r:RepL D (L2.wo (p::(O++W)) H') ds xs)(r2:RepL D (L2.wo (p::(O++W)) H') es ts)(i:Nat)(hno:noOt i δ=true) :
  RSt D H' (σ.set i (some (.ref t))) (δ.set i (.ot (.tup (.lst ds::es)))) O (p::W):=by
 have old:Same (L2.wo (O++W) H) (L2.wo (O++p::W) H'):=λb o e=>by
  obtain⟨hb,e⟩:=q0S e
  have hbp:b≠p:=q0z e hp
  rw[q0r (λz=>by rcases List.mem_cons.mp (q1D.mp z)with z | z;exact hbp z;exact hb z)]
  exact s b o e
 have eqv:Same (L2.wo (p::(O++W)) H') (L2.wo (O++p::W) H'):=q0T λb hb=>q1D.mp hb
 have ht':SqT D.K (L2.wo (O++p::W) H') t (.ref p::ts):=by
  have ne:∀{o:HO},L2.wo (O++W) H' t=some o->(∀ys,o ≠ .lst ys)->L2.wo (O++p::W) H' t=some o:=λ{o} e ho=>by
   obtain⟨hb,e⟩:=q0S e
   rw[q0r (λz=>by
    rcases List.mem_cons.mp (q1D.mp z)with z | z
    ·rw[z,hp']at e;cases e;exact ho _ rfl
    ·exact hb z)]
   exact e
  rcases ht with(h | ⟨o,h⟩) | h
  ·exact .inl (.inl (ne h (by intro ys z;cases z)))
  ·exact .inl (.inr ⟨o,ne h (by intro ys z;cases z)⟩)
  ·exact .inr h
 refine⟨λj d h=>?_,λj ds' h=>?_,λj k a d1 d2 h1 h2 e1 e2=>?_,λj d h=>?_,λj d h=>absurd (q9R hno (by have hj:=q0c h (by intro z;cases z);rw[List.getElem?_set_ne (Ne.symm hj)]at h;exact h)) (q0c h (by intro z;cases z)),R.od.step (q9e _ (by intro d z;cases z)) (λ_ h _=>List.mem_cons_of_mem _ h) (λa kvs _ h _=>s _ _ h),by rw[List.length_set,List.length_set];exact R.len,⟨λa ha=>?_,Same.refl _,λa ha=>?_,λa ha=>?_,R.hid.omS s⟩⟩
 ·have hj:=q0c h (by intro z;cases z)
  rw[List.getElem?_set_ne (Ne.symm hj)]at h ⊢
  obtain⟨v,e1,e2⟩:=R.val j d h
  exact⟨v,e1,e2.mono old⟩
 ·have hj:=q0c h (by intro z;cases z)
  rw[List.getElem?_set_ne (Ne.symm hj)]at h ⊢
  obtain⟨a,ys,ds1,e0,e1,e2,e3,e4⟩:=R.own j ds' h
  exact⟨a,ys,ds1,e0,e1,List.mem_cons_of_mem _ e2,s _ _ e3,e4.mono old⟩
 ·have n1:=q0c h1 (by intro z;cases z)
  have n2:=q0c h2 (by intro z;cases z)
  rw[List.getElem?_set_ne (Ne.symm n1)]at h1 e1
  rw[List.getElem?_set_ne (Ne.symm n2)]at h2 e2
  exact R.inj j k a d1 d2 h1 h2 e1 e2
 ·have hj:j=i:=by
   by_cases hj:j=i
   ·exact hj
   ·rw[List.getElem?_set_ne (Ne.symm hj)]at h
    exact q7D hno h
  subst hj
  obtain⟨hl,e⟩:=q3J h
  cases e
  refine⟨⟨t,ts,p,xs,ds,es,rfl,List.getElem?_set_self (by rw[R.len];exact hl),ht',List.mem_cons_self,hp',r.mono eqv,r2.mono eqv,λk d2 q=>?_⟩,λk d2 q=>?_⟩
  ·have hk:=q0c q (by intro z;cases z)
   rw[List.getElem?_set_ne (Ne.symm hk)]at q ⊢
   intro z
   obtain⟨a,ys,ds1,f0,f1,f2,f3,f4⟩:=R.own k d2 q
   rw[z]at f1
   cases f1
   rw[hp]at f3
   cases f3
  ·by_cases hk:k=j
   ·exact hk
   ·rw[List.getElem?_set_ne (Ne.symm hk)]at q
    exact q7D hno q
 ·rcases List.mem_cons.mp (q1D.mp ha)with z | z
  ·rw[z,hp'];intro q;cases q
  ·intro q;exact R.hid.ot a z (s.free q)
 ·rcases List.mem_cons.mp ha with z | z
  ·exact⟨_,by rw[z];exact hp',rfl⟩
  ·obtain⟨ys,q,m⟩:=R.hid.wl a z;exact⟨ys,s _ _ q,m⟩
 ·rcases List.mem_cons.mp ha with z | z
  ·intro q;exact R.hid.ot p (List.mem_append_left _ (by rw[←z];exact q)) hp
  ·exact R.hid.dj a z
theorem RSt.write{D:Dm}{H:Hp}{σ:St}{O W:List Addr}{a:Addr}{xs':List V}{ds ds':List DV}(R:RSt D H σ δ O W)(hi:δ[i]? = some (.own (.lst ds)))(ha:σ[i]? = some (some (.ref a)))(r:RepL D (L2.wo (O++W) H) ds' xs') :
  RSt D (upd H a (.lst xs')) σ (δ.set i (.own (.lst ds'))) O W:=by
 obtain⟨a',xs,ds0,e0,e1,e2,e3,e4⟩:=R.own i _ hi
 rw[ha]at e1;cases e1
 have old:Same (L2.wo (O++W) H) (L2.wo (O++W) (upd H a (.lst xs'))):=λb o e=>by
  obtain⟨hb,e⟩:=q0S e
  rw[q0r hb,q0l λz=>hb (by rw[z];exact List.mem_append_right _ e2)]
  exact e
 have hl:i<δ.length:=(List.getElem?_eq_some_iff.mp hi).1
 refine⟨λj d h=>?_,λj ds'' h=>?_,λj k b d1 d2 h1 h2 q1 q2=>?_,λj d h=>?_,λj d h=>by
   have hj:=q0c h (by intro z;cases z)
   rw[List.getElem?_set_ne (Ne.symm hj)]at h
   obtain⟨⟨p1,L,f0,f1,f2,f3⟩,u,n⟩:=R.o2 j d h
   refine⟨⟨p1,L,f0,f1,f2.write (f3 i _ a hi ha),λk d2 b q q2=>?_⟩,λk d2 q=>?_,λk d2 q=>?_⟩
   ·by_cases hk:k=i
    ·subst hk
     exact f3 k _ b hi q2
    ·rw[List.getElem?_set_ne (Ne.symm hk)]at q
     exact f3 k d2 b q q2
   ·have hk:=q0c q (by intro z;cases z)
    rw[List.getElem?_set_ne (Ne.symm hk)]at q
    exact u k d2 q
   ·have hk:=q0c q (by intro z;cases z)
    rw[List.getElem?_set_ne (Ne.symm hk)]at q
    exact n k d2 q,R.od.step (z2d (by intro d z;cases z)) (λ_ h _=>h) (λb kvs _ h m=>by rw[q0l (λz=>by rw[z,e3]at h;cases h;cases m)];exact h),by rw[List.length_set];exact R.len,⟨λb hb q=>?_,Same.refl _,λb hb=>?_,R.hid.dj,R.hid.omW (by assumption)⟩⟩
 ·have hj:=q0c h (by intro z;cases z)
  rw[List.getElem?_set_ne (Ne.symm hj)]at h
  obtain⟨v,q1,q2⟩:=R.val j d h
  exact⟨v,q1,q2.mono old⟩
 ·by_cases hj:j=i
  ·subst hj
   obtain⟨_,e⟩:=q3J h
   cases e
   exact⟨a,xs',ds',rfl,ha,e2,q0t,r.mono old⟩
  ·rw[List.getElem?_set_ne (Ne.symm hj)]at h
   obtain⟨b,ys,ds1,q0,q1,q2,q3,q4⟩:=R.own j ds'' h
   refine⟨b,ys,ds1,q0,q1,q2,?_,q4.mono old⟩
   rw[q0l λz=>hj (R.inj j i a ds'' _ h hi (by rw[←z];exact q1) ha)]
   exact q3
 ·have key:∀{j:Nat} {d1:DV},(δ.set i (.own (.lst ds')))[j]? = some (.own d1)->∃d0,δ[j]? = some (.own d0):=λ{j d1} h=>by
   by_cases hj:j=i
   ·subst hj;exact⟨_,hi⟩
   ·rw[List.getElem?_set_ne (Ne.symm hj)]at h;exact⟨d1,h⟩
  obtain⟨d1',z1⟩:=key h1
  obtain⟨d2',z2⟩:=key h2
  exact R.inj j k b d1' d2' z1 z2 q1 q2
 ·have hj:=q0c h (by intro z;cases z)
  rw[List.getElem?_set_ne (Ne.symm hj)]at h
  obtain⟨⟨t,ts,p1,ys,ds1,es,f0,f1,f2,f3,f4,f5,f6,f7⟩,u⟩:=R.ot j d h
  refine⟨⟨t,ts,p1,ys,ds1,es,f0,f1,old.tseq f2,f3,?_,f5.mono old,f6.mono old,λk d2 q=>?_⟩,λk d2 q=>?_⟩
  ·rw[q0l λz=>f7 i _ hi (by rw[z];exact ha)]
   exact f4
  ·by_cases hk:k=i
   ·subst hk
    exact f7 k _ hi
   ·rw[List.getElem?_set_ne (Ne.symm hk)]at q
    exact f7 k d2 q
  ·have hk:=q0c q (by intro z;cases z)
   rw[List.getElem?_set_ne (Ne.symm hk)]at q
   exact u k d2 q
 ·by_cases hba:b=a
  ·rw[hba,q0t]at q;cases q
  ·rw[q0l hba]at q;exact R.hid.ot b hb q
 ·by_cases hba:b=a
  ·exact⟨_,by rw[hba];exact q0t,rfl⟩
  ·obtain⟨ys,q,m⟩:=R.hid.wl b hb;exact⟨ys,by rw[q0l hba];exact q,m⟩
theorem q2j{H0 H:Hp}{a:Addr}{o:HO}(h:Same H0 H)(ha:H0 a=none):Same H0 (upd H a o):=λb u e=>by
 rw[q0l (q0z e ha)]
 exact h b u e
theorem z4o{Dn:Ends}{σ:St}{H H0:Hp}{O W:List Addr}{own:Bool}{d:DV}{cl:Cl}{D:Dm}(h:(if own then q4z i δ d cl else(if stro d cl then some (.nx (δ.set i (.val d)))else none))=some o)
  (R:RSt D H σ δ O W) (fr:∀a∈W,H0 a=none) (sm:Same H0 H) (k:dEnd D E H0 O Dn o):∀v H',Same H H'->Got D O W H H' d cl v->Dn.nx (σ.set i (some v)) H':=λv H1 s1 g=>by
 cases own with
 | true=>
  simp only[if_true]at h
  unfold q4z at h
  split at h
  ·cases h
   obtain⟨p,xs,ds,e1,e2,e3,e4,e5⟩:=g
   subst e1 e2
   exact k _ H1 (p::W) (R.alloc s1 e3 e4 e5 i) (λa ha=>by
    rcases List.mem_cons.mp ha with z | z
    ·rw[z];exact sm.free e3
    ·exact fr a z) (sm.trans s1)
  ·split at h
   ·rename_i hno
    cases h
    obtain⟨t,ts,p,xs,ds,es,e1,e2,e0,e3,e4,e5,e6⟩:=g
    subst e1 e2
    exact k _ H1 (p::W) (R.allocT s1 e0 e3 e4 e5 e6 i hno) (λa ha=>by
     rcases List.mem_cons.mp ha with z | z
     ·rw[z];exact sm.free e3
     ·exact fr a z) (sm.trans s1)
   ·cases h
  ·cases h
 | false=>
  simp only[Bool.false_eq_true,if_false]at h
  split at h
  ·rename_i m
   cases h
   exact k _ H1 W ((R.mono s1).setVal (g.stro (R.hid.mono s1) m) i) fr (sm.trans s1)
  ·cases h
theorem z0V{own:Bool}(hN:X.N.Nodup)(hi:X.N[i]? = some x)(hx:Loc X.env.scope x)(hf:X.fn x=true\/X.env.scope.names.lookup x=some .local)(ha:∀q,ra=some q->PE X e (dE X.D E δ q))(hc:swapsWith e (some (.Name x pos')) pos.line X.env=pure false)
  (h:(Re.thnS δ ra λd c=>if own then q4z i δ d c else(if stro d c then some (.nx (δ.set i (.val d)))else none))=some o):PS X (.Assign [.Name x pos'] e pos) (dS X.D E δ o):=by
 cases hra:ra with
 | none=>rw[hra]at h;cases h
 | some q=>
  rw[hra]at h
  have A:=ha q hra
  cases q with
  | ex c=>cases h;exact(q9S hN hi hx A hc hf).weak λDn σ H ⟨H0,O,W,R,fr,fo,sm,k⟩=>⟨O,W,R,q4H R fr sm k⟩
  | ok d cl=>exact(q9S hN hi hx A hc hf).weak λDn σ H ⟨H0,O,W,R,fr,fo,sm,k⟩=>⟨O,W,R,z4o h R fr sm k⟩
theorem q7I{own:Bool}{tgE iter elt:Expr}{ifs:List Expr}{scope:Scope}{N':List Str}{fr:List (Option Nat)}{tg:Tg}{re:Re}(S:CompScope X.N N' scope X.env.scope fr)(hc:X.calm=true)(hN:X.N.Nodup)(hi:X.N[i]? = some x)(hx:X.env.scope.names.lookup x=some .local)
  (P:q1w X E δ tgE iter ifs elt scope N' fr tg re) (hG:∀C cells s₂ H₂ fp,PG (q0B X scope N' C cells s₂ H₂ fp) tgE (gT X.K tg)) (hset:q2Y iter=false) {cpos:Pos} (hsw:swapsWith (.ListComp elt [⟨tgE,iter,ifs,0⟩] scope cpos) (some (.Name x pos')) pos.line X.env=pure true)
  (h:(Re.thnS δ (some re) λd c=>if own then q4z i δ d c else(if stro d c then some (.nx (δ.set i (.val d)))else none))=some o):PS X (.Assign [.Name x pos'] (.ListComp elt [⟨tgE,iter,ifs,0⟩] scope cpos) pos) (dS X.D E δ o):=by
 obtain⟨wi,tc,te,h1,h2,h3,h4⟩:=P
 refine(q9z S hc hN hi hx h1 hG h2 h3 hsw (q5S hset)).weak λDn σ H ⟨H0,O,W,R,fr,fo,sm,k⟩=>h4 σ H _ ⟨O,W,R,?_⟩
 cases re with
 | ex c=>cases h;exact q4H R fr sm k
 | ok d cl=>exact z4o h R fr sm k
theorem q9y{apos cpos npos:Pos}(hv:PE X (.Name x npos) (tVar i))(he:∀q,ra=some q->PE X e (dE X.D E δ q))(hs:q0s e=false)(hline:(apos.endLine==cpos.line)=true)
  (h:(match δ[i]? with
   | some (.own (.lst ds))=>Re.thnS δ ra λd c=>if stro d c/\ds.length<mostLen then some (.nx (δ.set i (.own (.lst (ds++[d])))))else none
   | _=>none)=some o):PS X (.Expr (.Call (.Attribute (.Name x npos) "append" apos) [e] [] cpos) pos) (dS X.D E δ o):=by
 split at h
 ·rename_i ds hi
  have C:=λt (hA:PE X e t)=>q5I (pos:=pos) (z9r PySem.F.plainAttrs_list PySem.F.slot_list_append PySem.F.type_list_append z1q hv (q1n hA q3X (q0q hs)) rfl (by rw[q0q hs];rfl) hline (q0q hs) rfl) rfl
  cases hra:ra with
  | none=>rw[hra]at h;cases h
  | some q=>
   rw[hra]at h
   have A:=he q hra
   cases q with
   | ex c=>
    cases h
    exact(C _ A).weak λDn σ H ⟨H0,O,W,R,fr,fo,sm,k⟩=>by
     obtain⟨a,xs,ds0,e0,e1,e2,e3,e4⟩:=R.own i _ hi
     exact⟨.ref a,e1,.inl ⟨rfl,xs,SqL.of e3⟩,O,W,R,q4H (Q:=λ_ _=>False) R fr sm k⟩
   | ok d cl=>
    have h':(if stro d cl/\ds.length<mostLen then some (Out.nx (δ.set i (.own (.lst (ds++[d])))))else none)=some o:=h
    split at h'
    ·rename_i m
     cases h'
     exact(C _ A).weak λDn σ H ⟨H0,O,W,R,fr,fo,sm,k⟩=>by
      obtain⟨a,xs,ds0,e0,e1,e2,e3,e4⟩:=R.own i _ hi
      cases e0
      refine⟨.ref a,e1,.inl ⟨rfl,xs,SqL.of e3⟩,O,W,R,λv H1 s1 g=>?_⟩
      have R1:=R.mono s1
      refine⟨a,xs,v,rfl,rfl,s1 _ _ e3,by rw[e4.length];exact Nat.lt_of_lt_of_le m.2 (by decide),?_⟩
      exact k σ _ W (R1.write hi e1 ((e4.mono s1.wo).append (RepL.one (g.stro (R.hid.mono s1) m.1)))) fr (q2j (sm.trans s1) (fr a e2))
    ·cases h'
 ·cases h
theorem z2v{npos spos:Pos}{ix:Expr}{rb:Option Re}(hv:PE X (.Name x npos) (tVar i))(he:∀q,ra=some q->PE X e (dE X.D E δ q))(hx:∀q,rb=some q->PE X ix (dE X.D E δ q))(hsl:q3s ix=false)
  (h:(match δ[i]? with
   | some (.own (.lst ds))=>Re.thnS δ ra λd c=>Re.thnS δ rb λk _=>(match k with
    | .int k=>(match q1S ds.length k with
     | some j=>if stro d c then some (.nx (δ.set i (.own (.lst (ds.set j d)))))else none
     | none=>none)
    | _=>none)
   | _=>none)=some o):PS X (.Assign [.Subscript (.Name x npos) ix spos] e pos) (dS X.D E δ o):=by
 have sub:∀v,assign (.Subscript (.Name x npos) ix spos) X.env v=(do
   let ov ←holding [v] (eval (.Name x npos) X.env)
   let iv ←holding [v,ov] (eval ix X.env)
   standAt spos
   holding [v,ov,iv] (setItem ov iv v)
   release [v,ov,iv] []):=by cases ix<;>first | (intro _;rfl) | cases hsl
 have C:=λt tk (hA:PE X e t) (hK:PE X ix tk)=>z7L (pos:=pos) hA (z8s hv hK z3j sub) (by cases e<;>rfl) (by cases e<;>rfl) rfl
 split at h
 ·rename_i ds hi
  cases hra:ra with
  | none=>rw[hra]at h;cases h
  | some q=>
   rw[hra]at h
   have A:=he q hra
   cases q with
   | ex c=>
    cases h
    exact(C _ _ A q1c).weak λDn σ H ⟨H0,O,W,R,fr,fo,sm,k⟩=>⟨O,W,R,q4H (Q:=λ_ _=>False) R fr sm k⟩
   | ok d cl=>
    cases hrb:rb with
    | none=>rw[hrb]at h;cases h
    | some q=>
     rw[hrb]at h
     have B:=hx q hrb
     cases q with
     | ex c=>
      cases h
      exact(C _ _ A B).weak λDn σ H ⟨H0,O,W,R,fr,fo,sm,k⟩=>⟨O,W,R,λv H1 s1 g=>by
       have R1:=R.mono s1
       obtain⟨a,xs,ds0,e0,e1,e2,e3,e4⟩:=R1.own i _ hi
       exact⟨.ref a,e1,O,W,R1,q4H (Q:=λ_ _=>False) R1 fr (sm.trans s1) k⟩⟩
     | ok dk ck=>
      have h':(match(generalizing:=false) dk with
       | .int k=>(match q1S ds.length k with
        | some j=>if stro d cl then some (Out.nx (δ.set i (.own (.lst (ds.set j d)))))else none
        | none=>none)
       | _=>none)=some o:=h
      split at h'
      ·rename_i k0
       split at h'
       ·rename_i j hj
        split at h'
        ·rename_i m
         cases h'
         exact(C _ _ A B).weak λDn σ H ⟨H0,O,W,R,fr,fo,sm,k⟩=>⟨O,W,R,λv H1 s1 g=>by
          have R1:=R.mono s1
          obtain⟨a,xs,ds0,e0,e1,e2,e3,e4⟩:=R1.own i _ hi
          cases e0
          refine⟨.ref a,e1,O,W,R1,λy H2 s2 g2=>?_⟩
          have R2:=R1.mono s2
          refine⟨a,xs,k0,j,rfl,g2.int (R1.hid.mono s2),s2 _ _ e3,by rw[e4.length];exact hj,?_⟩
          exact k σ _ W (R2.write hi e1 (RepL.set ((g.mono s2).stro ((R.hid.mono s1).mono s2) m) j (e4.mono s2.wo))) fr (q2j ((sm.trans s1).trans s2) (fr a e2))⟩
        ·cases h'
       ·cases h'
      ·cases h'
 ·cases h
theorem RSt.freeze{D:Dm}{H:Hp}{σ:St}{O W:List Addr}{d:DV}(R:RSt D H σ δ O W)(hi:δ[i]? = some (.own d)):∃W',(∀a∈W',a∈W)/\RSt D H σ (δ.set i (.val d)) O W':=by
 obtain⟨a,xs,ds,e0,e1,e2,e3,e4⟩:=R.own i d hi
 subst e0
 have hl:i<δ.length:=(List.getElem?_eq_some_iff.mp hi).1
 have sub:∀b∈O++W.filter (λb=>decide (b≠a)),b∈O++W:=λb hb=>by
  rcases List.mem_append.mp hb with z | z
  ·exact List.mem_append_left _ z
  ·exact List.mem_append_right _ (List.mem_filter.mp z).1
 have hao:a∉O++W.filter (λb=>decide (b≠a)):=λz=>by
  rcases List.mem_append.mp z with z | z
  ·exact R.hid.dj a e2 z
  ·exact absurd rfl (of_decide_eq_true (List.mem_filter.mp z).2)
 refine⟨W.filter λb=>decide (b≠a),λb hb=>(List.mem_filter.mp hb).1,⟨λj d h=>?_,λj ds' h=>?_,λj k b d1 d2 h1 h2 q1 q2=>?_,λj d h=>?_,λj d h=>by
   have hj:=q0c h (by intro z;cases z)
   rw[List.getElem?_set_ne (Ne.symm hj)]at h
   obtain⟨⟨p1,L,f0,f1,f2,f3⟩,u,n⟩:=R.o2 j d h
   refine⟨⟨p1,L,f0,f1,f2.sub λb hb hbw=>List.mem_filter.mpr ⟨hbw,decide_eq_true λz=>f3 i _ a hi e1 (by rw[←z];exact hb)⟩,λk d2 b q q2=>?_⟩,λk d2 q=>?_,λk d2 q=>?_⟩
   ·have hk:=q0c q (by intro z;cases z)
    rw[List.getElem?_set_ne (Ne.symm hk)]at q
    exact f3 k d2 b q q2
   ·have hk:=q0c q (by intro z;cases z)
    rw[List.getElem?_set_ne (Ne.symm hk)]at q
    exact u k d2 q
   ·have hk:=q0c q (by intro z;cases z)
    rw[List.getElem?_set_ne (Ne.symm hk)]at q
    exact n k d2 q,R.od.step (z2d (by intro d z;cases z)) (λb hb ⟨kvs,h,m⟩=>List.mem_filter.mpr ⟨hb,decide_eq_true λz=>by rw[z,e3]at h;cases h;cases m⟩) (λ_ _ _ h _=>h),by rw[List.length_set];exact R.len,
  ⟨λb hb=>R.hid.ot b (sub b hb),Same.refl _,λb hb=>R.hid.wl b (List.mem_filter.mp hb).1,λb hb=>R.hid.dj b (List.mem_filter.mp hb).1,R.hid.om⟩⟩⟩
 ·by_cases hj:j=i
  ·subst hj
   obtain⟨_,e⟩:=q3J h
   cases e
   exact⟨.ref a,e1,q0G.mpr ⟨a,xs,rfl,by rw[q0r hao];exact e3,e4.mono (q0T sub)⟩⟩
  ·rw[List.getElem?_set_ne (Ne.symm hj)]at h
   obtain⟨v,q1,q2⟩:=R.val j d h
   exact⟨v,q1,q2.mono (q0T sub)⟩
 ·have hj:=q0c h (by intro z;cases z)
  rw[List.getElem?_set_ne (Ne.symm hj)]at h
  obtain⟨b,ys,ds1,q0,q1,q2,q3,q4⟩:=R.own j ds' h
  refine⟨b,ys,ds1,q0,q1,List.mem_filter.mpr ⟨q2,decide_eq_true λz=>hj (R.inj j i a ds' _ h hi (by rw[←z];exact q1) e1)⟩,q3,q4.mono (q0T sub)⟩
 ·have n1:=q0c h1 (by intro z;cases z)
  have n2:=q0c h2 (by intro z;cases z)
  rw[List.getElem?_set_ne (Ne.symm n1)]at h1
  rw[List.getElem?_set_ne (Ne.symm n2)]at h2
  exact R.inj j k b d1 d2 h1 h2 q1 q2
 ·have hj:=q0c h (by intro z;cases z)
  rw[List.getElem?_set_ne (Ne.symm hj)]at h
  obtain⟨⟨t,ts,p1,ys,ds1,es,f0,f1,f2,f3,f4,f5,f6,f7⟩,u⟩:=R.ot j d h
  refine⟨⟨t,ts,p1,ys,ds1,es,f0,f1,(q0T sub).tseq f2,List.mem_filter.mpr ⟨f3,decide_eq_true λz=>f7 i _ hi (by rw[z];exact e1)⟩,f4,f5.mono (q0T sub),f6.mono (q0T sub),λk d2 q=>?_⟩,λk d2 q=>?_⟩
  ·have hk:=q0c q (by intro z;cases z)
   rw[List.getElem?_set_ne (Ne.symm hk)]at q
   exact f7 k d2 q
  ·have hk:=q0c q (by intro z;cases z)
   rw[List.getElem?_set_ne (Ne.symm hk)]at q
   exact u k d2 q
theorem q9u{d:DV}(hi:δ[i]? = some (.own d))(h:PSs X rest (dS X.D E (δ.set i (.val d)) o)):PSs X rest (dS X.D E δ o):=h.weak λDn σ H ⟨H0,O,W,R,fr,fo,sm,k⟩=>by
 obtain⟨W',hs,R'⟩:=R.freeze hi
 exact⟨H0,O,W',R',λa ha=>fr a (hs a ha),fo,sm,k⟩
end
end L2
end
noncomputable section
namespace L2
open PySem PySem.Spec PyProof.Rows
section
variable {X:Cx} {E:St->XK} {δ δ1:List Sv} {o:Out} {e c:Expr} {pos pos':Pos} {ra:Option Re} {i:Nat} {x:Str}
theorem Got.seq{D:Dm}{O W:List Addr}{H0 H:Hp}{d:DV}{ys:List DV}{b:Bool}{c:Cl}{v:V}(g:Got D O W H0 H d c v)(hd:Hid O W H0 H)(hc:c=.strong\/c=.fresh)(hk:z0E d=some (b,ys)):∃a xs,v=.ref a/\(SqL D.K H a xs\/SqT D.K H a xs)/\RepL D (L2.wo (O++W) H) ys xs:=by
 have hw:c ≠ .weak:=by rcases hc with z | z<;>(rw[z];intro q;cases q)
 unfold z0E at hk
 split at hk
 ·cases hk
  obtain⟨a,xs,e1,e2,e3⟩:=g.items hd hw
  exact⟨a,xs,e1,.inl (SqL.of e2),e3⟩
 ·cases hk
  obtain⟨a,xs,e1,e2,e3⟩:=g.itemsT hd hw
  exact⟨a,xs,e1,.inr e2,e3⟩
 ·cases hk
theorem q9k{apos cpos npos:Pos}(hv:PE X (.Name x npos) (tVar i))(he:∀q,ra=some q->PE X e (dE X.D E δ q))(hs:q0s e=false)(hline:(apos.endLine==cpos.line)=true)
  (h:(match δ[i]? with
   | some (.own (.lst ds))=>Re.thnS δ ra λd c=>if c=.strong\/c=.fresh then(match z0E d with
    | some (_,ys)=>if ds.length+ys.length<=mostLen then some (.nx (δ.set i (.own (.lst (ds++ys)))))else none
    | none=>none)else none
   | _=>none)=some o):PS X (.Expr (.Call (.Attribute (.Name x npos) "extend" apos) [e] [] cpos) pos) (dS X.D E δ o):=by
 split at h
 ·rename_i ds hi
  have C:=λt (hA:PE X e t)=>q5I (pos:=pos) (z9r PySem.F.plainAttrs_list PySem.F.slot_list_extend PySem.F.type_list_extend z8z hv (q1n hA q3X (q0q hs)) rfl (by rw[q0q hs];rfl) hline (q0q hs) rfl) rfl
  cases hra:ra with
  | none=>rw[hra]at h;cases h
  | some q=>
   rw[hra]at h
   have A:=he q hra
   cases q with
   | ex c=>
    cases h
    exact(C _ A).weak λDn σ H ⟨H0,O,W,R,fr,fo,sm,k⟩=>by
     obtain⟨a,xs,ds0,e0,e1,e2,e3,e4⟩:=R.own i _ hi
     exact⟨.ref a,e1,.inl ⟨rfl,xs,SqL.of e3⟩,O,W,R,q4H (Q:=λ_ _=>False) R fr sm k⟩
   | ok d cl=>
    have h':(if cl=.strong\/cl=.fresh then(match z0E d with
     | some (_,ys)=>if ds.length+ys.length<=mostLen then some (Out.nx (δ.set i (.own (.lst (ds++ys)))))else none
     | none=>none)else none)=some o:=h
    split at h'
    ·rename_i hcl
     split at h'
     ·rename_i b ys hk
      split at h'
      ·rename_i m
       cases h'
       exact(C _ A).weak λDn σ H ⟨H0,O,W,R,fr,fo,sm,k⟩=>by
        obtain⟨a,xs,ds0,e0,e1,e2,e3,e4⟩:=R.own i _ hi
        cases e0
        refine⟨.ref a,e1,.inl ⟨rfl,xs,SqL.of e3⟩,O,W,R,λv H1 s1 g=>?_⟩
        have R1:=R.mono s1
        obtain⟨a2,xs2,f1,f2,f3⟩:=g.seq (R.hid.mono s1) hcl hk
        refine⟨a,a2,xs,xs2,rfl,by rw[f1],s1 _ _ e3,f2,by rw[e4.length,f3.length];exact Nat.le_trans m (by decide),?_⟩
        exact k σ _ W (R1.write hi e1 ((e4.mono s1.wo).append f3)) fr (q2j (sm.trans s1) (fr a e2))
      ·cases h'
     ·cases h'
    ·cases h'
 ·cases h
end
end L2
end
noncomputable section
namespace L2
open PySem PySem.Spec PyProof.Rows
theorem PSs.any{X:Cx}{body:List Stmt}{ι:Sort _}{t:ι->TS}(h:∀k,PSs X body (t k)):PSs X body (λD σ H=>∃k,t k D σ H):=λpins s σ H D I ⟨k,q⟩=>h k pins s σ H D I q
theorem PT.any{X:Cx}{e:Expr}{ι:Sort _}{t:ι->TT}(h:∀k,PT X e (t k)):PT X e (λσ H Q=>∃k,t k σ H Q):=λpins s σ H Q I ⟨k,q⟩=>h k pins s σ H Q I q
structure Lp(H0 H1:Hp)(O W:List Addr):Prop where
 out:∀{H:Hp},Same (L2.wo W H1) H->Same H0 H
 outW:∀{a:Addr},L2.wo W H1 a=none->H0 a=none
 in1:∀a∈W,L2.wo W H1 a=none
 in2:∀a∈O,L2.wo W H1 a≠none
 wsame:∀{H:Hp},Same (L2.wo W H1) H->Same (L2.wo (O++W) H1) (L2.wo (O++W) H)
theorem Lp.mk'{H0 H1:Hp}{O W:List Addr}(fr:∀a∈W,H0 a=none)(fo:∀a∈O,H0 a≠none)(sm:Same H0 H1):Lp H0 H1 O W where
 out:=λ{H} s b u e=>s b u (by
  rw[q0r λz=>by rw[fr b z]at e;cases e]
  exact sm b u e)
 outW:=λ{a} q=>by
  by_cases z:a∈W
  ·exact fr a z
  ·rw[q0r z]at q;exact sm.free q
 in1:=λa ha=>z8v ha
 in2:=λa ha=>by
  rw[q0r λz=>fo a ha (fr a z)]
  intro q
  exact fo a ha (sm.free q)
 wsame:=λ{H} s b u e=>by
  obtain⟨hb,e⟩:=q0S e
  rw[q0r hb]
  exact s b u (by rw[q0r λz=>hb (List.mem_append_right _ z)];exact e)
theorem Lp.gotR{H0 H1:Hp}{O W:List Addr}{D:Dm}{H:Hp}{d:DV}{fr:Bool}{v:V}(L:Lp H0 H1 O W)(g:GotR D O (L2.wo W H1) H d fr v):GotR D O H0 H d fr v:=by
 cases fr with
 | false=>exact g
 | true=>
  obtain⟨p,xs,ds,e1,e2,e3,e4,e5⟩:=g
  exact⟨p,xs,ds,e1,e2,L.outW e3,e4,e5⟩
theorem Lp.gotT{H0 H1:Hp}{O W:List Addr}{D:Dm}{H:Hp}{d:DV}{v:V}(L:Lp H0 H1 O W)(g:GotT D O (L2.wo W H1) H d v):GotT D O H0 H d v:=by
 rcases g with⟨t,ts,p,xs,ds,es,e1,e2,e0,e3,e4,e5,e6⟩ | ⟨xs,e1,e2⟩
 ·exact .inl ⟨t,ts,p,xs,ds,es,e1,e2,e0,L.outW e3,e4,e5,e6⟩
 ·exact .inr ⟨xs,e1,e2.since λa ha=>L.outW ha⟩
section
variable {X:Cx} {E:St->XK} {δ:List Sv} {tgE iter c:Expr} {body:List Stmt} {o:Out} {pos:Pos} {tg:Tg} {ri:Option Ri} {evB:List Sv->Option Out} {evC:List Sv->Option Rt}
theorem z7y(hp:PassesOwn (model X.prog X.w) X.A X.env X.xe)(hc:X.calm=true)(hi:∀q,ri=some q->PI X tgE iter (dI X.D E δ q))(hG:PG X tgE (gT X.K tg))(hb:∀δ' o,evB δ'=some o->PSs X body (dS X.D E δ' o))(hset:q2Y iter=false)
  (h:(Ri.thnS δ ri λds c=>if c=.strong\/c=.fresh then q1T tg evB ds δ else none)=some o):PS X (.For tgE iter body [] pos) (dS X.D E δ o):=by
 have B:PSs X body (λD σ H=>∃k:{p:List Sv×Out // evB p.1=some p.2},dS X.D E k.1.1 k.1.2 D σ H):=PSs.any λk=>hb k.1.1 k.1.2 k.2
 cases hri:ri with
 | none=>rw[hri]at h;cases h
 | some q=>
  rw[hri]at h
  have A:=hi q hri
  cases q with
  | ex c=>cases h;exact(z4x hp hc A hG B (q5S hset)).weak λDn σ H ⟨H0,O,W,R,fr,fo,sm,k⟩=>⟨O,W,R,λH' C m s=>k σ H' W C m (R.mono s) fr (sm.trans s)⟩
  | ok ds c=>
   have h':(if c=.strong\/c=.fresh then q1T tg evB ds δ else none)=some o:=h
   split at h'
   ·rename_i m
    refine(z4x hp hc A hG B (q5S hset)).weak λDn σ H ⟨H0,O,W,R,fr,fo,sm,k⟩=>⟨O,W,R,λJ H1 s1 w=>?_⟩
    have R1:=R.mono s1
    have L:=Lp.mk' fr fo (sm.trans s1)
    have w:Wk X.D J ds (O++W) (O++W) H1:=by
     rcases m with m | m<;>subst m<;>exact w
    refine⟨λi n σ H=>n=ds.length - i/\i<=ds.length/\∃δi W',q1T tg evB (ds.drop i) δi=some o/\RSt X.D H σ δi O W'/\(∀a∈W',L2.wo W H1 a=none)/\Same (L2.wo W H1) H,
     ⟨ds.length,rfl,Nat.zero_le _,δ,W,h',R1,L.in1,q1d⟩,?_⟩
    rintro i n σ2 H2 ⟨rfl,hi,δi,W2,hgo,R2,b1,b2⟩
    by_cases hlt:i<ds.length
    ·refine .inr ⟨w.go i H2 (L.wsame b2) hlt,λσ H=>∃δi W',q1T tg evB (ds.drop (i+1)) δi=some o/\RSt X.D H σ δi O W'/\(∀a∈W',L2.wo W H1 a=none)/\Same (L2.wo W H1) H,
      λσ' H' q=>⟨ds.length - (i+1),by omega,rfl,hlt,q⟩,λx H3 y=>?_⟩
     have y1:=w.same i H2 x H3 y
     have y3:Rep X.D (L2.wo (O++W2) H3) ds[i] x:=w.yld i H2 x H3 _ (O++W2) (L.wsame b2) (L.wsame b2) y (List.getElem?_eq_getElem hlt) λa ha=>⟨R2.hid.ot a ha,by
      rcases List.mem_append.mp ha with z | z
      ·exact .inl (List.mem_append_left _ z)
      ·have q:=b1 a z
       by_cases hw:a∈W
       ·exact .inl (List.mem_append_right _ hw)
       ·rw[q0r hw]at q;exact .inr q⟩
     rw[List.drop_eq_getElem_cons hlt]at hgo
     unfold q1T at hgo
     split at hgo
     ·cases hgo
     ·rename_i δ1 hb1
      refine q7w (R2.mono y1) y3 hb1 λσ3 R3=>?_
      split at hgo
      ·rename_i δ2 hev
       exact⟨⟨⟨δ1,.nx δ2⟩,hev⟩,L2.wo W H1,O,W2,R3,b1,L.in2,b2.trans y1,λσ' H' W' R' fr' sm'=>⟨δ2,W',hgo,R',fr',sm'⟩⟩
      ·rename_i hne
       refine⟨⟨⟨δ1,o⟩,hgo⟩,L2.wo W H1,O,W2,R3,b1,L.in2,b2.trans y1,?_⟩
       cases o with
       | nx δ2=>exact absurd hgo (hne δ2)
       | rt d fr'=>exact λv H' s' g=>k v H' (L.out s') (L.gotR g)
       | rtt d=>exact λv H' s' g=>k v H' (L.out s') (L.gotT g)
       | ex c' δ'=>exact λσ' H' W' C m R' fr' sm'=>k σ' H' W' C m R' (λa ha=>L.outW (fr' a ha)) (L.out sm')
    ·have e:i=ds.length:=by omega
     subst e
     rw[List.drop_length]at hgo
     cases hgo
     exact .inl ⟨w.stop H2 (L.wsame b2),k σ2 H2 W2 R2 (λa ha=>L.outW (b1 a ha)) (L.out b2)⟩
   ·cases h'
theorem z1c{n:Nat}(hp:PassesOwn (model X.prog X.w) X.A X.env X.xe)(hc:∀δ' r,evC δ'=some r->PT X c (dT X.D E δ' r))(hb:∀δ' o,evB δ'=some o->PSs X body (dS X.D E δ' o))(h:q1p evC evB n δ=some o):PS X (.While c body [] pos) (dS X.D E δ o):=by
 have B:PSs X body (λD σ H=>∃k:{p:List Sv×Out // evB p.1=some p.2},dS X.D E k.1.1 k.1.2 D σ H):=PSs.any λk=>hb k.1.1 k.1.2 k.2
 have T:PT X c (λσ H Q=>∃k:{p:List Sv×Rt // evC p.1=some p.2},dT X.D E k.1.1 k.1.2 σ H Q):=PT.any λk=>hc k.1.1 k.1.2 k.2
 refine(z3Q hp T B).weak λDn σ H ⟨H0,O,W,R,fr,fo,sm,k⟩=>?_
 have L:=Lp.mk' fr fo sm
 refine⟨λm σ H2=>∃δi W',q1p evC evB m δi=some o/\RSt X.D H2 σ δi O W'/\(∀a∈W',L2.wo W H a=none)/\Same (L2.wo W H) H2,⟨n,δ,W,h,R,L.in1,q1d⟩,?_⟩
 rintro m σ2 H2 ⟨δi,W2,hgo,R2,b1,b2⟩
 cases m with
 | zero=>cases hgo
 | succ m=>
  unfold q1p at hgo
  split at hgo
  ·cases hgo
  ·rename_i c' hev
   cases hgo
   exact⟨⟨⟨δi,.ex c'⟩,hev⟩,O,W2,R2,λH' C m s=>k σ2 H' W2 C m (R2.mono s) (λa ha=>L.outW (b1 a ha)) (L.out (b2.trans s))⟩
  ·rename_i hev
   cases hgo
   refine⟨⟨⟨δi,.ok false⟩,hev⟩,O,W2,R2,λH' s=>iteF ?_⟩
   exact k σ2 H' W2 (R2.mono s) (λa ha=>L.outW (b1 a ha)) (L.out (b2.trans s))
  ·rename_i hev
   refine⟨⟨⟨δi,.ok true⟩,hev⟩,O,W2,R2,λH' s=>iteT ?_⟩
   refine⟨λσ H2=>∃δi W',q1p evC evB m δi=some o/\RSt X.D H2 σ δi O W'/\(∀a∈W',L2.wo W H a=none)/\Same (L2.wo W H) H2,λσ' H' q=>⟨m,Nat.lt_succ_self m,q⟩,?_⟩
   split at hgo
   ·rename_i δ2 hev2
    exact⟨⟨⟨δi,.nx δ2⟩,hev2⟩,L2.wo W H,O,W2,R2.mono s,b1,L.in2,b2.trans s,λσ' H' W' R' fr' sm'=>⟨δ2,W',hgo,R',fr',sm'⟩⟩
   ·rename_i hne
    refine⟨⟨⟨δi,o⟩,hgo⟩,L2.wo W H,O,W2,R2.mono s,b1,L.in2,b2.trans s,?_⟩
    cases o with
    | nx δ2=>exact absurd hgo (hne δ2)
    | rt d fr'=>exact λv H' s' g=>k v H' (L.out s') (L.gotR g)
    | rtt d=>exact λv H' s' g=>k v H' (L.out s') (L.gotT g)
    | ex c' δ'=>exact λσ' H' W' C m R' fr' sm'=>k σ' H' W' C m R' (λa ha=>L.outW (fr' a ha)) (L.out sm')
end
end L2
end
noncomputable section
namespace L2
open PySem PySem.Spec PyProof.Rows
section
variable {κ:Type} [DecidableEq κ]
def valV(kvs:List (κ×V))(k:κ):Option V:=(kvs.find? λkv=>decide (kv.1=k)).map (·.2)
def putK(kvs:List (κ×V))(k:κ)(v:V):List (κ×V):=
 if(kvs.any λkv=>decide (kv.1=k))=true then kvs.map (λkv=>if kv.1=k then(kv.1,v)else kv)else kvs++[(k,v)]
theorem q4r{p:κ×V}{r:List (κ×V)}{k:κ}(e:p.1=k):valV (p::r) k=some p.2:=by simp[valV,List.find?_cons,e]
theorem q4s{p:κ×V}{r:List (κ×V)}{k:κ}(e:¬p.1=k):valV (p::r) k=valV r k:=by simp[valV,List.find?_cons,e]
theorem q8r(k:κ):∀kvs:List (κ×V),(kvs.any λkv=>decide (kv.1=k))=(valV kvs k).isSome
 | []=>rfl
 | p::r=>by
  rw[List.any_cons]
  by_cases e:p.1=k
  ·simp only[q4r e,decide_eq_true e,Bool.true_or,Option.isSome_some]
  ·rw[q4s e,decide_eq_false e,Bool.false_or];exact q8r k r
theorem q4G(kvs:List (κ×V))(k:κ)(v:V):(putK kvs k v).length<=kvs.length+1:=by
 unfold putK
 split
 ·rw[List.length_map];omega
 ·rw[List.length_append,List.length_cons,List.length_nil];omega
theorem RelO.isSome_eq{o:Option V}{u:Option Value}(r:RelO o u):o.isSome=u.isSome:=by
 cases o with
 | none=>cases u with
  | none=>rfl
  | some _=>exact(show False from r).elim
 | some _=>cases u with
  | none=>exact(show False from r).elim
  | some _=>rfl
theorem KV.val{kvs:List (κ×V)}{vs:List (κ×Value)}(r:KV kvs vs)(k:κ):RelO (valV kvs k) (valueAt vs k):=by
 unfold KV at r
 induction r with
 | nil=>exact True.intro
 | @cons p q ps qs h t ih=>
  obtain⟨h1,h2⟩:=h
  by_cases e:p.1=k
  ·have e':q.1=k:=h1.symm.trans e
   have b:valueAt (q::qs) k=some q.2:=by simp[valueAt,List.find?_cons,e']
   rw[q4r e,b];exact h2
  ·have e':¬q.1=k:=λz=>e (h1.trans z)
   have b:valueAt (q::qs) k=valueAt qs k:=by simp[valueAt,List.find?_cons,e']
   rw[q4s e,b];exact ih
theorem KV.any{kvs:List (κ×V)}{vs:List (κ×Value)}(r:KV kvs vs)(k:κ):(kvs.any λkv=>decide (kv.1=k))=vs.any λkv=>decide (kv.1=k):=by
 unfold KV at r
 induction r with
 | nil=>rfl
 | cons h t ih=>rw[List.any_cons,List.any_cons,ih,h.1]
theorem KV.repl{kvs:List (κ×V)}{vs:List (κ×Value)}(r:KV kvs vs)(k:κ){y:V}{u:Value}(ry:RelV y u) :
  KV (kvs.map λkv=>if kv.1=k then(kv.1,y)else kv) (vs.map λkv=>if kv.1=k then(kv.1,u)else kv):=by
 unfold KV at r ⊢
 induction r with
 | nil=>exact .nil
 | @cons p q ps qs h t ih=>
  rw[List.map_cons,List.map_cons]
  refine .cons ?_ ih
  obtain⟨h1,h2⟩:=h
  by_cases e:p.1=k
  ·rw[if_pos e,if_pos (h1.symm.trans e)];exact⟨h1,ry⟩
  ·rw[if_neg e,if_neg (λz=>e (h1.trans z))];exact⟨h1,h2⟩
theorem KV.put{kvs:List (κ×V)}{vs:List (κ×Value)}(r:KV kvs vs)(k:κ){y:V}{u:Value}(ry:RelV y u):KV (putK kvs k y) (stored vs k u):=by
 unfold putK stored
 rw[r.any k]
 by_cases e:(vs.any λkv=>decide (kv.1=k))=true
 ·rw[if_pos e,if_pos e];exact r.repl k ry
 ·rw[if_neg e,if_neg e];exact Paired.snoc r ⟨rfl,ry⟩
theorem KV.length{kvs:List (κ×V)}{vs:List (κ×Value)}(r:KV kvs vs):kvs.length=vs.length:=Paired.length r
end
theorem z5J{P:Program}{w:World}{k:Key}{u:Value}(r:RelV (kV k) u):(q0N P w).is k u=true:=by
 cases k with
 | inl i=>obtain⟨t,e⟩:=(show ∃t,u=Value.int i t from r);subst e;exact q7H P w i t
 | inr x=>obtain⟨t,e⟩:=(show ∃t,u=Value.str x t from r);subst e;exact q7M P w x t
theorem q3B{P:Program}{w:World}:∀{ks:List Key} {us:List Value},Vals (ks.map kV) us->ItemsAre (q0N P w) ks us
 | [],_,r=>by rw[List.map_nil]at r;cases r;exact .nil
 | k::ks,_,r=>by
  rw[List.map_cons]at r
  cases r with
  | cons h t=>exact .cons (z5J h) (q3B t)
abbrev KT(H:Hp):List (List Key×V)->List (List Key×Addr×Value)->Prop:=Paired λp q=>p.1=q.1/\H q.2.1=some (.tup (p.1.map kV))/\RelV p.2 q.2.2
theorem KT.val{H:Hp}{kvs:List (List Key×V)}{xs:List (List Key×Addr×Value)}(r:KT H kvs xs)(k:List Key):RelO (valV kvs k) ((atKey xs k).map (·.2)):=by
 induction r with
 | nil=>exact True.intro
 | @cons p q ps qs h t ih=>
  obtain⟨h1,_,h2⟩:=h
  by_cases e:p.1=k
  ·have e':q.1=k:=h1.symm.trans e
   have b:atKey (q::qs) k=some q.2:=by simp[atKey,List.find?_cons,e']
   rw[q4r e,b];exact h2
  ·have e':¬q.1=k:=λz=>e (h1.trans z)
   have b:atKey (q::qs) k=atKey qs k:=by simp[atKey,List.find?_cons,e']
   rw[q4s e,b];exact ih
theorem KT.repl{H:Hp}{kvs:List (List Key×V)}{xs:List (List Key×Addr×Value)}(r:KT H kvs xs)(k:List Key){y:V}{u:Value}(ry:RelV y u) :
  KT H (kvs.map λkv=>if kv.1=k then(kv.1,y)else kv) (xs.map (putAt k u)):=by
 induction r with
 | nil=>exact .nil
 | @cons p q ps qs h t ih=>
  rw[List.map_cons,List.map_cons]
  refine .cons ?_ ih
  obtain⟨h1,h2,h3⟩:=h
  unfold putAt
  by_cases e:p.1=k
  ·rw[if_pos e,if_pos (h1.symm.trans e)];exact⟨h1,h2,ry⟩
  ·rw[if_neg e,if_neg (λz=>e (h1.trans z))];exact⟨h1,h2,h3⟩
theorem KT.put{H:Hp}{kvs:List (List Key×V)}{xs:List (List Key×Addr×Value)}(r:KT H kvs xs)(k:List Key){b:Addr}{y:V}{u:Value}(hb:H b=some (.tup (k.map kV)))(ry:RelV y u) :
  KT H (putK kvs k y) (storedH xs k b u):=by
 have e:(kvs.any λkv=>decide (kv.1=k))=(atKey xs k).isSome:=by
  rw[q8r,(r.val k).isSome_eq,Option.isSome_map]
 unfold putK storedH
 rw[e]
 by_cases q:(atKey xs k).isSome=true
 ·rw[if_pos q,if_pos q];exact r.repl k ry
 ·rw[if_neg q,if_neg q];exact Paired.snoc r ⟨rfl,hb,ry⟩
theorem KT.keeps{H H':Hp}{kvs:List (List Key×V)}{xs:List (List Key×Addr×Value)}(r:KT H kvs xs)(ht:∀b ys,H b=some (.tup ys)->H' b=some (.tup ys)):KT H' kvs xs:=
 Paired.mapP r λ_ _ z=>⟨z.1,ht _ _ z.2.1,z.2.2⟩
section
variable {P:Program} {w:World} {H:Hp} {h:Heap} {a:Addr}
theorem z5M{u:HO}(ok:HOk P w H h)(e:Rd H a u):q0V P w H h a u:=e.ok ok
theorem z6N{kvs:List (Key×V)}(ok:HOk P w H h)(e:Rd H a (.dK kvs)):kvs.length<=sizeLine/\(a==sysModules)=false/\∃vs,KV kvs vs/\h.DictOf (q0N P w) a vs:=
 show q0V P w H h a (.dK kvs)from z5M ok e
theorem y1f{kvs:List (Key×V)}(ok:HOk P w H h)(e:H a=some (.dK kvs)):kvs.length<=sizeLine/\(a==sysModules)=false/\∃vs,KV kvs vs/\h.DictOf (q0N P w) a vs:=z6N ok (.inl e)
theorem z1O{ks:List Key}(ok:HOk P w H h)(e:H a=some (.tup (ks.map kV))):(tupleKind (q0N P w)).is h ks a:=by
 obtain⟨_,its,r,o,h1,h2,n,h3⟩:=(show q0V P w H h a (.tup (ks.map kV))from ok a _ e)
 exact⟨o,its.toArray,n,h1,h2.1,h3,by simpa using q3B r⟩
theorem z2g{kvs:List (List Key×V)}(ok:HOk P w H h)(e:Rd H a (.dT kvs)):kvs.length<=sizeLine/\(a==sysModules)=false /\
  ∃xs,KT H kvs xs/\h.DictOfH (tupleKind (q0N P w)) a xs:=by
 obtain⟨z,y,xs,r,o,es,ep,h1,h2,h3,h4,h5⟩:=(show q0V P w H h a (.dT kvs)from z5M ok e)
 refine⟨z,y,xs,r,o,es,ep,h1,h2,h3,h4,λx hx=>?_,h5⟩
 have all:∀{l:List (List Key×V)} {m:List (List Key×Addr×Value)},KT H l m->∀x∈m,(tupleKind (q0N P w)).is h x.1 x.2.1:=by
  intro l m q
  induction q with
  | nil=>intro x hx;exact nomatch hx
  | @cons p q ps qs hq t ih=>
   intro x hx
   rcases List.mem_cons.mp hx with e | hx
   ·subst e
    exact z1O ok (by rw[←hq.1];exact hq.2.1)
   ·exact ih x hx
 exact all r x hx
theorem y0w{kvs:List (List Key×V)}(ok:HOk P w H h)(e:H a=some (.dT kvs)):kvs.length<=sizeLine/\(a==sysModules)=false /\
  ∃xs,KT H kvs xs/\h.DictOfH (tupleKind (q0N P w)) a xs:=z2g ok (.inl e)
end
def DGet(H:Hp)(a:Addr)(y:V)(r:Option V):Prop:=
 (∃kvs k,Rd H a (.dK kvs)/\y=kV k/\r=valV kvs k)\/∃kvs k b,Rd H a (.dT kvs)/\y=.ref b/\H b=some (.tup (k.map kV))/\r=valV kvs k
def DPut(H:Hp)(a:Addr)(y v:V)(H':Hp):Prop:=
 (∃kvs k,H a=some (.dK kvs)/\y=kV k/\kvs.length<sizeLine/\H'=upd H a (.dK (putK kvs k v))) \/
 ∃kvs k b,H a=some (.dT kvs)/\y=.ref b/\H b=some (.tup (k.map kV))/\kvs.length<sizeLine/\H'=upd H a (.dT (putK kvs k v))
theorem DPut.t{H:Hp}{a b:Addr}{kvs:List (List Key×V)}{k:List Key}{v:V}(e:H a=some (.dT kvs))(eb:H b=some (.tup (k.map kV)))(hl:kvs.length<sizeLine) :
  DPut H a (.ref b) v (upd H a (.dT (putK kvs k v))):=.inr ⟨kvs,k,b,e,rfl,eb,hl,rfl⟩
section
variable {X:Cx} {pins:List (Addr×Obj)} {σ:St} {H:Hp} {s:Shared} {a:Addr} {y v:V} {u r:Value} {o:Option V} {A:Around} {E:Value->Shared->Prop}
theorem Inv.big(I:Inv X pins σ H s):sysModules<s.heap.objs.size:=by
 have h:mainGlobals<s.heap.objs.size:=(I.mod.glob.keeps I.bk).lt
 exact Nat.lt_trans (by decide) h
theorem z1h{Q:Value->Shared->Prop}(hu:A.units+1<cLine)(I:Inv X pins σ H s)(g:DGet H a y (some v))(ry:RelV y u)(h:∀w' s',Inv X pins σ H s'->RelV v w'->Q w' s') :
  wpAny (model X.prog X.w) A (getItem (.ref a) u) Q E s:=by
 rcases g with⟨kvs,k,e,ey,l⟩ | ⟨kvs,k,b,e,ey,eb,l⟩
 ·subst ey
  obtain⟨z,hd,vs,rel,dd⟩:=z6N I.hok e
  obtain⟨w',hw,rw'⟩:=RelO.some_of (v:=v) (o:=valueAt vs k) (by rw[l];exact rel.val k)
  exact wpAny_getItem_of (z5J ry) dd.mapOf hw (h w' _ (I.tok _) rw')
 ·subst ey
  cases(show u=Value.ref b from ry)
  obtain⟨z,hd,xs,rel,dd⟩:=z2g I.hok e
  obtain⟨w',hw,rw'⟩:=RelO.some_of (v:=v) (o:=(atKey xs k).map (·.2)) (by rw[l];exact rel.val k)
  obtain⟨p,hp,hp2⟩:=Option.map_eq_some_iff.mp hw
  refine wpAny_getItem_heap (tupleKind_room_in1 hu) (z1O I.hok eb) dd hp ?_
  rw[hp2]
  exact h w' _ (I.tok _) rw'
theorem z2s{h':Heap}{t':Nat}{ob:HO}(I:Inv X pins σ H s)(mu:Mut (H a))(hs:Heap.SameBut a s.heap h')(he:∃q,h'.get? a=some q)(new:q0V X.prog X.w (upd H a ob) h' a ob) :
  Inv X pins σ (upd H a ob) {s with heap:=h',toks:=t'}:=
 I.write (x:=a) (e:=a) mu (.inl rfl) (λb q hb z=>(hs.2 b hb).trans z) he new
theorem z7M{P:Program}{w:World}{H':Hp}{h':Heap}{kvs:List (Key×V)}{vs:List (Key×Value)}(z:kvs.length<=sizeLine)(hd:(a==sysModules)=false)(rel:KV kvs vs)(dd:h'.DictOf (q0N P w) a vs) :
  q0V P w H' h' a (.dK kvs):=⟨z,hd,vs,rel,dd⟩
theorem z2w{H':Hp}{Q:Unit->Shared->Prop}(hu:A.units+1<cLine)(I:Inv X pins σ H s)(g:DPut H a y v H')(ry:RelV y u)(rv:RelV v r)(h:∀s',Inv X pins σ H' s'->Q () s') :
  wpAny (model X.prog X.w) A (setItem (.ref a) u r) Q E s:=by
 rcases g with⟨kvs,k,e,ey,l,eH⟩ | ⟨kvs,k,b,e,ey,eb,l,eH⟩
 ·subst ey eH
  obtain⟨z,hd,vs,rel,dd⟩:=y1f I.hok e
  have hz:vs.length<=sizeLine:=by rw[←rel.length];exact z
  have hl:(putK kvs k v).length<=sizeLine:=by have:=q4G kvs k v;omega
  refine wpAny_setItem_pairs (hsz:=hz) (z5J ry) dd λh' dd' hs=>h _ ?_
  have he:∃q,h'.get? a=some q:=let ⟨q,_,_,hq,_⟩:=dd';⟨q,hq⟩
  exact z2s I (by rw[e];exact True.intro) hs he (z7M hl hd (rel.put k rv) dd')
 ·subst ey eH
  cases(show u=Value.ref b from ry)
  obtain⟨z,hd,xs,rel,dd⟩:=y0w I.hok e
  have hz:xs.length<=sizeLine:=by rw[←Paired.length rel];exact z
  have hl:(putK kvs k v).length<=sizeLine:=by have:=q4G kvs k v;omega
  refine wpAny_setItem_heap (hsz:=hz) (tupleKind_room_in1 hu) (z1O I.hok eb) dd λh' dd' hs=>h _ ?_
  obtain⟨q,es,ep,hq,h2,h3,h4,_,h5⟩:=dd'
  refine z2s I (by rw[e];exact True.intro) hs ⟨q,hq⟩ ⟨hl,hd,_,(rel.put k eb rv).keeps λc ys ec=>?_,q,es,ep,hq,h2,h3,h4,h5⟩
  rw[q0l (y0e ec e (λz=>nomatch z))]
  exact ec
end
section
variable {X:Cx} {pins:List (Addr×Obj)} {σ:St} {H:Hp} {s:Shared} {a:Addr} {kvs:List (Key×V)} {k:Key} {u:Value} {A:Around} {E:Value->Shared->Prop}
end
def NoSl(i:Expr):Prop:=∀ov iv,subscripted i false ov iv=operate [ov,iv] (getItem ov iv)
theorem z7q{prog:Program}{w:World}{A:Around}{E:Value->Shared->Prop}{s:Shared}{env:Env}{value slice:Expr}{pos:Pos}{T id:String}{Q:Value->Shared->Prop}
  (hl:typeLookup (.type T) "__getitem__" = pure (some (.builtin id))) (hs:NoSl slice)
  (h:wpAny (model prog w) A (eval value env) (λo s₁=>wpAny (model prog w) A (eval slice env) (λi s₂=>s₂.TypeIs o T/\wpAny (model prog w) A (getItem o i) Q E s₂) E s₁) E s) :
  wpAny (model prog w) A (eval (.Subscript value slice pos) env) Q E s:=by
 refine Subscript_ (wpAny_mono h (λo s₁ h₁=>wpAny_mono h₁ (λi s₂ h₂=>?_) λ_ _ x=>x) λ_ _ x=>x)
 obtain⟨hT,h₂⟩:=h₂
 unfold subscriptTail
 refine wpAny_bind ?_
 rw[getitemInPython_of_ne hT.not_modules]
 refine wpAny_bind (wpAny_specialOf hT hl ?_)
 have fin:wpAny (model prog w) A (subscripted slice false o i) (λr s₃=>wpAny (model prog w) A (letTemporaryGo value o r >>= λ_=>pure r) Q E s₃) E s₂:=by
  rw[hs o i]
  exact wpAny_operating (wpAny_mono h₂ (λr s₃ h₃=>wpAny_bind (wpAny_letTemporaryGo (wpAny_pure h₃))) λ_ _ x=>x)
 first
  | exact wpAny_pure (wpAny_bind fin)
  | exact wpAny_bind (wpAny_pure (wpAny_bind fin))
  | exact wpAny_bind fin
theorem q7B{X:Cx}{pins:List (Addr×Obj)}{σ:St}{H:Hp}{s:Shared}{a:Addr}{y:V}{o:Option V}(I:Inv X pins σ H s)(g:DGet H a y o):s.TypeIs (.ref a) "dict":=by
 rcases g with⟨kvs,k,e,_,_⟩ | ⟨kvs,k,b,e,_,_,_⟩
 ·obtain⟨_,_,vs,_,dd⟩:=z6N I.hok e
  exact dd.typeIs
 ·obtain⟨_,_,xs,_,dd⟩:=z2g I.hok e
  exact dd.typeIs
def y1o(td ty tv:TE):TS:=λD σ H=>tv σ H λv H1=>td σ H1 λx H2=>ty σ H2 λy H3=>∃a H4,x=.ref a/\DPut H3 a y v H4/\D.nx σ H4
section
variable {X:Cx} {o i e value:Expr} {pos pos' tpos:Pos} {td ty tv:TE}
theorem z7r(hu:X.A.units+1<cLine)(ho:PE X o td)(hi:PE X i ty)(hv:PE X value tv)(hs:swapsWith value (some (.Subscript o i pos')) pos.line X.env=pure false) :
  PS X (.Assign [.Subscript o i pos'] value pos) (y1o td ty tv):=by
 intro pins s σ H D I h
 refine wpAny_Assign_Subscript (thn (hv pins s σ H _ I h) λr s1 ⟨v,H1,I1,rv,q1⟩=>thn (ho pins s1 σ H1 _ I1 q1) λu s2 ⟨x,H2,I2,rx,q2⟩=>thn (hi pins s2 σ H2 _ I2 q2) λiv s3 ⟨y,H3,I3,ry,a,H4,ex,g,q3⟩=>?_) hs
 subst ex
 obtain rfl:u=Value.ref a:=rx
 exact z2w hu I3 g ry rv λs4 I4=>⟨σ,H4,I4,q3⟩
end
theorem z2H{P:Program}{w:World}{H:Hp}(h:Heap)(hb:sysModules<h.objs.size):q0V P w H (h.push {cls:=.type "dict",data:=.dict #[]}) h.objs.size (.dT []):=
 ⟨Nat.zero_le _,beq_eq_false_iff_ne.mpr (Ne.symm (Nat.ne_of_lt hb)),[],.nil,_,#[],0,Heap.get?_push_size _ rfl,⟨rfl,rfl,rfl⟩,rfl,rfl,List.nodup_nil⟩
def z8X:TE:=λ_ H Q=>∀p,H p=none->Q (.ref p) (upd H p (.dT []))
section
variable {X:Cx} {pos:Pos}
theorem z3R:PE X (.Dict [] [] pos) z8X:=λpins s σ H Q I h=>
 wpAny_Dict_empty ⟨.ref s.heap.objs.size,_,I.laid (a:=s.heap.objs.size) (o:=.dT []) (t':=s.toks) (λ_ _ q=>Heap.get?_push_of_some _ q) (Nat.le_refl _) (z2H s.heap I.big),rfl,h _ (I.hok.fresh (Nat.le_refl _))⟩
end
end L2
end
noncomputable section
namespace L2
open PySem PySem.Spec PyProof.Rows
theorem z5w{D:Dm}{H:Hp}(L:List (Int×Int)):RepL D H (L.map λp=>.int p.2) ((odK L).map (·.2)):=by
 have:=q1M (D:=D) (H:=H) (L.map (·.2))
 rw[List.map_map,List.map_map]at this
 unfold odK
 rw[List.map_map]
 exact this
theorem z7B(L:List (Int×Int)):(odK L).map (λp=>dKey p.1)=L.map λp=>.i p.1:=by
 unfold odK
 rw[List.map_map]
 rfl
section
variable {D:Dm} {H H':Hp} {σ:St} {δ:List Sv} {O W:List Addr} {i:Nat}
theorem RSt.growD{p:Addr}{o0:HO}(R:RSt D H σ δ O W)(hp:H p=none)(hm:mutO o0=true):RSt D (upd H p o0) σ δ O (p::W):=by
 have s:Same H (upd H p o0):=q0p hp
 have old:Same (L2.wo (O++W) H) (L2.wo (O++(p::W)) (upd H p o0)):=λb o e=>by
  obtain⟨hb,e⟩:=q0S e
  rw[q0r λz=>?_]
  ·exact s b o e
  ·rcases List.mem_cons.mp (q1D.mp z)with z | z
   ·rw[z,hp]at e;cases e
   ·exact hb z
 refine⟨λj d h=>?_,λj d h=>?_,R.inj,λj d h=>?_,λj d h=>?_,R.od.step (λj d h=>⟨h,rfl⟩) (λ_ h _=>List.mem_cons_of_mem _ h) (λa _ _ h _=>s _ _ h),R.len,⟨λa ha=>?_,Same.refl _,λa ha=>?_,λa ha=>?_,R.hid.omS s⟩⟩
 ·obtain⟨v,e1,e2⟩:=R.val j d h
  exact⟨v,e1,e2.mono old⟩
 ·obtain⟨a,ys,ds1,e0,e1,e2,e3,e4⟩:=R.own j d h
  exact⟨a,ys,ds1,e0,e1,List.mem_cons_of_mem _ e2,s _ _ e3,e4.mono old⟩
 ·obtain⟨⟨t,ts,p1,ys,ds1,es,e0,e1,e2,e3,e4,e5,e6,e7⟩,u⟩:=R.ot j d h
  exact⟨⟨t,ts,p1,ys,ds1,es,e0,e1,old.tseq e2,List.mem_cons_of_mem _ e3,s _ _ e4,e5.mono old,e6.mono old,e7⟩,u⟩
 ·obtain⟨⟨p1,L,e0,e1,e2,e3⟩,u,n⟩:=R.o2 j d h
  exact⟨⟨p1,L,e0,e1,(e2.mono s).sub λa _ ha=>List.mem_cons_of_mem _ ha,e3⟩,u,n⟩
 ·rcases List.mem_cons.mp (q1D.mp ha)with z | z
  ·rw[z,q0t];intro q;cases q
  ·intro q;exact R.hid.ot a z (s.free q)
 ·rcases List.mem_cons.mp ha with z | z
  ·exact⟨_,by rw[z];exact q0t,hm⟩
  ·obtain⟨ys,q,m⟩:=R.hid.wl a z;exact⟨ys,s _ _ q,m⟩
 ·rcases List.mem_cons.mp ha with z | z
  ·intro q;exact R.hid.ot p (List.mem_append_left _ (by rw[←z];exact q)) hp
  ·exact R.hid.dj a z
theorem RSt.setOd{p:Addr}{d0:DV}{o0:HO}(R:RSt D H σ δ O W)(hp:p∈W)(hok:OdOk d0 o0)(hH:H p=some o0)(hno:noOt i δ=true):RSt D H (σ.set i (some (.ref p))) (δ.set i (.od d0)) O W:=by
 refine⟨λj d h=>?_,λj d h=>?_,λj k a d1 d2 q1 q2 e1 e2=>?_,λj d h=>?_,λj d h=>?_,λj d h=>?_,by rw[List.length_set,List.length_set];exact R.len,R.hid⟩
 ·have hj:=q0c h (by intro z;cases z)
  rw[List.getElem?_set_ne (Ne.symm hj)]at h ⊢
  exact R.val j d h
 ·have hj:=q0c h (by intro z;cases z)
  rw[List.getElem?_set_ne (Ne.symm hj)]at h ⊢
  exact R.own j d h
 ·have n1:=q0c q1 (by intro z;cases z)
  have n2:=q0c q2 (by intro z;cases z)
  rw[List.getElem?_set_ne (Ne.symm n1)]at q1 e1
  rw[List.getElem?_set_ne (Ne.symm n2)]at q2 e2
  exact R.inj j k a d1 d2 q1 q2 e1 e2
 ·have hj:=q0c h (by intro z;cases z)
  rw[List.getElem?_set_ne (Ne.symm hj)]at h
  exact absurd (q7D hno h) hj
 ·have hj:=q0c h (by intro z;cases z)
  rw[List.getElem?_set_ne (Ne.symm hj)]at h
  exact absurd (q9R hno h) hj
 ·have hj:j=i:=by
   by_cases hj:j=i
   ·exact hj
   ·rw[List.getElem?_set_ne (Ne.symm hj)]at h
    exact z1b hno h
  subst hj
  obtain⟨hl,e⟩:=q3J h
  cases e
  refine⟨⟨p,o0,hok,List.getElem?_set_self (by rw[R.len];exact hl),hp,hH⟩,λk d' q=>?_⟩
  by_cases hk:k=j
  ·exact hk
  ·rw[List.getElem?_set_ne (Ne.symm hk)]at q
   exact z1b hno q
theorem RSt.writeOd{p:Addr}{o0 o1:HO}{d d1:DV}(R:RSt D H σ δ O W)(hi:δ[i]? = some (.od d))(ha:σ[i]? = some (some (.ref p)))(hp:p∈W)(hH:H p=some o0)(hdc:dicO o0=true)(hok:OdOk d1 o1):RSt D (upd H p o1) σ (δ.set i (.od d1)) O W:=by
 have old:Same (L2.wo (O++W) H) (L2.wo (O++W) (upd H p o1)):=λb o e=>by
  obtain⟨hb,e⟩:=q0S e
  rw[q0r hb,q0l λz=>hb (by rw[z];exact List.mem_append_right _ hp)]
  exact e
 have lne:∀{b:Addr} {ys:List V},H b=some (.lst ys)->b≠p:=λ{b ys} h z=>by rw[z,hH]at h;cases h;cases hdc
 refine⟨λj d h=>?_,λj d h=>?_,λj k a d1 d2 q1 q2 e1 e2=>?_,λj d h=>?_,λj d h=>?_,λj d h=>?_,by rw[List.length_set];exact R.len,⟨λb hb q=>?_,Same.refl _,λb hb=>?_,R.hid.dj,R.hid.omW hp⟩⟩
 ·have hj:=q0c h (by intro z;cases z)
  rw[List.getElem?_set_ne (Ne.symm hj)]at h
  obtain⟨v,q1,q2⟩:=R.val j d h
  exact⟨v,q1,q2.mono old⟩
 ·have hj:=q0c h (by intro z;cases z)
  rw[List.getElem?_set_ne (Ne.symm hj)]at h
  obtain⟨b,ys,ds1,q0,q1,q2,q3,q4⟩:=R.own j d h
  exact⟨b,ys,ds1,q0,q1,q2,by rw[q0l (lne q3)];exact q3,q4.mono old⟩
 ·have n1:=q0c q1 (by intro z;cases z)
  have n2:=q0c q2 (by intro z;cases z)
  rw[List.getElem?_set_ne (Ne.symm n1)]at q1
  rw[List.getElem?_set_ne (Ne.symm n2)]at q2
  exact R.inj j k a d1 d2 q1 q2 e1 e2
 ·have hj:=q0c h (by intro z;cases z)
  rw[List.getElem?_set_ne (Ne.symm hj)]at h
  obtain⟨⟨t,ts,p1,ys,ds1,es,f0,f1,f2,f3,f4,f5,f6,f7⟩,u⟩:=R.ot j d h
  refine⟨⟨t,ts,p1,ys,ds1,es,f0,f1,old.tseq f2,f3,by rw[q0l (lne f4)];exact f4,f5.mono old,f6.mono old,λk d2 q=>?_⟩,λk d2 q=>?_⟩
  ·have hk:=q0c q (by intro z;cases z)
   rw[List.getElem?_set_ne (Ne.symm hk)]at q
   exact f7 k d2 q
  ·have hk:=q0c q (by intro z;cases z)
   rw[List.getElem?_set_ne (Ne.symm hk)]at q
   exact u k d2 q
 ·have hj:=q0c h (by intro z;cases z)
  rw[List.getElem?_set_ne (Ne.symm hj)]at h
  obtain⟨⟨p1,L1,f0,f1,f2,f3⟩,u,n⟩:=R.o2 j d h
  refine⟨⟨p1,L1,f0,f1,f2.write λz=>?_,λk d2 b q q2=>?_⟩,λk d2 q=>?_,λk d2 q=>?_⟩
  ·obtain⟨_,ys,w⟩:=f2.dom z
   exact lne w rfl
  ·have hk:=q0c q (by intro z;cases z)
   rw[List.getElem?_set_ne (Ne.symm hk)]at q
   exact f3 k d2 b q q2
  ·have hk:=q0c q (by intro z;cases z)
   rw[List.getElem?_set_ne (Ne.symm hk)]at q
   exact u k d2 q
  ·have hk:=q0c q (by intro z;cases z)
   rw[List.getElem?_set_ne (Ne.symm hk)]at q
   exact n k d2 q
 ·have hj:j=i:=by
   by_cases hj:j=i
   ·exact hj
   ·rw[List.getElem?_set_ne (Ne.symm hj)]at h
    exact(R.od i _ hi).2 j _ h
  subst hj
  obtain⟨hl,e⟩:=q3J h
  cases e
  refine⟨⟨p,o1,hok,ha,hp,q0t⟩,λk d' q=>?_⟩
  by_cases hk:k=j
  ·exact hk
  ·rw[List.getElem?_set_ne (Ne.symm hk)]at q
   exact(R.od j _ hi).2 k _ q
 ·by_cases hba:b=p
  ·rw[hba,q0t]at q;cases q
  ·rw[q0l hba]at q;exact R.hid.ot b hb q
 ·by_cases hba:b=p
  ·exact⟨_,by rw[hba];exact q0t,hok.mut⟩
  ·obtain⟨ys,q,m⟩:=R.hid.wl b hb;exact⟨ys,by rw[q0l hba];exact q,m⟩
end
section
variable {X:Cx} {E:St->XK} {δ:List Sv} {o:Out} {e ek ed ea:Expr} {pos pos' npos spos apos cpos:Pos} {ra rb rc:Option Re} {i:Nat} {x:Str} {re:Re}
theorem z3q(L:List ((Int×Int)×Int)):(oeK L).map (λp=>DKey.t p.1)=L.map λp=>.t [.inl p.1.1,.inl p.1.2]:=by
 unfold oeK
 rw[List.map_map]
 rfl
theorem z3y{D:Dm}{H:Hp}(L:List ((Int×Int)×Int)):RepL D H (L.map λp=>.int p.2) ((oeK L).map (·.2)):=by
 unfold oeK
 rw[List.map_map]
 induction L with
 | nil=>exact q0x.mpr rfl
 | cons p r ih=>exact q0j.mpr ⟨_,_,rfl,q0y.mpr rfl,ih⟩
theorem z7S(hv:PE X (.Name x npos) (tVar i)):PE X (.Name x npos) (λσ H Q=>∃a o,σ[i]? = some (some (.ref a))/\H a=some o/\dicO o=true/\∀ob,Q (.ref a) (upd H a (.frz ob o))):=by
 intro pins s σ H Q I h
 obtain⟨a,o,e1,e2,e3,q⟩:=h
 refine thn (hv pins s σ H (λv H1=>v=.ref a/\H1=H) I ⟨_,e1,rfl,rfl⟩) λu s1 ⟨v,H1,I1,r1,q1,q2⟩=>?_
 subst q1 q2
 have ok:=I1.hok _ _ e2
 obtain⟨ob,z5⟩:∃ob,s1.heap.get? a=some ob:=by
  cases o with
  | dK kvs=>obtain⟨_,_,_,_,ob,_,_,e,_⟩:=ok;exact⟨ob,e⟩
  | dT kvs=>obtain⟨_,_,_,_,ob,_,_,e,_⟩:=ok;exact⟨ob,e⟩
  | _=>cases e3
 have ok2:q0V X.prog X.w (upd H1 a (.frz ob o)) s1.heap a o:=by
  refine ok.stay (λ_ _ _ e=>e) (λb e=>?_) λb xs e=>?_
  ·rw[q0l λz=>by rw[z,e2]at e;cases e;cases e3];exact e
  ·rw[q0l λz=>by rw[z,e2]at e;cases e;cases e3];exact e
 exact⟨.ref a,upd H1 a (.frz ob o),I1.write (x:=a) (e:=a) (t':=s1.toks) (by rw[e2];cases o<;>first | trivial | cases e3) (.inl rfl) (λb u hb e=>e) ⟨ob,z5⟩ ⟨z5,ok2⟩,r1,q ob⟩
theorem z3c(hv:PE X (.Name x npos) (tVar i))(h:(match δ[i]? with
   | some (.od d)=>some (Out.rt (unT d) false)
   | _=>none)=some o):PS X (.Return (some (.Name x npos)) pos) (dS X.D E δ o):=by
 split at h
 ·rename_i d hi
  cases h
  refine(q8D (z7S hv)).weak λDn σ H ⟨H0,O,W,R,fr,fo,sm,k⟩=>?_
  obtain⟨⟨p,ob,e0,e1,e2,e3⟩,u⟩:=R.od i _ hi
  refine⟨p,ob,e1,e3,e0.dic,λo1=>k _ _ (q2j sm (fr p e2)) ?_⟩
  rcases e0 with⟨L,q1,q2⟩ | ⟨L,q1,q2⟩
  ·subst q1 q2
   show Rep X.D (L2.wo O (upd H p (.frz o1 (.dK (odK L))))) (odD L) (.ref p)
   exact q3j.mpr (.inl ⟨p,o1,odK L,rfl,by rw[q0r (R.hid.dj p e2)];exact q0t,z7B L,z5w L⟩)
  ·subst q1 q2
   show Rep X.D (L2.wo O (upd H p (.frz o1 (.dT (oeK L))))) (oeD L) (.ref p)
   exact q3j.mpr (.inr ⟨p,o1,oeK L,rfl,by rw[q0r (R.hid.dj p e2)];exact q0t,z3q L,z3y L⟩)
 ·cases h
theorem z6x(h:q3s ek=false):NoSl ek:=λov iv=>by cases ek<;>first | rfl | cases h
def z5x(K:PySem.W.Frag)(H:Hp)(a:Addr)(y:V)(r:Option V):Prop:=DGet H a y r\/∃kvs k b,Rd H a (.dT kvs)/\y=.ref b/\SqT K H b (k.map kV)/\r=valV kvs k
theorem z6q{pins:List (Addr×Obj)}{σ:St}{H:Hp}{s:Shared}{a:Addr}{ks:List Key}(I:Inv X pins σ H s)(e:SqT X.K H a (ks.map kV)):(tupleKind (q0N X.prog X.w)).is s.heap ks a:=by
 rcases e with h | ⟨o,its,n,h1,h2,h3,_,h5⟩
 ·obtain⟨_,its,r,o,h1,h2,n,h3⟩:=(show q0V X.prog X.w H s.heap a (.tup (ks.map kV))from z5M I.hok h)
  exact⟨o,its.toArray,n,h1,h2.1,h3,by simpa using q3B r⟩
 ·exact⟨o,its,n,I.kIn a o h1,h2.1,h3,q3B h5⟩
theorem q9K{pins:List (Addr×Obj)}{σ:St}{H:Hp}{s:Shared}{a:Addr}{y v:V}{u:Value}{A:Around}{E:Value->Shared->Prop}{Q:Value->Shared->Prop}(hu:A.units+1<cLine)(I:Inv X pins σ H s)(g:z5x X.K H a y (some v))(ry:RelV y u)(h:∀w' s',Inv X pins σ H s'->RelV v w'->Q w' s') :
  wpAny (model X.prog X.w) A (getItem (.ref a) u) Q E s:=by
 rcases g with g | ⟨kvs,k,b,e,ey,eb,l⟩
 ·exact z1h hu I g ry h
 ·subst ey
  cases(show u=Value.ref b from ry)
  obtain⟨z,hd,xs,rel,dd⟩:=z2g I.hok e
  obtain⟨w',hw,rw'⟩:=RelO.some_of (v:=v) (o:=(atKey xs k).map (·.2)) (by rw[l];exact rel.val k)
  obtain⟨p,hp,hp2⟩:=Option.map_eq_some_iff.mp hw
  refine wpAny_getItem_heap (tupleKind_room_in1 hu) (z6q I eb) dd hp ?_
  rw[hp2]
  exact h w' _ (I.tok _) rw'
theorem q6L{pins:List (Addr×Obj)}{σ:St}{H:Hp}{s:Shared}{a:Addr}{y:V}{o:Option V}(I:Inv X pins σ H s)(g:z5x X.K H a y o):s.TypeIs (.ref a) "dict":=by
 rcases g with g | ⟨kvs,k,b,e,ey,eb,l⟩
 ·exact q7B I g
 ·obtain⟨_,_,xs,_,dd⟩:=z2g I.hok e
  exact dd.typeIs
def z8E(K:PySem.W.Frag)(td ty:TE):TE:=λσ H Q=>td σ H λx H1=>ty σ H1 λy H2=>∃a v,x=.ref a/\z5x K H2 a y (some v)/\Q v H2
theorem z2B{td ty:TE}(hu:X.A.units+1<cLine)(ho:PE X ea td)(hi:PE X ek ty)(hs:NoSl ek):PE X (.Subscript ea ek pos) (z8E X.K td ty):=by
 intro pins s σ H Q I h
 refine z7q PySem.F.slot_dict_getitem.lookup hs (thn (ho pins s σ H _ I h) λu s1 ⟨x,H1,I1,rx,q1⟩=>thn (hi pins s1 σ H1 _ I1 q1) λiv s2 ⟨y,H2,I2,ry,a,v,ex,g,q2⟩=>?_)
 subst ex
 obtain rfl:u=Value.ref a:=rx
 exact⟨q6L I2 g,q9K hu I2 g ry λw' s3 I3 rw'=>⟨v,H2,I3,rw',q2⟩⟩
theorem z7f{D:Dm}{H:Hp}{a b:Int}{v:V}(h:Rep D H (.tup [.int a,.int b]) v):∃p,v=.ref p/\SqT D.K H p (([.inl a,.inl b]:List Key).map kV):=by
 obtain⟨p,xs,e1,e2,e3⟩:=q0H.mp h
 obtain⟨v1,vs,rfl,r1,r2⟩:=q0j.mp e3
 obtain⟨v2,vs2,rfl,r3,r4⟩:=q0j.mp r2
 rw[q0y.mp r1,q0y.mp r3,q0x.mp r4]at e2
 exact⟨p,e1,e2⟩
end
end L2
end
noncomputable section
namespace L2
open PySem PySem.Spec PyProof.Rows
def kP(p:Int×Int):List Key:=[.inl p.1,.inl p.2]
theorem q8C{p q:Int×Int}(h:kP p=kP q):p=q:=by
 unfold kP at h
 obtain⟨a,b⟩:=p
 obtain⟨c,d⟩:=q
 simp at h
 rw[h.1,h.2]
def putP(L:List ((Int×Int)×Int))(k:Int×Int)(z:Int):List ((Int×Int)×Int):=if(L.any λp=>decide (p.1=k))=true then L.map (λp=>if p.1=k then(p.1,z)else p)else L++[(k,z)]
theorem z4X(L:List ((Int×Int)×Int))(k:Int×Int)(z:Int):putK (oeK L) (kP k) (.int z)=oeK (putP L k z):=by
 have e:((oeK L).any λkv=>decide (kv.1=kP k))=L.any λp=>decide (p.1=k):=by
  unfold oeK
  rw[List.any_map]
  congr 1
  funext p
  show decide (kP p.1=kP k)=decide (p.1=k)
  by_cases h:p.1=k
  ·rw[decide_eq_true (by rw[h]),decide_eq_true h]
  ·rw[decide_eq_false (λz=>h (q8C z)),decide_eq_false h]
 unfold putK putP
 rw[e]
 split
 ·unfold oeK
  rw[List.map_map,List.map_map]
  apply List.map_congr_left
  intro p _
  show(if kP p.1=kP k then(kP p.1,V.int z)else(kP p.1,V.int p.2))=(kP (if p.1=k then(p.1,z)else p).1,V.int (if p.1=k then(p.1,z)else p).2)
  by_cases h:p.1=k
  ·rw[if_pos (by rw[h]),if_pos h]
  ·rw[if_neg (λz=>h (q8C z)),if_neg h]
 ·unfold oeK
  rw[List.map_append]
  rfl
def kD(p:Int×Int):DKey:=.t [.inl p.1,.inl p.2]
theorem q9T{p q:Int×Int}(h:kD p=kD q):p=q:=q8C (DKey.t.inj h)
theorem z5h(L:List ((Int×Int)×Int))(k:Int×Int)(z:Int):putD (kD k) (.int z) (L.map λp=>kD p.1) (L.map λp=>.int p.2)=((putP L k z).map (λp=>kD p.1),(putP L k z).map (λp=>.int p.2)):=by
 have e:(kD k∈L.map λp=>kD p.1)↔(L.any λp=>decide (p.1=k))=true:=by
  rw[List.mem_map,List.any_eq_true]
  constructor
  ·rintro⟨p,h1,h2⟩;exact⟨p,h1,by rw[decide_eq_true_eq];exact q9T h2⟩
  ·rintro⟨p,h1,h2⟩;exact⟨p,h1,by rw[decide_eq_true_eq.mp h2]⟩
 unfold putD putP
 by_cases h:(L.any λp=>decide (p.1=k))=true
 ·rw[if_pos (e.mpr h),if_pos h,List.map_map,List.map_map]
  refine Prod.ext ?_ ?_
  ·apply List.map_congr_left
   intro p _
   show kD p.1=kD (if p.1=k then(p.1,z)else p).1
   split<;>rfl
  ·show List.map _ (List.zip _ _)=_
   rw[List.zip_map_left,List.zip_map_right]
   have:∀(L:List ((Int×Int)×Int)),List.zip L L=L.map λp=>(p,p):=by
    intro L
    induction L with
    | nil=>rfl
    | cons a r ih=>rw[List.zip_cons_cons,ih];rfl
   rw[this,List.map_map,List.map_map,List.map_map]
   apply List.map_congr_left
   intro p _
   show(if kD p.1=kD k then DV.int z else DV.int p.2)=DV.int (if p.1=k then(p.1,z)else p).2
   by_cases h:p.1=k
   ·rw[if_pos (by rw[h]),if_pos h]
   ·rw[if_neg (λz=>h (q9T z)),if_neg h]
 ·rw[if_neg (λz=>h (e.mp z)),if_neg h,List.map_append,List.map_append]
  rfl
section
variable {X:Cx} {E:St->XK} {δ:List Sv} {o:Out} {e ek ed ea:Expr} {es:List Expr} {x1:Nat} {pos pos' npos spos apos cpos tpos:Pos} {ra rb rc:Option Re} {rs:Option Rs} {i:Nat} {x:Str} {re:Re}
theorem z5d(hN:X.N.Nodup)(hi:X.N[i]? = some x)(hx:Loc X.env.scope x)(hf:X.fn x=true\/X.env.scope.names.lookup x=some .local)(h:(if noOt i δ then some (Out.nx (δ.set i (.od (.tup [.dct [] []]))))else none)=some o):PS X (.Assign [.Name x npos] (.Dict [] [] pos') pos) (dS X.D E δ o):=by
 split at h
 ·rename_i hno
  cases h
  refine(q9S hN hi hx z3R rfl hf).weak λDn σ H ⟨H0,O,W,R,fr,fo,sm,k⟩=>λp hp=>?_
  have R1:RSt X.D (upd H p (.dT [])) (σ.set i (some (.ref p))) (δ.set i (.od (.tup [oeD []]))) O (p::W):=(R.growD hp rfl).setOd (o0:=.dT []) (List.mem_cons_self ..) (.inr ⟨[],rfl,rfl⟩) q0t hno
  exact k _ _ _ R1 (λa ha=>by
   rcases List.mem_cons.mp ha with z | z
   ·rw[z];exact sm.free hp
   ·exact fr a z) (sm.trans (q0p hp))
 ·cases h
theorem z7b(hu:X.A.units+1<cLine)(hv:PE X (.Name x npos) (tVar i))(he:∀q,ra=some q->PE X e (dE X.D E δ q))(hk:∀q,rs=some q->PA X es (dA X.D E δ q))(hc:q4b e=false)
  (h:(match δ[i]? with
   | some (.od (.tup [.dct ks vs]))=>Re.thnS δ ra λd _=>Rs.thnS δ rs λl=>(dppD i δ ks vs l d).map Out.nx
   | _=>none)=some o):PS X (.Assign [.Subscript (.Name x npos) (.Tuple es x1 tpos) spos] e pos) (dS X.D E δ o):=by
 split at h
 ·rename_i ks vs hi
  have C:=λt t' (hA:PE X e t) (hB:PA X es t')=>z7r (pos:=pos) (pos':=spos) hu hv (z1P (pos:=tpos) (x1:=x1) hB) hA (q2U hc)
  cases hra:ra with
  | none=>rw[hra]at h;cases h
  | some q=>
   rw[hra]at h
   have A:=he q hra
   cases q with
   | ex c=>
    cases h
    exact(C _ _ A z0T).weak λDn σ H ⟨H0,O,W,R,fr,fo,sm,k⟩=>⟨O,W,R,q4H (Q:=λ_ _=>False) R fr sm k⟩
   | ok d cl=>
    cases hrs:rs with
    | none=>rw[hrs]at h;cases h
    | some q2=>
     rw[hrs]at h
     have B:=hk q2 hrs
     cases q2 with
     | ex c=>
      cases h
      refine(C _ _ A B).weak λDn σ H ⟨H0,O,W,R,fr,fo,sm,k⟩=>⟨O,W,R,λv H1 s1 g=>?_⟩
      obtain⟨⟨p,ob,e0,e1,e2,e3⟩,u⟩:=R.od i _ hi
      exact⟨.ref p,e1,O,W,R.mono s1,q4H (Q:=λ_ _=>False) (R.mono s1) fr (sm.trans s1) k⟩
     | ok l=>
      have h':(dppD i δ ks vs l d).map Out.nx=some o:=h
      obtain⟨δ',h1,h2⟩:=Option.map_eq_some_iff.mp h'
      cases h2
      unfold dppD at h1
      split at h1
      ·rename_i a ca b cb z
       split at h1
       ·rename_i hl
        cases h1
        refine(C _ _ A B).weak λDn σ H ⟨H0,O,W,R,fr,fo,sm,k⟩=>⟨O,W,R,λv H1 s1 g=>?_⟩
        obtain⟨⟨p,ob,e0,e1,e2,e3⟩,u⟩:=R.od i _ hi
        obtain⟨L,e0z,eo⟩:∃L,DV.tup [.dct ks vs]=.tup [oeD L]/\ob=.dT (oeK L):=by
         rcases e0 with⟨L,q,_⟩ | h
         ·cases q
         ·exact h
        subst eo
        obtain⟨ek1,ek2⟩:ks=L.map (λp=>kD p.1)/\vs=L.map (λp=>DV.int p.2):=DV.dct.inj (List.cons.inj (DV.tup.inj e0z)).1
        subst ek1 ek2
        refine⟨.ref p,e1,O,W,R.mono s1,λvs2 H2 s2 g2=>?_⟩
        have hv1:=g.int (R.hid.mono s1)
        obtain⟨w1,w2,ew,g3,g4⟩:=g2.two
        have hd2:=(R.mono s1).hid.mono s2
        have hw1:=g3.int hd2
        have hw2:=g4.int hd2
        subst hv1 hw1 hw2 ew
        refine⟨by show(2:Nat)<=sizeLine;decide,λq hq=>?_⟩
        have s3:Same H2 (upd H2 q (.tup [.int a,.int b])):=q0p hq
        have e3':=s3 _ _ (s2 _ _ (s1 _ _ e3))
        rw[List.length_map]at hl
        refine⟨p,_,rfl,DPut.t (k:=kP (a,b)) e3' q0t (by unfold oeK;rw[List.length_map];exact Nat.lt_of_lt_of_le hl (by decide)),?_⟩
        rw[z4X]
        have pe:=z5h L (a,b) z
        unfold kD at pe k
        rw[pe]at k
        exact k σ _ W ((((R.mono s1).mono s2).mono s3).writeOd hi e1 e2 e3' rfl (.inr ⟨_,rfl,rfl⟩)) fr (q2j (((sm.trans s1).trans s2).trans s3) (fr p e2))
       ·cases h1
      ·cases h1
 ·cases h
theorem z5o{L:List ((Int×Int)×Int)}{k:Int×Int}{v:Int}(h:q7x (kD k) (L.map λp=>kD p.1) (L.map λp=>.int p.2)=some (.int v)):valV (oeK L) (kP k)=some (.int v):=by
 induction L with
 | nil=>cases h
 | cons p r ih=>
  have h':(if kD p.1=kD k then some (DV.int p.2)else q7x (kD k) (r.map λp=>kD p.1) (r.map λp=>.int p.2))=some (.int v):=h
  show valV ((kP p.1,V.int p.2)::oeK r) (kP k)=_
  by_cases hk:p.1=k
  ·rw[if_pos (by rw[hk])]at h'
   cases h'
   rw[q4r (by rw[hk])]
  ·rw[if_neg (λz=>hk (q9T z))]at h'
   rw[q4s (λz=>hk (q8C z))]
   exact ih h'
theorem z6v(hu:X.A.units+1<cLine)(hv:PE X (.Name x npos) (tVar i))(hk:∀q,rb=some q->PE X ek (dE X.D E δ q))(hs:q3s ek=false)
  (h:(match δ[i]? with
   | some (.od (.tup [.dct ks vs]))=>Re.thn rb λy _=>dgpD ks vs y
   | _=>none)=some re):PE X (.Subscript (.Name x npos) ek pos) (dE X.D E δ re):=by
 split at h
 ·rename_i ks vs hi
  have C:=λt' (hB:PE X ek t')=>z2B (pos:=pos) hu hv hB (z6x hs)
  cases hrb:rb with
  | none=>rw[hrb]at h;cases h
  | some q2=>
   rw[hrb]at h
   have B:=hk q2 hrb
   cases q2 with
   | ex c=>
    cases h
    refine(C _ B).weak λσ H Q ⟨O,W,R,p⟩=>?_
    obtain⟨⟨pp,ob,e0,e1,e2,e3⟩,u⟩:=R.od i _ hi
    exact⟨.ref pp,e1,O,W,R,p⟩
   | ok dk ck=>
    have h':dgpD ks vs dk=some re:=h
    unfold dgpD at h'
    split at h'
    ·rename_i a0 b0
     split at h'
     ·rename_i v0 hv0
      cases h'
      refine(C _ B).weak λσ H Q ⟨O,W,R,p⟩=>?_
      obtain⟨⟨pp,ob,e0,e1,e2,e3⟩,u⟩:=R.od i _ hi
      obtain⟨L,e0z,eo⟩:∃L,DV.tup [.dct ks vs]=.tup [oeD L]/\ob=.dT (oeK L):=by
       rcases e0 with⟨L,q,_⟩ | h
       ·cases q
       ·exact h
      subst eo
      obtain⟨ek1,ek2⟩:ks=L.map (λp=>kD p.1)/\vs=L.map (λp=>DV.int p.2):=DV.dct.inj (List.cons.inj (DV.tup.inj e0z)).1
      subst ek1 ek2
      refine⟨.ref pp,e1,O,W,R,λv2 H2 s2 g2=>?_⟩
      obtain⟨pk,ek1,ek2⟩:=z7f (g2.all (R.hid.mono s2))
      exact⟨pp,.int v0,rfl,.inr ⟨oeK L,_,pk,.inl (s2 _ _ e3),ek1,ek2,(z5o (k:=(a0,b0)) hv0).symm⟩,p _ H2 s2 q0F⟩
     ·cases h'
    ·cases h'
 ·cases h
end
end L2
end
noncomputable section
namespace L2
open PySem
def Kp(a:Addr)(h h':Heap):Prop:=∀b o,b≠a->h.get? b=some o->h'.get? b=some o
theorem Kp.of{a:Addr}{h h':Heap}(x:Heap.SameBut a h h'):Kp a h h':=λb o n e=>x.extBut b o n e
theorem Kp.trans{a:Addr}{h h' h'':Heap}(x:Kp a h h')(y:Kp a h' h''):Kp a h h'':=λb o n e=>y b o n (x b o n e)
theorem Kp.push{a:Addr}{h h':Heap}(x:Kp a h h')(o':Obj):Kp a h (h'.push o'):=λb o n e=>Heap.get?_push_of_some _ (x b o n e)
section
variable {prog:Program} {w:World} {A:Around} {E:Value->Shared->Prop} {s:Shared} {d it:Addr} {i ep:Nat} {od:Obj} {es:Array DictEntry} {ok ov:Value}
theorem q9o(hd:(d==sysModules)=false):MeetsIn prog w (Builtin.«dict.items» ⟨[.ref d],[]⟩) (λ_ R s=>s.TypeIs (.ref d) "dict" /\
  R (.ok (.ret (.ref s.heap.objs.size))) {s with heap:=s.heap.push {cls:=.type "dict_items",data:=.fields #[.ref d]}}):=.of_wp λA R s q=>by
 have no:¬((d==sysModules)=true):=by rw[hd];exact Bool.false_ne_true
 unfold Builtin.«dict.items» Builtin.Dict.noArgs Builtin.Dict.showsAll
 refine wpAny_bind (wpAny_bind (wpAny_notOrdered_dict q.1 (wpAny_pure ?_)))
 show wpAny _ _ ((if(d==sysModules)=true then _ else _) >>= _) _ _ s
 rw[if_neg no]
 exact wpAny_bind (wpAny_pure (wpAny_bind (wpAny_newObj_type (wpAny_pure ⟨_,rfl,q.2⟩))))
theorem q9J{v:Addr}{Q:Value->Shared->Prop}(hv:s.heap.IsItemsView v d)(ho:s.heap.get? d=some od)(hdat:od.data=.dict es ep)
  (q:Q (.ref s.heap.objs.size) {s with heap:=s.heap.push {cls:=.type "dict_itemiterator",data:=.fields #[.none,.bool false,.ref d,.int 0 0,.int es.size 0,.int ep 0,.none,.none]}}):wpAny (model prog w) A (pyIter (.ref v)) Q E s:=by
 obtain⟨_,h1,_,h2⟩:=id hv
 refine wpAny_pyIter_slot hv.typeIs F.slot_dict_items_iter (wpAny_call_entry F.slot_dict_items_iter hv.typeIs F.entry_dict_items_iter ?_ (F.args_dict_items_iter_1 _))
 unfold Builtin.«dict_items.__iter__» Builtin.Dict_items.dictOf Builtin.Dict_items.newIterator
 refine wpAny_bind (wpAny_pure (wpAny_bind (wpAny_bind (wpAny_field h1 h2 (x:=.ref d) rfl (wpAny_pure (wpAny_bind (wpAny_bind (wpAny_dictEntries ho hdat (wpAny_bind (wpAny_dictEpoch ho hdat ?_))))))))))
 rw[show Builtin.Dict_items.ownsTuple "dict_itemiterator" = true from by decide]
 exact wpAny_newObj_type (wpAny_pure ⟨_,rfl,"dict_itemiterator",_,⟨_,Heap.get?_push_size _ rfl,rfl⟩,F.slot_dict_itemiterator_next.lookup,q⟩) (by show(8:Nat)<=_;rw[sizeLine_eq];omega)
theorem q5A{Q:Option Value->Shared->Prop}(hh:A.handled=none)(hit:IsItemIter s.heap it d i es.size ep ok ov)(hod:s.heap.get? d=some od)(hdd:od.data=.dict es ep)
  (some_:∀en h',es[i]? = some en->IsItemIterOut h' it d (i+1) es.size ep en.key en.val s.heap.objs.size->h'.get? s.heap.objs.size=some {cls:=.type "tuple",data:=.seq #[en.key,en.val]} -> Kp it s.heap h'->Q (some (.ref s.heap.objs.size)) {s with heap:=h'})
  (none_:∀h',es[i]? = none->Kp it s.heap h'->Q none {s with heap:=h'}):wpAny (model prog w) A (pyNext (.ref it)) Q E s:=by
 have ty:∀{h:Heap} {j:Nat} {x y:Value},IsItemIter h it d j es.size ep x y->Shared.TypeIs {s with heap:=h} (.ref it) "dict_itemiterator":=λz=>⟨_,z,rfl⟩
 have ow:Builtin.Dict_items.ownsTuple "dict_itemiterator" = true:=by decide
 have nn:¬((Value.ref d==Value.none)=true):=Bool.false_ne_true
 unfold pyNext
 refine wpAny_bind (wpAny_attempt (wpAny_callSpecial?_slot (name:=Str.ofString "__next__") (ty hit) F.slot_dict_itemiterator_next (wpAny_call_entry F.slot_dict_itemiterator_next (ty hit) F.entry_dict_itemiterator_next ?_ (F.args_dict_itemiterator_next_1 _))))
 refine wpAny_bind (wpAny_pure (wpAny_bind (wpAny_bind (wpAny_bind (wpAny_typeNameOfWhole_itemiter (ty hit) (wpAny_pure (wpAny_bind (wpAny_fieldsOf hit rfl ?_))))))))
 simp only[ow,if_true]
 show wpAny _ _ (if(Value.ref d==Value.none)=true then _ else _) _ _ s
 rw[if_neg nn]
 refine wpAny_bind (wpAny_pure (wpAny_bind (wpAny_dictEntries hod hdd ?_)))
 rw[if_neg (by simp)]
 refine wpAny_bind (wpAny_pure (wpAny_bind (wpAny_dictEpoch hod hdd ?_)))
 rw[if_neg (by simp)]
 refine wpAny_pure ?_
 dsimp only
 rw[if_neg (show ¬((i:Int)<0) by omega),Int.toNat_natCast]
 cases hx:es[i]? with
 | none=>
  dsimp only
  refine wpAny_bind (wpAny_bind (wpAny_typeNameOfWhole_itemiter (ty hit) (wpAny_pure ?_)))
  simp only[ow,if_true]
  refine wpAny_bind (wpAny_setField_rec hit (by simp) λh1 z1 s1=>wpAny_bind ?_)
  unfold newExc newTuple
  refine wpAny_bind (wpAny_newObj_type (wpAny_bind (m:=firstArgMember _ _) (wpAny_of_eq (a:=Value.none) (by first | rfl | (simp only[firstArgMember];rfl)) (wpAny_newObj_type (wpAny_raiseNew_none hh (wpAny_bind (wpAny_isInstance (T:="StopIteration") (b:=true) ⟨_,Heap.get?_push_size _ rfl,rfl⟩ isSubtype_stop (wpAny_pure ?_)))) (by size_fits)))) (by size_fits))
  exact none_ _ hx (((Kp.of s1).push _).push _)
 | some en=>
  dsimp only
  refine wpAny_bind (wpAny_bind (wpAny_typeNameOfWhole_itemiter (ty hit) (wpAny_pure (wpAny_bind (wpAny_isOneOf_itemiter (ty hit) ?_)))))
  simp only[ow,if_true]
  refine wpAny_bind (wpAny_setField_rec hit (by simp) λh1 z1 s1=>?_)
  have e1:IsItemIter h1 it d (i+1) es.size ep ok ov:=by
   unfold IsItemIter
   rw[show((i+1:Nat):Int)=(i:Int)+1 by omega]
   exact z1
  refine wpAny_bind (wpAny_holding (wpAny_bind (wpAny_isOneOf_itemiter (ty e1) (wpAny_bind (wpAny_isOneOf_itemiter (ty e1) ?_)))))
  show wpAny _ _ (Builtin.Dict_items.pairFromOwner (.ref it) 6 en.key en.val) _ _ {s with heap:=h1}
  unfold Builtin.Dict_items.pairFromOwner Builtin.Dict_items.ownedTupleIsFree
  have sz:h1.objs.size=s.heap.objs.size:=s1.1
  have lt:it≠s.heap.objs.size:=Nat.ne_of_lt (Heap.lt_size hit)
  have e2:IsItemIter (h1.push {cls:=.type "tuple",data:=.seq #[en.key,en.val]}) it d (i+1) es.size ep ok ov:=Heap.get?_push_of_some _ e1
  have t2:(h1.push {cls:=.type "tuple",data:=.seq #[en.key,en.val]}).get? s.heap.objs.size=some {cls:=.type "tuple",data:=.seq #[en.key,en.val]}:=by rw[←sz];exact Heap.get?_push_size _ rfl
  refine wpAny_bind (wpAny_newTuple (wpAny_bind (wpAny_bind (wpAny_field e2 rfl (x:=.none) rfl (wpAny_pure ?_)))))
  simp only[if_true]
  refine wpAny_bind (wpAny_field e2 rfl (x:=ok) rfl (wpAny_bind (wpAny_field e2 rfl (x:=ov) rfl ?_)))
  refine wpAny_bind (wpAny_setField_rec e2 (by simp) λh3 z3 s3=>wpAny_bind (wpAny_setField_rec z3 (by simp) λh4 z4 s4=>wpAny_bind (wpAny_setField_rec z4 (by simp) λh5 z5 s5=>wpAny_bind (wpAny_setField_rec z5 (by simp) λh6 z6 s6=>?_))))
  have k6:Kp it (h1.push {cls:=.type "tuple",data:=.seq #[en.key,en.val]}) h6:=(((Kp.of s3).trans (.of s4)).trans (.of s5)).trans (.of s6)
  refine wpAny_bind (wpAny_letGo (wpAny_pure (wpAny_pure ⟨_,rfl,wpAny_pure ?_⟩)))
  rw[sz]at z6 ⊢
  exact some_ en h6 hx z6 (k6 _ _ (Ne.symm lt) t2) (((Kp.of s1).push _).trans k6)
end
end L2
end
noncomputable section
namespace L2
open PySem PySem.Spec PyProof.Rows
def ItI(a:Addr)(ob:Obj)(kvs:List (Key×V)):It:=
  ⟨λi H=>H a=some (.frz ob (.dK kvs))/\∃k v,kvs[i]? = some (.inl k,v),
   λi H x H'=>∃p k v,x=.ref p/\H p=none/\kvs[i]? = some (.inl k,v)/\H'=upd H p (.tup [.int k,v]),
   λi H=>H a=some (.frz ob (.dK kvs))/\kvs.length<=i⟩
theorem z8H{kvs:List (Key×V)}{vs:List (Key×Value)}(r:KV kvs vs):∀{i:Nat} {k:Key} {v:V},kvs[i]? = some (k,v)->∃u,vs[i]? = some (k,u)/\RelV v u:=by
 induction r with
 | nil=>intro i k v h;cases h
 | cons p t ih=>
  intro i k v h
  cases i with
  | zero=>
   obtain⟨p1,p2⟩:=p
   rename_i a b _ _
   obtain⟨a1,a2⟩:=a
   obtain⟨b1,b2⟩:=b
   cases h
   have p1':k=b1:=p1
   subst p1'
   exact⟨b2,rfl,p2⟩
  | succ i=>exact ih h
theorem z4T{P:Program}{w:World}{i:Int}{u:Value}(h:(q0N P w).is (.inl i) u=true):∃t,u=.int i t:=by
 have h':Value.isInt i u=true:=h
 cases u<;>simp[Value.isInt]at h'
 subst h'
 exact⟨_,rfl⟩
theorem z0D{X:Cx}{pins:List (Addr×Obj)}{σ:St}{H:Hp}{s:Shared}{a:Addr}{ob:Obj}{kvs:List (Key×V)}{es:Array DictEntry}{ep:Nat}(I:Inv X pins σ H s)(h:H a=some (.frz ob (.dK kvs)))(hd:ob.data=.dict es ep) :
  (a==sysModules)=false/\∃vs,KV kvs vs/\s.heap.DictAt (q0N X.prog X.w) a vs ep:=by
 obtain⟨z0,z1,z2,vs,z3,⟨o,es',ep',y1,y2,y3,y4⟩⟩:=(show q0V X.prog X.w H s.heap a (.frz ob (.dK kvs))from I.hok _ _ h)
 rw[z0]at y1
 cases y1
 rw[hd]at y3
 cases y3
 exact⟨z2,vs,z3,_,_,z0,y2,hd,y4⟩
theorem q9B{P:Program}{w:World}{K:PySem.W.Frag}{elts:List Expr}{k:Nat}{pos:Pos}{it a:Addr}{ob:Obj}{kvs:List (Key×V)}{es:Array DictEntry}{ep:Nat}(hd:ob.data=.dict es ep) :
  Turn P w K (.Tuple elts k pos) (ItI a ob kvs) [it] it (λi h=>∃ok ov,IsItemIter h it a i kvs.length ep ok ov) where
 mem:=by simp
 obj:=λi h st b hb=>by
  obtain⟨ok,ov,hn⟩:=st
  rw[List.mem_singleton]at hb
  subst hb
  exact⟨_,hn,λv q=>by cases q⟩
 keep:=λi h h' st q=>by
  obtain⟨ok,ov,hn⟩:=st
  exact⟨ok,ov,q it (by simp) _ hn⟩
 item:=by
  intro X hP hw hK hc i pins s σ H E I hf st hg
  subst hP hw hK
  obtain⟨ok,ov,hn⟩:=st
  obtain⟨hH,k0,v0,hx⟩:=hg
  obtain⟨z2,vs,z3,dd⟩:=z0D I hH hd
  obtain⟨u,hu,ru⟩:=z8H z3 hx
  have hl:kvs.length=vs.length:=z3.length
  rw[hl]at hn
  refine wpAny_pyNext_items_item hn dd hu λkey h' b1 b2 b3 b4 b5=>⟨_,rfl,?_⟩
  obtain⟨tk,rfl⟩:=z4T b1
  refine wpAny_letOwnedTupleGo_items b2 λh2 hn2 t2=>?_
  have hsz:s.heap.objs.size≠it:=Nat.ne_of_gt (Heap.lt_size hn)
  have keep:∀b o,b∉[it]->s.heap.get? b=some o->h2.get? b=some o:=λb o hb e=>t2.extBut _ _ (λq=>hb (by simp[q])) (b5 b o (λq=>hb (by simp[q])) e)
  have I1:Inv X pins σ H {s with heap:=h2}:=I.turnedL (t':=s.toks) keep hf
  have hn':H s.heap.objs.size=none:=I.hok.fresh (Nat.le_refl _)
  have f5:=I.fpOk (Nat.le_refl _) hn'
  have new:h2.get? s.heap.objs.size=some {cls:=.type "tuple",data:=.seq #[.int k0 tk,u]}:=t2.extBut _ _ hsz b3
  have h0:X.s₀.heap.get? s.heap.objs.size=none:=Heap.get?_none_of_le I.sz
  have I2:Inv X pins σ (upd H s.heap.objs.size (.tup [.int k0,v0])) {s with heap:=h2}:=I1.track hn' h0 f5.2.1 (λn c e=>f5.2.2.2.2.1 n c e) (λq hq=>f5.2.2.2.2.2 q hq)
   ⟨by show(2:Nat)<=sizeLine;decide,[.int k0 tk,u],.cons ⟨_,rfl⟩ (.cons ru .nil),_,new,⟨rfl,rfl⟩,_,rfl⟩
  refine⟨.ref s.heap.objs.size,_,I2,rfl,⟨_,k0,v0,rfl,hn',hx,rfl⟩,⟨_,_,by rw[hl];exact hn2⟩,λb hb=>?_⟩
  rw[List.mem_singleton]at hb
  subst hb
  rw[q0l (Ne.symm hsz)]
  exact(hf b (by simp)).1
 done:=by
  intro X hP hw hK hc i pins s σ H E I hf st hg
  subst hP hw hK
  obtain⟨ok,ov,hn⟩:=st
  obtain⟨hH,hx⟩:=hg
  obtain⟨z2,vs,z3,dd⟩:=z0D I hH hd
  have hl:kvs.length=vs.length:=z3.length
  rw[hl]at hn hx
  exact wpAny_pyNext_items_end (I.ok.hd hc) hn dd (List.getElem?_eq_none hx) λh' a=>⟨rfl,I.turnedL (t':=s.toks) (ch:=[it]) (λb o hb e=>a b o (λq=>hb (by simp[q])) e) hf⟩
 self:=λ_ _ _ _ _ st h=>by
  obtain⟨ok,ov,hn⟩:=st
  exact PySem.W.kcp_self hn h
theorem Wk.items{D:Dm}{L:List (Int×Int)}{Oc Oi:List Addr}{H1:Hp}{a:Addr}{ob:Obj}{kvs:List (Key×V)}(h:L2.wo Oc H1 a=some (.frz ob (.dK kvs)))(e:kvs=odK L):Wk D (ItI a ob kvs) (L.map λp=>.tup [.int p.1,.int p.2]) Oc Oi H1:=by
 subst e
 have hl:(odK L).length=L.length:=by unfold odK;rw[List.length_map]
 have at':∀(i:Nat),(odK L)[i]? = (L[i]?).map λp=>(Sum.inl p.1,V.int p.2):=λi=>by unfold odK;rw[List.getElem?_map]
 refine⟨λi H s hi=>?_,λi H x H' y=>?_,λi H x H' d O2 s s' y e ho=>?_,λH s=>?_⟩
 ·rw[List.length_map]at hi
  exact⟨q1d _ _ (s _ _ h),L[i].1,.int L[i].2,by rw[at',List.getElem?_eq_getElem hi];rfl⟩
 ·obtain⟨p,k,v,_,hp,_,e⟩:=y
  rw[e];exact q0p hp
 ·obtain⟨p,k,v,ex,hp,y1,eH⟩:=y
  rw[List.getElem?_map]at e
  rw[at']at y1
  cases hz:L[i]? with
  | none=>rw[hz]at e;cases e
  | some q=>
   rw[hz]at e y1
   cases e
   cases y1
   have hpo:p∉O2:=λz=>(ho p z).1 hp
   subst eH
   exact q0H.mpr ⟨p,_,ex,SqT.of (by rw[q0r hpo];exact q0t),q0j.mpr ⟨_,_,rfl,q0y.mpr rfl,RepL.one (q0y.mpr rfl)⟩⟩
 ·exact⟨q1d _ _ (s _ _ h),by rw[List.length_map,hl];exact Nat.le_refl _⟩
def ItP(a:Addr)(ob:Obj)(qs:List Addr)(kvs:List (List Key×V)):It:=
  ⟨λi H=>H a=some (.frz ob (.dT kvs))/\∃k v,kvs[i]? = some (k,v),
   λi H x H'=>∃p q k v,x=.ref p/\H p=none/\kvs[i]? = some (k,v)/\qs[i]? = some q/\H q=some (.tup (k.map kV))/\H'=upd H p (.tup [.ref q,v]),
   λi H=>H a=some (.frz ob (.dT kvs))/\kvs.length<=i⟩
theorem z7D{H:Hp}{kvs:List (List Key×V)}{xs:List (List Key×Addr×Value)}(r:KT H kvs xs):∀{i:Nat} {k:List Key} {v:V},kvs[i]? = some (k,v)->∃b u,xs[i]? = some (k,b,u)/\H b=some (.tup (k.map kV))/\RelV v u:=by
 induction r with
 | nil=>intro i k v h;cases h
 | cons p t ih=>
  intro i k v h
  cases i with
  | zero=>
   obtain⟨p1,p2,p3⟩:=p
   rename_i a b _ _
   obtain⟨a1,a2⟩:=a
   obtain⟨b1,b2,b3⟩:=b
   cases h
   have p1':k=b1:=p1
   subst p1'
   exact⟨b2,b3,rfl,p2,p3⟩
  | succ i=>exact ih h
theorem KT.length{H:Hp}{kvs:List (List Key×V)}{xs:List (List Key×Addr×Value)}(r:KT H kvs xs):kvs.length=xs.length:=by
 induction r with
 | nil=>rfl
 | cons _ _ ih=>rw[List.length_cons,List.length_cons,ih]
theorem q7K{X:Cx}{pins:List (Addr×Obj)}{σ:St}{H:Hp}{s:Shared}{a:Addr}{ob:Obj}{kvs:List (List Key×V)}{es:Array DictEntry}{ep:Nat}(I:Inv X pins σ H s)(h:H a=some (.frz ob (.dT kvs)))(hd:ob.data=.dict es ep) :
  s.heap.get? a=some ob/\(a==sysModules)=false/\ob.ExactDict/\∃xs,KT H kvs xs/\es.toList=xs.map (entryOfKey (tupleKind (q0N X.prog X.w))):=by
 obtain⟨z0,z1,z2,xs,z3,o,es',ep',y1,y2,y3,y4,y5⟩:=(show q0V X.prog X.w H s.heap a (.frz ob (.dT kvs))from I.hok _ _ h)
 rw[z0]at y1
 cases y1
 rw[hd]at y3
 cases y3
 exact⟨z0,z2,y2,xs,z3,y4⟩
def z1e(es:Array DictEntry)(qs:List Addr):Prop:=es.toList.map (·.key)=qs.map Value.ref
theorem q7V{P:Program}{w:World}{K:PySem.W.Frag}{elts:List Expr}{k:Nat}{pos:Pos}{it a:Addr}{ob:Obj}{qs:List Addr}{kvs:List (List Key×V)}{es:Array DictEntry}{ep:Nat}(hd:ob.data=.dict es ep)(hq:z1e es qs) :
  Turn P w K (.Tuple elts k pos) (ItP a ob qs kvs) [it] it (λi h=>∃ok ov,IsItemIter h it a i es.size ep ok ov) where
 mem:=by simp
 obj:=λi h st b hb=>by
  obtain⟨ok,ov,hn⟩:=st
  rw[List.mem_singleton]at hb
  subst hb
  exact⟨_,hn,λv q=>by cases q⟩
 keep:=λi h h' st q=>by
  obtain⟨ok,ov,hn⟩:=st
  exact⟨ok,ov,q it (by simp) _ hn⟩
 item:=by
  intro X hP hw hK hc i pins s σ H E I hf st hg
  subst hP hw hK
  obtain⟨ok,ov,hn⟩:=st
  obtain⟨hH,k0,v0,hx⟩:=hg
  obtain⟨z0,z2,z4,xs,z3,z5⟩:=q7K I hH hd
  obtain⟨b,u,hu,hb,ru⟩:=z7D z3 hx
  have he:es[i]? = some (entryOfKey (tupleKind (q0N X.prog X.w)) (k0,b,u)):=by rw[entry_at z5,hu];rfl
  have hqi:qs[i]? = some b:=by
   have h1:(es.toList.map (·.key))[i]? = some (.ref b):=by rw[List.getElem?_map,Array.getElem?_toList,he];rfl
   rw[hq,List.getElem?_map]at h1
   obtain⟨c,e1,e2⟩:=Option.map_eq_some_iff.mp h1
   cases e2
   exact e1
  refine q5A (I.ok.hd hc) hn z0 hd (λen h' hen b2 b3 b5=>?_) (λh' hno _=>by rw[he]at hno;cases hno)
  rw[he]at hen
  cases hen
  refine⟨_,rfl,?_⟩
  refine wpAny_letOwnedTupleGo_items b2 λh2 hn2 t2=>?_
  have hsz:s.heap.objs.size≠it:=Nat.ne_of_gt (Heap.lt_size hn)
  have keep:∀b o,b∉[it]->s.heap.get? b=some o->h2.get? b=some o:=λb o hb e=>t2.extBut _ _ (λq=>hb (by simp[q])) (b5 b o (λq=>hb (by simp[q])) e)
  have I1:Inv X pins σ H {s with heap:=h2}:=I.turnedL (t':=s.toks) keep hf
  have hn':H s.heap.objs.size=none:=I.hok.fresh (Nat.le_refl _)
  have f5:=I.fpOk (Nat.le_refl _) hn'
  have new:h2.get? s.heap.objs.size=some {cls:=.type "tuple",data:=.seq #[.ref b,u]}:=t2.extBut _ _ hsz b3
  have h0:X.s₀.heap.get? s.heap.objs.size=none:=Heap.get?_none_of_le I.sz
  have I2:Inv X pins σ (upd H s.heap.objs.size (.tup [.ref b,v0])) {s with heap:=h2}:=I1.track hn' h0 f5.2.1 (λn c e=>f5.2.2.2.2.1 n c e) (λq hq=>f5.2.2.2.2.2 q hq)
   ⟨by show(2:Nat)<=sizeLine;decide,[.ref b,u],.cons rfl (.cons ru .nil),_,new,⟨rfl,rfl⟩,_,rfl⟩
  refine⟨.ref s.heap.objs.size,_,I2,rfl,⟨_,b,k0,v0,rfl,hn',hx,hqi,hb,rfl⟩,⟨_,_,hn2⟩,λb hb=>?_⟩
  rw[List.mem_singleton]at hb
  subst hb
  rw[q0l (Ne.symm hsz)]
  exact(hf b (by simp)).1
 done:=by
  intro X hP hw hK hc i pins s σ H E I hf st hg
  subst hP hw hK
  obtain⟨ok,ov,hn⟩:=st
  obtain⟨hH,hx⟩:=hg
  obtain⟨z0,z2,z4,xs,z3,z5⟩:=q7K I hH hd
  have hl:es.size<=i:=by rw[size_of_entries z5,←z3.length];exact hx
  exact q5A (I.ok.hd hc) hn z0 hd (λen h' hen _ _ _=>by rw[Array.getElem?_eq_none hl]at hen;cases hen) λh' _ a=>⟨rfl,I.turnedL (t':=s.toks) (ch:=[it]) (λb o hb e=>a b o (λq=>hb (by simp[q])) e) hf⟩
 self:=λ_ _ _ _ _ st h=>by
  obtain⟨ok,ov,hn⟩:=st
  exact PySem.W.kcp_self hn h
theorem Wk.itemsP{D:Dm}{L:List ((Int×Int)×Int)}{Oc Oi:List Addr}{H1:Hp}{a:Addr}{ob:Obj}{qs:List Addr}{kvs:List (List Key×V)}(h:L2.wo Oc H1 a=some (.frz ob (.dT kvs)))(e:kvs=oeK L)(hq:∀q∈qs,∃ys,H1 q=some (.tup ys))(hO:Hdn Oi H1):Wk D (ItP a ob qs kvs) (L.map λp=>.tup [.tup [.int p.1.1,.int p.1.2],.int p.2]) Oc Oi H1:=by
 subst e
 have hl:(oeK L).length=L.length:=by unfold oeK;rw[List.length_map]
 have at':∀(i:Nat),(oeK L)[i]? = (L[i]?).map λp=>(kP p.1,V.int p.2):=λi=>by unfold oeK;rw[List.getElem?_map];rfl
 refine⟨λi H s hi=>?_,λi H x H' y=>?_,λi H x H' d O2 s s' y e ho=>?_,λH s=>?_⟩
 ·rw[List.length_map]at hi
  exact⟨q1d _ _ (s _ _ h),kP L[i].1,.int L[i].2,by rw[at',List.getElem?_eq_getElem hi];rfl⟩
 ·obtain⟨p,q,k,v,_,hp,_,_,_,e⟩:=y
  rw[e];exact q0p hp
 ·obtain⟨p,q,k,v,ex,hp,y1,y2,y3,eH⟩:=y
  rw[List.getElem?_map]at e
  rw[at']at y1
  cases hz:L[i]? with
  | none=>rw[hz]at e;cases e
  | some q'=>
   rw[hz]at e y1
   cases e
   cases y1
   have hpo:p∉O2:=λz=>(ho p z).1 hp
   have hqo:q∉O2:=λz=>by
    obtain⟨ys,w⟩:=hq q (List.mem_of_getElem? y2)
    rcases(ho q z).2 with u | u
    ·obtain⟨o,w2,m⟩:=hO q u
     rw[w]at w2;cases w2;cases m
    ·rw[w]at u;cases u
   subst eH
   have hqp:q≠p:=q0z y3 hp
   have r1:Rep D (L2.wo O2 (upd H p (.tup [.ref q,.int q'.2]))) (.tup [.int q'.1.1,.int q'.1.2]) (.ref q):=
    q0H.mpr ⟨q,_,rfl,SqT.of (by rw[q0r hqo,q0l hqp];exact y3),q0j.mpr ⟨_,_,rfl,q0y.mpr rfl,RepL.one (q0y.mpr rfl)⟩⟩
   exact q0H.mpr ⟨p,_,ex,SqT.of (by rw[q0r hpo];exact q0t),q0j.mpr ⟨_,_,rfl,r1,RepL.one (q0y.mpr rfl)⟩⟩
 ·exact⟨q1d _ _ (s _ _ h),by rw[List.length_map,hl];exact Nat.le_refl _⟩
section
variable {X:Cx} {E:St->XK} {δ:List Sv} {e:Expr} {elts:List Expr} {k:Nat} {tpos apos pos:Pos} {ra:Option Re} {ri:Ri}
theorem z3K{te:TE}(he:PE X e te)(hbase:attributeBase e "items" X.env (eval e X.env)=eval e X.env)(hline:(apos.endLine==pos.line)=true) :
  PI X (.Tuple elts k tpos) (.Call (.Attribute e "items" apos) [] [] pos) (λσ H R=>te σ H λx H1=>(∃a ob kvs,x=.ref a/\H1 a=some (.frz ob (.dK kvs))/\R (ItI a ob kvs) H1)\/∃a ob kvs,x=.ref a/\H1 a=some (.frz ob (.dT kvs))/\∀qs:List Addr,(∀q∈qs,∃ys,H1 q=some (.tup ys))->R (ItP a ob qs kvs) H1):=by
 intro pins s σ H R I h
 refine wpAny_Call_method0_late hbase hline (thn (he pins s σ H _ I h) λv s1 ⟨x,H1,I1,r1,hx⟩=>?_)
 rcases hx with⟨a,ob,kvs,e1,e2,q⟩ | ⟨a,ob,kvs,e1,e2,q⟩
 ·subst e1
  cases r1
  obtain⟨z0,z1,z2,vs0,z3,z4⟩:=(show q0V X.prog X.w H1 s1.heap a (.frz ob (.dK kvs))from I1.hok _ _ e2)
  obtain⟨o',es,ep,y1,y2,y3,y4⟩:=id z4
  have yo:o'=ob:=by rw[z0]at y1;cases y1;rfl
  subst yo
  refine⟨"dict","dict.items",PySem.F.plainAttrs_dict,PySem.F.slot_dict_items,PySem.F.type_dict_items,z4.typeIs,z4.mapOf.noDict,Calls.callWith_builtin rfl (PySem.evalArgs_none ?_)⟩
  refine call_meetsIn PySem.F.slot_dict_items z4.typeIs PySem.F.entry_dict_items (PySem.F.args_dict_items_1 _) (meets_dict_items (q0N X.prog X.w) a z2) ⟨⟨vs0,z4⟩,?_⟩
  have k1:∀b o,s1.heap.get? b=some o->(s1.heap.push {cls:=.type "dict_items",data:=.fields #[.ref a]}).get? b=some o:=λb o e=>Heap.get?_push_of_some _ e
  have I2:Inv X pins σ H1 {s1 with heap:=s1.heap.push {cls:=.type "dict_items",data:=.fields #[.ref a]}}:=I1.kept (t':=s1.toks) k1
  obtain⟨_,vs,w3,dd⟩:=z0D I2 e2 y3
  refine wpAny_pyIter_items (v:=s1.heap.objs.size) ⟨_,Heap.get?_push_size _ rfl,rfl,rfl⟩ dd ?_
  have hl:kvs.length=vs.length:=w3.length
  rw[←hl]
  refine⟨_,[_],_,ItI a o' kvs,H1,rfl,I2.kept (t':=s1.toks) λb o e=>Heap.get?_push_of_some _ e,q9B (elts:=elts) (k:=k) (pos:=tpos) y3,⟨.none,.none,Heap.get?_push_size _ rfl⟩,λc hc=>?_,q⟩
  rw[List.mem_singleton]at hc
  subst hc
  exact I2.fpOk (Nat.le_refl _) (I2.hok.fresh (Nat.le_refl _))
 ·subst e1
  cases r1
  obtain⟨o',es,ep,z5,z6⟩:∃o' es ep,s1.heap.get? a=some o'/\o'.data=.dict es ep:=by
   obtain⟨z0,z1,z2,xs,z3,o,es,ep,y1,y2,y3,y4⟩:=(show q0V X.prog X.w H1 s1.heap a (.frz ob (.dT kvs))from I1.hok _ _ e2)
   exact⟨o,es,ep,y1,y3⟩
  have yo:o'=ob:=by
   obtain⟨z0,_⟩:=(show q0V X.prog X.w H1 s1.heap a (.frz ob (.dT kvs))from I1.hok _ _ e2)
   rw[z0]at z5;cases z5;rfl
  subst yo
  obtain⟨z0,z2,z4,xs,z3,z7⟩:=q7K I1 e2 z6
  have tI:s1.TypeIs (.ref a) "dict":=⟨o',z0,z4.1⟩
  have nD:∀b,Value.ref a=.ref b->∃ob,s1.heap.get? b=some ob/\ob.dict=none:=λb q=>by cases q;exact⟨o',z0,z4.2.1⟩
  refine⟨"dict","dict.items",PySem.F.plainAttrs_dict,PySem.F.slot_dict_items,PySem.F.type_dict_items,tI,nD,Calls.callWith_builtin rfl (PySem.evalArgs_none ?_)⟩
  refine call_meetsIn PySem.F.slot_dict_items tI PySem.F.entry_dict_items (PySem.F.args_dict_items_1 _) (q9o z2) ⟨tI,?_⟩
  have k1:∀b o,s1.heap.get? b=some o->(s1.heap.push {cls:=.type "dict_items",data:=.fields #[.ref a]}).get? b=some o:=λb o e=>Heap.get?_push_of_some _ e
  have I2:Inv X pins σ H1 {s1 with heap:=s1.heap.push {cls:=.type "dict_items",data:=.fields #[.ref a]}}:=I1.kept (t':=s1.toks) k1
  refine q9J (v:=s1.heap.objs.size) ⟨_,Heap.get?_push_size _ rfl,rfl,rfl⟩ (k1 _ _ z0) z6 ?_
  have hqs:z1e es (xs.map (·.2.1)):=by
   unfold z1e
   rw[z7,List.map_map,List.map_map]
   rfl
  refine⟨_,[_],_,ItP a o' (xs.map (·.2.1)) kvs,H1,rfl,I2.kept (t':=s1.toks) λb o e=>Heap.get?_push_of_some _ e,q7V (elts:=elts) (k:=k) (pos:=tpos) z6 hqs,⟨.none,.none,Heap.get?_push_size _ rfl⟩,λc hc=>?_,q _ λb hb=>?_⟩
  ·rw[List.mem_singleton]at hc
   subst hc
   exact I2.fpOk (Nat.le_refl _) (I2.hok.fresh (Nat.le_refl _))
  ·obtain⟨y,hy,rfl⟩:=List.mem_map.mp hb
   have all:∀{l:List (List Key×V)} {m:List (List Key×Addr×Value)},KT H1 l m->∀x∈m,∃ys,H1 x.2.1=some (.tup ys):=by
    intro l m q
    induction q with
    | nil=>intro x hx;exact nomatch hx
    | cons p t ih=>
     intro x hx
     rcases List.mem_cons.mp hx with z | z
     ·rw[z];exact⟨_,p.2.1⟩
     ·exact ih x z
   exact all z3 y hy
theorem z4E:∀{ks:List DKey} {vs:List DV} {L:List (Int×Int)},kvs? ks vs=some L->∀{D:Dm} {H:Hp} {kv:List (Key×V)},kv.map (λp=>dKey p.1)=ks->RepL D H vs (kv.map (·.2))->kv=odK L
 | [],[],L,h,D,H,kv,e,r=>by cases h;cases kv with | nil=>rfl | cons _ _=>cases e
 | [],_::_,L,h,D,H,kv,e,r=>by cases h
 | .i k::ks,.int v::vs,L,h,D,H,kv,e,r=>by
  have h':(kvs? ks vs).map ((k,v) :: ·)=some L:=h
  obtain⟨L',h1,h2⟩:=Option.map_eq_some_iff.mp h'
  subst h2
  cases kv with
  | nil=>cases e
  | cons p kv=>
   obtain⟨k1,v1⟩:=p
   obtain⟨w,ws,e1,e2,e3⟩:=q0j.mp r
   cases e1
   have e':=List.cons.inj e
   have hk:k1=.inl k:=by
    cases k1 with
    | inl j=>cases e'.1;rfl
    | inr j=>cases e'.1
   rw[z4E h1 e'.2 e3,hk,show v1=.int v from q0y.mp e2]
   rfl
 | .i _::_,[],L,h,D,H,kv,e,r=>by cases h
 | .s _::_,_,L,h,D,H,kv,e,r=>by cases h
 | .t _::_,_,L,h,D,H,kv,e,r=>by cases h
 | .i _::_,.non::_,L,h,D,H,kv,e,r=>by cases h
 | .i _::_,.bl _::_,L,h,D,H,kv,e,r=>by cases h
 | .i _::_,.str _::_,L,h,D,H,kv,e,r=>by cases h
 | .i _::_,.tup _::_,L,h,D,H,kv,e,r=>by cases h
 | .i _::_,.lst _::_,L,h,D,H,kv,e,r=>by cases h
 | .i _::_,.dct _ _::_,L,h,D,H,kv,e,r=>by cases h
 | .i _::_,.exc _::_,L,h,D,H,kv,e,r=>by cases h
 | .i _::_,.fn _::_,L,h,D,H,kv,e,r=>by cases h
 | .i _::_,.scr _::_,L,h,D,H,kv,e,r=>by cases h
theorem y0Q{ks:List DKey}{vs:List DV}{L:List (Int×Int)}(h:kvs? ks vs=some L){kv:List (List Key×V)}(e:kv.map (λp=>DKey.t p.1)=ks):L=[]/\kv=[]:=by
 cases kv with
 | nil=>
  subst e
  cases vs with
  | nil=>cases h;exact⟨rfl,rfl⟩
  | cons _ _=>cases h
 | cons p kv=>
  subst e
  cases vs<;>cases h
theorem y1k{ks:List DKey}{vs:List DV}{L:List ((Int×Int)×Int)}(h:kvp? ks vs=some L){kv:List (Key×V)}(e:kv.map (λp=>dKey p.1)=ks):L=[]/\kv=[]:=by
 cases kv with
 | nil=>
  subst e
  cases vs with
  | nil=>cases h;exact⟨rfl,rfl⟩
  | cons _ _=>cases h
 | cons p kv=>
  subst e
  obtain⟨k,v⟩:=p
  cases k<;>cases vs<;>cases h
theorem z8R:∀{ks:List DKey} {vs:List DV} {L:List ((Int×Int)×Int)},kvp? ks vs=some L->∀{D:Dm} {H:Hp} {kv:List (List Key×V)},kv.map (λp=>DKey.t p.1)=ks->RepL D H vs (kv.map (·.2))->kv=oeK L:=by
 intro ks
 induction ks with
 | nil=>
  intro vs L h D H kv e r
  cases kv with
  | nil=>cases vs with
   | nil=>cases h;rfl
   | cons _ _=>cases h
  | cons _ _=>cases e
 | cons k0 ks ih=>
  intro vs L h D H kv e r
  unfold kvp? at h
  split at h
  ·exact absurd (by assumption:k0::ks=[]) (List.cons_ne_nil _ _)
  ·rename_i a b ks' v vs' q
   cases q
   obtain⟨L',h1,h2⟩:=Option.map_eq_some_iff.mp h
   subst h2
   cases kv with
   | nil=>cases e
   | cons p kv=>
    obtain⟨k1,v1⟩:=p
    obtain⟨w,ws,e1,e2,e3⟩:=q0j.mp r
    cases e1
    have e':=List.cons.inj e
    rw[ih h1 e'.2 e3,show k1=[.inl a,.inl b]from DKey.t.inj e'.1,show v1=.int v from q0y.mp e2]
    rfl
  ·cases h
theorem z5G(hbase:attributeBase e "items" X.env (eval e X.env)=eval e X.env)(hline:(apos.endLine==pos.line)=true)(ha:∀q,ra=some q->PE X e (dE X.D E δ q))
  (h:q0L (Re.thn ra λx c=>itmD x c)=some ri):PI X (.Tuple elts k tpos) (.Call (.Attribute e "items" apos) [] [] pos) (dI X.D E δ ri):=by
 have C:=λta (hA:PE X e ta)=>z3K (elts:=elts) (k:=k) (tpos:=tpos) (apos:=apos) (pos:=pos) hA hbase hline
 cases hra:ra with
 | none=>rw[hra]at h;cases h
 | some q=>
  rw[hra]at h
  have A:=ha q hra
  cases q with
  | ex c=>cases h;exact(C _ A).weak λσ H R' ⟨O,W,R,p⟩=>⟨O,W,R,p⟩
  | ok dx cx=>
   have h':q0L (itmD dx cx)=some ri:=h
   unfold itmD at h'
   split at h'
   ·rename_i ks vs
    split at h'
    ·rename_i hcx
     subst hcx
     split at h'
     ·rename_i L hk
      cases h'
      exact(C _ A).weak λσ H R' ⟨O,W,R,p⟩=>⟨O,W,R,λx H1 s1 g1=>by
       rcases q3j.mp (show Rep X.D (L2.wo (O++W) H1) (.dct ks vs) x from g1)with⟨a,ob,kvs,e1,e2,e3,e4⟩ | ⟨a,ob,kvs,e1,e2,e3,e4⟩
       ·exact .inl ⟨a,ob,kvs,e1,q1d _ _ e2,p _ H1 s1 (.items e2 (z4E hk e3 e4))⟩
       ·obtain⟨rfl,rfl⟩:=y0Q hk e3
        exact .inr ⟨a,ob,[],e1,q1d _ _ e2,λqs hq=>p _ H1 s1 (Wk.itemsP (L:=[]) e2 rfl hq (R.hid.mono s1).hdA)⟩⟩
     ·rename_i hk0
      cases hk:kvp? ks vs with
      | none=>rw[hk]at h';cases h'
      | some L=>
       rw[hk]at h'
       cases h'
       exact(C _ A).weak λσ H R' ⟨O,W,R,p⟩=>⟨O,W,R,λx H1 s1 g1=>by
        rcases q3j.mp (show Rep X.D (L2.wo (O++W) H1) (.dct ks vs) x from g1)with⟨a,ob,kvs,e1,e2,e3,e4⟩ | ⟨a,ob,kvs,e1,e2,e3,e4⟩
        ·obtain⟨rfl,rfl⟩:=y1k hk e3
         have hvs:vs=[]:=List.length_eq_zero_iff.mp (by have:=e4.length;simpa using this.symm)
         subst hvs
         subst e3
         cases hk0
        ·exact .inr ⟨a,ob,kvs,e1,q1d _ _ e2,λqs hq=>p _ H1 s1 (Wk.itemsP e2 (z8R hk e3 e4) hq (R.hid.mono s1).hdA)⟩⟩
    ·cases h'
   ·cases h'
end
end L2
end
noncomputable section
namespace L2
open PySem PySem.Spec PyProof.Rows
section
variable {X:Cx} {CX:CXT} {k:Nat} {f:Addr} {fd:FuncData} {ps ks:List Str} {sp:Sp} {E:St->XK} {x:Str} {p pos:Pos} {e:Expr} {es:List Expr} {kws:List Keyword} {t tk:TA} {g:List Value->List Value->List Value} {gV:List V->List V->List V}
end
section
variable {X:Cx} {E:St->XK} {δ:List Sv} {re:Re} {rs:Option Rs}
end
section
variable {X:Cx} {E:St->XK} {δ:List Sv} {e:Expr} {es:List Expr} {pos p:Pos} {re:Re} {rs rs':Option Rs} {k:Nat} {fa:Addr} {fd:FuncData} {ps:List Str} {x:Str}
def q4d{α:Type}(n:Nat)(us ws:List α):List α:=if us.length+1=n/\ws.length=1 then us++ws else[]
theorem z1Y{n:Nat}{vs zs:List V}{us ws:List Value}(r:Vals vs us)(q:Vals zs ws):Vals (q4d n vs zs) (q4d n us ws):=by
 unfold q4d
 rw[r.length,q.length]
 split
 ·exact r.append q
 ·exact .nil
end
end L2
end
noncomputable section
namespace L2
open PySem PySem.Spec PyProof.Rows
def z7R(K:PySem.W.Frag)(C:Addr):Prop:=∃B newId initId bmB,ExcBaseFacts B newId initId bmB/\PySem.W.excIn K C bmB newId=true
structure XOne(K:PySem.W.Frag)(mg:Str->Option Value)(G:Gs)(cl:List Str)(c:Str)(C:Addr):Prop where
 mc:mg c=some (.ref C)
 ck:ClsK K C
 rk:z7R K C
 own:∀t∈cl,∀Ct,mg t=some (.ref Ct)->PySem.W.kitOne K (.ref C) (.ref Ct)=some (q3i G c t)/\(q3i G c t=true->PySem.W.exmOne K (.ref C) (.ref Ct)=some true)
 blt:PySem.W.kitOne K (.ref C) (.type "ValueError")=some (q3i G c "ValueError")
structure XFacts(K:PySem.W.Frag)(mg:Str->Option Value)(G:Gs)(cl:List Str):Prop where
 one:∀c,(G.cls.lookup c).isSome=true->∃C,XOne K mg G cl c C
 all:∀t∈cl,∃Ct,mg t=some (.ref Ct)
section
variable {X:Cx} {E:St->XK} {δ:List Sv} {e:Expr} {pos p p':Pos} {re:Re} {ra:Option Re} {G:Gs} {cl:List Str} {t:Str} {o:Out}
theorem z2o{c:Str}{np cpos:Pos}(F:XFacts X.K X.mg G cl)(hc:X.calm=true)(hg:Gl X c)(hd:(c==("__debug__" : Str))=false)(hR:q4o X E)(ha:∀q,ra=some q->PE X e (dE X.D E δ q))(hs:q0s e=false)
  (h:(if(G.cls.lookup c).isSome then Re.thnS δ ra λ_ _=>some (.ex c δ)else none)=some o):PS X (.Raise (some (.Call (.Name c np) [e] [] cpos)) none pos) (dS X.D E δ o):=by
 split at h
 ·rename_i hc'
  obtain⟨C,x⟩:=F.one c hc'
  obtain⟨B,newId,initId,bmB,FB,hx⟩:=x.rk
  cases hra:ra with
  | none=>rw[hra]at h;cases h
  | some q=>
   rw[hra]at h
   have A:=ha q hra
   have P:=z3C (np:=np) (cpos:=cpos) (pos:=pos) FB hc hg x.mc hx hR (q1n A q3X (q0q hs)) hd (q0q hs) rfl
   cases q with
   | ex c2=>cases h;exact P.weak λDn σ H ⟨H0,O,W,R,fr,fo,sm,k⟩=>⟨O,W,R,q4H R fr sm k⟩
   | ok d dc=>cases h;exact P.weak λDn σ H ⟨H0,O,W,R,fr,fo,sm,k⟩=>⟨O,W,R,λv H1 s1 g=>⟨by show 1<=sizeLine;decide,k σ H1 W _ x.mc (R.mono s1) fr (sm.trans s1)⟩⟩
 ·cases h
end
end L2
end
noncomputable section
namespace L2
open PySem PySem.Spec PyProof.Rows
def z0O(K:PySem.W.Frag)(w:World)(mg:Str->Option Value)(x:Str)(kvs:List (Str×Str)):Prop:=
 ∃a es n,mg x=some (.ref a)/\K.lookup a=some ⟨.type "dict",none,.dict es n,#[]⟩/\PySem.W.KeysLit w.params es.toList/\∀k v,kvs.lookup k=some v->v.length<=sizeLine/\∃t,PySem.W.nsIn K a k=some (some (.str v t))
def DK(K:PySem.W.Frag)(D:Dm)(G:Gs)(f:Nat)(fd:FuncData)(ps:List Str):Prop:=
 (∀ds,G.dfl.lookup f=some ds->∃us dvs,q2J K fd ps us/\Vals dvs us/\∀H,RepL D H ds dvs)/\∀n,G.kws.lookup f=some n->KBinds K fd ps [n] (q4d ps.length) (q4d ps.length)
structure Good(sg:Sg)(G:Gs)(F:Nat->List DV->Option Ou)(X:Cx)(E:St->XK):Prop where
 N:X.N=sg.N
 nd:X.N.Nodup
 vis:∀x,visB sg x=true->Vis X.env.scope x
 glo:∀x,gloB sg x=true->Gl X x
 loc:∀x,locB sg x=true->Loc X.env.scope x/\(X.fn x=true\/X.env.scope.names.lookup x=some .local)
 lcl:∀x,sg.sc.lookup x=some .local->X.env.scope.names.lookup x=some .local
 cel:∀x,(sg.sc.lookup x=some .cell\/sg.sc.lookup x=some .free)->X.env.scope.names.lookup x=some .cell\/X.env.scope.names.lookup x=some .free
 calm:X.calm=true
 hu:X.A.units+64<cLine
 fns:∀f x,sg.fn[f]? = some x->∃k fa fd ps,Room k X.A/\X.mg x=some (.ref fa)/\PySem.W.keepIn X.K (.ref fa)=true/\q2J X.K fd ps []/\(∀ds o,F f ds=some o->ds.length=ps.length) /\
  FnOk X.prog X.w X.K X.mg X.base (CXx X.prog X.w X.base) k fa fd ps (spF X.D ps.length (F f))/\DK X.K X.D G f fd ps
 blt:∀x∈sg.bl,X.mg x=none
 pas:q3r (CXx X.prog X.w X.base) X E
 con:∀x d,G.con.lookup x=some d->∃u v,X.mg x=some u/\RelV v u/\∀H,Rep X.D H d v
 own:sg.lp=true->PassesOwn (model X.prog X.w) X.A X.env X.xe
 xf:XFacts X.K X.mg G sg.cl
 st:sg.top=true->X.stack=X.env::X.outer/\X.env.frame=some X.env.locals/\X.ex=[]/\q4o X E
 dcs:∀x kvs,G.dcs.lookup x=some kvs->z0O X.K X.w X.mg x kvs
 hun:G.hun=true->∃k fa fd ps hf,Room k X.A/\X.mg q1b=some (.ref fa)/\PySem.W.keepIn X.K (.ref fa)=true/\q2J X.K fd ps []/\(∀d l,F q5F [d,.lst l]=(hf d l).map λr=>.v r.1 false)/\FnOk X.prog X.w X.K X.mg X.base (CXx X.prog X.w X.base) k fa fd ps (spH X.D hf)
theorem q2h:∀{l:List Str},q4U l=true->l.Nodup
 | [],_=>List.nodup_nil
 | x::r,h=>by
  unfold q4U at h
  rw[Bool.and_eq_true]at h
  refine List.nodup_cons.mpr ⟨λz=>?_,q2h h.2⟩
  have:=h.1
  rw[List.contains_iff_mem.mpr z]at this
  cases this
section
variable {sg:Sg} {G:Gs} {F:Nat->List DV->Option Ou} {X:Cx} {E:St->XK} {tg:Tg} {sc:Scope} {N':List Str} {fr:List (Option Nat)}
theorem q1O(g:Good sg G F X E)(h:q3t sg N' fr sc tg=true):CompScope X.N N' sc X.env.scope fr/\(∀(j k i:Nat),fr[j]? = some (some i)->fr[k]? = some (some i)->j=k)/\∀i∈q3m tg,fr[i]? = some none:=by
 unfold q3t at h
 simp only[Bool.and_eq_true,List.all_eq_true,beq_iff_eq]at h
 obtain⟨⟨⟨⟨⟨⟨h0,h1⟩,h2⟩,h3⟩,h4⟩,h5⟩,h6⟩:=h
 have h5':∀(j i:Nat),fr[j]? = some (some i)->∃x,N'[j]? = some x/\sg.N[i]? = some x/\(x,NameKind.free)∈sc.names:=λj i e=>by
  have hj:j<fr.length:=(List.getElem?_eq_some_iff.mp e).1
  have hj':j<N'.length:=by rw[←h4];exact hj
  have hz:(some i,N'[j])∈fr.zip N':=by
   refine List.mem_of_getElem? (i:=j) ?_
   rw[List.getElem?_zip_eq_some]
   exact⟨e,List.getElem?_eq_getElem hj'⟩
  have q:=h5 _ hz
  simp only[Bool.and_eq_true,beq_iff_eq,List.contains_iff_mem]at q
  exact⟨_,List.getElem?_eq_getElem hj',q.1,q.2⟩
 refine⟨⟨h1,q2h h2,q2h h3,h4,λj i e=>?_,λy hy hk=>?_⟩,λj k i e1 e2=>?_,h0⟩
 ·obtain⟨x,a,b,c⟩:=h5' j i e
  exact⟨x,a,by rw[g.N];exact b,c⟩
 ·have q:=h6 y hy
  rw[if_pos hk]at q
  simp only[Bool.or_eq_true,beq_iff_eq]at q
  exact g.cel _ q
 ·obtain⟨x,a,b,_⟩:=h5' j i e1
  obtain⟨x',a',b',_⟩:=h5' k i e2
  rw[b]at b';cases b'
  exact q6b (q2h h2) a a'
theorem q1J(g:Good sg G F X E)(h:q3t sg N' fr sc tg=true)(C:Addr)(cells:List (Str×Addr))(s₂:Shared)(H₂:Hp)(fp:List Addr):Good ⟨N',sc.names,sg.fn,sg.bl,sg.cl,false,true⟩ G F (q0B X sc N' C cells s₂ H₂ fp) E0s:=by
 obtain⟨S,_,_⟩:=q1O g h
 have look:∀x,(q0B X sc N' C cells s₂ H₂ fp).env.scope.names.lookup x=(sc.names.lookup x).map λk=>if(k==NameKind.free&&X.env.scope.kind == .function&&X.env.kindOf x==some .cell)=true then NameKind.cell else k:=λx=>q2d
 have one:∀x k,sc.names.lookup x=some k->k ≠ .free->(q0B X sc N' C cells s₂ H₂ fp).env.scope.names.lookup x=some k:=λx k e hk=>by
  rw[look,e,Option.map_some,if_neg]
  intro z
  simp only[Bool.and_eq_true,beq_iff_eq]at z
  exact hk z.1.1
 have two:∀x,sc.names.lookup x=some .free->(q0B X sc N' C cells s₂ H₂ fp).env.scope.names.lookup x=some .cell\/(q0B X sc N' C cells s₂ H₂ fp).env.scope.names.lookup x=some .free:=λx e=>by
  rw[look,e,Option.map_some]
  split
  ·exact .inl rfl
  ·exact .inr rfl
 refine⟨rfl,S.nd,λx hx=>?_,λx hx=>?_,λx hx=>?_,λx hx=>one x _ hx (by intro z;cases z),λx hx=>?_,g.calm,g.hu,g.fns,g.blt,?_,g.con,λ_=>.never,g.xf,(λz=>nomatch z),g.dcs,g.hun⟩
 ·unfold visB at hx
  simp only[Bool.or_eq_true,beq_iff_eq]at hx
  rcases hx with(hx | hx) | hx
  ·exact .inl (one x _ hx (by intro z;cases z))
  ·exact .inr (.inl (one x _ hx (by intro z;cases z)))
  ·exact .inr (two x hx)
 ·unfold gloB at hx
  rw[beq_iff_eq]at hx
  exact one x _ hx (by intro z;cases z)
 ·unfold locB at hx
  simp only[Bool.or_eq_true,beq_iff_eq]at hx
  rcases hx with hx | hx
  ·exact⟨.inl (one x _ hx (by intro z;cases z)),.inr (one x _ hx (by intro z;cases z))⟩
  ·exact⟨.inr (one x _ hx (by intro z;cases z)),.inl (by show(sc.names.lookup x==some .cell)=true;rw[hx];rfl)⟩
 ·rcases hx with hx | hx
  ·exact .inl (one x _ hx (by intro z;cases z))
  ·exact two x hx
 ·intro pins σ H s e s' I z
  obtain⟨_,_,_,_,_,_,_,_,_,_,q⟩:=z
  exact q.elim
theorem q2E(g:Good sg G F X E){i:Nat}{x:Str}(h:q4e sg i x=true):X.N[i]? = some x/\Vis X.env.scope x/\(x==("__debug__" : Str))=false/\(x==("__classdict__" : Str))=false:=by
 unfold q4e at h
 simp only[Bool.and_eq_true,beq_iff_eq,bne_iff_ne,ne_eq]at h
 obtain⟨⟨⟨h1,h2⟩,h3⟩,h4⟩:=h
 exact⟨by rw[g.N];exact h1,g.vis x h2,beq_eq_false_iff_ne.mpr h3,beq_eq_false_iff_ne.mpr h4⟩
theorem q8p(g:Good sg G F X E){x:Str}{f:Expr}(h:bltB sg x f=true):(∃p,f=.Name x p)/\Gl X x/\X.mg x=none:=by
 unfold bltB at h
 simp only[Bool.and_eq_true,beq_iff_eq,List.contains_iff_mem]at h
 obtain⟨⟨h1,h2⟩,h3⟩:=h
 exact⟨q0m h1,g.glo x h2,g.blt x h3⟩
theorem q7i(g:Good sg G F X E):∀(is:List Nat) (es:List Expr),es.length=is.length->((is.zip es).all λp=>match q0I p.2 with | some x=>sg.N[p.1]? == some x&&locB sg x | none=>false)=true ->
  PGs X es (q8X is)/\(assignEach es X.env).length=is.length/\(assignEach es X.env).findIdx? (·.1)=none
 | [],[],_,_=>⟨z6W,rfl,rfl⟩
 | [],_::_,h,_=>by cases h
 | _::_,[],h,_=>by cases h
 | i::is,e::es,hl,h=>by
  rw[List.zip_cons_cons,List.all_cons,Bool.and_eq_true]at h
  obtain⟨h1,h2⟩:=h
  obtain⟨A,B,C⟩:=q7i g is es (by simpa using hl) h2
  split at h1
  ·rename_i x q
   obtain⟨p,rfl⟩:=q0m q
   simp only[Bool.and_eq_true,beq_iff_eq]at h1
   have l:=g.loc x h1.2
   refine⟨z3D (z0x g.nd (by rw[g.N];exact h1.1) l.1 l.2) A rfl,?_,?_⟩
   ·show(assignEach es X.env).length+1=is.length+1
    rw[B]
   ·show((false,assign (.Name x p) X.env)::assignEach es X.env).findIdx? (·.1)=none
    rw[List.findIdx?_cons,C];rfl
  ·cases h1
theorem z0r(g:Good sg G F X E){tgE:Expr}(h:tgOk sg tg tgE=true):PG X tgE (gT X.K tg):=by
 cases tg with
 | one i=>
  unfold tgOk at h
  dsimp only at h
  split at h
  ·rename_i x q
   obtain⟨p,rfl⟩:=q0m q
   simp only[Bool.and_eq_true,beq_iff_eq]at h
   have l:=g.loc x h.2
   exact z0x g.nd (by rw[g.N];exact h.1) l.1 l.2
  ·cases h
 | many is=>
  unfold tgOk at h
  dsimp only at h
  split at h
  ·rename_i es q
   obtain⟨k,p,rfl⟩:=q2L q
   rw[Bool.and_eq_true,Bool.and_eq_true,beq_iff_eq]at h
   obtain⟨A,B,C⟩:=q7i g is es h.1.1 h.2
   exact z8n g.calm A B C
  ·cases h
end
section
variable (G:Gs) (F:Nat->List DV->Option Ou)
def SE(m:ME):Prop:=∀{sg:Sg} {X:Cx} {E:St->XK} {e:Expr} {δ:List Sv} {r:Re},Good sg G F X E->corE sg false m e=true->evE G F m δ=some r->PE X e (dE X.D E δ r)
def ST(m:ME):Prop:=∀{sg:Sg} {X:Cx} {E:St->XK} {e:Expr} {δ:List Sv} {r:Rt},Good sg G F X E->corE sg false m e=true->tstD (evE G F m δ)=some r->PT X e (dT X.D E δ r)
def SI(m:ME):Prop:=∀{sg:Sg} {X:Cx} {E:St->XK} {e tg:Expr} {δ:List Sv} {r:Ri},Good sg G F X E->corE sg true m e=true->(isZp m=true->(q3l tg).isSome=true)->q0L (evE G F m δ)=some r->PI X tg e (dI X.D E δ r)
def SEs(ms:List ME):Prop:=∀{sg:Sg} {X:Cx} {E:St->XK} {es:List Expr} {δ:List Sv} {r:Rs},Good sg G F X E->q0Y sg ms es=true->evEs G F ms δ=some r->PA X es (dA X.D E δ r)
def SAnd(ms:List ME):Prop:=∀{sg:Sg} {X:Cx} {E:St->XK} {es:List Expr} {δ:List Sv} {pos:Pos},Good sg G F X E->q0Y sg ms es=true ->
 (∀r,q2C G F ms δ=some r->PE X (.BoolOp .And es pos) (dE X.D E δ r))/\(∀r,tstD (q2C G F ms δ)=some r->PW X (.BoolOp .And es pos) (dT X.D E δ r))
def SOr(ms:List ME):Prop:=∀{sg:Sg} {X:Cx} {E:St->XK} {es:List Expr} {δ:List Sv} {pos:Pos},Good sg G F X E->q0Y sg ms es=true ->
 (∀r,evOr G F ms δ=some r->PE X (.BoolOp .Or es pos) (dE X.D E δ r))/\(∀r,tstD (evOr G F ms δ)=some r->PW X (.BoolOp .Or es pos) (dT X.D E δ r))
def S1(m:ME):Prop:=SE G F m/\ST G F m/\SI G F m
end
section
variable {G:Gs} {F:Nat->List DV->Option Ou}
theorem S1.of{m:ME}(h:SE G F m)(hw:∀sg e,corE sg true m e=corE sg false m e)(ht:∀sg e env,corE sg false m e=true->∀whole,isTrue e env whole=(do let v ←whole;standAt e.pos;holding [v] (truthy v))):S1 G F m:=
 ⟨h,λ{sg X E e δ r} g hc q=>z1m (λz hz=>h g hc hz) (ht sg e X.env hc) q,λ{sg X E e tg δ r} g hc _ q=>q8A (λz hz=>h g (by rw[←hw];exact hc) hz) q⟩
theorem S1.of2{m:ME}(h:SE G F m)(ht:ST G F m)(hw:∀sg e,corE sg true m e=corE sg false m e):S1 G F m:=
 ⟨h,ht,λ{sg X E e tg δ r} g hc _ q=>q8A (λz hz=>h g (by rw[←hw];exact hc) hz) q⟩
end
end L2
end
noncomputable section
namespace L2
open PySem PySem.Spec PyProof.Rows
def z7X:Expr->Bool
 | .UnaryOp .Not _ _=>false | .BoolOp _ _ _=>false | .IfExp _ _ _ _=>false | .Compare _ _ _ _=>false
 | _=>true
theorem q0g{e:Expr}(h:z7X e=true)(env:Env):∀whole,isTrue e env whole=(do let v ←whole;standAt e.pos;holding [v] (truthy v)):=by
 cases e with
 | UnaryOp o a p=>cases o<;>first | (intro _;rfl) | cases h
 | BoolOp _ _ _=>cases h
 | IfExp _ _ _ _=>cases h
 | Compare _ _ _ _=>cases h
 | _=>intro _;rfl
section
variable {G:Gs} {F:Nat->List DV->Option Ou} {a b c:ME}
theorem y0a{i:Nat}:S1 G F (.var i):=by
 refine .of (λ{sg X E e δ r} g hc h=>?_) (λ_ _=>rfl) (λsg e env hc=>?_)
 ·unfold corE at hc
  split at hc
  ·rename_i x q
   obtain⟨p,rfl⟩:=q0m q
   obtain⟨h1,h2,h3,h4⟩:=q2E g hc
   exact z6H h1 h2 h3 h4 (by unfold evE at h;exact h)
  ·cases hc
 ·unfold corE at hc
  split at hc
  ·rename_i x q
   obtain⟨p,rfl⟩:=q0m q
   exact q0g rfl env
  ·cases hc
theorem q5X{m:ME}{k:Const}{d:DV}(hm:∀sg w e,corE sg w m e=true->q3o e=some k)(he:∀δ,evE G F m δ=some (.ok d .strong))(hw:∀sg e,corE sg true m e=corE sg false m e)
  (hp:∀{X:Cx} {E:St->XK} {δ:List Sv} {j:Nat} {pos:Pos} sg e,corE sg false m e=true->PE X (.Constant k j pos) (dE X.D E δ (.ok d .strong))):S1 G F m:=by
 refine .of (λ{sg X E e δ r} g hc h=>?_) hw (λsg e env hc=>?_)
 ·obtain⟨j,p,rfl⟩:=q5v (hm sg false e hc)
  rw[he]at h;cases h
  exact hp sg _ hc
 ·obtain⟨j,p,rfl⟩:=q5v (hm sg false e hc)
  exact q0g rfl env
theorem y0E{i:Int}:S1 G F (.int i):=q5X (λsg w e h=>by unfold corE at h;exact beq_iff_eq.mp h) (λδ=>by unfold evE;rfl) (λ_ _=>rfl) λ_ _ _=>z5B
theorem s_bl{i:Bool}:S1 G F (.bl i):=q5X (λsg w e h=>by unfold corE at h;exact beq_iff_eq.mp h) (λδ=>by unfold evE;rfl) (λ_ _=>rfl) λ_ _ _=>z8C
theorem z9Y:S1 G F .non:=q5X (λsg w e h=>by unfold corE at h;exact beq_iff_eq.mp h) (λδ=>by unfold evE;rfl) (λ_ _=>rfl) λ_ _ _=>z5p
theorem y0W{i:Str}:S1 G F (.str i):=q5X (λsg w e h=>by unfold corE at h;rw[Bool.and_eq_true]at h;exact beq_iff_eq.mp h.1) (λδ=>by unfold evE;rfl) (λ_ _=>rfl) λ_ _ h=>by
 unfold corE at h
 rw[Bool.and_eq_true,decide_eq_true_eq]at h
 exact z6L (Nat.le_trans h.2 (by decide))
theorem y0y{x:Str}:S1 G F (.glb x):=by
 refine .of (λ{sg X E e δ r} g hc h=>?_) (λ_ _=>rfl) (λsg e env hc=>?_)
 ·unfold corE at hc
  simp only[Bool.and_eq_true,beq_iff_eq,bne_iff_ne,ne_eq]at hc
  obtain⟨p,rfl⟩:=q0m hc.1.1
  unfold evE at h
  obtain⟨d,h1,h2⟩:=Option.map_eq_some_iff.mp h
  cases h2
  obtain⟨u,v,m,rv,rp⟩:=g.con x d h1
  exact(z5Z (g.glo x hc.1.2) m rv (beq_eq_false_iff_ne.mpr hc.2)).weak λσ H Q ⟨O,W,R,p⟩=>p v H (Same.refl H) (rp _)
 ·unfold corE at hc
  simp only[Bool.and_eq_true,beq_iff_eq]at hc
  obtain⟨p,rfl⟩:=q0m hc.1.1
  exact q0g rfl env
theorem y0N{op:Operator}(ha:S1 G F a)(hb:S1 G F b):S1 G F (.bin op a b):=by
 refine .of (λ{sg X E e δ r} g hc h=>?_) (λ_ _=>rfl) (λsg e env hc=>?_)
 ·unfold corE at hc
  split at hc
  ·rename_i ea o eb q
   obtain⟨p,rfl⟩:=q6a q
   simp only[Bool.and_eq_true,beq_iff_eq]at hc
   obtain⟨⟨h1,h2⟩,h3⟩:=hc
   subst h1
   unfold evE at h
   exact z5Q (λz hz=>ha.1 g h2 hz) (λz hz=>hb.1 g h3 hz) h
  ·cases hc
 ·unfold corE at hc
  split at hc
  ·rename_i q;obtain⟨p,rfl⟩:=q6a q;exact q0g rfl env
  ·cases hc
theorem y0Z(ha:S1 G F a):S1 G F (.neg a):=by
 refine .of (λ{sg X E e δ r} g hc h=>?_) (λ_ _=>rfl) (λsg e env hc=>?_)
 ·unfold corE at hc
  split at hc
  ·rename_i o ea q
   obtain⟨p,rfl⟩:=q5P q
   simp only[Bool.and_eq_true,beq_iff_eq]at hc
   obtain⟨h1,h2⟩:=hc
   subst h1
   unfold evE at h
   exact z6M (λz hz=>ha.1 g h2 hz) h
  ·cases hc
 ·unfold corE at hc
  split at hc
  ·rename_i q;obtain⟨p,rfl⟩:=q5P q
   simp only[Bool.and_eq_true,beq_iff_eq]at hc
   obtain⟨h1,h2⟩:=hc
   subst h1
   exact q0g rfl env
  ·cases hc
theorem y0l(ha:S1 G F a):S1 G F (.not a):=by
 refine .of2 (λ{sg X E e δ r} g hc h=>?_) (λ{sg X E e δ r} g hc h=>?_) (λ_ _=>rfl)
 ·unfold corE at hc
  split at hc
  ·rename_i o ea q
   obtain⟨p,rfl⟩:=q5P q
   simp only[Bool.and_eq_true,beq_iff_eq]at hc
   obtain⟨h1,h2⟩:=hc
   subst h1
   unfold evE at h
   exact z6d (λz hz=>ha.1 g h2 hz) h
  ·cases hc
 ·unfold corE at hc
  split at hc
  ·rename_i o ea q
   obtain⟨p,rfl⟩:=q5P q
   simp only[Bool.and_eq_true,beq_iff_eq]at hc
   obtain⟨h1,h2⟩:=hc
   subst h1
   unfold evE at h
   exact z3S (λz hz=>ha.2.1 g h2 hz) h
  ·cases hc
theorem y0c{op:CmpOp}(ha:S1 G F a)(hb:S1 G F b):S1 G F (.cmp op a b):=by
 refine .of2 (λ{sg X E e δ r} g hc h=>?_) (λ{sg X E e δ r} g hc h=>?_) (λ_ _=>rfl)
 ·unfold corE at hc
  split at hc
  ·rename_i ea o eb q
   obtain⟨p,rfl⟩:=q4q q
   simp only[Bool.and_eq_true,beq_iff_eq,Bool.not_eq_true']at hc
   obtain⟨⟨⟨h1,h2⟩,h3⟩,h4⟩:=hc
   subst h1
   unfold evE at h
   exact z7A g.hu (λz hz=>ha.1 g h2 hz) (λz hz=>hb.1 g h3 hz) h4 h
  ·cases hc
 ·unfold corE at hc
  split at hc
  ·rename_i ea o eb q
   obtain⟨p,rfl⟩:=q4q q
   simp only[Bool.and_eq_true,beq_iff_eq,Bool.not_eq_true']at hc
   obtain⟨⟨⟨h1,h2⟩,h3⟩,h4⟩:=hc
   subst h1
   unfold evE at h
   exact z2A g.hu (λz hz=>ha.1 g h2 hz) (λz hz=>hb.1 g h3 hz) h4 h
  ·cases hc
theorem z7s{op op':CmpOp}(ha:S1 G F a)(hb:S1 G F b)(hcc:S1 G F c):S1 G F (.chain op op' a b c):=by
 refine .of2 (λ{sg X E e δ r} g hc h=>?_) (λ{sg X E e δ r} g hc h=>?_) (λ_ _=>rfl)
 ·unfold corE at hc
  split at hc
  ·rename_i ea o o' eb ec q
   obtain⟨p,rfl⟩:=q4q q
   simp only[Bool.and_eq_true,beq_iff_eq,Bool.not_eq_true']at hc
   obtain⟨⟨⟨⟨⟨h1,h1'⟩,h2⟩,h3⟩,h4⟩,h5⟩:=hc
   subst h1 h1'
   unfold evE at h
   exact z2k g.hu (λz hz=>ha.1 g h2 hz) (λz hz=>hb.1 g h3 hz) (λz hz=>hcc.1 g h4 hz) h5 h
  ·cases hc
 ·unfold corE at hc
  split at hc
  ·rename_i ea o o' eb ec q
   obtain⟨p,rfl⟩:=q4q q
   simp only[Bool.and_eq_true,beq_iff_eq,Bool.not_eq_true']at hc
   obtain⟨⟨⟨⟨⟨h1,h1'⟩,h2⟩,h3⟩,h4⟩,h5⟩:=hc
   subst h1 h1'
   unfold evE at h
   exact q9P g.hu (λz hz=>ha.1 g h2 hz) (λz hz=>hb.1 g h3 hz) (λz hz=>hcc.1 g h4 hz) h5 h
  ·cases hc
theorem y1c(hcc:S1 G F c)(ha:S1 G F a)(hb:S1 G F b):S1 G F (.ite c a b):=by
 refine .of2 (λ{sg X E e δ r} g hc h=>?_) (λ{sg X E e δ r} g hc h=>?_) (λ_ _=>rfl)
 ·unfold corE at hc
  split at hc
  ·rename_i ec ea eb q
   obtain⟨p,rfl⟩:=z1K q
   simp only[Bool.and_eq_true]at hc
   obtain⟨⟨h1,h2⟩,h3⟩:=hc
   unfold evE at h
   exact z6o (λz hz=>hcc.2.1 g h1 hz) (λz hz=>ha.1 g h2 hz) (λz hz=>hb.1 g h3 hz) h
  ·cases hc
 ·unfold corE at hc
  split at hc
  ·rename_i ec ea eb q
   obtain⟨p,rfl⟩:=z1K q
   simp only[Bool.and_eq_true]at hc
   obtain⟨⟨h1,h2⟩,h3⟩:=hc
   unfold evE at h
   exact z3h (λz hz=>hcc.2.1 g h1 hz) (λz hz=>ha.2.1 g h2 hz) (λz hz=>hb.2.1 g h3 hz) h
  ·cases hc
theorem s_ix(ha:S1 G F a)(hb:S1 G F b):S1 G F (.ix a b):=by
 refine .of (λ{sg X E e δ r} g hc h=>?_) (λ_ _=>rfl) (λsg e env hc=>?_)
 ·unfold corE at hc
  split at hc
  ·rename_i ea eb q
   obtain⟨p,rfl⟩:=q1a q
   simp only[Bool.and_eq_true,Bool.not_eq_true']at hc
   obtain⟨⟨h1,h2⟩,h3⟩:=hc
   unfold evE at h
   exact z9j (λz hz=>ha.1 g h1 hz) (λz hz=>hb.1 g h2 hz) h3 h
  ·cases hc
 ·unfold corE at hc
  split at hc
  ·rename_i q;obtain⟨p,rfl⟩:=q1a q;exact q0g rfl env
  ·cases hc
theorem s_sl(ha:S1 G F a)(hb:S1 G F b)(hcc:S1 G F c):S1 G F (.sl a b c):=by
 refine .of (λ{sg X E e δ r} g hc h=>?_) (λ_ _=>rfl) (λsg e env hc=>?_)
 ·unfold corE at hc
  split at hc
  ·rename_i ea es q
   obtain⟨p,rfl⟩:=q1a q
   split at hc
   ·rename_i q2
    obtain⟨p2,rfl⟩:=q3P q2
    simp only[Bool.and_eq_true]at hc
    obtain⟨⟨h1,h2⟩,h3⟩:=hc
    unfold evE at h
    exact z9H (λz hz=>ha.1 g h1 hz) (λz hz=>hb.1 g h2 hz) (λz hz=>hcc.1 g h3 hz) h
   ·cases hc
  ·cases hc
 ·unfold corE at hc
  split at hc
  ·rename_i q;obtain⟨p,rfl⟩:=q1a q;exact q0g rfl env
  ·cases hc
theorem y0B(ha:S1 G F a)(hb:S1 G F b):S1 G F (.slf a b):=by
 refine .of (λ{sg X E e δ r} g hc h=>?_) (λ_ _=>rfl) (λsg e env hc=>?_)
 ·unfold corE at hc
  split at hc
  ·rename_i ea es q
   obtain⟨p,rfl⟩:=q1a q
   split at hc
   ·rename_i q2
    obtain⟨p2,rfl⟩:=q3P q2
    simp only[Bool.and_eq_true]at hc
    obtain⟨h1,h2⟩:=hc
    unfold evE at h
    exact z5X (λz hz=>ha.1 g h1 hz) (λz hz=>hb.1 g h2 hz) h
   ·cases hc
  ·cases hc
 ·unfold corE at hc
  split at hc
  ·rename_i q;obtain⟨p,rfl⟩:=q1a q;exact q0g rfl env
  ·cases hc
theorem z9T(ha:S1 G F a)(hb:S1 G F b):S1 G F (.slt a b):=by
 refine .of (λ{sg X E e δ r} g hc h=>?_) (λ_ _=>rfl) (λsg e env hc=>?_)
 ·unfold corE at hc
  split at hc
  ·rename_i ea es q
   obtain⟨p,rfl⟩:=q1a q
   split at hc
   ·rename_i q2
    obtain⟨p2,rfl⟩:=q3P q2
    simp only[Bool.and_eq_true]at hc
    obtain⟨h1,h2⟩:=hc
    unfold evE at h
    exact z6A (λz hz=>ha.1 g h1 hz) (λz hz=>hb.1 g h2 hz) h
   ·cases hc
  ·cases hc
 ·unfold corE at hc
  split at hc
  ·rename_i q;obtain⟨p,rfl⟩:=q1a q;exact q0g rfl env
  ·cases hc
variable {ms:List ME}
theorem q3L:∀{sg:Sg} {ms:List ME} {es:List Expr},q0Y sg ms es=true->es.any q0s=false
 | _,[],[],_=>rfl
 | _,[],_::_,h=>by unfold q0Y at h;cases h
 | _,_::_,[],h=>by unfold q0Y at h;cases h
 | sg,m::ms,e::es,h=>by
  unfold q0Y at h
  simp only[Bool.and_eq_true,Bool.not_eq_true']at h
  rw[List.any_cons,h.1.2,q3L h.2];rfl
theorem y0C(ha:SEs G F ms):S1 G F (.lst ms):=by
 refine .of (λ{sg X E e δ r} g hc h=>?_) (λ_ _=>rfl) (λsg e env hc=>?_)
 ·unfold corE at hc
  split at hc
  ·rename_i es q
   obtain⟨p,rfl⟩:=q6S q
   unfold evE at h
   exact z7p (λz hz=>ha g hc hz) h
  ·cases hc
 ·unfold corE at hc
  split at hc
  ·rename_i q;obtain⟨p,rfl⟩:=q6S q;exact q0g rfl env
  ·cases hc
theorem z9S(ha:SEs G F ms):S1 G F (.tup ms):=by
 refine .of (λ{sg X E e δ r} g hc h=>?_) (λ_ _=>rfl) (λsg e env hc=>?_)
 ·unfold corE at hc
  split at hc
  ·rename_i es q
   obtain⟨k,p,rfl⟩:=q2L q
   unfold evE at h
   exact z6P (λz hz=>ha g hc hz) h
  ·cases hc
 ·unfold corE at hc
  split at hc
  ·rename_i q;obtain⟨k,p,rfl⟩:=q2L q;exact q0g rfl env
  ·cases hc
theorem z8a{f:Nat}(ha:SEs G F ms):S1 G F (.call f ms):=by
 refine .of (λ{sg X E e δ r} g hc h=>?_) (λ_ _=>rfl) (λsg e env hc=>?_)
 ·unfold corE at hc
  split at hc
  ·rename_i ef es pos q
   have:=q0A q
   subst this
   rw[Bool.and_eq_true,Bool.and_eq_true]at hc
   obtain⟨⟨h1,h2⟩,h3⟩:=hc
   split at h1
   ·rename_i x qx
    obtain⟨p,rfl⟩:=q0m qx
    simp only[Bool.and_eq_true,beq_iff_eq,bne_iff_ne,ne_eq]at h1
    obtain⟨k,fa,fd,ps,hr,hm,hk,hb,hl,fo,dk⟩:=g.fns f x h1.1.1
    cases es with
    | nil=>cases h2
    | cons y ys=>
     have ns:=q3L h3
     rw[List.any_cons,Bool.or_eq_false_iff]at ns
     unfold evE at h
     exact z2I fo hl hr (g.glo x h1.1.2) hm hk hb g.pas (λz hz=>ha g h3 hz) (beq_eq_false_iff_ne.mpr h1.2) ns.1 ns.2 h
   ·cases h1
  ·cases hc
 ·unfold corE at hc
  split at hc
  ·rename_i q;have:=q0A q;subst this;exact q0g rfl env
  ·cases hc
theorem s_bi{f:Bi}(ha:SEs G F ms):S1 G F (.bi f ms):=by
 refine .of (λ{sg X E e δ r} g hc h=>?_) (λ_ _=>rfl) (λsg e env hc=>?_)
 ·unfold corE at hc
  split at hc
  ·rename_i ef es pos q
   have:=q0A q
   subst this
   rw[Bool.and_eq_true,Bool.and_eq_true]at hc
   obtain⟨⟨h1,h2⟩,h3⟩:=hc
   obtain⟨⟨p,rfl⟩,hg,hm⟩:=q8p g h1
   unfold evE at h
   cases es with
   | nil=>cases h2
   | cons y ys=>
    have go:q0Y sg ms (y::ys)=true->(∀q,evEs G F ms δ=some q->PA X (y::ys) (dA X.D E δ q))/\q0s y=false/\ys.any q0s=false:=λz=>by
     have ns:=q3L z
     rw[List.any_cons,Bool.or_eq_false_iff]at ns
     exact⟨λw hw=>ha g z hw,ns.1,ns.2⟩
    cases f with
    | len=>obtain⟨A,s1,s2⟩:=go h3;exact q8f z8k z6E hg hm boot_len (by decide) (by decide) A s1 s2 h
    | min=>obtain⟨A,s1,s2⟩:=go h3;exact q8f (z8D g.calm (by have:=g.hu;omega)) z7z hg hm boot_min (by decide) (by decide) A s1 s2 h
    | max=>obtain⟨A,s1,s2⟩:=go h3;exact q8f (z7I g.calm) z5y hg hm boot_max (by decide) (by decide) A s1 s2 h
    | any=>obtain⟨A,s1,s2⟩:=go h3;exact q8f (z9f g.calm) z5F hg hm z0n (by decide) (by decide) A s1 s2 h
    | list=>obtain⟨A,s1,s2⟩:=go h3;exact z0f z4W z2T hg hm boot_list (by decide) (by decide) A s1 s2 h
    | tuple=>obtain⟨A,s1,s2⟩:=go h3;exact z0f z3A z1Q hg hm boot_tuple (by decide) (by decide) A s1 s2 h
    | sset=>
     dsimp only at h3
     split at h3
     ·rename_i e1 q2
      split at h3
      ·rename_i ef' es' pos' q3
       have q4:=q0A q3
       cases q2
       subst q4
       rw[Bool.and_eq_true,Bool.and_eq_true]at h3
       obtain⟨⟨p',rfl⟩,hg',hm'⟩:=q8p g h3.1.1
       cases es' with
       | nil=>cases h3.1.2
       | cons y' ys'=>
        have ns:=q3L h3.2
        rw[List.any_cons,Bool.or_eq_false_iff]at ns
        cases ys' with
        | nil=>exact z3s g.calm hg hm hg' hm' (λw hw=>ha g h3.2 hw) ns.1 h
        | cons y2 yr=>
         have z:=beq_iff_eq.mp h3.1.2
         simp at z
      ·cases h3
     ·cases h3
  ·cases hc
 ·unfold corE at hc
  split at hc
  ·rename_i q;have:=q0A q;subst this;exact q0g rfl env
  ·cases hc
theorem q4S{x:Str}(h:q1f.contains x=true):∃t,q3Y x=some t:=by
 have key:∀x∈q1f,∃t,q3Y x=some t:=by
  intro x hx
  simp only[q1f,List.mem_cons,List.not_mem_nil,or_false]at hx
  rcases hx with rfl | rfl | rfl | rfl | rfl | rfl
  ·exact⟨"int",by decide +kernel⟩
  ·exact⟨"bool",by decide +kernel⟩
  ·exact⟨"str",by decide +kernel⟩
  ·exact⟨"list",by decide +kernel⟩
  ·exact⟨"tuple",by decide +kernel⟩
  ·exact⟨"dict",by decide +kernel⟩
 exact key x (List.contains_iff_mem.mp h)
theorem q2l:∀x∈q1f,x ≠ "__name__" /\ (x==("__debug__" : Str))=false:=by
 intro x hx
 simp only[q1f,List.mem_cons,List.not_mem_nil,or_false]at hx
 rcases hx with rfl | rfl | rfl | rfl | rfl | rfl<;>exact⟨by decide +kernel,by decide +kernel⟩
def y0A:V->List V->Hp->VK->Prop:=λx xs H Q=>∃i,x=.int i/\xs=[]/\Q (.int (q3H i)) H
theorem z6i(i:Int):((Builtin.Int.intBits i:Nat):Int)=q3H i:=by
 unfold Builtin.Int.intBits q3H
 by_cases h:i=0
 ·subst h;rfl
 ·rw[if_neg (by simpa using h),if_neg h];push_cast;rfl
theorem z6b{X:Cx}:MtR X "int.bit_length" y0A:=by
 intro pins s σ H x xs v us Q I rx rv h
 obtain⟨i,rfl,rfl,q⟩:=h
 obtain⟨t,rfl⟩:=(show ∃t,v=Value.int i t from rx)
 cases rv
 exact PyProof.Rows.call_int_bit_length ⟨.int (q3H i),H,I.tok _,by rw[←z6i];exact⟨_,rfl⟩,q⟩
theorem z9O{m:Mt}{es:List ME}(ha:S1 G F a):S1 G F (.meth m a es):=by
 refine .of (λ{sg X E e δ r} g hc h=>?_) (λ_ _=>rfl) (λsg e env hc=>?_)
 ·unfold corE at hc
  split at hc
  ·rename_i ef pos q
   have:=q0A q
   subst this
   split at hc
   ·rename_i ea n apos q2
    have:=q2H q2
    subst this
    simp only[Bool.and_eq_true,beq_iff_eq]at hc
    obtain⟨⟨⟨⟨h1,h2⟩,h3⟩,h4⟩,h5⟩:=hc
    subst h1
    have hbs:attributeBase ea (z4r m) X.env (eval ea X.env)=eval ea X.env:=by
     rw[Bool.or_eq_true]at h3
     rcases h3 with h3 | h3
     ·obtain⟨y,hy⟩:=Option.isSome_iff_exists.mp h3
      obtain⟨np,rfl⟩:=q0m hy
      rfl
     ·obtain⟨⟨a1,o1,b1⟩,hy⟩:=Option.isSome_iff_exists.mp h3
      obtain⟨np,rfl⟩:=q6a hy
      rfl
    unfold evE at h
    cases m with
    | bitLength=>
     rw[if_pos rfl]at h
     have P:=λt (hA:PE X ea t)=>z8N (apos:=apos) (cpos:=pos) PySem.F.plainAttrs_int PySem.F.slot_int_bit_length PySem.F.type_int_bit_length z6b hA hbs (by rw[beq_iff_eq];exact h4)
     cases hra:evE G F a δ with
     | none=>rw[hra]at h;cases h
     | some q=>
      rw[hra]at h
      have A:=ha.1 g h2 hra
      cases q with
      | ex c=>cases h;exact(P _ A).weak λσ H Q ⟨O,W,R,p⟩=>⟨O,W,R,p⟩
      | ok d dc=>
       have h':mtD .bitLength d=some r:=h
       unfold mtD at h'
       split at h'
       ·rename_i i _
        cases h'
        exact(P _ A).weak λσ H Q ⟨O,W,R,p⟩=>⟨O,W,R,λv H1 s1 g1=>by
         have hv:=g1.int (R.hid.mono s1)
         subst hv
         exact⟨rfl,i,rfl,rfl,p _ H1 s1 q0F⟩⟩
       ·cases h'
    | index=>rw[if_neg (by decide)]at h;cases h
    | get=>rw[if_neg (by decide)]at h;cases h
   ·cases hc
  ·cases hc
 ·unfold corE at hc
  split at hc
  ·rename_i q
   have:=q0A q
   subst this
   exact q0g rfl env
  ·cases hc
theorem y0M(ha:S1 G F a)(hb:S1 G F b):S1 G F (.idx a b):=by
 refine .of (λ{sg X E e δ r} g hc h=>?_) (λ_ _=>rfl) (λsg e env hc=>?_)
 ·unfold corE at hc
  split at hc
  ·rename_i ef eb pos q
   have:=q0A q
   subst this
   split at hc
   ·rename_i ea n apos q2
    have:=q2H q2
    subst this
    simp only[Bool.and_eq_true,beq_iff_eq,Bool.not_eq_true']at hc
    obtain⟨⟨⟨⟨⟨h1,h2⟩,h3⟩,h4⟩,h5⟩,h6⟩:=hc
    subst h1
    obtain⟨y,hy⟩:=Option.isSome_iff_exists.mp h3
    obtain⟨np,rfl⟩:=q0m hy
    unfold evE at h
    exact z6w g.hu (λz hz=>ha.1 g h2 hz) (λz hz=>hb.1 g h5 hz) rfl (by rw[beq_iff_eq];exact h4) (q0q h6) h
   ·cases hc
  ·cases hc
 ·unfold corE at hc
  split at hc
  ·rename_i q
   have:=q0A q
   subst this
   exact q0g rfl env
  ·cases hc
theorem z9W:S1 G F .dc0:=by
 refine .of (λ{sg X E e δ r} g hc h=>?_) (λ_ _=>rfl) (λsg e env hc=>?_)
 ·unfold corE at hc
  split at hc
  ·unfold evE at h
   cases h
   exact z7a
  ·cases hc
 ·unfold corE at hc
  split at hc
  ·exact q0g rfl env
  ·cases hc
theorem y0x{i:Nat}(hb:S1 G F b):S1 G F (.dgp i b):=by
 refine .of (λ{sg X E e δ r} g hc h=>?_) (λ_ _=>rfl) (λsg e env hc=>?_)
 ·unfold corE at hc
  split at hc
  ·rename_i ob ek q
   obtain⟨p,rfl⟩:=q1a q
   simp only[Bool.and_eq_true,Bool.not_eq_true']at hc
   obtain⟨⟨h2,h3⟩,h4⟩:=hc
   split at h2
   ·rename_i x q3
    obtain⟨np,rfl⟩:=q0m q3
    obtain⟨s1,s2,s3,s4⟩:=q2E g h2
    unfold evE at h
    exact z6v (Nat.lt_of_le_of_lt (by omega) g.hu) (q3V s1 s2 s3 s4) (λz hz=>hb.1 g h3 hz) h4 h
   ·cases h2
  ·cases hc
 ·unfold corE at hc
  split at hc
  ·rename_i q
   obtain⟨p,rfl⟩:=q1a q
   exact q0g rfl env
  ·cases hc
theorem q9c{x:Str}{f:Nat}:∀{xs:List (Str×Nat)},xs.lookup x=some f->(x,f)∈xs
 | [],h=>by cases h
 | (y,g)::xs,h=>by
  rw[List.lookup_cons]at h
  split at h
  ·rename_i q
   cases h
   rw[beq_iff_eq.mp q]
   exact List.mem_cons_self ..
  ·exact List.mem_cons_of_mem _ (q9c h)
theorem z6Z{i:Nat}{xs:List (Str×Nat)}(ha:SEs G F ms):S1 G F (.callv i xs ms):=by
 refine .of (λ{sg X E e δ r} g hc h=>?_) (λ_ _=>rfl) (λsg e env hc=>?_)
 ·unfold corE at hc
  split at hc
  ·rename_i ef es pos q
   have:=q0A q
   subst this
   rw[Bool.and_eq_true,Bool.and_eq_true,Bool.and_eq_true]at hc
   obtain⟨⟨⟨h1,h0⟩,h2⟩,h3⟩:=hc
   split at h1
   ·rename_i x qx
    obtain⟨p,rfl⟩:=q0m qx
    obtain⟨s1,s2,s3,s4⟩:=q2E g h1
    cases es with
    | nil=>cases h2
    | cons y ys=>
     have ns:=q3L h3
     rw[List.any_cons,Bool.or_eq_false_iff]at ns
     unfold evE at h
     split at h
     ·rename_i nm hi
      split at h
      ·rename_i f hf
       have hfn:=beq_iff_eq.mp (List.all_eq_true.mp h0 _ (q9c hf))
       obtain⟨k,fa,fd,ps,hr,hm,hk,hb,hl,fo,dk⟩:=g.fns f nm hfn
       exact q9Z fo hl hr (q3V s1 s2 s3 s4) hm hk hb g.pas hi (λz hz=>ha g h3 hz) ns.1 ns.2 h
      ·cases h
     ·cases h
   ·cases h1
  ·cases hc
 ·unfold corE at hc
  split at hc
  ·rename_i q;have:=q0A q;subst this;exact q0g rfl env
  ·cases hc
theorem y0T{ts:List Str}(ha:S1 G F a):S1 G F (.isi a ts):=by
 refine .of (λ{sg X E e δ r} g hc h=>?_) (λ_ _=>rfl) (λsg e env hc=>?_)
 ·unfold corE at hc
  split at hc
  ·rename_i ef ea et pos q
   have:=q0A q
   subst this
   simp only[Bool.and_eq_true,Bool.not_eq_true']at hc
   obtain⟨⟨⟨⟨h1,h2⟩,h3⟩,h4⟩,h5⟩:=hc
   obtain⟨⟨p,rfl⟩,hg,hm⟩:=q8p g h1
   split at h5
   ·rename_i t
    simp only[Bool.and_eq_true,beq_iff_eq,List.contains_iff_mem]at h5
    obtain⟨⟨⟨k1,k2⟩,k3⟩,k4⟩:=h5
    obtain⟨p',rfl⟩:=q0m k1
    obtain⟨T,hT⟩:=q4S (List.contains_iff_mem.mpr k4)
    obtain⟨n1,n2⟩:=q2l t k4
    unfold evE at h
    exact z6K hT hg hm (g.glo t k2) (g.blt t k3) n1 n2 (λz hz=>ha.1 g h2 hz) h3 h
   ·rename_i t u
    split at h5
    ·rename_i e1 e2 q2
     obtain⟨kk,tp,rfl⟩:=q2L q2
     simp only[Bool.and_eq_true,beq_iff_eq,List.contains_iff_mem]at h5
     obtain⟨⟨⟨⟨k1,k2⟩,k3⟩,k4⟩,⟨⟨l1,l2⟩,l3⟩,l4⟩:=h5
     obtain⟨p1,rfl⟩:=q0m k1
     obtain⟨p2,rfl⟩:=q0m l1
     obtain⟨T,hT⟩:=q4S (List.contains_iff_mem.mpr k4)
     obtain⟨U,hU⟩:=q4S (List.contains_iff_mem.mpr l4)
     obtain⟨n1,n2⟩:=q2l t k4
     obtain⟨m1,m2⟩:=q2l u l4
     unfold evE at h
     refine z3J (kf:=λd=>isiD G d [t,u]) hT hU hg hm (g.glo t k2) (g.blt t k3) n1 n2 (g.glo u l2) (g.blt u l3) m1 m2 (λd k e1=>?_) (λz hz=>ha.1 g h2 hz) h3 h
     have px:(q1f.contains t&&q1f.contains u)=true:=by rw[Bool.and_eq_true];exact⟨List.contains_iff_mem.mpr k4,List.contains_iff_mem.mpr l4⟩
     unfold isiD at e1
     cases d<;>first
      | (simp only[px,if_true]at e1;cases e1;exact⟨_,rfl,rfl⟩)
      | cases e1
    ·cases h5
   ·cases h5
  ·cases hc
 ·unfold corE at hc
  split at hc
  ·rename_i q;have:=q0A q;subst this;exact q0g rfl env
  ·cases hc
theorem q2w:∀{ms:List ME} {δ:List Sv} {l:List (DV×Cl)},evEs G F ms δ=some (.ok l)->l.length=ms.length
 | [],_,_,h=>by unfold evEs at h;cases h;rfl
 | m::ms,δ,l,h=>by
  unfold evEs at h
  split at h
  ·cases h
  ·cases h
  ·split at h
   ·cases h
   ·cases h
   ·rename_i l' q
    cases h
    rw[List.length_cons,List.length_cons,q2w q]
theorem q3Z:∀{sg:Sg} {ms:List ME} {es:List Expr},q0Y sg ms es=true->ms.length=es.length
 | _,[],[],_=>rfl
 | _,[],_::_,h=>by unfold q0Y at h;cases h
 | _,_::_,[],h=>by unfold q0Y at h;cases h
 | sg,m::ms,e::es,h=>by
  unfold q0Y at h
  simp only[Bool.and_eq_true]at h
  rw[List.length_cons,List.length_cons,q3Z h.2]
theorem y0r(ha:SEs G F ms):S1 G F (.rng ms):=by
 refine⟨λ{sg X E e δ r} g hc h=>?_,λ{sg X E e δ r} g hc h=>?_,λ{sg X E e tg δ r} g hc _ h=>?_⟩
 ·unfold corE at hc;rw[Bool.false_and]at hc;cases hc
 ·unfold corE at hc;rw[Bool.false_and]at hc;cases hc
 ·unfold corE at hc
  rw[Bool.true_and]at hc
  split at hc
  ·rename_i ef es pos q
   have:=q0A q
   subst this
   rw[Bool.and_eq_true,decide_eq_true_eq]at hc
   obtain⟨hc,hle⟩:=hc
   rw[Bool.and_eq_true]at hc
   obtain⟨⟨p,rfl⟩,hg,hm⟩:=q8p g hc.1
   have l1:=q3Z hc.2
   have ns:=q3L hc.2
   unfold evE at h
   cases es with
   | nil=>
    exfalso
    cases ms with
    | nil=>unfold evEs at h;cases h
    | cons _ _=>cases l1
   | cons y ys=>
    rw[List.any_cons,Bool.or_eq_false_iff]at ns
    cases ys with
    | nil=>exact q9v hg hm (λz hz=>ha g hc.2 hz) ns.1 h λl hl=>by rw[q2w hl,l1];rfl
    | cons z zs=>
     cases zs with
     | nil=>
      have ns2:=ns.2
      rw[List.any_cons,Bool.or_eq_false_iff]at ns2
      exact q9q hg hm (λz hz=>ha g hc.2 hz) ns.1 ns2.1 h λl hl=>by rw[q2w hl,l1];rfl
     | cons u us=>
      cases us with
      | nil=>
       have ns2:=ns.2
       rw[List.any_cons,Bool.or_eq_false_iff]at ns2
       have ns3:=ns2.2
       rw[List.any_cons,Bool.or_eq_false_iff]at ns3
       exact q9p hg hm (λz hz=>ha g hc.2 hz) ns.1 ns2.1 ns3.1 h λl hl=>by rw[q2w hl,l1];rfl
      | cons _ _=>simp at hle
  ·cases hc
theorem y0J(ha:S1 G F a):S1 G F (.itm a):=by
 refine⟨λ{sg X E e δ r} g hc h=>?_,λ{sg X E e δ r} g hc h=>?_,λ{sg X E e tg δ r} g hc ht h=>?_⟩
 ·unfold corE at hc;rw[Bool.false_and]at hc;cases hc
 ·unfold corE at hc;rw[Bool.false_and]at hc;cases hc
 ·unfold corE at hc
  rw[Bool.true_and]at hc
  split at hc
  ·rename_i ef pos q
   have:=q0A q
   subst this
   split at hc
   ·rename_i ob n apos q2
    have:=q2H q2
    subst this
    simp only[Bool.and_eq_true]at hc
    obtain⟨⟨⟨h1,h2⟩,h3⟩,h4⟩:=hc
    have hn:n = "items":=beq_iff_eq.mp h1
    subst hn
    cases q3:q0I ob with
    | none=>rw[q3]at h4;cases h4
    | some x=>
     obtain⟨np,rfl⟩:=q0m q3
     have t:=ht rfl
     cases q4:q3l tg with
     | none=>rw[q4]at t;cases t
     | some elts=>
      obtain⟨k,tp,rfl⟩:=q2L q4
      unfold evE at h
      exact z5G rfl h3 (λz hz=>ha.1 g h2 hz) h
   ·cases hc
  ·cases hc
theorem z5D{sg:Sg}{X:Cx}{E:St->XK}{e:Expr}{δ:List Sv}{r:Re}{tg:Tg}{fr:List (Option Nat)}{cp:CParts}{tn:List Str}(ha:S1 G F a)(hb:S1 G F b)(g:Good sg G F X E)(hemp:cp.ifs=[])
  (h2:corE sg true b cp.it=true) (hz:isZp b=true->(q3l cp.tg).isSome=true) (h4:q3t sg (q1z sg tn fr) fr cp.sc tg=true) (h5:tgOk ⟨q1z sg tn fr,cp.sc.names,sg.fn,sg.bl,sg.cl,false,true⟩ tg cp.tg=true) (h6:corE ⟨q1z sg tn fr,cp.sc.names,sg.fn,sg.bl,sg.cl,false,true⟩ false a cp.elt=true)
  (h:evE G F (.comp a tg b fr) δ=some r):q1w X E δ cp.tg cp.it cp.ifs cp.elt cp.sc (q1z sg tn fr) fr tg r:=by
 obtain⟨S,nd,sl⟩:=q1O g h4
 rw[hemp]
 unfold evE at h
 exact q4Y S g.calm nd sl (λz hz'=>hb.2.2 g h2 hz hz') (λC cells s₂ H₂ fp=>z0r (q1J g h4 C cells s₂ H₂ fp) h5) (λδ' r' hr C cells s₂ H₂ fp=>ha.1 (q1J g h4 C cells s₂ H₂ fp) h6 hr) h
theorem z2z{sg:Sg}{X:Cx}{E:St->XK}{e cd:Expr}{δ:List Sv}{r:Re}{tg:Tg}{fr:List (Option Nat)}{cp:CParts}{tn:List Str}(ha:S1 G F a)(hb:S1 G F b)(hcc:S1 G F c)(g:Good sg G F X E)(hemp:cp.ifs=[cd])
  (h2:corE sg true b cp.it=true) (hz:isZp b=true->(q3l cp.tg).isSome=true) (h4:q3t sg (q1z sg tn fr) fr cp.sc tg=true) (h5:tgOk ⟨q1z sg tn fr,cp.sc.names,sg.fn,sg.bl,sg.cl,false,true⟩ tg cp.tg=true) (h6:corE ⟨q1z sg tn fr,cp.sc.names,sg.fn,sg.bl,sg.cl,false,true⟩ false a cp.elt=true)
  (h7:corE ⟨q1z sg tn fr,cp.sc.names,sg.fn,sg.bl,sg.cl,false,true⟩ false c cd=true) (h:evE G F (.compi a tg b c fr) δ=some r):q1w X E δ cp.tg cp.it cp.ifs cp.elt cp.sc (q1z sg tn fr) fr tg r:=by
 obtain⟨S,nd,sl⟩:=q1O g h4
 rw[hemp]
 unfold evE at h
 exact q4C S g.calm nd sl (λz hz'=>hb.2.2 g h2 hz hz') (λC cells s₂ H₂ fp=>z0r (q1J g h4 C cells s₂ H₂ fp) h5) (λδ' r' hr C cells s₂ H₂ fp=>ha.1 (q1J g h4 C cells s₂ H₂ fp) h6 hr)
  (λδ' r' hr C cells s₂ H₂ fp=>hcc.2.1 (q1J g h4 C cells s₂ H₂ fp) h7 hr) h
def q4u(G:Gs)(F:Nat->List DV->Option Ou)(m:ME):Prop:=∀{sg:Sg} {X:Cx} {E:St->XK} {e:Expr} {δ:List Sv} {r:Re},Good sg G F X E->corE sg false m e=true->evE G F m δ=some r ->
 ∃(cp:CParts) (N':List Str) (fr:List (Option Nat)) (tg:Tg) (p:Pos),e=.ListComp cp.elt [⟨cp.tg,cp.it,cp.ifs,0⟩] cp.sc p/\CompScope X.N N' cp.sc X.env.scope fr/\q1w X E δ cp.tg cp.it cp.ifs cp.elt cp.sc N' fr tg r /\
  (∀C cells s₂ H₂ fp,PG (q0B X cp.sc N' C cells s₂ H₂ fp) cp.tg (gT X.K tg))/\q2Y cp.it=false
theorem q4u.s1{m:ME}(h:q4u G F m)(hw:∀sg e,corE sg true m e=corE sg false m e)(hl:∀sg e,corE sg false m e=true->(q5y e).isSome=true):S1 G F m:=by
 refine .of (λ{sg X E e δ r} g hc q=>?_) hw (λsg e env hc=>?_)
 ·obtain⟨cp,N',fr,tg,p,rfl,S,P,hG,hs⟩:=h g hc q
  exact P.pe S g.calm hG hs
 ·have:=hl sg e hc
  cases z:q5y e with
  | none=>rw[z]at this;cases this
  | some cp=>obtain⟨p,rfl⟩:=q4M z;exact q0g rfl env
theorem z4h{tg:Tg}{fr:List (Option Nat)}(ha:S1 G F a)(hb:S1 G F b):q4u G F (.comp a tg b fr):=by
 intro sg X E e δ r g hc h
 unfold corE at hc
 split at hc
 ·rename_i cp q
  obtain⟨p,rfl⟩:=q4M q
  simp only[Bool.and_eq_true,Bool.not_eq_true',Bool.or_eq_true]at hc
  obtain⟨⟨⟨h1,h2,h3⟩,h4⟩,h5⟩:=hc
  split at h5
  ·rename_i tn qt
   simp only[Bool.and_eq_true]at h5
   refine⟨cp,_,fr,tg,p,rfl,(q1O g h5.1.1).1,z5D (e:=.ListComp cp.elt [⟨cp.tg,cp.it,cp.ifs,0⟩] cp.sc p) ha hb g (List.isEmpty_iff.mp h1) h2 (λz=>?_) h5.1.1 h5.1.2 h5.2 h,λC cells s₂ H₂ fp=>z0r (q1J g h5.1.1 C cells s₂ H₂ fp) h5.1.2,h4⟩
   rcases h3 with w | w
   ·rw[z]at w;cases w
   ·exact w
  ·cases h5
 ·cases hc
theorem z1l{tg:Tg}{fr:List (Option Nat)}(ha:S1 G F a)(hb:S1 G F b)(hcc:S1 G F c):q4u G F (.compi a tg b c fr):=by
 intro sg X E e δ r g hc h
 unfold corE at hc
 split at hc
 ·rename_i cp q
  obtain⟨p,rfl⟩:=q4M q
  simp only[Bool.and_eq_true,Bool.not_eq_true',Bool.or_eq_true]at hc
  obtain⟨⟨⟨h2,h3⟩,h4⟩,h5⟩:=hc
  split at h5
  ·rename_i tn ec qt qi
   simp only[Bool.and_eq_true]at h5
   refine⟨cp,_,fr,tg,p,rfl,(q1O g h5.1.1.1).1,z2z (e:=.ListComp cp.elt [⟨cp.tg,cp.it,cp.ifs,0⟩] cp.sc p) ha hb hcc g qi h2 (λz=>?_) h5.1.1.1 h5.1.1.2 h5.1.2 h5.2 h,λC cells s₂ H₂ fp=>z0r (q1J g h5.1.1.1 C cells s₂ H₂ fp) h5.1.1.2,h4⟩
   rcases h3 with w | w
   ·rw[z]at w;cases w
   ·exact w
  ·cases h5
 ·cases hc
theorem z8A{tg:Tg}{fr:List (Option Nat)}(ha:S1 G F a)(hb:S1 G F b):S1 G F (.comp a tg b fr):=q4u.s1 (λ{sg X E e δ r}=>z4h ha hb) (λ_ _=>rfl) λsg e hc=>by
 unfold corE at hc
 split at hc
 ·rename_i q;rw[q];rfl
 ·cases hc
theorem z7v{tg:Tg}{fr:List (Option Nat)}(ha:S1 G F a)(hb:S1 G F b)(hcc:S1 G F c):S1 G F (.compi a tg b c fr):=q4u.s1 (λ{sg X E e δ r}=>z1l ha hb hcc) (λ_ _=>rfl) λsg e hc=>by
 unfold corE at hc
 split at hc
 ·rename_i q;rw[q];rfl
 ·cases hc
theorem z9X:SEs G F []:=λ{sg X E es δ r} g hc h=>by
 cases es with
 | nil=>unfold evEs at h;cases h;exact z2K
 | cons _ _=>unfold q0Y at hc;cases hc
theorem z8r(ha:S1 G F a)(hb:SEs G F ms):SEs G F (a::ms):=λ{sg X E es δ r} g hc h=>by
 cases es with
 | nil=>unfold q0Y at hc;cases hc
 | cons e es=>
  unfold q0Y at hc
  simp only[Bool.and_eq_true,Bool.not_eq_true']at hc
  unfold evEs at h
  exact z1w hc.1.2 (λz hz=>ha.1 g hc.1.1 hz) (λz hz=>hb g hc.2 hz) h
theorem z6r:SAnd G F []:=λ{sg X E es δ pos} g hc=>⟨λr h=>(by unfold q2C at h;cases h),λr h=>(by unfold q2C at h;cases h)⟩
theorem z9v:SOr G F []:=λ{sg X E es δ pos} g hc=>⟨λr h=>(by unfold evOr at h;cases h),λr h=>(by unfold evOr at h;cases h)⟩
theorem z3a(ha:S1 G F a)(hb:SAnd G F ms):SAnd G F (a::ms):=λ{sg X E es δ pos} g hc=>by
 cases es with
 | nil=>unfold q0Y at hc;cases hc
 | cons e es=>
  unfold q0Y at hc
  simp only[Bool.and_eq_true,Bool.not_eq_true']at hc
  cases ms with
  | nil=>
   cases es with
   | nil=>
    refine⟨λr h=>?_,λr h=>?_⟩
    ·unfold q2C at h;exact z4I (ha.1 g hc.1.1 h)
    ·unfold q2C at h;exact z5t (ha.2.1 g hc.1.1 h)
   | cons _ _=>have:=hc.2;unfold q0Y at this;cases this
  | cons m ms=>
   cases es with
   | nil=>have:=hc.2;unfold q0Y at this;cases this
   | cons e' es=>
    have B:=@hb sg X E (e'::es) δ pos g hc.2
    refine⟨λr h=>?_,λr h=>?_⟩
    ·unfold q2C at h;exact z5V (λz hz=>ha.1 g hc.1.1 hz) (λz hz=>B.1 z hz) h
    ·unfold q2C at h;exact z3i (λz hz=>ha.2.1 g hc.1.1 hz) (λz hz=>B.2 z hz) h
theorem z6s(ha:S1 G F a)(hb:SOr G F ms):SOr G F (a::ms):=λ{sg X E es δ pos} g hc=>by
 cases es with
 | nil=>unfold q0Y at hc;cases hc
 | cons e es=>
  unfold q0Y at hc
  simp only[Bool.and_eq_true,Bool.not_eq_true']at hc
  cases ms with
  | nil=>
   cases es with
   | nil=>
    refine⟨λr h=>?_,λr h=>?_⟩
    ·unfold evOr at h;exact z4I (ha.1 g hc.1.1 h)
    ·unfold evOr at h;exact z8Z (ha.2.1 g hc.1.1 h)
   | cons _ _=>have:=hc.2;unfold q0Y at this;cases this
  | cons m ms=>
   cases es with
   | nil=>have:=hc.2;unfold q0Y at this;cases this
   | cons e' es=>
    have B:=@hb sg X E (e'::es) δ pos g hc.2
    refine⟨λr h=>?_,λr h=>?_⟩
    ·unfold evOr at h;exact z7K (λz hz=>ha.1 g hc.1.1 hz) (λz hz=>B.1 z hz) h
    ·unfold evOr at h;exact z6B (λz hz=>ha.2.1 g hc.1.1 hz) (λz hz=>B.2 z hz) h
theorem y1h(ha:SAnd G F ms):S1 G F (.and ms):=by
 refine .of2 (λ{sg X E e δ r} g hc h=>?_) (λ{sg X E e δ r} g hc h=>?_) (λ_ _=>rfl)
 ·unfold corE at hc
  split at hc
  ·rename_i o es q
   obtain⟨p,rfl⟩:=q3w q
   simp only[Bool.and_eq_true,beq_iff_eq]at hc
   obtain⟨h1,h2⟩:=hc
   subst h1
   unfold evE at h
   exact(ha g h2).1 r h
  ·cases hc
 ·unfold corE at hc
  split at hc
  ·rename_i o es q
   obtain⟨p,rfl⟩:=q3w q
   simp only[Bool.and_eq_true,beq_iff_eq]at hc
   obtain⟨h1,h2⟩:=hc
   subst h1
   unfold evE at h
   exact((ha g h2).2 r h).pt
  ·cases hc
theorem s_or(ha:SOr G F ms):S1 G F (.or ms):=by
 refine .of2 (λ{sg X E e δ r} g hc h=>?_) (λ{sg X E e δ r} g hc h=>?_) (λ_ _=>rfl)
 ·unfold corE at hc
  split at hc
  ·rename_i o es q
   obtain⟨p,rfl⟩:=q3w q
   simp only[Bool.and_eq_true,beq_iff_eq]at hc
   obtain⟨h1,h2⟩:=hc
   subst h1
   unfold evE at h
   exact(ha g h2).1 r h
  ·cases hc
 ·unfold corE at hc
  split at hc
  ·rename_i o es q
   obtain⟨p,rfl⟩:=q3w q
   simp only[Bool.and_eq_true,beq_iff_eq]at hc
   obtain⟨h1,h2⟩:=hc
   subst h1
   unfold evE at h
   exact((ha g h2).2 r h).pt
  ·cases hc
end
section
variable {G:Gs} {F:Nat->List DV->Option Ou}
mutual
theorem snd:∀m:ME,S1 G F m
 | .var _=>y0a
 | .int _=>y0E
 | .bl _=>s_bl
 | .str _=>y0W
 | .non=>z9Y
 | .glb _=>y0y
 | .bin _ a b=>y0N (snd a) (snd b)
 | .neg a=>y0Z (snd a)
 | .not a=>y0l (snd a)
 | .cmp _ a b=>y0c (snd a) (snd b)
 | .chain _ _ a b c=>z7s (snd a) (snd b) (snd c)
 | .and es=>y1h (z4J es)
 | .or es=>s_or (z9G es)
 | .ite c a b=>y1c (snd c) (snd a) (snd b)
 | .lst es=>y0C (sndL es)
 | .tup es=>z9S (sndL es)
 | .dc0=>z9W
 | .ix a b=>s_ix (snd a) (snd b)
 | .sl a b c=>s_sl (snd a) (snd b) (snd c)
 | .slf a b=>y0B (snd a) (snd b)
 | .slt a b=>z9T (snd a) (snd b)
 | .call _ es=>z8a (sndL es)
 | .bi _ es=>s_bi (sndL es)
 | .isi a _=>y0T (snd a)
 | .meth _ a _=>z9O (snd a)
 | .comp a _ b _=>z8A (snd a) (snd b)
 | .compi a _ b c _=>z7v (snd a) (snd b) (snd c)
 | .idx a b=>y0M (snd a) (snd b)
 | .rng es=>y0r (sndL es)
 | .itm a=>y0J (snd a)
 | .dgp _ b=>y0x (snd b)
 | .callv _ _ es=>z6Z (sndL es)
theorem sndL:∀ms:List ME,SEs G F ms
 | []=>z9X
 | a::ms=>z8r (snd a) (sndL ms)
theorem z4J:∀ms:List ME,SAnd G F ms
 | []=>z6r
 | a::ms=>z3a (snd a) (z4J ms)
theorem z9G:∀ms:List ME,SOr G F ms
 | []=>z9v
 | a::ms=>z6s (snd a) (z9G ms)
end
end
end L2
end
noncomputable section
namespace L2
open PySem PySem.Spec PyProof.Rows
section
variable (G:Gs) (F:Nat->List DV->Option Ou) (fu:Nat)
def SS(m:MS):Prop:=∀{sg:Sg} {X:Cx} {E:St->XK} {st:Stmt} {δ:List Sv} {o:Out},Good sg G F X E->corS sg m st=true->evS G F fu m δ=some o->PS X st (dS X.D E δ o)
def SSs(ms:List MS):Prop:=∀{sg:Sg} {X:Cx} {E:St->XK} {sts:List Stmt} {δ:List Sv} {o:Out},Good sg G F X E->q3h sg ms sts=true->evSs G F fu ms δ=some o->PSs X sts (dS X.D E δ o)
end
section
variable {G:Gs} {F:Nat->List DV->Option Ou} {fu:Nat} {e k:ME} {i:Nat}
theorem z8J:∀{e:ME},q9V e=true->q4u G F e
 | .comp a _ b _,_=>z4h (snd a) (snd b)
 | .compi a _ b c _,_=>z1l (snd a) (snd b) (snd c)
theorem y1p{own:Bool}:SS G F fu (.set i own e):=by
 intro sg X E st δ o g hc h
 unfold corS at hc
 split at hc
 ·rename_i t v pos
  split at hc
  ·rename_i x pt
   simp only[Bool.and_eq_true,beq_iff_eq,Bool.or_eq_true,Bool.not_eq_true']at hc
   obtain⟨⟨⟨h1,h2⟩,h3⟩,h4⟩:=hc
   have l:=g.loc x h2
   have hN:X.N[i]? = some x:=by rw[g.N];exact h1
   unfold evS at h
   cases hv:q4b v with
   | false=>exact z0V g.nd hN l.1 l.2 (λz hz=>(snd e).1 g h3 hz) (q2U hv) h
   | true=>
    rcases h4 with h4 | h5
    ·rw[hv]at h4;cases h4
    ·cases hr:evE G F e δ with
     | none=>rw[hr]at h;cases h
     | some r=>
      obtain⟨cp,N',fr,tg,p,rfl,S,P,hG,hs⟩:=z8J h5 g h3 hr
      cases hb:(X.env.blockKind == .function&&X.env.kindOf x==some .local&&pt.line==(Expr.ListComp cp.elt [⟨cp.tg,cp.it,cp.ifs,0⟩] cp.sc p).pos.line && !(cp.sc.names.any λ(n,k)=>n==x&&(k == .local||k == .cell)))with
      | false=>
       have hsw:swapsWith (.ListComp cp.elt [⟨cp.tg,cp.it,cp.ifs,0⟩] cp.sc p) (some (.Name x pt)) pos.line X.env=pure false:=by
        show(pure (X.env.blockKind == .function&&X.env.kindOf x==some .local&&pt.line==(Expr.ListComp cp.elt [⟨cp.tg,cp.it,cp.ifs,0⟩] cp.sc p).pos.line && !(cp.sc.names.any λ(n,k)=>n==x&&(k == .local||k == .cell))):Sem Bool)=pure false
        rw[hb]
       exact z0V g.nd hN l.1 l.2 (λz hz=>(snd e).1 g h3 hz) hsw h
      | true=>
       have hsw:swapsWith (.ListComp cp.elt [⟨cp.tg,cp.it,cp.ifs,0⟩] cp.sc p) (some (.Name x pt)) pos.line X.env=pure true:=by
        show(pure (X.env.blockKind == .function&&X.env.kindOf x==some .local&&pt.line==(Expr.ListComp cp.elt [⟨cp.tg,cp.it,cp.ifs,0⟩] cp.sc p).pos.line && !(cp.sc.names.any λ(n,k)=>n==x&&(k == .local||k == .cell))):Sem Bool)=pure true
        rw[hb]
       rw[hr]at h
       have h4:X.env.kindOf x=some .local:=by
        simp only[Bool.and_eq_true,beq_iff_eq]at hb
        exact hb.1.1.2
       exact q7I S g.calm g.nd hN h4 P hG hs hsw h
  ·cases hc
 ·cases hc
theorem y1d:SS G F fu (.app i e):=by
 intro sg X E st δ o g hc h
 unfold corS at hc
 split at hc
 ·rename_i v pos
  split at hc
  ·rename_i ef ea cpos q
   have:=q0A q
   subst this
   split at hc
   ·rename_i ob n apos q2
    have:=q2H q2
    subst this
    simp only[Bool.and_eq_true,Bool.not_eq_true']at hc
    obtain⟨⟨⟨⟨h1,h2⟩,h3⟩,h4⟩,h5⟩:=hc
    split at h2
    ·rename_i x q3
     obtain⟨np,rfl⟩:=q0m q3
     obtain⟨s1,s2,s3,s4⟩:=q2E g h2
     have hn:n = "append":=beq_iff_eq.mp h1
     subst hn
     unfold evS at h
     exact q9y (q3V s1 s2 s3 s4) (λz hz=>(snd e).1 g h3 hz) h4 h5 h
    ·cases h2
   ·cases hc
  ·cases hc
 ·cases hc
theorem y1r:SS G F fu (.ext i e):=by
 intro sg X E st δ o g hc h
 unfold corS at hc
 split at hc
 ·rename_i v pos
  split at hc
  ·rename_i ef ea cpos q
   have:=q0A q
   subst this
   split at hc
   ·rename_i ob n apos q2
    have:=q2H q2
    subst this
    simp only[Bool.and_eq_true,Bool.not_eq_true']at hc
    obtain⟨⟨⟨⟨h1,h2⟩,h3⟩,h4⟩,h5⟩:=hc
    split at h2
    ·rename_i x q3
     obtain⟨np,rfl⟩:=q0m q3
     obtain⟨s1,s2,s3,s4⟩:=q2E g h2
     have hn:n = "extend":=beq_iff_eq.mp h1
     subst hn
     unfold evS at h
     exact q9k (q3V s1 s2 s3 s4) (λz hz=>(snd e).1 g h3 hz) h4 h5 h
    ·cases h2
   ·cases hc
  ·cases hc
 ·cases hc
theorem z9x:SS G F fu (.retd i):=by
 intro sg X E st δ o g hc h
 unfold corS at hc
 split at hc
 ·rename_i v pos
  split at hc
  ·rename_i x q
   obtain⟨np,rfl⟩:=q0m q
   obtain⟨s1,s2,s3,s4⟩:=q2E g hc
   unfold evS at h
   exact z3c (q3V s1 s2 s3 s4) h
  ·cases hc
 ·cases hc
theorem y0z:SS G F fu (.sep i):=by
 intro sg X E st δ o g hc h
 unfold corS at hc
 split at hc
 ·rename_i t v pos
  split at hc
  ·rename_i x q
   obtain⟨np,rfl⟩:=q0m q
   split at hc
   ·rw[Bool.and_eq_true,beq_iff_eq]at hc
    obtain⟨l1,l2⟩:=g.loc x hc.2
    unfold evS at h
    exact z5d g.nd (by rw[g.N];exact hc.1) l1 l2 h
   ·cases hc
  ·cases hc
 ·cases hc
theorem z9V{ks:List ME}:SS G F fu (.dpp i ks e):=by
 intro sg X E st δ o g hc h
 unfold corS at hc
 split at hc
 ·rename_i t v pos
  split at hc
  ·rename_i ob ek q
   obtain⟨sp,rfl⟩:=q1a q
   simp only[Bool.and_eq_true,Bool.not_eq_true']at hc
   obtain⟨⟨⟨h1,h2⟩,h4⟩,h5⟩:=hc
   split at h1
   ·rename_i x q3
    obtain⟨np,rfl⟩:=q0m q3
    obtain⟨s1,s2,s3,s4⟩:=q2E g h1
    split at h2
    ·rename_i es q4
     obtain⟨tk,tp,rfl⟩:=q2L q4
     unfold evS at h
     exact z7b (Nat.lt_of_le_of_lt (by omega) g.hu) (q3V s1 s2 s3 s4) (λz hz=>(snd e).1 g h4 hz) (λz hz=>sndL ks g h2 hz) h5 h
    ·cases h2
   ·cases h1
  ·cases hc
 ·cases hc
theorem z9B:SS G F fu (.seti i k e):=by
 intro sg X E st δ o g hc h
 unfold corS at hc
 split at hc
 ·rename_i t v pos
  split at hc
  ·rename_i ob ek q
   obtain⟨sp,rfl⟩:=q1a q
   simp only[Bool.and_eq_true,Bool.not_eq_true']at hc
   obtain⟨⟨⟨h2,h3⟩,h4⟩,h5⟩:=hc
   split at h2
   ·rename_i x q3
    obtain⟨np,rfl⟩:=q0m q3
    obtain⟨s1,s2,s3,s4⟩:=q2E g h2
    unfold evS at h
    exact z2v (q3V s1 s2 s3 s4) (λz hz=>(snd e).1 g h5 hz) (λz hz=>(snd k).1 g h3 hz) h4 h
   ·cases h2
  ·cases hc
 ·cases hc
theorem y1g:SS G F fu (.exp e):=by
 intro sg X E st δ o g hc h
 unfold corS at hc
 split at hc
 ·simp only[Bool.and_eq_true,Bool.not_eq_true']at hc
  unfold evS at h
  exact z6c (λz hz=>(snd e).1 g hc.1 hz) hc.2 h
 ·cases hc
theorem y1m:SS G F fu (.ret e):=by
 intro sg X E st δ o g hc h
 unfold corS at hc
 split at hc
 ·unfold evS at h
  exact z5U (λz hz=>(snd e).1 g hc hz) h
 ·cases hc
theorem y0D{c:Str}:SS G F fu (.rse c e):=by
 intro sg X E st δ o g hc h
 unfold corS at hc
 split at hc
 ·rename_i v pos
  split at hc
  ·rename_i ef ea cpos q
   have:=q0A q
   subst this
   simp only[Bool.and_eq_true,Bool.not_eq_true',beq_iff_eq,bne_iff_ne,ne_eq]at hc
   obtain⟨⟨⟨⟨⟨h0,h1⟩,h2⟩,h3⟩,h4⟩,h5⟩:=hc
   obtain⟨np,rfl⟩:=q0m h1
   unfold evS at h
   exact z2o g.xf g.calm (g.glo c h2) (beq_eq_false_iff_ne.mpr h3) (g.st h0).2.2.2 (λz hz=>(snd e).1 g h4 hz) h5 h
  ·cases hc
 ·cases hc
theorem y0L:SS G F fu (.frz i):=by
 intro sg X E st δ o g hc h
 unfold corS at hc
 cases hc
variable {a b body:List MS} {c:ME} {tg:Tg}
theorem y0R(ha:SSs G F fu a)(hb:SSs G F fu b):SS G F fu (.iff c a b):=by
 intro sg X E st δ o g hc h
 unfold corS at hc
 split at hc
 ·simp only[Bool.and_eq_true]at hc
  unfold evS at h
  exact z9L (λz hz=>(snd c).2.1 g hc.1.1 hz) (λz hz=>ha g hc.1.2 hz) (λz hz=>hb g hc.2 hz) h
 ·cases hc
theorem t_fo(hb:SSs G F fu body):SS G F fu (.fo tg e body):=by
 intro sg X E st δ o g hc h
 unfold corS at hc
 split at hc
 ·simp only[Bool.and_eq_true,Bool.not_eq_true',Bool.or_eq_true]at hc
  obtain⟨⟨⟨⟨h0,h1⟩,h2,h3⟩,h4⟩,h5⟩:=hc
  unfold evS at h
  exact z7y (g.own h0) g.calm (λz hz=>(snd e).2.2 g h2 (λw=>by
   rcases h3 with q | q
   ·rw[w]at q;cases q
   ·exact q) hz) (z0r g h1) (λδ' o' ho=>hb g h5 ho) h4 h
 ·cases hc
theorem t_wh(hb:SSs G F fu body):SS G F fu (.wh c body):=by
 intro sg X E st δ o g hc h
 unfold corS at hc
 split at hc
 ·simp only[Bool.and_eq_true]at hc
  unfold evS at h
  exact z1c (g.own hc.1.1) (λδ' r hr=>(snd c).2.1 g hc.1.2 hr) (λδ' o' ho=>hb g hc.2 ho) h
 ·cases hc
theorem z7F:SSs G F fu []:=by
 intro sg X E sts δ o g hc h
 cases sts with
 | nil=>unfold evSs at h;cases h;exact z6C
 | cons a b=>unfold q3h at hc;cases hc
theorem z7Z{ms:List MS}(hb:SSs G F fu ms):SSs G F fu (.frz i::ms):=by
 intro sg X E sts δ o g hc h
 have hc':q3h sg ms sts=true:=by unfold q3h at hc;exact hc
 unfold evSs at h
 have key:evS G F fu (.frz i) δ=(match δ[i]? with | some (.own d)=>some (.nx (δ.set i (.val d))) | _=>some (.nx δ)):=by unfold evS;rfl
 rw[key]at h
 cases q:δ[i]? with
 | none=>rw[q]at h;exact hb g hc' h
 | some sv=>
  rw[q]at h
  cases sv with
  | own d=>exact q9u q (hb g hc' h)
  | no=>exact hb g hc' h
  | val d=>exact hb g hc' h
  | ot d=>exact hb g hc' h
  | o2 d=>exact hb g hc' h
  | od d=>exact hb g hc' h
theorem q1o{m:MS}{ms:List MS}(ha:SS G F fu m)(hb:SSs G F fu ms)(hm:∀i,m ≠ .frz i):SSs G F fu (m::ms):=by
 intro sg X E sts δ o g hc h
 cases sts with
 | nil=>
  exfalso
  cases m<;>first | exact hm _ rfl | (unfold q3h at hc;cases hc)
 | cons st sts=>
  have hc':corS sg m st=true/\q3h sg ms sts=true:=by
   cases m<;>first | exact absurd rfl (hm _) | (unfold q3h at hc;rw[Bool.and_eq_true]at hc;exact hc)
  unfold evSs at h
  split at h
  ·rename_i δ' q
   exact z2N (ha g hc'.1 q) (hb g hc'.2 h)
  ·rename_i hne
   have A:=ha g hc'.1 h
   cases o with
   | nx δ'=>exact absurd h (hne δ')
   | rt d fr=>exact z7W A
   | rtt d=>exact z5g A
   | ex c δ'=>exact z8p A
end
section
variable {G:Gs} {F:Nat->List DV->Option Ou} {fu:Nat}
mutual
theorem sndS:∀m:MS,SS G F fu m
 | .set _ _ _=>y1p
 | .app _ _=>y1d
 | .ext _ _=>y1r
 | .seti _ _ _=>z9B
 | .exp _=>y1g
 | .ret _=>y1m
 | .iff _ a b=>y0R (q2y a) (q2y b)
 | .fo _ _ body=>t_fo (q2y body)
 | .wh _ body=>t_wh (q2y body)
 | .sep _=>y0z
 | .dpp _ _ _=>z9V
 | .retd _=>z9x
 | .rse _ _=>y0D
 | .frz _=>y0L
theorem q2y:∀ms:List MS,SSs G F fu ms
 | []=>z7F
 | .frz _::ms=>z7Z (q2y ms)
 | .set i o e::ms=>q1o (sndS (.set i o e)) (q2y ms) (by intro i z;cases z)
 | .app i o::ms=>q1o (sndS (.app i o)) (q2y ms) (by intro i z;cases z)
 | .ext i o::ms=>q1o (sndS (.ext i o)) (q2y ms) (by intro i z;cases z)
 | .seti i k o::ms=>q1o (sndS (.seti i k o)) (q2y ms) (by intro i z;cases z)
 | .exp e::ms=>q1o (sndS (.exp e)) (q2y ms) (by intro i z;cases z)
 | .ret e::ms=>q1o (sndS (.ret e)) (q2y ms) (by intro i z;cases z)
 | .iff c a b::ms=>q1o (sndS (.iff c a b)) (q2y ms) (by intro i z;cases z)
 | .fo t i b::ms=>q1o (sndS (.fo t i b)) (q2y ms) (by intro i z;cases z)
 | .wh c b::ms=>q1o (sndS (.wh c b)) (q2y ms) (by intro i z;cases z)
 | .retd i::ms=>q1o (sndS (.retd i)) (q2y ms) (by intro i z;cases z)
 | .sep i::ms=>q1o (sndS (.sep i)) (q2y ms) (by intro i z;cases z)
 | .dpp i k e::ms=>q1o (sndS (.dpp i k e)) (q2y ms) (by intro i z;cases z)
 | .rse c e::ms=>q1o (sndS (.rse c e)) (q2y ms) (by intro i z;cases z)
end
end
end L2
end
noncomputable section
namespace L2
open PySem PySem.Spec PyProof.Rows
structure FunD(K:PySem.W.Frag)(x qual:Str)(st:Stmt)(f:Addr)(fd:FuncData):Prop where
 ex:∃(oc:Value) (od:Option Addr) (dV kV doc pm:Value) (an:Option Addr) (cdv ct:Value) (osl:Array (Option Value)),
  fd=PySem.W.fnOf x qual (q1j st) (q0Q st) (q0k st) dV kV doc pm an cdv ct/\K.lookup f=some ⟨oc,od,.func fd,osl⟩/\PySem.W.codeIn K cdv qual=true
theorem FunD.okX{P:Program}{w:World}{K:PySem.W.Frag}{mg:Str->Option Value}{base:Heap}{x qual:Str}{st:Stmt}{f:Addr}{fd:FuncData}{N ps:List Str}{k:Nat}{sp:Sp}(F:FunD K x qual st f fd)(S:FnScope N ps (q0k st))(len:∀vs H Q E,sp vs H Q E->vs.length=ps.length)
  (hbody:∀(cdv:Value) (A:Around) (outer:List Env) (s:Shared) (H:Hp) (vs:List V) (Q:VK) (E:XK),Room k (A.deeper (envOfC qual (q0k st) s.heap.objs.size f cdv))->sp vs H Q E ->
   ∃t,PSs (cxD P w K mg base N qual (q0k st) f cdv A outer s H E) (q0Q st) t/\t {nx:=λ_ H'=>Q .non H',rt:=Q} (start N vs) H):FnOk P w K mg base (CXx P w base) (k+1) f fd ps sp:=by
 obtain⟨oc,od,dV,kV,doc,pm,an,cdv,ct,osl,rfl,lk,hcd⟩:=F.ex
 exact y0n lk hcd S len λA outer s H vs Q E hr hsp=>hbody cdv A outer s H vs Q E hr hsp
def popB(sg:Sg)(v:Expr):Bool:=match q1y v with
 | some (ef,[ea],[],pos)=>(match q3W ef with
  | some (o,n,apos)=>n == "pop" && (match q0I o with | some x=>q4e sg 1 x | none=>false)&&corE sg false (.int 0) ea && !q0s ea&&apos.endLine==pos.line
  | none=>false)
 | _=>false
def hunC(sg:Sg)(m:ME)(v:Expr):Bool:=match hunB sg 1 v with | some ea=>corE sg false m ea | none=>false
def hm0:ME:=.cmp .Eq (.ix (.var 0) (.int 0)) (.str "end")
def hm1:ME:=.cmp .Eq (.var 1) (.lst [])
def corH(sg:Sg)(b:List Stmt):Bool:=match b with
 | [.If c [.If c2 [.Return (some e1) _] [] _,.Return (some e2) _] [] _,.Assign [.Name x _] e3 _,.Return (some e4) _]=>
  corE sg false hm0 c&&corE sg false hm1 c2&&corE sg false (.var 0) e1&&popB sg e2&&sg.N[2]? == some x&&locB sg x && !q4b e3&&hunC sg (.ix (.var 0) (.int 3)) e3 &&
  (match q3l e4 with
   | some [a,b,c,d,e]=>corE sg false (.str "ask") a&&corE sg false (.ix (.var 0) (.int 1)) b&&corE sg false (.ix (.var 0) (.int 2)) c&&corE sg false (.var 2) d&&hunC sg (.ix (.var 0) (.int 4)) e && !q0s a && !q0s b && !q0s c && !q0s d && !q0s e
   | _=>false)
 | _=>false
def hG:Gs:={con:=[],cls:=[],hun:=true}
structure HStands(K:PySem.W.Frag)(mg:Str->Option Value)(fa:Addr)(fd:FuncData)(ps:List Str):Prop where
 mg:mg q1b=some (.ref fa)
 kp:PySem.W.keepIn K (.ref fa)=true
 bi:q2J K fd ps []
 np:ps.length=2
 ex:∃qual st N,FunD K q1b qual st fa fd/\FnScope N ps (q0k st)/\N.length=3/\corH ⟨N,(q0k st).names,[],[],[],true,true⟩ (q0Q st)=true
theorem z5e{k:Nat}{d:DV}{l:List DV}:q9I k q5F [d,.lst l]=(q7G k d l).map λr=>.v r.1 false:=by
 show(if q5F=q5F then _ else none)=_
 exact if_pos rfl
def hδ(d:DV)(ds:List DV)(x:Sv):List Sv:=[.val d,.own (.lst ds),x]
section
variable {F:Nat->List DV->Option Ou} {d:DV} {ds:List DV} {x:Sv} {s:Str}
end
section
variable {P:Program} {w:World} {K:PySem.W.Frag} {mg:Str->Option Value} {base:Heap} {fa:Addr} {fd:FuncData} {ps:List Str}
end
end L2
end
noncomputable section
namespace L2
open PySem PySem.Spec PyProof.Rows
theorem RSt.start{D:Dm}{H:Hp}{N:List Str}{ds:List DV}{vs:List V}{O:List Addr}{n:Nat}(hn:n=N.length)(r:RepL D (L2.wo O H) ds vs)(ho:Hdn O H):RSt D H (L2.start N vs) (q0h n ds) O []:=by
 subst hn
 have ino:∀(i:Nat) ds',(q0h N.length ds)[i]? ≠ some (.own ds'):=λi ds' h=>by
  unfold q0h at h
  by_cases hi:i<(ds.map Sv.val).length
  ·rw[List.getElem?_append_left hi,List.getElem?_map]at h
   cases q:ds[i]? with
   | none=>rw[q]at h;cases h
   | some d=>rw[q]at h;cases h
  ·rw[List.getElem?_append_right (by omega),List.getElem?_replicate]at h
   split at h<;>cases h
 have iot:∀(i:Nat) ds',(q0h N.length ds)[i]? ≠ some (.ot ds'):=λi ds' h=>by
  unfold q0h at h
  by_cases hi:i<(ds.map Sv.val).length
  ·rw[List.getElem?_append_left hi,List.getElem?_map]at h
   cases q:ds[i]? with
   | none=>rw[q]at h;cases h
   | some d=>rw[q]at h;cases h
  ·rw[List.getElem?_append_right (by omega),List.getElem?_replicate]at h
   split at h<;>cases h
 have io2:∀(i:Nat) ds',(q0h N.length ds)[i]? ≠ some (.o2 ds'):=λi ds' h=>by
  unfold q0h at h
  by_cases hi:i<(ds.map Sv.val).length
  ·rw[List.getElem?_append_left hi,List.getElem?_map]at h
   cases q:ds[i]? with
   | none=>rw[q]at h;cases h
   | some d=>rw[q]at h;cases h
  ·rw[List.getElem?_append_right (by omega),List.getElem?_replicate]at h
   split at h<;>cases h
 have iod:∀(i:Nat) ds',(q0h N.length ds)[i]? ≠ some (.od ds'):=λi ds' h=>by
  unfold q0h at h
  by_cases hi:i<(ds.map Sv.val).length
  ·rw[List.getElem?_append_left hi,List.getElem?_map]at h
   cases q:ds[i]? with
   | none=>rw[q]at h;cases h
   | some d=>rw[q]at h;cases h
  ·rw[List.getElem?_append_right (by omega),List.getElem?_replicate]at h
   split at h<;>cases h
 refine⟨λi d h=>?_,λi ds' h=>absurd h (ino i ds'),λi j a d1 d2 h=>absurd h (ino i d1),λi d h=>absurd h (iot i d),λi d h=>absurd h (io2 i d),λi d h=>absurd h (iod i d),?_,⟨λa ha=>ho.ne a (by simpa using ha),Same.refl _,λa ha=>(nomatch ha),λa ha=>(nomatch ha),ho⟩⟩
 ·unfold q0h at h
  by_cases hi:i<(ds.map Sv.val).length
  ·rw[List.getElem?_append_left hi,List.getElem?_map]at h
   cases q:ds[i]? with
   | none=>rw[q]at h;cases h
   | some d'=>
    rw[q]at h
    cases h
    obtain⟨v,e1,e2⟩:=r.get q
    refine⟨v,?_,by rw[List.append_nil];exact e2⟩
    unfold L2.start
    rw[List.getElem?_append_left (by rw[List.length_map];exact(List.getElem?_eq_some_iff.mp e1).1),List.getElem?_map,e1]
    rfl
  ·rw[List.getElem?_append_right (by omega),List.getElem?_replicate]at h
   split at h<;>cases h
 ·unfold L2.start q0h
  rw[List.length_append,List.length_append,List.length_map,List.length_map,List.length_replicate,List.length_replicate,r.length]
def DfOk(G:Gs)(T:List FD):Prop:=(∀f ds,G.dfl.lookup f=some ds->∃d,T[f]? = some d/\d.dfl=ds/\ds≠[])/\∀f n,G.kws.lookup f=some n->∃d,T[f]? = some d/\d.kn=some n
structure Stands(K:PySem.W.Frag)(mg:Str->Option Value)(fn bl cl:List Str)(d:FD)(x:Str)(fa:Addr)(fd:FuncData)(ps:List Str):Prop where
 dk:(d.dfl≠[]->∃us dvs,q2J K fd ps us/\Vals dvs us/\∀H,RepL ⟨K,mg⟩ H d.dfl dvs)/\∀n,d.kn=some n->KBinds K fd ps [n] (q4d ps.length) (q4d ps.length)
 mg:mg x=some (.ref fa)
 kp:PySem.W.keepIn K (.ref fa)=true
 bi:q2J K fd ps []
 np:d.np=ps.length
 ex:∃qual st N,FunD K x qual st fa fd/\FnScope N ps (q0k st)/\d.n=N.length/\q3h ⟨N,(q0k st).names,fn,bl,cl,true,true⟩ d.body (q0Q st)=true
section
variable {P:Program} {w:World} {K:PySem.W.Frag} {mg:Str->Option Value} {base:Heap} {G:Gs} {T:List FD} {fu:Nat} {fn bl cl:List Str}
theorem z4R(hT:T.length=fn.length)(hs:∀(i:Nat) d x,T[i]? = some d->fn[i]? = some x->∃fa fd ps,Stands K mg fn bl cl d x fa fd ps)(hbl:∀x∈bl,mg x=none)(hxf:XFacts K mg G cl)
  (hcon:∀x d,G.con.lookup x=some d->∃u v,mg x=some u/\RelV v u/\∀H,Rep ⟨K,mg⟩ H d v) (hdc:∀x kvs,G.dcs.lookup x=some kvs->z0O K w mg x kvs) (hdf:DfOk G T) (hh:G.hun=true->T.length<=q5F/\∃fa fd ps,mg q1b=some (.ref fa)/\PySem.W.keepIn K (.ref fa)=true/\q2J K fd ps []/\∀k,FnOk P w K mg base (CXx P w base) k fa fd ps (spH ⟨K,mg⟩ (q7G k))):∀(k i:Nat) d x fa fd ps,T[i]? = some d->fn[i]? = some x->Stands K mg fn bl cl d x fa fd ps ->
  FnOk P w K mg base (CXx P w base) k fa fd ps (spF ⟨K,mg⟩ ps.length (run G T fu k i))
 | 0,i,d,x,fa,fd,ps,h1,h2,S=>by
  refine⟨λvs H Q E h=>?_,λA outer s H args us vs Q E hr he hb hv h=>?_⟩
  ·obtain⟨_,_,_,_,_,_,q,_⟩:=h
   cases q
  ·obtain⟨_,_,_,_,_,_,q,_⟩:=h
   cases q
 | k+1,i,d,x,fa,fd,ps,h1,h2,S=>by
  obtain⟨qual,st,N,F,FS,hn,hc⟩:=S.ex
  refine F.okX FS (λvs H Q E h=>?_) (λcdv A outer s H vs Q E hr h=>?_)
  ·obtain⟨O,ds,o,_,e1,e2,_⟩:=h
   rw[e2.length,e1]
  ·obtain⟨O,ds,o,ho,e1,e2,e3,e4⟩:=h
   have e3':(match T[i]? with | none=>q9I (k+1) i ds | some fd=>if ds.length=fd.np then Ou.of (evSs G (run G T fu k) fu fd.body (q0h fd.n ds))else none)=some o:=e3
   rw[h1]at e3'
   have e3'':(if ds.length=d.np then Ou.of (evSs G (run G T fu k) fu d.body (q0h d.n ds))else none)=some o:=e3'
   rw[if_pos (e1.trans S.np.symm)]at e3''
   have g:Good ⟨N,(q0k st).names,fn,bl,cl,true,true⟩ G (run G T fu k) (cxD P w K mg base N qual (q0k st) fa cdv A outer s H E) (λ_=>E):=by
    refine⟨rfl,FS.nd,λy hy=>?_,λy hy=>?_,λy hy=>⟨?_,.inl rfl⟩,λy hy=>hy,λy hy=>hy,rfl,hr.units,λf y hy=>?_,hbl,q9n.s,hcon,λ_=>PassesOwn.leaving,hxf,λ_=>⟨rfl,rfl,rfl,q9L⟩,hdc,λz=>by
     obtain⟨hl,fa',fd',ps',s1,s2,s3,s4⟩:=hh z
     refine⟨k,fa',fd',ps',q7G k,hr,s1,s2,s3,λd l=>?_,s4 k⟩
     cases k with
     | zero=>rfl
     | succ k=>
      show(match T[q5F]? with | none=>q9I (k+1) q5F [d,.lst l] | some fd=>if[d,.lst l].length=fd.np then Ou.of (evSs G (run G T fu k) fu fd.body (q0h fd.n [d,.lst l]))else none)=_
      rw[List.getElem?_eq_none hl]
      exact z5e⟩
    ·unfold visB at hy
     simp only[Bool.or_eq_true,beq_iff_eq]at hy
     rcases hy with(hy | hy) | hy
     ·exact .inl hy
     ·exact .inr (.inl hy)
     ·exact .inr (.inr hy)
    ·unfold gloB at hy
     rw[beq_iff_eq]at hy
     exact hy
    ·unfold locB at hy
     simp only[Bool.or_eq_true,beq_iff_eq]at hy
     exact hy
    ·have hf:f<T.length:=by rw[hT];exact(List.getElem?_eq_some_iff.mp hy).1
     obtain⟨d',hd'⟩:∃d',T[f]? = some d':=⟨_,List.getElem?_eq_getElem hf⟩
     obtain⟨fa',fd',ps',S'⟩:=hs f d' y hd' hy
     refine⟨k,fa',fd',ps',hr,S'.mg,S'.kp,S'.bi,λds o q=>?_,z4R hT hs hbl hxf hcon hdc hdf hh k f d' y fa' fd' ps' hd' hy S',?_,?_⟩
     rotate_left
     ·intro ds q
      obtain⟨d2,q1,q2,q3⟩:=hdf.1 f ds q
      rw[hd']at q1;cases q1
      have:=S'.dk.1 (by rw[q2];exact q3)
      rw[q2]at this
      exact this
     ·intro n q
      obtain⟨d2,q1,q2⟩:=hdf.2 f n q
      rw[hd']at q1;cases q1
      exact S'.dk.2 n q2
     cases k with
     | zero=>cases q
     | succ k=>
      have q':(match T[f]? with | none=>q9I (k+1) f ds | some fd=>if ds.length=fd.np then Ou.of (evSs G (run G T fu k) fu fd.body (q0h fd.n ds))else none)=some o:=q
      rw[hd']at q'
      have q'':(if ds.length=d'.np then Ou.of (evSs G (run G T fu k) fu d'.body (q0h d'.n ds))else none)=some o:=q'
      split at q''
      ·rename_i z;rw[z,S'.np]
      ·cases q''
   cases ho':evSs G (run G T fu k) fu d.body (q0h d.n ds)with
   | none=>rw[ho']at e3'';cases e3''
   | some oo=>
    rw[ho']at e3''
    refine⟨_,q2y d.body g hc ho',H,O,[],RSt.start hn e2 ho,(λa ha=>(nomatch ha)),ho.ne,Same.refl H,?_⟩
    cases oo with
    | nx δ=>cases e3'';exact λσ' H' W R fr sm=>e4 .non H' sm (show Rep ⟨K,mg⟩ (L2.wo O H') .non .non by unfold Rep;rfl)
    | rt d fr=>cases e3'';exact λv H' sm gt=>e4 v H' sm gt
    | rtt d=>cases e3'';exact λv H' sm gt=>e4 v H' sm gt
    | ex c δ=>cases e3'';exact λσ' H' W C hm R fr sm=>e4 H' C hm sm
end
end L2
end
noncomputable section
namespace L2
open PySem PySem.Spec PyProof.Rows
def okD(fn bl cl:List Str)(d:FD)(N ps:List Str)(st:Stmt):Bool:=
 (q0k st).kind == .function && !(q0k st).isCoroutine && !(q0k st).isGenerator&&q4U N&&(N.take ps.length==ps) &&
 ps.all (λx=>(q0k st).names.lookup x==some .local||(q0k st).names.lookup x==some .cell)&&(q0k st).names.all (λy=>!(y.2 == .free)) &&
 d.n==N.length&&d.np==ps.length&&q3h ⟨N,(q0k st).names,fn,bl,cl,true,true⟩ d.body (q0Q st)
section
variable {P:Program} {w:World} {K:PySem.W.Frag} {mg:Str->Option Value} {base h:Heap} {G:Gs} {T:List FD} {fu:Nat} {fn bl cl:List Str}
theorem q5z{d:FD}{x:Str}{N ps:List Str}{st:Stmt}{f:Addr}{oc:Value}{od an:Option Addr}{osl:Array (Option Value)}{dV kV doc pm cdv ct:Value}(X:K.In h)(Ns:h.Ns mainGlobals mg)(ok:okD fn bl cl d N ps st=true)
  (a:PySem.W.nsIn K mainGlobals x=some (some (.ref f))) (l:K.lookup f=some ⟨oc,od,.func (PySem.W.fnOf x x (q1j st) (q0Q st) (q0k st) dV kV doc pm an cdv ct),osl⟩)
  (c:PySem.W.codeIn K cdv x=true) (k:PySem.W.keepIn K (.ref f)=true)
  (hb:q2J K (PySem.W.fnOf x x (q1j st) (q0Q st) (q0k st) dV kV doc pm an cdv ct) ps [])
  (dk:(d.dfl≠[]->∃us dvs,q2J K (PySem.W.fnOf x x (q1j st) (q0Q st) (q0k st) dV kV doc pm an cdv ct) ps us/\Vals dvs us/\∀H,RepL ⟨K,mg⟩ H d.dfl dvs)/\∀n,d.kn=some n->KBinds K (PySem.W.fnOf x x (q1j st) (q0Q st) (q0k st) dV kV doc pm an cdv ct) ps [n] (q4d ps.length) (q4d ps.length)) :
  Stands K mg fn bl cl d x f (PySem.W.fnOf x x (q1j st) (q0Q st) (q0k st) dV kV doc pm an cdv ct) ps:=by
 unfold okD at ok
 simp only[Bool.and_eq_true,beq_iff_eq,Bool.not_eq_true',List.all_eq_true,Bool.or_eq_true,beq_eq_false_iff_ne]at ok
 obtain⟨⟨⟨⟨⟨⟨⟨⟨⟨h1,h2⟩,h3⟩,h4⟩,h5⟩,h6⟩,h7⟩,h8⟩,h9⟩,h10⟩:=ok
 exact⟨dk,PySem.W.mg_of X Ns a,k,hb,h9,x,st,N,⟨oc,od,dV,kV,doc,pm,an,cdv,ct,osl,rfl,l,c⟩,⟨h1,h2,h3,q2h h4,h5,h6,h7⟩,h8,h10⟩
theorem q0i{d:FD}{x:Str}{N ps:List Str}{st:Stmt}{f:Addr}{oc:Value}{od an:Option Addr}{osl:Array (Option Value)}{kV doc pm cdv ct:Value}(X:K.In h)(Ns:h.Ns mainGlobals mg)(ok:okD fn bl cl d N ps st=true)
  (a:PySem.W.nsIn K mainGlobals x=some (some (.ref f))) (l:K.lookup f=some ⟨oc,od,.func (PySem.W.fnOf x x (q1j st) (q0Q st) (q0k st) .none kV doc pm an cdv ct),osl⟩)
  (c:PySem.W.codeIn K cdv x=true) (k:PySem.W.keepIn K (.ref f)=true)
  (hb:∀(kV doc pm:Value) (an:Option Addr) (cdv ct:Value) (us:List Value),us.length=ps.length->bindArgs (PySem.W.fnOf x x (q1j st) (q0Q st) (q0k st) .none kV doc pm an cdv ct) ⟨us,[]⟩=pure (ps.zip us)) (e1:d.dfl=[]:=by rfl) (e2:d.kn=none:=by rfl) :
  Stands K mg fn bl cl d x f (PySem.W.fnOf x x (q1j st) (q0Q st) (q0k st) .none kV doc pm an cdv ct) ps:=
 q5z X Ns ok a l c k (.all (hb kV doc pm an cdv ct)) ⟨λz=>absurd e1 z,λn z=>by rw[e2]at z;cases z⟩
theorem z1A{fd:FuncData}{ps:List Str}{n:Str}(h:∀(s:Shared) (us:List Value) (w:Value),K.In s.heap->us.length+1=ps.length->BindsTo s fd ⟨us,[(n,w)]⟩ (ps.zip (us++[w])))(hp:ps≠[]):KBinds K fd ps [n] (q4d ps.length) (q4d ps.length):=by
 refine⟨λs us ws hK hl=>?_,λr q=>z1Y r q⟩
 unfold q4d at hl ⊢
 split at hl
 ·rename_i c
  rw[if_pos c]
  obtain⟨w,rfl⟩:=List.length_eq_one_iff.mp c.2
  exact h s us w hK c.1
 ·exact absurd (List.length_eq_zero_iff.mp hl.symm) hp
theorem y1e{G:Gs}{T:List FD}(e1:G.dfl=[]:=by rfl)(e2:G.kws=[]:=by rfl):DfOk G T:=⟨λf ds q=>(by rw[e1]at q;cases q),λf n q=>(by rw[e2]at q;cases q)⟩
theorem z3r{G:Gs}{p:Prop}(e:G.hun=false:=by rfl):G.hun=true->p:=λz=>by rw[e]at z;cases z
def okH(N ps:List Str)(st:Stmt):Bool:=
 (q0k st).kind == .function && !(q0k st).isCoroutine && !(q0k st).isGenerator&&q4U N&&(N.take ps.length==ps) &&
 ps.all (λx=>(q0k st).names.lookup x==some .local||(q0k st).names.lookup x==some .cell)&&(q0k st).names.all (λy=>!(y.2 == .free)) &&
 N.length==3&&ps.length==2&&corH ⟨N,(q0k st).names,[],[],[],true,true⟩ (q0Q st)
theorem z7C{N ps:List Str}{st:Stmt}{f:Addr}{oc:Value}{od an:Option Addr}{osl:Array (Option Value)}{kV doc pm cdv ct:Value}(X:K.In h)(Ns:h.Ns mainGlobals mg)(ok:okH N ps st=true)
  (a:PySem.W.nsIn K mainGlobals q1b=some (some (.ref f))) (l:K.lookup f=some ⟨oc,od,.func (PySem.W.fnOf q1b q1b (q1j st) (q0Q st) (q0k st) .none kV doc pm an cdv ct),osl⟩)
  (c:PySem.W.codeIn K cdv q1b=true) (k:PySem.W.keepIn K (.ref f)=true)
  (hb:∀(kV doc pm:Value) (an:Option Addr) (cdv ct:Value) (us:List Value),us.length=ps.length->bindArgs (PySem.W.fnOf q1b q1b (q1j st) (q0Q st) (q0k st) .none kV doc pm an cdv ct) ⟨us,[]⟩=pure (ps.zip us)) :
  HStands K mg f (PySem.W.fnOf q1b q1b (q1j st) (q0Q st) (q0k st) .none kV doc pm an cdv ct) ps:=by
 unfold okH at ok
 simp only[Bool.and_eq_true,beq_iff_eq,Bool.not_eq_true',List.all_eq_true,Bool.or_eq_true,beq_eq_false_iff_ne]at ok
 obtain⟨⟨⟨⟨⟨⟨⟨⟨⟨h1,h2⟩,h3⟩,h4⟩,h5⟩,h6⟩,h7⟩,h8⟩,h9⟩,h10⟩:=ok
 exact⟨PySem.W.mg_of X Ns a,k,.all (hb kV doc pm an cdv ct),h9,q1b,st,N,⟨oc,od,.none,kV,doc,pm,an,cdv,ct,osl,rfl,l,c⟩,⟨h1,h2,h3,q2h h4,h5,h6,h7⟩,h8,h10⟩
def HS(K:PySem.W.Frag)(mg:Str->Option Value)(fn bl cl:List Str)(T:List FD)(fs:List Str):Prop:=∀(i:Nat) d x,T[i]? = some d->fs[i]? = some x->∃fa fd ps,Stands K mg fn bl cl d x fa fd ps
theorem z9b{fs:List Str}:HS K mg fn bl cl [] fs:=λi d x h=>by cases h
theorem q0o{d:FD}{x:Str}{fs:List Str}{fa:Addr}{fd:FuncData}{ps:List Str}(h:Stands K mg fn bl cl d x fa fd ps)(t:HS K mg fn bl cl T fs):HS K mg fn bl cl (d::T) (x::fs):=λi d' x' h1 h2=>by
 cases i with
 | zero=>cases h1;cases h2;exact⟨_,_,_,h⟩
 | succ i=>exact t i d' x' h1 h2
theorem z8f{H:Hp}:L2.wo [] H=H:=by
 funext b
 unfold L2.wo
 simp
def HC(K:PySem.W.Frag)(mg:Str->Option Value)(c:List (Str×DV)):Prop:=∀x d,c.lookup x=some d->∃u v,mg x=some u/\RelV v u/\∀H,Rep ⟨K,mg⟩ H d v
theorem z6O:HC K mg []:=λx d h=>by cases h
theorem q9g{c:List (Str×DV)}{y:Str}{d:DV}(h:∃u v,mg y=some u/\RelV v u/\∀H,Rep ⟨K,mg⟩ H d v)(t:HC K mg c):HC K mg ((y,d)::c):=λx d' q=>by
 rw[List.lookup_cons]at q
 split at q
 ·rename_i e
  cases q
  rw[eq_of_beq e]
  exact h
 ·exact t x d' q
def OneL(K:PySem.W.Frag)(mg:Str->Option Value)(G:Gs)(cl:List Str)(l:List (Str×List Str)):Prop:=∀c,(l.lookup c).isSome=true->∃C,XOne K mg G cl c C
theorem z5T{cl:List Str}:OneL K mg G cl []:=λc h=>by cases h
theorem q5O{cl:List Str}{c:Str}{b:List Str}{l:List (Str×List Str)}(h:∃C,XOne K mg G cl c C)(t:OneL K mg G cl l):OneL K mg G cl ((c,b)::l):=λc' q=>by
 rw[List.lookup_cons]at q
 split at q
 ·rename_i e
  rw[eq_of_beq e]
  exact h
 ·exact t c' q
def AllL(mg:Str->Option Value)(l:List Str):Prop:=∀t∈l,∃Ct,mg t=some (.ref Ct)
theorem z6I:AllL mg []:=λt h=>by cases h
theorem all_cons{t:Str}{l:List Str}(h:∃Ct,mg t=some (.ref Ct))(r:AllL mg l):AllL mg (t::l):=λt' q=>by
 rcases List.mem_cons.mp q with e | e
 ·rw[e];exact h
 ·exact r t' e
def OwnL(K:PySem.W.Frag)(mg:Str->Option Value)(G:Gs)(c:Str)(C:Addr)(l:List Str):Prop:=∀t∈l,∀Ct,mg t=some (.ref Ct)->PySem.W.kitOne K (.ref C) (.ref Ct)=some (q3i G c t)/\(q3i G c t=true->PySem.W.exmOne K (.ref C) (.ref Ct)=some true)
theorem q7U{c:Str}{C:Addr}:OwnL K mg G c C []:=λt h=>by cases h
theorem q1I{c t:Str}{C Ct:Addr}{l:List Str}(m:mg t=some (.ref Ct))(h:PySem.W.kitOne K (.ref C) (.ref Ct)=some (q3i G c t)/\(q3i G c t=true->PySem.W.exmOne K (.ref C) (.ref Ct)=some true))(r:OwnL K mg G c C l):OwnL K mg G c C (t::l):=λt' q Ct' m'=>by
 rcases List.mem_cons.mp q with e | e
 ·subst e
  cases m.symm.trans m'
  exact h
 ·exact r t' e Ct' m'
def spS(K:PySem.W.Frag):Sp:=λvs H Q _=>∃(a:Addr) (ns:List Int),vs=[.ref a]/\ns.length<=63/\SqS K H a (ns.map V.int)/\∀H',Q (.bl true) H'
def DCL(K:PySem.W.Frag)(w:World)(mg:Str->Option Value)(l:List (Str×List (Str×Str))):Prop:=∀x kvs,l.lookup x=some kvs->z0O K w mg x kvs
theorem z5u{w:World}:DCL K w mg []:=λx kvs h=>by cases h
theorem z9R{w:World}{y:Str}{kv:List (Str×Str)}{l:List (Str×List (Str×Str))}(h:z0O K w mg y kv)(t:DCL K w mg l):DCL K w mg ((y,kv)::l):=λx kvs q=>by
 rw[List.lookup_cons]at q
 split at q
 ·rename_i e
  cases q
  rw[beq_iff_eq.mp e]
  exact h
 ·exact t x kvs q
def KVL(K:PySem.W.Frag)(a:Addr)(l:List (Str×Str)):Prop:=∀k v,l.lookup k=some v->v.length<=sizeLine/\∃t,PySem.W.nsIn K a k=some (some (.str v t))
theorem y0s{a:Addr}:KVL K a []:=λk v h=>by cases h
theorem z9Q{a:Addr}{k v:Str}{t:Tok}{l:List (Str×Str)}(h1:v.length<=sizeLine)(h2:PySem.W.nsIn K a k=some (some (.str v t)))(r:KVL K a l):KVL K a ((k,v)::l):=λk' v' q=>by
 rw[List.lookup_cons]at q
 split at q
 ·rename_i e
  cases q
  rw[beq_iff_eq.mp e]
  exact⟨h1,t,h2⟩
 ·exact r k' v' q
theorem z3L{k i:Nat}{d:FD}{x p:Str}{fa:Addr}{fd:FuncData}(hT:T.length=fn.length)(hs:HS K mg fn bl cl T fn)(hbl:∀x∈bl,mg x=none)(hxf:XFacts K mg G cl)
  (hcon:∀x d,G.con.lookup x=some d->∃u v,mg x=some u/\RelV v u/\∀H,Rep ⟨K,mg⟩ H d v) (hdc:∀x kvs,G.dcs.lookup x=some kvs->z0O K w mg x kvs) (hdf:DfOk G T) (hh:G.hun=true->T.length<=q5F/\∃fa fd ps,mg q1b=some (.ref fa)/\PySem.W.keepIn K (.ref fa)=true/\q2J K fd ps []/\∀k,FnOk P w K mg base (CXx P w base) k fa fd ps (spH ⟨K,mg⟩ (q7G k))) (h1:T[i]? = some d) (h2:fn[i]? = some x) (S:Stands K mg fn bl cl d x fa fd [p])
  (law:∀ns:List Int,ns.length<=63->run G T fu k i [.scr ns]=some (.v (.bl true) false)):FnOk P w K mg base CX0 k fa fd [p] (spS K):=by
 have R:=z4R (P:=P) (w:=w) (base:=base) (fu:=fu) hT hs hbl hxf hcon hdc hdf hh k i d x fa fd [p] h1 h2 S
 refine⟨λvs H Q E h=>?_,λA outer s H args us vs Q E hr he hb hv h=>?_⟩
 ·obtain⟨a,ns,rfl,_⟩:=h
  rfl
 ·obtain⟨a,ns,rfl,hl,hS,hq⟩:=h
  refine codeAny_mono (R.run A outer s H args us [.ref a] Q E0 hr he hb hv ⟨[],[.scr ns],_,(λa ha=>(nomatch ha)),rfl,?_,law ns hl,λv H' _ g=>?_⟩) λr s' q=>?_
  ·refine RepL.one (q2v.mpr ⟨a,rfl,?_⟩)
   rw[z8f]
   exact hS
  ·have g':Rep ⟨K,mg⟩ (L2.wo [] H') (.bl true) v:=g
   rw[q4c]at g'
   subst g'
   exact hq H'
  ·cases r with
   | error e=>
    obtain⟨_,_,_,_,_,_,_,_,_,_,z⟩:=(q:CXx P w base outer H s E0 e s')
    exact z.elim
   | ok fl=>cases fl<;>first | exact False.elim q | exact q
end
theorem walkE{l:PySem.W.OpenLaw}{q:Program}{loose:List Str}{XP:(Str->Option Value)->Heap->Prop}{YP:World->Heap->Prop}{d:DefRec}{K:Params->PySem.W.Frag}{k:Nat}{p:Str}(hn:l.most=some 63)(hdf:d.params.defaults=[])(hr:Room k callerA)
  (hY:∀(w:World) (h:Heap),YP w h->(K w.params).In h)
  (F:∀(w:World) (mg:Str->Option Value) (fa:Addr) (h:Heap),(K w.params).In h->h.Ns mainGlobals mg->mg d.name=some (.ref fa) ->
   ∃fd:FuncData,(∀(s:Shared) (u:Value),BindsTo s fd ⟨[u],[]⟩ [(p,u)])/\∀base:Heap,(K w.params).In base->base.Ns mainGlobals mg->FnOk l.prog w (K w.params) mg base CX0 k fa fd [p] (spS (K w.params))) :
  PySem.W.WalkO q loose XP YP l.row.toRowW d [] (λf vs=>PySem.call f vs):=
 L2.walk_of (n:=63) (k:=k) (x:=p) (CX:=λ_=>CX0) (sp:=λw=>spS (K w.params)) hn (by decide) hdf hr hY F (λ_ _ a ns hl hO hS=>⟨a,ns,rfl,hl,SqS.of hO hS,λ_=>rfl⟩) λ_ _ _ _ _ z=>z
end L2
end
noncomputable section
namespace k53
open PySem L2
def q3F:FD:={n:=3,np:=3,dfl:=[],body:=[.ret (.and [.isi (.var 0) ["int"],.not (.isi (.var 0) ["bool"]),.chain .LtE .LtE (.var 1) (.var 0) (.var 2)])]}
def q3D:FD:={n:=1,np:=1,dfl:=[],body:=[.ret (.bi .tuple [.comp (.bi .tuple [.comp (.ix (.var 0) (.var 1)) (.one 0) (.var 1) [none,some 0]]) (.one 0) (.rng [.bi .len [.ix (.var 0) (.int 0)]]) [none,some 0]])]}
def z3z:FD:={n:=3,np:=3,dfl:=[],body:=[.exp (.call 3 [.var 1,.bi .len [.var 0]]),.exp (.call 3 [.var 2,.bi .len [.ix (.var 0) (.int 0)]]),.ret (.call 5 [.var 0,.call 4 [.var 1],.call 4 [.var 2]])]}
def q1B:FD:={n:=2,np:=2,dfl:=[],body:=[.iff (.not (.call 0 [.var 0,.int 1,.bin .Sub (.bin .LShift (.int 1) (.var 1)) (.int 1)])) [.rse "NoCard" (.str "a set of cards is an int from 1 on with cards of the table alone")] []]}
def q2O:FD:={n:=1,np:=1,dfl:=[],body:=[.ret (.compi (.var 0) (.one 0) (.rng [.meth .bitLength (.var 0) []]) (.bin .BitAnd (.bin .RShift (.var 1) (.var 0)) (.int 1)) [none,some 0])]}
def q2P:FD:={n:=3,np:=3,dfl:=[],body:=[.ret (.bi .tuple [.comp (.bi .tuple [.comp (.ix (.ix (.var 1) (.var 2)) (.var 0)) (.one 0) (.var 1) [none,some 2,some 0]]) (.one 0) (.var 1) [none,some 2,some 0]])]}
def q2z:FD:={n:=1,np:=1,dfl:=[],body:=[.ret (.comp (.idx (.var 1) (.var 0)) (.one 0) (.var 0) [none,some 0])]}
def q1q:FD:={n:=1,np:=1,dfl:=[],body:=[.ret (.call 6 [.call 1 [.var 0]])]}
def q3A:FD:={n:=1,np:=1,dfl:=[],body:=[.ret (.call 5 [.var 0,.bi .sset [.call 6 [.var 0]],.bi .sset [.call 7 [.var 0]]])]}
def q2R:FD:={n:=2,np:=1,dfl:=[],body:=[.set 1 false (.call 8 [.var 0]),.ret (.and [.cmp .LtE (.bi .len [.var 1]) (.glb "SMALL_LINES"),.cmp .LtE (.bi .len [.ix (.var 1) (.int 0)]) (.glb "SMALL_LINES")])]}
def q1C:FD:={n:=1,np:=1,dfl:=[],body:=[.iff (.not (.call 9 [.var 0])) [.rse "TooGreat" (.str "the table has more than five kinds of rows or of columns")] []]}
def q2S:FD:={n:=3,np:=1,dfl:=[],body:=[.set 1 true (.lst []),.fo (.one 2) (.var 0) [.ext 1 (.var 2)],.ret (.bi .sset [.var 1])]}
def q5T:FD:={n:=5,np:=2,dfl:=[],body:=[.set 2 false (.call 6 [.call 14 [.var 0,.var 1]]),.set 3 false (.bi .sset [.var 2]),.set 4 false (.meth .bitLength (.bin .Sub (.bi .len [.var 3]) (.int 1)) []),.ret (.comp (.call 15 [.idx (.var 1) (.var 0),.var 2]) (.one 0) (.var 2) [none,some 3,some 4])]}
def q1X:FD:={n:=2,np:=2,dfl:=[.str "row"],kn:=some "side",body:=[.ret (.bi .len [.ix (.call 12 [.var 0,.var 1]) (.int 0)])]}
def q2M:FD:={n:=2,np:=2,dfl:=[],body:=[.ret (.ite (.cmp .Eq (.var 1) (.str "row")) (.var 0) (.call 1 [.var 0]))]}
def q4t:FD:={n:=2,np:=2,dfl:=[],body:=[.ret (.comp (.bin .BitAnd (.bin .RShift (.var 1) (.var 0)) (.int 1)) (.one 0) (.rng [.bin .Sub (.var 1) (.int 1),.neg (.int 1),.neg (.int 1)]) [none,some 0])]}
def q1W:FD:={n:=1,np:=1,dfl:=[],body:=[.ret (.call 17 [.call 18 [.var 0]])]}
def q5U:FD:={n:=1,np:=1,dfl:=[],body:=[.ret (.comp (.tup [.ix (.var 0) (.int 0),.ix (.var 0) (.int 1),.var 1]) (.many [0,1]) (.itm (.var 0)) [none,none])]}
def q1r:FD:={n:=1,np:=1,dfl:=[],body:=[.ret (.call 20 [.var 0,.int 0,.glb "joined_bits"])]}
def q1E:FD:={n:=2,np:=2,dfl:=[],body:=[.ret (.bin .Add (.int 1) (.bi .max [.var 0,.var 1]))]}
def q1L:FD:={n:=8,np:=3,dfl:=[],body:=[.exp (.call 10 [.var 0]),.set 3 false (.call 8 [.var 0]),.sep 4,.fo (.one 5) (.rng [.int 1,.bin .LShift (.int 1) (.bi .len [.var 3])]) [.fo (.one 6) (.rng [.int 1,.bin .LShift (.int 1) (.bi .len [.ix (.var 3) (.int 0)])]) [.iff (.cmp .Eq (.bi .len [.call 11 [.call 2 [.var 3,.var 5,.var 6]]]) (.int 1)) [.dpp 4 [.var 5,.var 6] (.var 1)] [.set 7 false (.call 21 [.var 5,.var 6]),.dpp 4 [.var 5,.var 6] (.bi .min [.comp (.callv 4 [("joined_bits",19)] [.dgp 5 (.var 2),.dgp 5 (.var 3)]) (.many [0,1,2,3]) (.var 7) [none,none,none,none,some 2,some 4]])]]],.retd 4]}
def q4l:FD:={n:=4,np:=2,dfl:=[],body:=[.set 2 false (.comp (.tup [.str "row",.var 0,.tup [.bin .Sub (.var 1) (.var 0),.var 2],.tup [.var 0,.var 2]]) (.one 0) (.call 22 [.var 0]) [none,some 0,some 1]),.set 3 false (.comp (.tup [.str "column",.var 0,.tup [.var 1,.bin .Sub (.var 2) (.var 0)],.tup [.var 1,.var 0]]) (.one 0) (.call 22 [.var 1]) [none,some 0,some 1]),.ret (.bin .Add (.var 2) (.var 3))]}
def q4k:FD:={n:=1,np:=1,dfl:=[],body:=[.ret (.compi (.var 0) (.one 0) (.rng [.int 1,.var 0]) (.and [.cmp .Eq (.bin .BitAnd (.var 0) (.var 1)) (.var 0),.cmp .Lt (.var 0) (.bin .Sub (.var 1) (.var 0))]) [none,some 0])]}
def q1V:FD:={n:=1,np:=1,dfl:=[],body:=[.ret (.ix (.ix (.call 16 [.var 0]) (.neg (.int 1))) (.int 2))]}
def q3R:FD:={n:=1,np:=1,dfl:=[],body:=[.ret (.and [.isi (.var 0) ["int"],.not (.isi (.var 0) ["bool"])])]}
def q1s:FD:={n:=2,np:=2,dfl:=[],body:=[.iff (.cmp .Lt (.var 1) (.bi .len [.var 0])) [.ret (.ix (.var 0) (.var 1))] [],.ret (.int 0)]}
def q1H:FD:={n:=7,np:=2,dfl:=[],body:=[.set 2 true (.lst []),.set 3 false (.var 0),.fo (.one 4) (.rng [.var 1]) [.app 2 (.bin .Mod (.var 3) (.int 306783379)),.set 3 false (.bin .FloorDiv (.var 3) (.int 306783379))],.iff (.cmp .Gt (.var 3) (.int 0)) [.ret (.var 2)] [],.set 5 false (.bin .Add (.bin .Mod (.var 0) (.int 2147483647)) (.int 48271)),.fo (.one 4) (.rng [.var 1]) [.set 5 false (.bin .Mod (.bin .Add (.bin .Add (.bin .Mult (.var 5) (.int 48271)) (.bin .Mult (.var 4) (.var 4))) (.int 11)) (.int 2147483647)),.set 6 false (.bin .Add (.bin .Add (.bin .Mult (.bin .FloorDiv (.var 5) (.int 977)) (.int 16807)) (.bin .Mult (.var 5) (.bin .Add (.bin .Mult (.var 4) (.var 4)) (.int 7)))) (.var 4)),.seti 2 (.var 4) (.bin .FloorDiv (.bin .Mod (.var 6) (.int 2147483587)) (.int 7))],.ret (.var 2)]}
def q2b:FD:={n:=4,np:=2,dfl:=[],body:=[.set 0 false (.bi .list [.var 0]),.fo (.one 2) (.rng [.bin .Mod (.ix (.var 1) (.int 0)) (.int 4)]) [.iff (.cmp .Lt (.bi .len [.var 0]) (.int 8)) [.set 3 false (.bin .Mod (.ix (.var 1) (.bin .Add (.int 1) (.var 2))) (.bin .Add (.bi .len [.var 0]) (.int 1))),.set 0 false (.bin .Add (.bin .Add (.slt (.var 0) (.var 3)) (.lst [.ix (.var 0) (.bin .Mod (.ix (.var 1) (.bin .Add (.int 4) (.var 2))) (.bi .len [.var 0]))])) (.slf (.var 0) (.var 3)))] []],.ret (.var 0)]}
def q1v:FD:={n:=10,np:=2,dfl:=[],body:=[.set 2 false (.call 26 [.call 25 [.var 0,.int 0],.int 20]),.set 3 false (.ix (.lst [.int 4,.int 5]) (.bin .FloorDiv (.bin .Mod (.ix (.var 2) (.int 2)) (.int 8)) (.int 7))),.set 4 false (.bin .Add (.int 1) (.bin .Mod (.ix (.var 2) (.int 0)) (.var 3))),.set 5 false (.bin .Add (.int 1) (.bin .Mod (.ix (.var 2) (.int 1)) (.var 3))),.iff (.cmp .Eq (.var 3) (.int 5)) [.set 4 false (.int 5),.set 5 false (.int 5)] [],.set 6 true (.comp (.bin .Mod (.var 0) (.var 1)) (.one 0) (.call 26 [.call 25 [.var 0,.int 1],.bin .Mult (.var 4) (.var 5)]) [none,some 1]),.fo (.one 7) (.rng [.bi .min [.bin .Mult (.var 4) (.var 5),.bin .Sub (.bi .len [.var 0]) (.int 4)]]) [.seti 6 (.var 7) (.bin .Mod (.ix (.var 0) (.bin .Add (.int 4) (.var 7))) (.var 1))],.set 8 false (.call 27 [.comp (.sl (.var 1) (.bin .Mult (.var 0) (.var 2)) (.bin .Add (.bin .Mult (.var 0) (.var 2)) (.var 2))) (.one 0) (.rng [.var 4]) [none,some 6,some 5],.sl (.var 2) (.int 3) (.int 11)]),.set 9 false (.call 27 [.comp (.comp (.ix (.var 0) (.var 1)) (.one 0) (.var 1) [none,some 0]) (.one 0) (.rng [.var 5]) [none,some 8],.sl (.var 2) (.int 11) (.int 19)]),.ret (.comp (.comp (.ix (.var 0) (.var 1)) (.one 0) (.var 1) [none,some 0]) (.one 0) (.rng [.bi .len [.var 8]]) [none,some 9])]}
def q2a:FD:={n:=3,np:=1,dfl:=[],body:=[.set 1 true (.lst []),.fo (.one 2) (.var 0) [.iff (.cmp .NotIn (.var 2) (.var 1)) [.app 1 (.var 2)] []],.ret (.bi .len [.var 1])]}
def q1U:FD:={n:=4,np:=2,dfl:=[],body:=[.set 2 false (.int 1),.fo (.one 3) (.rng [.var 1]) [.set 2 false (.bin .Mult (.var 2) (.var 0))],.ret (.var 2)]}
def q1G:FD:={n:=2,np:=2,dfl:=[],body:=[.ret (.and [.cmp .GtE (.call 30 [.int 2,.var 0]) (.var 1),.or [.cmp .Eq (.var 0) (.int 0),.cmp .Lt (.call 30 [.int 2,.bin .Sub (.var 0) (.int 1)]) (.var 1)]])]}
def q1A:FD:={n:=2,np:=1,dfl:=[],body:=[.set 1 false (.int 0),.wh (.cmp .Lt (.call 30 [.int 2,.var 1]) (.var 0)) [.set 1 false (.bin .Add (.var 1) (.int 1))],.ret (.var 1)]}
def z1T:FD:={n:=9,np:=1,dfl:=[],body:=[.set 1 false (.call 28 [.var 0,.ix (.lst [.int 2,.int 4,.int 10]) (.bin .Mod (.ix (.call 26 [.call 25 [.var 0,.int 2],.int 1]) (.int 0)) (.int 3))]),.set 2 false (.bi .tuple [.comp (.bi .tuple [.var 0]) (.one 0) (.var 1) [none]]),.set 3 false (.comp (.comp (.ix (.var 0) (.var 1)) (.one 0) (.var 1) [none,some 0]) (.one 0) (.rng [.bi .len [.ix (.var 1) (.int 0)]]) [none,some 1]),.set 4 false (.lst [.call 29 [.var 1],.call 29 [.var 3]]),.set 5 false (.lst [.call 13 [.var 2,.str "row"],.call 13 [.var 2,.str "column"]]),.set 6 false (.bi .len [.compi (.var 0) (.one 0) (.rng [.int 10]) (.bi .any [.comp (.cmp .In (.var 1) (.var 0)) (.one 0) (.var 1) [none,some 0]]) [none,some 1]]),.set 7 false (.call 23 [.var 2]),.iff (.or [.not (.call 24 [.var 7]),.not (.call 24 [.ix (.var 5) (.int 0)]),.not (.call 24 [.ix (.var 5) (.int 1)])]) [.ret (.bl false)] [],.fo (.one 8) (.rng [.int 2]) [.iff (.or [.not (.call 31 [.ix (.var 5) (.var 8),.ix (.var 4) (.var 8)]),.cmp .Gt (.var 7) (.bin .Add (.ix (.var 5) (.var 8)) (.call 32 [.var 6]))]) [.ret (.bl false)] [],.iff (.cmp .Gt (.ix (.var 4) (.var 8)) (.call 30 [.var 6,.ix (.var 4) (.bin .Sub (.int 1) (.var 8))])) [.ret (.bl false)] []],.ret (.and [.cmp .GtE (.var 7) (.call 32 [.var 6]),.cmp .Eq (.cmp .Eq (.var 7) (.int 0)) (.cmp .Eq (.var 6) (.int 1))])]}
def T:List FD:=[q3F,q3D,z3z,q1B,q2O,q2P,q2z,q1q,q3A,q2R,q1C,q2S,q5T,q1X,q2M,q4t,q1W,q5U,q1r,q1E,q1L,q4l,q4k,q1V,q3R,q1s,q1H,q2b,q1v,q2a,q1U,q1G,q1A,z1T]
def G:Gs:={con:=[("SMALL_LINES",.int 5),("joined_bits",.fn "joined_bits")],cls:=[("TalkError",["ValueError","Exception","BaseException","object"]),("NoCard",["TalkError","ValueError","Exception","BaseException","object"]),("TooGreat",["TalkError","ValueError","Exception","BaseException","object"])]}
end k53
namespace k53
open PySem L2
variable {fu k:Nat} {F:Nat->List DV->Option Ou} {δ:List Sv} {ds:List DV} {cl:Cl} {N M:Nat} {R:List (List Int)}
theorem z6G{x:Int}:run G T fu (k+1) 24 [.int x]=some (.v (.bl true) false):=by
 rw[q0D (fd:=q3R) rfl rfl]
 rfl
theorem z0k(ns:List Int)(j:Nat):∃v:Int,run G T fu (k+1) 25 [.scr ns,.int j]=some (.v (.int v) false):=by
 rw[q0D (fd:=q1s) rfl rfl]
 unfold q1s
 by_cases h:j<ns.length
 ·refine⟨ns[j],q0W (z4C (q0Z (cl:=.strong) ?_) (q0X ?_))⟩
  ·simp[evE,evEs,q0R,q2o,q0h,biOk,biD,lenD,cmpD,h]
  ·simp[evS,evE,q0R,q0h,ixD,q1S,h,Re.thnS,frD,retD,Cl.item]
 ·refine⟨0,q0W (q3f (q0Z (cl:=.strong) ?_) (q0X rfl))⟩
  simp[evE,evEs,q0R,q2o,q0h,biOk,biD,lenD,cmpD]
  omega
theorem q6y{F:Nat->List DV->Option Ou}{δ:List Sv}{e:ME}{n:Nat}{cl:Cl}(h:evE G F e δ=some (.ok (.int n) cl))(hn:n<=1000):q0L (evE G F (.rng [e]) δ)=some (.ok (upTo 0 n) .fresh):=by
 show q0L (Rs.thn (evEs G F [e] δ) (λl=>(rngD l).map λds=>.ok (.lst ds) .fresh))=_
 rw[q0a h q0e,q2o]
 have hs:(q0E (n:Int)&&decide ((n:Int)<=(mostLen:Int)))=true:=by
  rw[Bool.and_eq_true,decide_eq_true_iff]
  refine⟨?_,Int.le_trans (show(n:Int)<=1000 by omega) (by decide)⟩
  unfold q0E
  rw[Bool.and_eq_true,decide_eq_true_iff,decide_eq_true_iff]
  exact⟨Int.le_trans (by decide) (Int.natCast_nonneg n),Int.lt_of_le_of_lt (show(n:Int)<=1000 by omega) (by decide)⟩
 show q0L ((if q0E (n:Int)&&decide ((n:Int)<=(mostLen:Int))then some (upTo 0 (n:Int).toNat)else none).map λds=>.ok (.lst ds) .fresh)=_
 rw[if_pos hs,Int.toNat_natCast]
 rfl
theorem z9p{j:Nat}(hj:j<1000):q2X (j:Int) (j:Int)=true:=by unfold q2X;simp;omega
theorem m48(x:Int):q2X x 48271=true:=by unfold q2X;simp
theorem q2N{e:ME}{ds:List DV}{c:Cl}(h:evE G F e δ=some (.ok (.lst ds) c)):evE G F (.bi .tuple [e]) δ=some (.ok (.tup ds) c.item):=by
 show Rs.thn (evEs G F [e] δ) (λl=>q5C l)=_
 rw[q0a h q0e]
 rfl
theorem q2F{e:ME}{ds:List DV}{c:Cl}(h:evE G F e δ=some (.ok (.lst ds) c)):evE G F (.bi .len [e]) δ=some (.ok (.int ds.length) .strong):=by
 show Rs.thn (evEs G F [e] δ) (λl=>lenD l)=_
 rw[q0a h q0e]
 rfl
theorem q3q{e:ME}{ds:List DV}{c:Cl}(h:evE G F e δ=some (.ok (.tup ds) c)):evE G F (.bi .len [e]) δ=some (.ok (.int ds.length) .strong):=by
 show Rs.thn (evEs G F [e] δ) (λl=>lenD l)=_
 rw[q0a h q0e]
 rfl
def iD(r:List Int):List DV:=r.map DV.int
def rL(rows:List (List Int)):DV:=.lst (rows.map λr=>.lst (iD r))
def tT(rows:List (List Int)):DV:=.tup (rows.map λr=>.tup (iD r))
def Rect(n m:Nat)(rows:List (List Int)):Prop:=rows.length=n/\∀r∈rows,r.length=m
def col(rows:List (List Int))(j:Nat):List Int:=rows.map λr=>r.getD j 0
def flip(m:Nat)(rows:List (List Int)):List (List Int):=(List.range m).map (col rows)
theorem z0M{r:List Int}{j:Nat}(h:j<r.length):ixD (.tup (iD r)) (.int j)=some (.int (r.getD j 0)):=by
 have hh:(j:Int)<((r.map DV.int).length:Int):=by rw[List.length_map];exact_mod_cast h
 unfold iD
 simp only[ixD,atD,q1S,if_pos (Int.natCast_nonneg j),if_pos hh,Option.bind_some,Int.toNat_natCast,List.getElem?_map,List.getElem?_eq_getElem h,Option.map_some,List.getD_eq_getElem?_getD,Option.getD_some]
theorem z7w{r:List Int}{j:Nat}(h:j<r.length):ixD (.lst (iD r)) (.int j)=some (.int (r.getD j 0)):=by
 have hh:(j:Int)<((r.map DV.int).length:Int):=by rw[List.length_map];exact_mod_cast h
 unfold iD
 simp only[ixD,atD,q1S,if_pos (Int.natCast_nonneg j),if_pos hh,Option.bind_some,Int.toNat_natCast,List.getElem?_map,List.getElem?_eq_getElem h,Option.map_some,List.getD_eq_getElem?_getD,Option.getD_some]
def sub(rows:List (List Int))(I J:List Nat):List (List Int):=I.map λi=>J.map λj=>(rows.getD i []).getD j 0
theorem q6r{rows:List (List Int)}{i:Nat}(h:i<rows.length):ixD (tT rows) (.int i)=some (.tup (iD (rows.getD i []))):=by
 have hh:(i:Int)<((rows.map λr=>DV.tup (iD r)).length:Int):=by rw[List.length_map];exact_mod_cast h
 simp only[tT,ixD,atD,q1S,if_pos (Int.natCast_nonneg i),if_pos hh,Option.bind_some,Int.toNat_natCast,List.getElem?_map,List.getElem?_eq_getElem h,Option.map_some,List.getD_eq_getElem?_getD,Option.getD_some]
theorem q0U{rows:List (List Int)}{i:Nat}(h:i<rows.length):rows.getD i []∈rows:=by
 rw[List.getD_eq_getElem?_getD,List.getElem?_eq_getElem h]
 exact List.getElem_mem h
theorem q2A(n:Nat):∀r:List Int,DV.plains n (iD r)=true
 | []=>by unfold iD;simp[DV.plains]
 | a::r=>by
  have q:=q2A n r
  unfold iD at q ⊢
  rw[List.map_cons]
  unfold DV.plains
  rw[q]
  cases n<;>rfl
theorem z2V{elt it:ME}{tg:Tg}{fr:List (Option Nat)}{f:DV->DV}(hw:q0L (evE G F it δ)=some (.ok ds cl))(hc:cl ≠ .weak)(hl:ds.length<=mostLen)
  (h:∀d∈ds,∃δ' c,tg.bind d (q0v fr δ)=some δ'/\evE G F elt δ'=some (.ok (f d) c)/\stro (f d) c=true):evE G F (.comp elt tg it fr) δ=some (.ok (.lst (ds.map f)) .fresh):=by
 show Ri.thn (q0L (evE G F it δ)) (λds c=>if c=.weak\/mostLen<ds.length then(if c=.weak/\ds.length<=mostLen then q2T (q0C (λd=>(tg.bind d (q0v fr [])).bind λδ'=>Rc.of (evE G F elt δ')) ds)else none)else q1x (q0C (λd=>(tg.bind d (q0v fr δ)).bind λδ'=>Rc.of (evE G F elt δ')) ds))=_
 rw[hw,q6g,if_neg (by rintro(z | z);exact hc z;omega),q5o (f:=f) (λd hd=>?_)]
 ·rfl
 ·obtain⟨δ',c,e1,e2,e3⟩:=h d hd
  rw[e1,Option.bind_some,e2]
  show(if stro (f d) c then some (Rc.item (f d))else none)=_
  rw[if_pos e3]
theorem y1a{e:ME}{i:Int}{cl:Cl}(h:evE G F e δ=some (.ok (.int i) cl))(h1:i<=1000)(h2 : -1000<=i):q0L (evE G F (.rng [e]) δ)=some (.ok (upTo 0 i.toNat) .fresh):=by
 show q0L (Rs.thn (evEs G F [e] δ) (λl=>(rngD l).map λds=>.ok (.lst ds) .fresh))=_
 rw[q0a h q0e,q2o]
 have hs:(q0E i&&decide (i<=(mostLen:Int)))=true:=by
  rw[Bool.and_eq_true,decide_eq_true_iff]
  refine⟨?_,Int.le_trans h1 (by decide)⟩
  unfold q0E
  rw[Bool.and_eq_true,decide_eq_true_iff,decide_eq_true_iff]
  exact⟨Int.le_trans (by decide) h2,Int.lt_of_le_of_lt h1 (by decide)⟩
 show q0L ((if q0E i&&decide (i<=(mostLen:Int))then some (upTo 0 i.toNat)else none).map λds=>.ok (.lst ds) .fresh)=_
 rw[if_pos hs]
 rfl
def q4L(n m:Nat)(ws:List Int):List (List Int):=(List.range n).map λj=>(ws.drop (j*m)).take m
theorem z1M{n m:Nat}{ws:List Int}(h:ws.length=n*m):Rect n m (q4L n m ws):=by
 unfold q4L
 refine⟨by rw[List.length_map,List.length_range],λr hr=>?_⟩
 obtain⟨j,hj,rfl⟩:=List.mem_map.mp hr
 have hj':=List.mem_range.mp hj
 rw[List.length_take,List.length_drop,h]
 have:(j+1)*m<=n*m:=Nat.mul_le_mul_right m hj'
 rw[Nat.add_mul,Nat.one_mul]at this
 omega
theorem z7j{a lo hi:ME}{ds:List DV}{c c1 c2:Cl}{l h:Int}(ha:evE G F a δ=some (.ok (.lst ds) c))(hl:evE G F lo δ=some (.ok (.int l) c1))(hh:evE G F hi δ=some (.ok (.int h) c2)):evE G F (.sl a lo hi) δ=some (.ok (.lst (cutD ds (some l) (some h))) (Cl.anew c c)):=by
 unfold evE
 rw[ha,q0R,hl,q0R]
 show Re.thn (evE G F hi δ) _=_
 rw[hh]
 rfl
theorem z6l{ws:List Int}{n m j:Nat}(h:ws.length=n*m)(hj:j<n):cutD (iD ws) (some ((j:Int)*m)) (some ((j:Int)*m+m))=iD ((ws.drop (j*m)).take m):=by
 have e1:((j:Int)*m)=((j*m:Nat):Int):=by push_cast;rfl
 have e2:((j:Int)*m+m)=((j*m+m:Nat):Int):=by push_cast;rfl
 have le:j*m+m<=n*m:=by
  have:(j+1)*m<=n*m:=Nat.mul_le_mul_right m hj
  rw[Nat.add_mul,Nat.one_mul]at this
  exact this
 have len:(iD ws).length=n*m:=by unfold iD;rw[List.length_map,h]
 unfold cutD slIx
 rw[e2,e1]
 simp only[len]
 rw[if_neg (by omega),if_neg (by omega),Int.toNat_natCast,Int.toNat_natCast,Nat.min_eq_left le,Nat.min_eq_left (show j*m<=n*m by omega),show j*m+m - j*m=m by omega]
 unfold iD
 rw[←List.map_drop,←List.map_take]
theorem z5m{n j:Nat}(h:j<n):q1S n (j:Int)=some j:=by
 unfold q1S
 rw[if_pos (Int.natCast_nonneg j),if_pos (by omega),Int.toNat_natCast]
theorem z4w{F:Nat->List DV->Option Ou}{δ:List Sv}{es:List ME}{l:List (DV×Cl)}(h:evEs G F es δ=some (.ok l)):evE G F (.bi .min es) δ=minD l:=by
 have e:evE G F (.bi .min es) δ=Rs.thn (evEs G F es δ) (λl=>minD l):=rfl
 rw[e,h]
 rfl
theorem q1R{n m:Nat}{rows:List (List Int)}(R:Rect n m rows):Rect m n (flip m rows):=by
 unfold flip
 refine⟨by rw[List.length_map,List.length_range],λr hr=>?_⟩
 obtain⟨j,hj,rfl⟩:=List.mem_map.mp hr
 unfold col
 rw[List.length_map,R.1]
theorem q7F{rows:List (List Int)}{i:Nat}(h:i<rows.length):ixD (rL rows) (.int i)=some (.lst (iD (rows.getD i []))):=by
 have hh:(i:Int)<((rows.map λr=>DV.lst (iD r)).length:Int):=by rw[List.length_map];exact_mod_cast h
 simp only[rL,ixD,atD,q1S,if_pos (Int.natCast_nonneg i),if_pos hh,Option.bind_some,Int.toNat_natCast,List.getElem?_map,List.getElem?_eq_getElem h,Option.map_some,List.getD_eq_getElem?_getD,Option.getD_some]
theorem q5m{F:Nat->List DV->Option Ou}{δ:List Sv}{es:List ME}{l:List (DV×Cl)}(h:evEs G F es δ=some (.ok l))(hl:l.length<=mostLen)(hs:stros l=true):evE G F (.lst es) δ=some (.ok (.lst (l.map (·.1))) .fresh):=by
 have e:evE G F (.lst es) δ=Rs.thn (evEs G F es δ) (λl=>if l.length<=mostLen then some (.ok (.lst (l.map (·.1))) (if stros l then .fresh else .weak))else none):=rfl
 rw[e,h,q2o,if_pos hl,hs]
 rfl
def nD(l:List Nat):List DV:=l.map λ(j:Nat)=>DV.int (j:Int)
theorem q6m{α:Type}[BEq α][LawfulBEq α]{f:α->DV}(hf:∀a b,deq (f a) (f b)=(a==b))(r:α):∀{l:List α},r∈l->q4g (f r) (l.map f)=some (l.idxOf r)
 | a::l,hm=>by
  rw[List.map_cons]
  unfold q4g
  rw[hf,List.idxOf_cons]
  cases hb:(a==r)with
  | true=>rfl
  | false=>
   have h2:r∈l:=by
    rcases List.mem_cons.mp hm with e | e
    ·subst e;simp at hb
    ·exact e
   rw[q6m hf r h2]
   rfl
theorem q7t:∀a b:List Int,deqs (iD a) (iD b)=(a==b)
 | [],[]=>rfl
 | [],_::_=>rfl
 | _::_,[]=>rfl
 | x::a,y::b=>by
  have ih:=q7t a b
  unfold iD at ih ⊢
  rw[List.map_cons,List.map_cons]
  unfold deqs
  rw[ih]
  unfold deq
  rfl
theorem y1t(a b:List Int):deq (.lst (iD a)) (.lst (iD b))=(a==b):=q7t a b
theorem y0g(a b:List Int):deq (.tup (iD a)) (.tup (iD b))=(a==b):=q7t a b
theorem q3v{n:Nat}:∀{l:List DV},(∀d∈l,d.plain n=true)->DV.plains n l=true
 | [],_=>by unfold DV.plains;rfl
 | d::r,h=>by
  unfold DV.plains
  rw[h d (List.mem_cons_self ..),q3v λx hx=>h x (List.mem_cons_of_mem _ hx)]
  rfl
theorem z2a(n:Nat)(a:List Int):DV.plain (n+1) (.lst (iD a))=true:=q2A n a
theorem z1X(n:Nat)(a:List Int):DV.plain (n+1) (.tup (iD a))=true:=q2A n a
theorem q7N(n:Nat)(a:Int):DV.plain n (.int a)=true:=by cases n<;>(unfold DV.plain;rfl)
theorem z3b(n:Nat)(rows:List (List Int)):DV.plains (n+1) (rows.map λr=>.lst (iD r))=true:=q3v λd hd=>by
 obtain⟨r,_,rfl⟩:=List.mem_map.mp hd
 exact z2a n r
theorem z3B(n:Nat)(rows:List (List Int)):DV.plains (n+1) (rows.map λr=>.tup (iD r))=true:=q3v λd hd=>by
 obtain⟨r,_,rfl⟩:=List.mem_map.mp hd
 exact z1X n r
theorem y0I{rows:List (List Int)}{r:List Int}(h:r∈rows)(hl:rows.length<=1000):idxD (.tup (rows.map λr=>.tup (iD r))) (.tup (iD r))=some (.int (rows.idxOf r:Nat)):=by
 unfold idxD
 dsimp only
 rw[z1X 59,z3B 59,decide_eq_true (by rw[List.length_map];exact Nat.le_trans hl (by decide)),q6m (f:=λr=>.tup (iD r)) y0g r h]
 rfl
theorem z4u{a b:ME}{x y d:DV}{cx cy:Cl}(ha:evE G F a δ=some (.ok x cx))(hs:seqB x=true)(hb:evE G F b δ=some (.ok y cy))(h:idxD x y=some d):evE G F (.idx a b) δ=some (.ok d .strong):=by
 show Re.thn (evE G F a δ) (λx _=>if seqB x then Re.thn (evE G F b δ) λy _=>(idxD x y).map λd=>.ok d .strong else none)=_
 rw[ha,q0R,if_pos hs,hb,q0R,h]
 rfl
theorem q4W{α:Type}{g:DV->Option Rc}{h f:α->DV}:∀{l:List α},(∀a∈l,g (h a)=some (.item (f a)))->q0C g (l.map h)=some (l.map f)
 | [],_=>rfl
 | a::r,q=>by
  rw[List.map_cons,List.map_cons]
  unfold q0C
  rw[q a (List.mem_cons_self ..)]
  show(match q0C g (r.map h)with | none=>none | some xs=>some (f a::xs))=_
  rw[q4W λx hx=>q x (List.mem_cons_of_mem _ hx)]
theorem q0O{α:Type}{l:List α}{h f:α->DV}{elt it:ME}{tg:Tg}{fr:List (Option Nat)}(hw:q0L (evE G F it δ)=some (.ok (l.map h) cl))(hc:cl ≠ .weak)(hl:l.length<=mostLen)
  (q:∀a∈l,∃δ' c,tg.bind (h a) (q0v fr δ)=some δ'/\evE G F elt δ'=some (.ok (f a) c)/\stro (f a) c=true):evE G F (.comp elt tg it fr) δ=some (.ok (.lst (l.map f)) .fresh):=by
 show Ri.thn (q0L (evE G F it δ)) (λds c=>if c=.weak\/mostLen<ds.length then(if c=.weak/\ds.length<=mostLen then q2T (q0C (λd=>(tg.bind d (q0v fr [])).bind λδ'=>Rc.of (evE G F elt δ')) ds)else none)else q1x (q0C (λd=>(tg.bind d (q0v fr δ)).bind λδ'=>Rc.of (evE G F elt δ')) ds))=_
 rw[hw,q6g,if_neg (by rintro(z | z);exact hc z;rw[List.length_map]at z;omega),q4W (f:=f) (λa ha=>?_)]
 ·rfl
 ·obtain⟨δ',c,e1,e2,e3⟩:=q a ha
  rw[e1,Option.bind_some,e2]
  show(if stro (f a) c then some (Rc.item (f a))else none)=_
  rw[if_pos e3]
theorem z4d{rows:List (List Int)}{j:Nat}{d:DV}{h:List Int->DV}(hl:rows.length<=1000)(w:q0L (evE G F (.var 1) [.val (.int (j:Int)),.val d])=some (.ok (rows.map h) .strong))(hh:∀r∈rows,ixD (h r) (.int j)=some (.int (r.getD j 0))):evE G F (.comp (.ix (.var 0) (.var 1)) (.one 0) (.var 1) [none,some 0]) [.val (.int j),.val d]=some (.ok (.lst (iD (col rows j))) .fresh):=by
 rw[q0O (h:=h) (f:=λr=>.int (r.getD j 0)) w (by decide) (Nat.le_trans hl (by decide)) λr hr=>⟨[.val (h r),.val (.int j)],.strong,rfl,q1e (cx:=.strong) (q0b rfl) (q0b rfl) (hh r hr),rfl⟩]
 unfold iD col
 rw[List.map_map]
 rfl
theorem y0k(rows:List (List Int))(m j:Nat)(hm:∀r∈rows,r.length=m)(hj:j<m)(hl:rows.length<=1000):evE G F (.comp (.ix (.var 0) (.var 1)) (.one 0) (.var 1) [none,some 0]) [.val (.int j),.val (tT rows)]=some (.ok (.lst (iD (col rows j))) .fresh):=z4d hl rfl λr hr=>z0M (by rw[hm r hr];exact hj)
theorem z7U(rows:List (List Int))(m j:Nat)(hm:∀r∈rows,r.length=m)(hj:j<m)(hl:rows.length<=1000):evE G F (.comp (.ix (.var 0) (.var 1)) (.one 0) (.var 1) [none,some 0]) [.val (.int j),.val (rL rows)]=some (.ok (.lst (iD (col rows j))) .fresh):=z4d hl rfl λr hr=>z7w (by rw[hm r hr];exact hj)
theorem z2O{e:ME}{c:Cl}{n:Nat}(h:evE G F e δ=some (.ok (.int (n:Int)) c))(hn:n<=1000):q0L (evE G F (.rng [e]) δ)=some (.ok ((List.range n).map λ(j:Nat)=>DV.int (j:Int)) .fresh):=by
 rw[q6y h hn]
 unfold L2.upTo
 congr 2
 apply List.map_congr_left
 intro j _
 congr 1
 omega
theorem q6M(rows:List (List Int))(n m:Nat)(R:Rect n m rows)(hn:0<n)(hn2:n<=1000)(hm2:m<=1000):run G T fu (k+1) 1 [tT rows]=some (.v (tT (flip m rows)) false):=by
 rw[q0D (fd:=q3D) rfl rfl]
 have r0:0<rows.length:=by rw[R.1];exact hn
 have hl:=q3q (F:=run G T fu k) (δ:=q0h 1 [tT rows]) (q1e (a:=.var 0) (b:=.int 0) (cx:=.strong) (q0b rfl) (q0d (i:=((0:Nat):Int))) (q6r r0))
 rw[show(iD (rows.getD 0 [])).length=m by unfold iD;rw[List.length_map];exact R.2 _ (q0U r0)]at hl
 have cm:=q0O (elt:=.bi .tuple [.comp (.ix (.var 0) (.var 1)) (.one 0) (.var 1) [none,some 0]]) (tg:=.one 0) (fr:=[none,some 0]) (f:=λj=>.tup (iD (col rows j))) (z2O hl hm2) (by decide) (by rw[List.length_range];exact Nat.le_trans hm2 (by decide)) λj hj=>
  ⟨[.val (.int j),.val (tT rows)],.strong,rfl,q2N (y0k rows m j R.2 (List.mem_range.mp hj) (by rw[R.1];exact hn2)),rfl⟩
 unfold q3D
 refine q0W (q0X (q0J (cl:=.strong) ((q2N cm).trans ?_)))
 unfold tT flip
 rw[List.map_map]
 rfl
theorem q5e(rows:List (List Int))(n m:Nat)(R:Rect n m rows)(I J:List Nat)(hI:∀i∈I,i<n)(hJ:∀j∈J,j<m)(lI:I.length<=1000)(lJ:J.length<=1000):run G T fu (k+1) 5 [tT rows,.lst (nD I),.lst (nD J)]=some (.v (tT (sub rows I J)) false):=by
 rw[q0D (fd:=q2P) rfl rfl]
 have cm:=q0O (F:=run G T fu k) (δ:=q0h 3 [tT rows,.lst (nD I),.lst (nD J)]) (l:=I) (h:=λ(i:Nat)=>.int (i:Int)) (f:=λi=>.tup (iD (J.map λj=>(rows.getD i []).getD j 0))) (elt:=.bi .tuple [.comp (.ix (.ix (.var 1) (.var 2)) (.var 0)) (.one 0) (.var 1) [none,some 2,some 0]]) (tg:=.one 0) (it:=.var 1) (fr:=[none,some 2,some 0]) (cl:=.strong) rfl (by decide) (Nat.le_trans lI (by decide)) λi hi=>by
  refine⟨[.val (.int (i:Int)),.val (.lst (nD J)),.val (tT rows)],.strong,rfl,q2N (c:=.fresh) ?_,rfl⟩
  have hr:i<rows.length:=by rw[R.1];exact hI i hi
  rw[q0O (h:=λ(j:Nat)=>.int (j:Int)) (f:=λj=>.int ((rows.getD i []).getD j 0)) (cl:=.strong) (l:=J) rfl (by decide) (Nat.le_trans lJ (by decide)) λj hj=>⟨[.val (.int (j:Int)),.val (tT rows),.val (.int (i:Int))],.strong,rfl,q1e (cx:=.strong) (q1e (cx:=.strong) (q0b rfl) (q0b rfl) (q6r hr)) (q0b rfl) (z0M (by rw[R.2 _ (q0U hr)];exact hJ j hj)),rfl⟩]
  unfold iD
  rw[List.map_map]
  rfl
 unfold q2P
 refine q0W (q0X (q0J (cl:=.strong) ((q2N cm).trans ?_)))
 unfold tT sub
 rw[List.map_map]
 rfl
def kI(rows:List (List Int)):List Int:=rows.map λr=>((rows.idxOf r:Nat):Int)
theorem q3k(rows:List (List Int))(hl:rows.length<=1000):run G T fu (k+1) 6 [tT rows]=some (.v (.lst (iD (kI rows))) true):=by
 rw[q0D (fd:=q2z) rfl rfl]
 unfold q2z
 have e:=q0O (F:=run G T fu k) (δ:=q0h 1 [tT rows]) (elt:=.idx (.var 1) (.var 0)) (tg:=.one 0) (it:=.var 0) (fr:=[none,some 0]) (l:=rows) (h:=λr=>.tup (iD r)) (f:=λr=>.int ((rows.idxOf r:Nat):Int)) (cl:=.strong) rfl (by decide) (Nat.le_trans hl (by decide)) (λr hr=>⟨[.val (.tup (iD r)),.val (tT rows)],.strong,rfl,z4u (q0b rfl) rfl (q0b rfl) (y0I hr hl),rfl⟩)
 have e2:(rows.map λr=>DV.int ((rows.idxOf r:Nat):Int))=iD (kI rows):=by unfold iD kI;rw[List.map_map];rfl
 rw[e2]at e
 exact q0W (q0X (q0J e))
theorem z7E(b:Bool):cmpD .Eq (.bl b) (.bl b)=some true:=by cases b<;>rfl
theorem q7R{x y:Int}:∀{l:List Int},y∈insI x l↔y=x\/y∈l
 | []=>by simp[insI]
 | z::l=>by
  unfold insI
  split
  ·simp
  ·rw[List.mem_cons,q7R,List.mem_cons];constructor<;>(rintro(h | h | h)<;>simp[h])
theorem q6c{y:Int}:∀{l:List Int},y∈q1l l↔y∈l
 | []=>Iff.rfl
 | z::l=>by unfold q1l;rw[q7R,q6c,List.mem_cons]
theorem z4Q{y:Int}:∀{l σ:List Int},y∈l.foldl dk σ↔y∈σ\/y∈l
 | [],σ=>by simp
 | z::l,σ=>by
  rw[List.foldl_cons,z4Q,List.mem_cons]
  unfold dk
  split
  ·rename_i h
   constructor
   ·rintro(q | q)
    ·exact .inl q
    ·exact .inr (.inr q)
   ·rintro(q | q | q)
    ·exact .inl q
    ·rw[q];exact .inl h
    ·exact .inr q
  ·rw[List.mem_append,List.mem_singleton,or_assoc]
theorem q8B:∀{l σ:List Int},(l.foldl dk σ).length<=σ.length+l.length
 | [],σ=>by simp
 | z::l,σ=>by
  rw[List.foldl_cons,List.length_cons]
  have:=q8B (l:=l) (σ:=dk σ z)
  have h2:(dk σ z).length<=σ.length+1:=by unfold dk;split<;>simp
  omega
theorem q8b:∀r:List Int,ints? (iD r)=some r
 | []=>rfl
 | x::r=>by show(ints? (iD r)).map (x :: ·)=_;rw[q8b r];rfl
theorem q7A{e:ME}{r:List Int}{c:Cl}(h:evE G F e δ=some (.ok (.lst (iD r)) c))(hl:r.length<=60):evE G F (.bi .sset [e]) δ=some (.ok (.lst (iD (q1l (r.foldl dk [])))) .fresh):=by
 show Rs.thn (evEs G F [e] δ) (λl=>z2l l)=_
 rw[q0a h q0e]
 show(match ints? (iD r)with
  | some ns=>if ns.length<4000/\(ns.foldl dk []).length<64 then some (Re.ok (.lst ((q1l (ns.foldl dk [])).map DV.int)) .fresh)else none
  | none=>none)=_
 rw[q8b]
 have:=q8B (l:=r) (σ:=[])
 rw[List.length_nil]at this
 exact if_pos ⟨by omega,by omega⟩
section
variable {G:Gs} {a b:ME} {r:List ME} {cx:Cl} {o:Option Re}
theorem z6S(ha:evE G F a δ=some (.ok (.bl true) cx))(hb:evE G F (.and (b::r)) δ=o):evE G F (.and (a::b::r)) δ=o:=by
 have e:evE G F (.and (a::b::r)) δ=Re.thn (evE G F a δ) (λx c=>andD x c (q2C G F (b::r) δ)):=by
  rw[evE,q2C];rfl
 have e2:evE G F (.and (b::r)) δ=q2C G F (b::r) δ:=by rw[evE]
 rw[e,ha,q0R,←e2,hb]
 rfl
end
section
variable {G:Gs} {a b:ME} {r:List ME} {cx:Cl} {o:Option Re}
theorem z8F(ha:evE G F a δ=some (.ok (.bl false) cx)):evE G F (.and (a::b::r)) δ=some (.ok (.bl false) cx):=by
 have e:evE G F (.and (a::b::r)) δ=Re.thn (evE G F a δ) (λx c=>andD x c (q2C G F (b::r) δ)):=by
  rw[evE,q2C];rfl
 rw[e,ha,q0R]
 rfl
end
section
variable {G:Gs} {a b:ME} {r:List ME} {cx:Cl} {o:Option Re}
theorem z6Y(ha:evE G F a δ=o):evE G F (.and [a]) δ=o:=by
 have e:evE G F (.and [a]) δ=evE G F a δ:=by rw[evE,q2C];rfl
 rw[e,ha]
end
section
variable {G:Gs} {a b:ME} {r:List ME} {cx:Cl} {o:Option Re}
theorem q4p{tg:Tg}{body:List Sv->Option Out}{d:DV}{r:List DV}{δ1 δ2:List Sv}(h1:tg.bind d δ=some δ1)(h2:body δ1=some (.nx δ2)):q1T tg body (d::r) δ=q1T tg body r δ2:=by
 show(match tg.bind d δ with | none=>none | some δ1=>match body δ1 with | some (.nx δ2)=>q1T tg body r δ2 | o=>o)=_
 rw[h1]
 show(match body δ1 with | some (.nx δ2)=>q1T tg body r δ2 | o=>o)=_
 rw[h2]
end
section
variable {G:Gs} {a b:ME} {r:List ME} {cx:Cl} {o:Option Re}
end
section
variable {G:Gs} {a b:ME} {r:List ME} {cx:Cl} {o:Option Re}
end
theorem z1s:∀{a b:List Int},a.Pairwise (· < ·)->b.Pairwise (· < ·)->(∀x,x∈a↔x∈b)->a=b
 | [],[],_,_,_=>rfl
 | [],y::b,_,_,h=>absurd ((h y).mpr (List.mem_cons_self ..)) (by simp)
 | x::a,[],_,_,h=>absurd ((h x).mp (List.mem_cons_self ..)) (by simp)
 | x::a,y::b,ha,hb,h=>by
  rw[List.pairwise_cons]at ha hb
  have e:x=y:=by
   rcases List.mem_cons.mp ((h x).mp (List.mem_cons_self ..))with z | z
   ·exact z
   ·rcases List.mem_cons.mp ((h y).mpr (List.mem_cons_self ..))with w | w
    ·exact w.symm
    ·have h1:=ha.1 y w
     have h2:=hb.1 x z
     omega
  subst e
  rw[z1s ha.2 hb.2 λz=>?_]
  constructor
  ·intro q
   rcases List.mem_cons.mp ((h z).mp (List.mem_cons_of_mem _ q))with w | w
   ·subst w;exact absurd (ha.1 _ q) (by omega)
   ·exact w
  ·intro q
   rcases List.mem_cons.mp ((h z).mpr (List.mem_cons_of_mem _ q))with w | w
   ·subst w;exact absurd (hb.1 _ q) (by omega)
   ·exact w
theorem q8Y{x:Int}:∀{l:List Int},l.Pairwise (· < ·)->x∉l->(insI x l).Pairwise (· < ·)
 | [],_,_=>by simp[insI]
 | y::l,h,hx=>by
  rw[List.pairwise_cons]at h
  unfold insI
  split
  ·rename_i q
   rw[List.pairwise_cons]
   refine⟨λz hz=>?_,List.pairwise_cons.mpr h⟩
   rcases List.mem_cons.mp hz with w | w
   ·rw[w];exact q
   ·have:=h.1 z w;omega
  ·rename_i q
   rw[List.pairwise_cons]
   refine⟨λz hz=>?_,q8Y h.2 λw=>hx (List.mem_cons_of_mem _ w)⟩
   rcases q7R.mp hz with w | w
   ·subst w
    have:z≠y:=λe=>hx (by rw[e];exact List.mem_cons_self ..)
    omega
   ·exact h.1 z w
theorem q6z:∀{l:List Int},l.Nodup->(q1l l).Pairwise (· < ·)
 | [],_=>List.Pairwise.nil
 | x::l,h=>by
  rw[List.nodup_cons]at h
  exact q8Y (q6z h.2) λz=>h.1 (q6c.mp z)
theorem q8M:∀{l σ:List Int},σ.Nodup->(l.foldl dk σ).Nodup
 | [],_,h=>h
 | x::l,σ,h=>by
  rw[List.foldl_cons]
  refine q8M ?_
  unfold dk
  split
  ·exact h
  ·rename_i q
   rw[List.nodup_append]
   refine⟨h,by simp,λa ha b hb e=>?_⟩
   rw[List.mem_singleton]at hb
   subst hb e
   exact q ha
theorem z4P{l t:List Int}(ht:t.Pairwise (· < ·))(h:∀x,x∈l↔x∈t):q1l (l.foldl dk [])=t:=
 z1s (q6z (q8M List.nodup_nil)) ht λx=>by rw[q6c,z4Q,←h];simp
def nI(l:List Nat):List Int:=l.map λ(j:Nat)=>(j:Int)
theorem z7J(l:List Nat):iD (nI l)=nD l:=by unfold iD nI nD;rw[List.map_map];rfl
theorem q4D(p:Nat->Bool)(n:Nat):(nI ((List.range n).filter p)).Pairwise (· < ·):=by
 unfold nI
 rw[List.pairwise_map]
 refine List.Pairwise.filter _ (List.Pairwise.imp ?_ List.pairwise_lt_range)
 intro a b h
 omega
theorem z2i{l:List Nat}{x:Int}:x∈nI l↔∃j∈l,(j:Int)=x:=by unfold nI;rw[List.mem_map]
def FI(rows:List (List Int)):List Nat:=(List.range rows.length).filter λr=>rows.idxOf (rows.getD r [])==r
theorem z2m{rows:List (List Int)}{r:List Int}(h:r∈rows):rows.idxOf r<rows.length:=List.idxOf_lt_length_of_mem h
theorem q7P{rows:List (List Int)}{r:List Int}(h:r∈rows):rows.getD (rows.idxOf r) []=r:=by
 have hl:=z2m h
 rw[List.getD_eq_getElem?_getD,List.getElem?_eq_getElem hl,Option.getD_some]
 exact List.getElem_idxOf hl
theorem q5j(rows:List (List Int)):q1l ((kI rows).foldl dk [])=nI (FI rows):=by
 refine z4P (q4D _ _) λx=>?_
 rw[z2i]
 unfold kI FI
 rw[List.mem_map]
 constructor
 ·rintro⟨r,hr,rfl⟩
  refine⟨rows.idxOf r,List.mem_filter.mpr ⟨List.mem_range.mpr (z2m hr),?_⟩,rfl⟩
  rw[q7P hr,beq_iff_eq]
 ·rintro⟨j,hj,rfl⟩
  obtain⟨h1,h2⟩:=List.mem_filter.mp hj
  exact⟨rows.getD j [],q0U (List.mem_range.mp h1),by rw[beq_iff_eq.mp h2]⟩
theorem q5a{rows:List (List Int)}{i:Nat}(h:i∈FI rows):i<rows.length:=List.mem_range.mp (List.mem_filter.mp h).1
theorem z4g(rows:List (List Int)):(FI rows).length<=rows.length:=by
 unfold FI
 have:=List.length_filter_le (λr=>rows.idxOf (rows.getD r [])==r) (List.range rows.length)
 rwa [List.length_range]at this
theorem q7j{rows:List (List Int)}(h:0<rows.length):0<(FI rows).length:=by
 refine List.length_pos_of_mem (a:=0) (List.mem_filter.mpr ⟨List.mem_range.mpr h,?_⟩)
 cases rows with
 | nil=>cases h
 | cons r rs=>simp
theorem z4G(rows:List (List Int)):(kI rows).length=rows.length:=by unfold kI;rw[List.length_map]
theorem q5d(rows:List (List Int))(n m:Nat)(R:Rect n m rows)(hn:0<n)(hn2:n<=1000)(hm2:m<=1000):run G T fu (k+2) 7 [tT rows]=some (.v (.lst (iD (kI (flip m rows)))) true):=by
 rw[q0D (fd:=q1q) rfl rfl]
 unfold q1q
 have R':=q1R R
 exact q0W (q0X (q0J (q0f (l:=[(tT (flip m rows),.strong)]) (q0a (q0f (l:=[(tT rows,.strong)]) rfl rfl (q6M rows n m R hn hn2 hm2)) q0e) rfl (q3k (flip m rows) (by rw[R'.1];exact hm2)))))
theorem q6E(rows:List (List Int))(n m:Nat)(R:Rect n m rows)(hn:0<n)(hn2:n<=60)(hm2:m<=60):run G T fu (k+3) 8 [tT rows]=some (.v (tT (sub rows (FI rows) (FI (flip m rows)))) false):=by
 rw[q0D (fd:=q3A) rfl rfl]
 unfold q3A
 have R':=q1R R
 have e1:=q7A (F:=run G T fu (k+2)) (δ:=[.val (tT rows)]) (e:=.call 6 [.var 0]) (r:=kI rows) (q0f (l:=[(tT rows,.strong)]) rfl rfl (q3k (k:=k+1) rows (by rw[R.1];omega))) (by rw[z4G,R.1];exact hn2)
 have e2:=q7A (F:=run G T fu (k+2)) (δ:=[.val (tT rows)]) (e:=.call 7 [.var 0]) (r:=kI (flip m rows)) (q0f (l:=[(tT rows,.strong)]) rfl rfl (q5d rows n m R hn (by omega) (by omega))) (by rw[z4G,R'.1];exact hm2)
 rw[q5j,z7J]at e1 e2
 have e3:=q5e (fu:=fu) (k:=k+1) rows n m R (FI rows) (FI (flip m rows)) (λi hi=>by have:=q5a hi;rw[R.1]at this;exact this) (λj hj=>by have:=q5a hj;rw[R'.1]at this;exact this) (by have:=z4g rows;rw[R.1]at this;omega) (by have:=z4g (flip m rows);rw[R'.1]at this;omega)
 exact q0W (q0X (q0J (q0f (l:=[(tT rows,.strong),(.lst (nD (FI rows)),.fresh),(.lst (nD (FI (flip m rows))),.fresh)]) (q0a (q0b rfl) (q0a e1 (q0a e2 q0e))) rfl e3)))
theorem b_le{a b:ME}{i j:Int}{cx cy:Cl}(ha:evE G F a δ=some (.ok (.int i) cx))(hb:evE G F b δ=some (.ok (.int j) cy)):evE G F (.cmp .LtE a b) δ=some (.ok (.bl (decide (i<=j))) .strong):=q2B ha hb rfl
def sm(a b:Nat):Bool:=decide (a<6)&&decide (b<6)
theorem z6p{rows:List (List Int)}{I J:List Nat}(h:0<I.length):∃r rs,sub rows I J=r::rs/\r.length=J.length:=by
 cases I with
 | nil=>cases h
 | cons i I=>exact⟨_,_,rfl,by simp⟩
theorem q9D(rows:List (List Int))(n m:Nat)(R:Rect n m rows)(hn:0<n)(hn2:n<=60)(hm2:m<=60):run G T fu (k+4) 9 [tT rows]=some (.v (.bl (sm (FI rows).length (FI (flip m rows)).length)) false):=by
 rw[q0D (fd:=q2R) rfl rfl]
 unfold q2R
 have e0:=q6E (fu:=fu) (k:=k) rows n m R hn hn2 hm2
 obtain⟨r,rs,hs,hr⟩:=z6p (rows:=rows) (J:=FI (flip m rows)) (q7j (rows:=rows) (by rw[R.1];exact hn))
 have hl:(sub rows (FI rows) (FI (flip m rows))).length=(FI rows).length:=by unfold sub;rw[List.length_map]
 rw[hs]at e0 hl
 have l1:evE G (run G T fu (k+3)) (.bi .len [.var 1]) [.val (tT rows),.val (tT (r::rs))]=some (.ok (.int (FI rows).length) .strong):=by
  have t:=q3q (F:=run G T fu (k+3)) (δ:=[.val (tT rows),.val (tT (r::rs))]) (e:=.var 1) (ds:=(r::rs).map λr=>.tup (iD r)) (c:=.strong) rfl
  rw[List.length_map,hl]at t
  exact t
 have l2:evE G (run G T fu (k+3)) (.bi .len [.ix (.var 1) (.int 0)]) [.val (tT rows),.val (tT (r::rs))]=some (.ok (.int (FI (flip m rows)).length) .strong):=by
  have t:=q3q (F:=run G T fu (k+3)) (δ:=[.val (tT rows),.val (tT (r::rs))]) (q1e (q0b (n:=1) (d:=tT (r::rs)) rfl) (q0d (i:=0)) (q6r (rows:=r::rs) (i:=0) (by simp)))
  rw[show(iD ((r::rs).getD 0 [])).length=(FI (flip m rows)).length by unfold iD;rw[List.length_map];exact hr]at t
  exact t
 have g5:∀δ:List Sv,evE G (run G T fu (k+3)) (.glb "SMALL_LINES") δ=some (.ok (.int 5) .strong):=λδ=>rfl
 refine q0W (q0w (q0u (d:=tT (r::rs)) (cl:=.strong) (q0f (l:=[(tT rows,.strong)]) rfl rfl e0) rfl) (q0X (q0J (cl:=.strong) ?_)))
 have t1:=b_le l1 (g5 _)
 have t2:=b_le l2 (g5 _)
 have d1:decide (((FI rows).length:Int)<=5)=decide ((FI rows).length<6):=by rw[decide_eq_decide];omega
 have d2:decide (((FI (flip m rows)).length:Int)<=5)=decide ((FI (flip m rows)).length<6):=by rw[decide_eq_decide];omega
 rw[d1]at t1
 rw[d2]at t2
 unfold sm
 cases q:decide ((FI rows).length<6)with
 | true=>rw[q]at t1;exact z6S t1 (z6Y t2)
 | false=>rw[q]at t1;exact z8F t1
theorem q6X{α:Type}{g:DV->Option Rc}{h f:α->DV}{p:α->Bool}:∀{l:List α},(∀a∈l,g (h a)=some (if p a then .item (f a)else .skip))->q0C g (l.map h)=some ((l.filter p).map f)
 | [],_=>rfl
 | a::l,q=>by
  have h0:=q a (List.mem_cons_self ..)
  have ih:=q6X (g:=g) (h:=h) (f:=f) (p:=p) (l:=l) λb hb=>q b (List.mem_cons_of_mem _ hb)
  cases e:p a with
  | true=>
   rw[e]at h0
   show(match g (h a)with | none=>none | some .skip=>q0C g (l.map h) | some (.item x)=>match q0C g (l.map h)with | none=>none | some xs=>some (x::xs))=_
   rw[h0,List.filter_cons_of_pos e,List.map_cons]
   show(match q0C g (l.map h)with | none=>none | some xs=>some (f a::xs))=_
   rw[ih]
  | false=>
   rw[e]at h0
   show(match g (h a)with | none=>none | some .skip=>q0C g (l.map h) | some (.item x)=>match q0C g (l.map h)with | none=>none | some xs=>some (x::xs))=_
   rw[h0,List.filter_cons_of_neg (by rw[e];simp)]
   exact ih
theorem q6J{α:Type}{l:List α}{h f:α->DV}{p:α->Bool}{elt it cd:ME}{tg:Tg}{fr:List (Option Nat)}(hw:q0L (evE G F it δ)=some (.ok (l.map h) cl))(hc:cl ≠ .weak)(hl:l.length<=mostLen)
  (q:∀a∈l,∃δ',tg.bind (h a) (q0v fr δ)=some δ'/\tstD (evE G F cd δ')=some (.ok (p a))/\∃c,evE G F elt δ'=some (.ok (f a) c)/\stro (f a) c=true):evE G F (.compi elt tg it cd fr) δ=some (.ok (.lst ((l.filter p).map f)) .fresh):=by
 show Ri.thn (q0L (evE G F it δ)) (λds c=>if c=.weak\/mostLen<ds.length then none else q1x (q0C (λd=>(tg.bind d (q0v fr δ)).bind λδ'=>Rc.test (tstD (evE G F cd δ')) (Rc.of (evE G F elt δ'))) ds))=_
 rw[hw,q6g,if_neg (by rintro(z | z);exact hc z;rw[List.length_map]at z;omega),q6X (f:=f) (p:=p) (λa ha=>?_)]
 ·rfl
 ·obtain⟨δ',e1,e2,c,e3,e4⟩:=q a ha
  rw[e1,Option.bind_some,e2,e3]
  cases p a with
  | false=>rfl
  | true=>
   show(if stro (f a) c then some (Rc.item (f a))else none)=_
   rw[if_pos e4];rfl
def WI(rows:List (List Int)):List Nat:=(List.range 10).filter λw=>rows.any λr=>r.any λx=>x==(w:Int)
theorem q5x(rows:List (List Int))(h9:∀r∈rows,∀x∈r,0<=x/\x<=9):q1l (rows.flatten.foldl dk [])=nI (WI rows):=by
 refine z4P (q4D _ _) λx=>?_
 rw[z2i,List.mem_flatten]
 unfold WI
 constructor
 ·rintro⟨r,hr,hx⟩
  have:=h9 r hr x hx
  refine⟨x.toNat,List.mem_filter.mpr ⟨List.mem_range.mpr (by omega),List.any_eq_true.mpr ⟨r,hr,List.any_eq_true.mpr ⟨x,hx,?_⟩⟩⟩,by omega⟩
  rw[beq_iff_eq];omega
 ·rintro⟨j,hj,rfl⟩
  obtain⟨_,h2⟩:=List.mem_filter.mp hj
  obtain⟨r,hr,h3⟩:=List.any_eq_true.mp h2
  obtain⟨x,hx,h4⟩:=List.any_eq_true.mp h3
  rw[beq_iff_eq]at h4
  exact⟨r,hr,by rw[←h4];exact hx⟩
theorem z7T{i:Nat}{e:ME}{ds ys:List DV}(h0:δ[i]? = some (.own (.lst ds)))(h:evE G F e δ=some (.ok (.tup ys) .strong))(hl:ds.length+ys.length<=mostLen):evS G F fu (.ext i e) δ=some (.nx (δ.set i (.own (.lst (ds++ys))))):=by
 unfold evS
 rw[h0]
 show Re.thnS δ (evE G F e δ) _=_
 rw[h]
 show(if Cl.strong=.strong\/Cl.strong=.fresh then(if ds.length+ys.length<=mostLen then some (Out.nx (δ.set i (.own (.lst (ds++ys)))))else none)else none)=_
 rw[if_pos (.inl rfl),if_pos hl]
theorem q8d(t:Sv){m:Nat}(hm:m<=8):∀(rows:List (List Int)) (a:List Int) (c:Sv),(∀r∈rows,r.length=m)->a.length+rows.length*m<=1000->∃c',q1T (.one 2) (λδ'=>evSs G F fu [.ext 1 (.var 2)] δ') (rows.map λr=>.tup (iD r)) [t,.own (.lst (iD a)),c]=some (.nx [t,.own (.lst (iD (a++rows.flatten))),c'])
 | [],a,c,_,_=>⟨c,by rw[List.flatten_nil,List.append_nil];rfl⟩
 | r::rows,a,c,h,hl=>by
  have hr:=h r (List.mem_cons_self ..)
  rw[List.length_cons,Nat.add_mul,Nat.one_mul]at hl
  obtain⟨c',ih⟩:=q8d t hm rows (a++r) (.val (.tup (iD r))) (λr' hr'=>h r' (List.mem_cons_of_mem _ hr')) (by rw[List.length_append,hr];omega)
  refine⟨c',?_⟩
  rw[List.flatten_cons,←List.append_assoc,←ih]
  refine q4p (δ1:=[t,.own (.lst (iD a)),.val (.tup (iD r))]) rfl (q0w (z7T rfl (q0b rfl) ?_) ?_)
  ·unfold iD;rw[List.length_map,List.length_map];exact Nat.le_trans (show a.length+r.length<=1000 by omega) (by decide)
  ·unfold iD;rw[List.map_append];rfl
theorem q9Y(m:Nat):∀n,(List.replicate n m).sum=n*m
 | 0=>by simp
 | n+1=>by rw[List.replicate_succ,List.sum_cons,q9Y m n,Nat.add_mul,Nat.one_mul,Nat.add_comm]
theorem z2t{x:Int}:∀{l:List Int},(insI x l).length=l.length+1
 | []=>rfl
 | z::l=>by unfold insI;split<;>simp[z2t]
theorem q8l:∀{l:List Int},(q1l l).length=l.length
 | []=>rfl
 | z::l=>by unfold q1l;rw[z2t,q8l,List.length_cons]
theorem q9O(rows:List (List Int))(n m:Nat)(R:Rect n m rows)(hn2:n<=8)(hm2:m<=8)(h9:∀r∈rows,∀x∈r,0<=x/\x<=9):run G T fu (k+1) 11 [tT rows]=some (.v (.lst (nD (WI rows))) true):=by
 rw[q0D (fd:=q2S) rfl rfl]
 unfold q2S
 have nm:n*m<=8*8:=Nat.mul_le_mul hn2 hm2
 obtain⟨c',e⟩:=q8d (F:=run G T fu k) (fu:=fu) (.val (tT rows)) hm2 rows [] .no R.2 (by rw[R.1];simp;omega)
 rw[List.nil_append]at e
 have hb:∀x∈rows.flatten,0<=x/\x<=9:=λx hx=>by
  obtain⟨r,hr,hx⟩:=List.mem_flatten.mp hx
  exact h9 r hr x hx
 have hsz:(rows.flatten.foldl dk []).length<64/\rows.flatten.length<4000:=by
  have e2:=q5x rows h9
  have l1:=q8l (l:=rows.flatten.foldl dk [])
  rw[e2]at l1
  have l2:(nI (WI rows)).length<=10:=by
   unfold nI WI
   rw[List.length_map]
   exact Nat.le_trans (List.length_filter_le _ _) (by simp)
  have l3:rows.flatten.length=n*m:=by
   rw[List.length_flatten]
   have:rows.map List.length=List.replicate n m:=by
    rw[List.eq_replicate_iff]
    refine⟨by rw[List.length_map];exact R.1,λb hb=>?_⟩
    obtain⟨r,hr,rfl⟩:=List.mem_map.mp hb
    exact R.2 r hr
   rw[this,q9Y]
  omega
 have s1:evE G (run G T fu k) (.bi .sset [.var 1]) [.val (tT rows),.own (.lst (iD rows.flatten)),c']=some (.ok (.lst (nD (WI rows))) .fresh):=by
  show Rs.thn (evEs G (run G T fu k) [.var 1] [.val (tT rows),.own (.lst (iD rows.flatten)),c']) (λl=>z2l l)=_
  rw[q0a (q3O (d:=.lst (iD rows.flatten)) rfl) q0e]
  show(match ints? (iD rows.flatten)with
   | some ns=>if ns.length<4000/\(ns.foldl dk []).length<64 then some (Re.ok (.lst ((q1l (ns.foldl dk [])).map DV.int)) .fresh)else none
   | none=>none)=_
  rw[q8b]
  show(if rows.flatten.length<4000/\(rows.flatten.foldl dk []).length<64 then some (Re.ok (.lst (iD (q1l (rows.flatten.foldl dk [])))) .fresh)else none)=_
  rw[if_pos ⟨hsz.2,hsz.1⟩,q5x rows h9,z7J]
 exact q0W (q0w (q7p rfl) (q4I (ds:=rows.map λr=>.tup (iD r)) (cl:=.strong) rfl (.inl rfl) e (q0X (q0J s1))))
theorem q4w{x:Int}:isiD G (.int x) ["int"]=some true:=rfl
theorem q3T{x:Int}:isiD G (.int x) ["bool"]=some false:=rfl
theorem q9d{x a b:Int}:run G T fu (k+1) 0 [.int x,.int a,.int b]=some (.v (.bl (decide (a<=x)&&decide (x<=b))) false):=by
 rw[q0D (fd:=q3F) rfl rfl]
 by_cases h1:a<=x
 ·simp[q3F,q0h,evSs,evS,evE,q2C,Re.thnS,q0R,q4w,q3T,andD,q2r,cmpD,h1,Ou.of,frD,retD,Cl.item]
 ·simp[q3F,q0h,evSs,evS,evE,q2C,Re.thnS,q0R,q4w,q3T,andD,q2r,cmpD,h1,Ou.of,frD,retD,Cl.item]
theorem q9f(r o:Nat):Builtin.bitAnd r o=((r &&& o:Nat):Int):=by
 unfold Builtin.bitAnd
 rw[decide_eq_true (Int.natCast_nonneg r),decide_eq_true (Int.natCast_nonneg o)]
 rfl
theorem z4B(o i:Nat):Builtin.bitAnd ((o:Int)/2^((i:Int).toNat)) 1=if o.testBit i then 1 else 0:=by
 have e:(o:Int)/2^((i:Int).toNat)=((o/2^i:Nat):Int):=by
  rw[Int.toNat_natCast];push_cast;rfl
 rw[e,show(1:Int)=((1:Nat):Int)from rfl,q9f,Nat.and_one_is_mod,Nat.testBit_eq_decide_div_mod_eq]
 have:o/2^i%2=0\/o/2^i%2=1:=by omega
 rcases this with h | h<;>rw[h]<;>rfl
def cs(c:Nat):List Nat:=(List.range (c.log2+1)).filter c.testBit
theorem q5B(c:Nat)(h0:0<c)(h:c<2^64):run G T fu (k+1) 4 [.int c]=some (.v (.lst (nD (cs c))) true):=by
 rw[q0D (fd:=q2O) rfl rfl]
 have hb:q3H (c:Int)=((c.log2+1:Nat):Int):=by
  unfold q3H
  rw[if_neg (by omega),Int.natAbs_natCast];push_cast;rfl
 have hl:c.log2<64:=(Nat.log2_lt (by omega)).mpr h
 have hm:evE G (run G T fu k) (.meth .bitLength (.var 0) []) (q0h 1 [.int c])=some (.ok (.int ((c.log2+1:Nat):Int)) .strong):=by
  rw[←hb];rfl
 have cm:=z2F (G:=G) (F:=run G T fu k) (δ:=q0h 1 [.int c]) (elt:=.var 0) (tg:=.one 0) (it:=.rng [.meth .bitLength (.var 0) []]) (cd:=.bin .BitAnd (.bin .RShift (.var 1) (.var 0)) (.int 1)) (fr:=[none,some 0]) (p:=λd=>match d with | .int i=>c.testBit i.toNat | _=>false) (cl:=.fresh) (ds:=upTo 0 (c.log2+1))
  (q6y hm (by omega)) (by decide) (by unfold L2.upTo;rw[List.length_map,List.length_range];exact Nat.le_trans (show c.log2+1<=64 by omega) (by decide)) (λd hd=>by
   obtain⟨j,hj,rfl⟩:=z3X hd
   rw[show(0:Int)+(j:Int)=j by omega]
   refine⟨[.val (.int j),.val (.int c)],rfl,?_,rfl⟩
   have e1:evE G (run G T fu k) (.bin .RShift (.var 1) (.var 0)) [.val (.int j),.val (.int c)]=some (.ok (.int ((c:Int)/2^((j:Int).toNat))) .strong):=q1Z (q0b rfl) (q0b rfl) (show(if 0<=(j:Int)then some (Re.ok (.int ((c:Int)/2^((j:Int).toNat))) Cl.strong)else none)=_ from if_pos (Int.natCast_nonneg j))
   have e2:evE G (run G T fu k) (.bin .BitAnd (.bin .RShift (.var 1) (.var 0)) (.int 1)) [.val (.int j),.val (.int c)]=some (.ok (.int (if c.testBit j then 1 else 0)) .strong):=q1Z e1 q0d (by rw[←z4B];rfl)
   have tt:∀t:Bool,tstD (some (Re.ok (DV.int (if t=true then 1 else 0)) Cl.strong))=some (Rt.ok t):=λt=>by cases t<;>rfl
   rw[e2]
   refine(tt _).trans ?_
   show _=some (Rt.ok (c.testBit (j:Int).toNat))
   rw[Int.toNat_natCast])
 have hf:(upTo 0 (c.log2+1)).filter (λd=>match d with | .int i=>c.testBit i.toNat | _=>false)=nD (cs c):=by
  unfold L2.upTo nD cs
  rw[List.filter_map]
  have:((λd=>match d with | DV.int i=>c.testBit i.toNat | _=>false) ∘ λ(i:Nat)=>DV.int (0+(i:Int)))=c.testBit:=by
   funext j
   show c.testBit ((0:Int)+(j:Int)).toNat=_
   rw[show((0:Int)+(j:Int)).toNat=j by omega]
  rw[this]
  apply List.map_congr_left
  intro j _
  show DV.int _=DV.int _
  congr 1
  omega
 rw[hf]at cm
 unfold q2O
 exact q0W (q0X (q0J cm))
theorem z4Y{n:Nat}(hn:n<=1000){e:ME}{cl:Cl}(h:evE G F e δ=some (.ok (.int n) cl)):evE G F (.bin .Sub (.bin .LShift (.int 1) e) (.int 1)) δ=some (.ok (.int (((2^n:Nat):Int) - 1)) .strong):=by
 refine q5V (cx:=.strong) (q1Z q0d h ?_) q0d
 show(if 0<=(n:Int)/\(n:Int)<=1000000/\(1:Int).natAbs<2^64 then some (Re.ok (.int (1*2^(n:Int).toNat)) Cl.strong)else none)=_
 rw[if_pos ⟨Int.natCast_nonneg n,by omega,by decide⟩,Int.toNat_natCast,Int.one_mul]
 push_cast
 rfl
theorem z1U{d:DV}{n:Nat}(hn:n<=1000){t:Bool}(h:run G T fu (k+1) 0 [d,.int 1,.int (((2^n:Nat):Int) - 1)]=some (.v (.bl t) false)):run G T fu (k+2) 3 [d,.int n]=if t then some (.v .non false)else some (.x "NoCard"):=by
 rw[q0D (fd:=q1B) rfl rfl]
 unfold q1B
 have c:=q0f (G:=G) (F:=run G T fu (k+1)) (δ:=q0h 2 [d,.int n]) (f:=0) (es:=[.var 0,.int 1,.bin .Sub (.bin .LShift (.int 1) (.var 1)) (.int 1)]) (q0a (q0b rfl) (q0a q0d (q0a (z4Y hn (q0b rfl)) q0e))) rfl h
 have q:=q5l c
 cases t with
 | true=>exact z7H (q3f (q0Z q) rfl)
 | false=>
  have e:evSs G (run G T fu (k+1)) fu [.iff (.not (.call 0 [.var 0,.int 1,.bin .Sub (.bin .LShift (.int 1) (.var 1)) (.int 1)])) [.rse "NoCard" (.str "a set of cards is an int from 1 on with cards of the table alone")] []] (q0h 2 [d,.int n])=some (.ex "NoCard" (q0h 2 [d,.int n])):=by
   have z:=z3g (G:=G) (F:=run G T fu (k+1)) (fu:=fu) (a:=[.rse "NoCard" (.str "a set of cards is an int from 1 on with cards of the table alone")]) (b:=[]) (q0Z q)
   rw[if_pos (show(!false)=true from rfl)]at z
   have r:evSs G (run G T fu (k+1)) fu [.rse "NoCard" (.str "a set of cards is an int from 1 on with cards of the table alone")] (q0h 2 [d,.int n])=some (.ex "NoCard" (q0h 2 [d,.int n])):=by rfl
   rw[r]at z
   unfold evSs
   rw[z]
  show Ou.of (evSs G (run G T fu (k+1)) fu _ (q0h 2 [d,.int n]))=_
  rw[e]
  rfl
theorem z9C{c n j:Nat}(h:c<2^n)(hj:j∈cs c):j<n:=by
 unfold cs at hj
 rw[List.mem_filter]at hj
 by_cases q:j<n
 ·exact q
 ·have z:=Nat.testBit_lt_two_pow (Nat.lt_of_lt_of_le h (Nat.pow_le_pow_right (by decide) (show n<=j by omega)))
  rw[z]at hj
  cases hj.2
theorem z4m{c:Nat}(h0:0<c)(h:c<2^64):(cs c).length<=1000:=by
 have hl:c.log2<64:=(Nat.log2_lt (by omega)).mpr h
 unfold cs
 exact Nat.le_trans (List.length_filter_le _ _) (by rw[List.length_range];omega)
theorem y1i(rows:List (List Int))(n m a b:Nat)(R:Rect n m rows)(hn:0<n)(hn2:n<=64)(hm2:m<=64)(a0:0<a)(a1:a<2^n)(b0:0<b)(b1:b<2^m):run G T fu (k+3) 2 [tT rows,.int a,.int b]=some (.v (tT (sub rows (cs a) (cs b))) false):=by
 rw[q0D (fd:=z3z) rfl rfl]
 obtain⟨r0,rest,rfl⟩:∃r0 rest,rows=r0::rest:=by
  cases rows with
  | nil=>have:=R.1;simp at this;omega
  | cons a b=>exact⟨a,b,rfl⟩
 have hr0:r0.length=m:=R.2 r0 (List.mem_cons_self ..)
 have a2:a<2^64:=Nat.lt_of_lt_of_le a1 (Nat.pow_le_pow_right (by decide) hn2)
 have b2:b<2^64:=Nat.lt_of_lt_of_le b1 (Nat.pow_le_pow_right (by decide) hm2)
 have l1:evE G (run G T fu (k+2)) (.bi .len [.var 0]) (q0h 3 [tT (r0::rest),.int a,.int b])=some (.ok (.int (n:Nat)) .strong):=by
  have q:=q3q (F:=run G T fu (k+2)) (δ:=q0h 3 [tT (r0::rest),.int a,.int b]) (e:=.var 0) (ds:=(r0::rest).map λr=>.tup (iD r)) (c:=.strong) rfl
  rw[List.length_map,R.1]at q
  exact q
 have l2:evE G (run G T fu (k+2)) (.bi .len [.ix (.var 0) (.int 0)]) (q0h 3 [tT (r0::rest),.int a,.int b])=some (.ok (.int (m:Nat)) .strong):=by
  have e:evE G (run G T fu (k+2)) (.ix (.var 0) (.int 0)) (q0h 3 [tT (r0::rest),.int a,.int b])=some (.ok (.tup (iD r0)) .strong):=q1e (x:=tT (r0::rest)) (y:=.int 0) (q0b rfl) q0d (q6r (rows:=r0::rest) (i:=0) (by simp))
  have q:=q3q e
  rw[show(iD r0).length=m by unfold iD;rw[List.length_map,hr0]]at q
  exact q
 have c1:=z1U (fu:=fu) (k:=k) (d:=.int a) (n:=n) (t:=true) (by omega) (by rw[q9d,decide_eq_true (by omega),decide_eq_true (by omega)];rfl)
 have c2:=z1U (fu:=fu) (k:=k) (d:=.int b) (n:=m) (t:=true) (by omega) (by rw[q9d,decide_eq_true (by omega),decide_eq_true (by omega)];rfl)
 have g:=q5e (fu:=fu) (k:=k+1) (r0::rest) n m R (cs a) (cs b) (λi hi=>z9C a1 hi) (λj hj=>z9C b1 hj) (z4m a0 a2) (z4m b0 b2)
 unfold z3z
 exact q0W (q0w (z0Q (q0f (q0a (q0b rfl) (q0a l1 q0e)) rfl c1)) (q0w (z0Q (q0f (q0a (q0b rfl) (q0a l2 q0e)) rfl c2)) (q0X (q0J (q0f (q0a (q0b rfl) (q0a (q0f (q0a (q0b rfl) q0e) rfl (q5B a a0 a2)) (q0a (q0f (q0a (q0b rfl) q0e) rfl (q5B b b0 b2)) q0e))) rfl g)))))
theorem z6U{α:Type}[BEq α][LawfulBEq α]{f:α->DV}(hf:∀a b,deq (f a) (f b)=(a==b))(r:α)(l:List α):((l.map f).any λd=>deq d (f r))=l.elem r:=by
 induction l with
 | nil=>rfl
 | cons a l ih=>
  rw[List.map_cons,List.any_cons,ih,hf,List.elem_cons]
  have:(a==r)=(r==a):=by
   rw[Bool.eq_iff_iff,beq_iff_eq,beq_iff_eq]
   exact eq_comm
  rw[this]
  cases(r==a)<;>rfl
theorem y0u(a b:Nat):deq (.int (a:Int)) (.int (b:Int))=(a==b):=by
 unfold deq
 rw[Bool.eq_iff_iff,beq_iff_eq,beq_iff_eq]
 omega
theorem y0G{l:List Nat}{r:Nat}(h:r∈l)(hl:l.length<=1000):idxD (.lst (l.map λ(j:Nat)=>DV.int (j:Int))) (.int (r:Int))=some (.int (l.idxOf r:Nat)):=by
 unfold idxD
 dsimp only
 rw[q7N,q3v λd hd=>by obtain⟨j,_,rfl⟩:=List.mem_map.mp hd;exact q7N 60 _,decide_eq_true (by rw[List.length_map];exact Nat.le_trans hl (by decide)),q6m (f:=λ(j:Nat)=>DV.int (j:Int)) y0u r h]
 rfl
def dR(σ:List (List Int))(r:List Int):List (List Int):=if r∈σ then σ else σ++[r]
def firsts(rows:List (List Int)):List (List Int):=rows.foldl dR []
theorem z1L{α:Type}[BEq α][LawfulBEq α]{r:α}:∀{p q:List α},r∉p->(p++r::q).idxOf r=p.length
 | [],q,_=>by simp
 | a::p,q,h=>by
  have h1:¬a=r:=λz=>h (z▸List.mem_cons_self ..)
  have h2:r∉p:=λz=>h (List.mem_cons_of_mem _ z)
  have hb:(a==r)=false:=by simpa using h1
  rw[List.cons_append,List.idxOf_cons,hb,z1L h2]
  rfl
theorem z1R{α:Type}[BEq α][LawfulBEq α]{r:α}:∀{p q:List α},r∈p->(p++q).idxOf r<p.length
 | a::p,q,h=>by
  rw[List.cons_append,List.idxOf_cons]
  by_cases z:a=r
  ·have hb:(a==r)=true:=by simpa using z
   rw[hb]
   exact Nat.succ_pos _
  ·have hb:(a==r)=false:=by simpa using z
   rw[hb]
   have:r∈p:=by
    rcases List.mem_cons.mp h with e | e
    ·exact absurd e.symm z
    ·exact e
   exact Nat.succ_lt_succ (z1R this)
inductive Asc:List Int->Prop
 | nil:Asc []
 | snoc {l:List Int} {x:Int}:Asc l->(∀y∈l,y<x)->Asc (l++[x])
theorem q4N(rows:List (List Int)):∀(q p:List (List Int)),p++q=rows ->
  (p.map λr=>((rows.idxOf r:Nat):Int)).foldl dk []=(p.foldl dR []).map (λr=>((rows.idxOf r:Nat):Int))->(∀x,x∈p.foldl dR []↔x∈p)->Asc ((p.foldl dR []).map (λr=>((rows.idxOf r:Nat):Int)))->(p.foldl dR []).length<=p.length->(p.foldl dR []).Nodup ->
  ((rows.map λr=>((rows.idxOf r:Nat):Int)).foldl dk []=(firsts rows).map (λr=>((rows.idxOf r:Nat):Int))/\(∀x,x∈firsts rows↔x∈rows)/\Asc ((firsts rows).map (λr=>((rows.idxOf r:Nat):Int)))/\(firsts rows).length<=rows.length/\(firsts rows).Nodup)
 | [],p,e,h1,h2,h3,h4,h5=>by
  rw[List.append_nil]at e
  subst e
  exact⟨h1,h2,h3,h4,h5⟩
 | r::q,p,e,h1,h2,h3,h4,h5=>by
  have lt:∀x∈p,rows.idxOf x<p.length:=λx hx=>by rw[←e];exact z1R hx
  by_cases hr:r∈p
  ·have hd:r∈p.foldl dR []:=(h2 r).mpr hr
   have e1:(p++[r]).foldl dR []=p.foldl dR []:=by
    rw[List.foldl_append]
    exact if_pos hd
   refine q4N rows q (p++[r]) (by rw[List.append_assoc];exact e) ?_ ?_ (by rw[e1];exact h3) (by rw[e1,List.length_append];omega) (by rw[e1];exact h5)
   ·rw[List.map_append,List.foldl_append,h1,e1]
    show dk _ _=_
    unfold dk
    rw[if_pos (List.mem_map.mpr ⟨r,hd,rfl⟩)]
   ·intro x
    rw[e1,h2 x,List.mem_append,List.mem_singleton]
    exact⟨.inl,λz=>z.elim id λz=>z▸hr⟩
  ·have hd:r∉p.foldl dR []:=λz=>hr ((h2 r).mp z)
   have hn:rows.idxOf r=p.length:=by rw[←e];exact z1L hr
   have e1:(p++[r]).foldl dR []=p.foldl dR []++[r]:=by
    rw[List.foldl_append]
    exact if_neg hd
   have below:∀y∈(p.foldl dR []).map (λr=>((rows.idxOf r:Nat):Int)),y<((rows.idxOf r:Nat):Int):=λy hy=>by
    obtain⟨x,hx,rfl⟩:=List.mem_map.mp hy
    have:=lt x ((h2 x).mp hx)
    rw[hn]
    omega
   refine q4N rows q (p++[r]) (by rw[List.append_assoc];exact e) ?_ ?_ (by rw[e1,List.map_append];exact .snoc h3 below) (by rw[e1,List.length_append,List.length_append];simp only[List.length_singleton];omega) ?_
   ·rw[List.map_append,List.foldl_append,h1,e1,List.map_append]
    show dk _ _=_
    unfold dk
    rw[if_neg (λz=>Int.lt_irrefl _ (below _ z))]
    rfl
   ·intro x
    rw[e1,List.mem_append,List.mem_append,h2 x]
   ·rw[e1]
    refine List.nodup_append.mpr ⟨h5,by simp,?_⟩
    intro a ha b hb
    rw[List.mem_singleton]at hb
    subst hb
    exact λz=>hd (z▸ha)
theorem q6R{x z:Int}(hz:x<z\/¬x<z):∀{l:List Int},(∀y∈l,y<z)->x<z->insI x (l++[z])=insI x l++[z]
 | [],_,h=>by show insI x [z]=_;unfold insI;rw[if_pos h];rfl
 | y::r,hl,h=>by
  rw[List.cons_append]
  unfold insI
  by_cases q:x<y
  ·rw[if_pos q,if_pos q];rfl
  ·rw[if_neg q,if_neg q,q6R hz (λy hy=>hl y (List.mem_cons_of_mem _ hy)) h];rfl
theorem q7o{z:Int}:∀{l:List Int},(∀y∈l,y<z)->q1l (l++[z])=q1l l++[z]/\∀y∈q1l l,y<z
 | [],_=>⟨rfl,λy hy=>by cases hy⟩
 | x::r,h=>by
  obtain⟨h1,h2⟩:=q7o (l:=r) λy hy=>h y (List.mem_cons_of_mem _ hy)
  have hx:=h x (List.mem_cons_self ..)
  refine⟨?_,?_⟩
  ·show insI x (q1l (r++[z]))=insI x (q1l r)++[z]
   rw[h1]
   exact q6R (.inl hx) h2 hx
  ·have ins:∀{l:List Int} {y:Int},y∈insI x l->y=x\/y∈l:=by
    intro l
    induction l with
    | nil=>intro y hy;exact .inl (List.mem_singleton.mp hy)
    | cons a l ih=>
     intro y hy
     unfold insI at hy
     split at hy
     ·rcases List.mem_cons.mp hy with e | e
      ·exact .inl e
      ·exact .inr e
     ·rcases List.mem_cons.mp hy with e | e
      ·exact .inr (e▸List.mem_cons_self ..)
      ·rcases ih e with e | e
       ·exact .inl e
       ·exact .inr (List.mem_cons_of_mem _ e)
   intro y hy
   rcases ins (show y∈insI x (q1l r)from hy)with e | e
   ·rw[e];exact hx
   ·exact h2 y e
theorem z3l{l:List Int}(h:Asc l):q1l l=l:=by
 induction h with
 | nil=>rfl
 | snoc h hb ih=>rw[(q7o hb).1,ih]
theorem q4T(rows:List (List Int)):q1l ((rows.map λr=>((rows.idxOf r:Nat):Int)).foldl dk [])=(firsts rows).map (λr=>((rows.idxOf r:Nat):Int))/\(rows.map λr=>((rows.idxOf r:Nat):Int)).foldl dk []=(firsts rows).map (λr=>((rows.idxOf r:Nat):Int))/\(∀x,x∈firsts rows↔x∈rows)/\(firsts rows).length<=rows.length/\(firsts rows).Nodup:=by
 obtain⟨h1,h2,h3,h4,h5⟩:=q4N rows rows [] rfl rfl (λx=>by simp) .nil (Nat.le_refl _) List.nodup_nil
 exact⟨by rw[h1];exact z3l h3,h1,h2,h4,h5⟩
theorem z5b{α:Type}[BEq α][LawfulBEq α]{l:List α}{a b:α}(ha:a∈l)(hb:b∈l)(h:l.idxOf a=l.idxOf b):a=b:=by
 have h1:=List.getElem_idxOf (List.idxOf_lt_length_iff.mpr ha)
 have h2:=List.getElem_idxOf (List.idxOf_lt_length_iff.mpr hb)
 rw[←h1,←h2]
 simp only[h]
theorem z1i{α β:Type}[BEq α][LawfulBEq α][BEq β][LawfulBEq β]{g:α->β}{r:α}:∀{l:List α},(∀s∈l,g s=g r->s=r)->(l.map g).idxOf (g r)=l.idxOf r
 | [],_=>rfl
 | a::l,h=>by
  rw[List.map_cons,List.idxOf_cons,List.idxOf_cons,z1i λs hs=>h s (List.mem_cons_of_mem _ hs)]
  by_cases z:a=r
  ·subst z;simp
  ·have h1:¬g a=g r:=λq=>z (h a (List.mem_cons_self ..) q)
   have b1:(g a==g r)=false:=by simpa using h1
   have b2:(a==r)=false:=by simpa using z
   rw[b1,b2]
def cd(n:Nat):Nat->List Int
 | 0=>[]
 | l+1=>((n/2^l%2:Nat):Int)::cd n l
theorem z4y(n:Nat):∀l,(cd n l).length=l
 | 0=>rfl
 | l+1=>by show(cd n l).length+1=_;rw[z4y n l]
theorem z0B{e:ME}{i:Int}(h:evE G F e δ=some (.ok (.int i) cl)):evE G F (.neg e) δ=some (.ok (.int (-i)) .strong):=by
 unfold evE
 rw[h]
 rfl
theorem z9c{a b c:ME}{i j:Int}(ha:evE G F a δ=some (.ok (.int i) .strong))(hb:evE G F b δ=some (.ok (.int j) .strong))(hc:evE G F c δ=some (.ok (.int (-1)) .strong))(h1 : -1000<=i)(h2:i<=1000)(h3 : -1000<=j)(h4:j<=1000):q0L (evE G F (.rng [a,b,c]) δ)=some (.ok (q1P i (i - j).toNat) .fresh):=by
 show q0L (Rs.thn (evEs G F [a,b,c] δ) (λl=>(rngD l).map λds=>.ok (.lst ds) .fresh))=_
 rw[q0a ha (q0a hb (q0a hc q0e)),q2o]
 have s1:q0E i=true:=by
  unfold q0E
  rw[Bool.and_eq_true,decide_eq_true_iff,decide_eq_true_iff]
  exact⟨Int.le_trans (by decide) h1,Int.lt_of_le_of_lt h2 (by decide)⟩
 have s2:q0E j=true:=by
  unfold q0E
  rw[Bool.and_eq_true,decide_eq_true_iff,decide_eq_true_iff]
  exact⟨Int.le_trans (by decide) h3,Int.lt_of_le_of_lt h4 (by decide)⟩
 have s3:decide (i - j<=(mostLen:Int))=true:=decide_eq_true (Int.le_trans (show i - j<=2000 by omega) (by decide))
 show q0L ((if q0E i&&q0E j&&decide (i - j<=(mostLen:Int))&&decide ((-1:Int) = -1)then some (q1P i (i - j).toNat)else none).map λds=>.ok (.lst ds) .fresh)=_
 rw[s1,s2,s3]
 rfl
theorem z0i(l:Nat):q1P (l:Int) (l+1)=.int l::q1P ((l:Int) - 1) l:=by
 unfold q1P
 rw[List.range_succ_eq_map,List.map_cons,List.map_map,show(l:Int) - ((0:Nat):Int)=l by omega]
 congr 1
 apply List.map_congr_left
 intro a _
 show DV.int ((l:Int) - ((a+1:Nat):Int))=DV.int _
 congr 1
 push_cast
 omega
theorem q8e(n:Nat)(f:DV->DV)(hf:∀j:Nat,f (.int j)=.int ((n/2^j%2:Nat):Int)):∀l:Nat,(q1P ((l:Int) - 1) l).map f=iD (cd n l)
 | 0=>rfl
 | l+1=>by
  rw[show((l+1:Nat):Int) - 1=(l:Int) by omega,z0i,List.map_cons,q8e n f hf l,hf]
  rfl
theorem z2x{l:Nat}{d:DV}(h:d∈q1P ((l:Int) - 1) l):∃j:Nat,j<l/\d=.int j:=by
 unfold q1P at h
 obtain⟨a,ha,rfl⟩:=List.mem_map.mp h
 have:=List.mem_range.mp ha
 exact⟨l - 1 - a,by omega,by congr 1;omega⟩
theorem z3w(n l:Nat)(hl:l<=100):run G T fu (k+1) 15 [.int n,.int l]=some (.v (.lst (iD (cd n l))) true):=by
 rw[q0D (fd:=q4t) rfl rfl]
 unfold q4t
 have w:=z9c (F:=run G T fu k) (δ:=q0h 2 [.int n,.int l]) (a:=.bin .Sub (.var 1) (.int 1)) (b:=.neg (.int 1)) (c:=.neg (.int 1)) (q5V (q0b (n:=1) (d:=.int l) rfl) (q0d (i:=1))) (z0B (q0d (i:=1))) (z0B (q0d (i:=1))) (by omega) (by omega) (by omega) (by omega)
 rw[show((l:Int) - 1 - -1).toNat=l by omega]at w
 have e:=z2V (F:=run G T fu k) (δ:=q0h 2 [.int n,.int l]) (elt:=.bin .BitAnd (.bin .RShift (.var 1) (.var 0)) (.int 1)) (tg:=.one 0) (it:=.rng [.bin .Sub (.var 1) (.int 1),.neg (.int 1),.neg (.int 1)]) (fr:=[none,some 0]) (f:=λd=>match d with | .int j=>.int ((n/2^j.toNat%2:Nat):Int) | d=>d) w (by decide) (by unfold q1P;rw[List.length_map,List.length_range];exact Nat.le_trans hl (by decide)) (λd hd=>by
  obtain⟨j,hj,rfl⟩:=z2x hd
  refine⟨[.val (.int j),.val (.int n)],.strong,rfl,?_,rfl⟩
  have h1:evE G (run G T fu k) (.bin .RShift (.var 1) (.var 0)) [.val (.int j),.val (.int n)]=some (.ok (.int ((n:Int)/2^((j:Int).toNat))) .strong):=q1Z (op:=.RShift) (x:=.int n) (y:=.int j) (q0b rfl) (q0b rfl) (show(if(0:Int)<=(j:Int)then some (Re.ok (DV.int ((n:Int)/2^((j:Int).toNat))) Cl.strong)else none)=_ from if_pos (Int.natCast_nonneg j))
  refine q1Z h1 q0d ?_
  show some (Re.ok (DV.int (Builtin.bitAnd _ 1)) Cl.strong)=_
  rw[z4B]
  show _=some (Re.ok (DV.int ((n/2^((j:Int).toNat)%2:Nat):Int)) Cl.strong)
  rw[Int.toNat_natCast,Nat.testBit_eq_decide_div_mod_eq]
  have:n/2^j%2=0\/n/2^j%2=1:=by omega
  rcases this with h | h<;>rw[h]<;>rfl)
 rw[q8e n _ (λj=>by show DV.int ((n/2^((j:Int).toNat)%2:Nat):Int)=_;rw[Int.toNat_natCast])]at e
 exact q0W (q0X (q0J e))
theorem z6y{e:ME}{i:Int}(h:evE G F e δ=some (.ok (.int i) cl)):evE G F (.meth .bitLength e []) δ=some (.ok (.int (q3H i)) .strong):=by
 unfold evE
 rw[if_pos rfl,h]
 rfl
def sd(s:Bool):DV:=if s then .str "row" else .str "column"
def lin(m:Nat)(rows:List (List Int))(s:Bool):List (List Int):=if s then rows else flip m rows
theorem z8M:cmpD .Eq (.str "row") (.str "row")=some true:=by decide +kernel
theorem z7Y:cmpD .Eq (.str "column") (.str "row")=some false:=by decide +kernel
theorem z5I(rows:List (List Int))(n m:Nat)(R:Rect n m rows)(hn:0<n)(hn2:n<=1000)(hm2:m<=1000)(s:Bool):run G T fu (k+2) 14 [tT rows,sd s]=some (.v (tT (lin m rows s)) false):=by
 rw[q0D (fd:=q2M) rfl rfl]
 unfold q2M
 cases s with
 | true=>exact q0W (q0X (q0J (cl:=.strong) ((z4f (t:=true) (q0Z (cl:=.strong) (q2B (q0b rfl) q8y z8M))).trans ((if_pos rfl).trans (q0b rfl)))))
 | false=>exact q0W (q0X (q0J (cl:=.strong) ((z4f (t:=false) (q0Z (cl:=.strong) (q2B (q0b rfl) q8y z7Y))).trans ((if_neg Bool.false_ne_true).trans (q0f (q0a (q0b rfl) q0e) rfl (q6M rows n m R hn hn2 hm2))))))
def lg(n:Nat):Nat:=[0,0,1,2,2,3,3,3,3].getD n 0
def cds(R:List (List Int)):List (List Int):=R.map λr=>cd ((firsts R).idxOf r) (lg (firsts R).length)
def cL(R:List (List Int)):DV:=rL (cds R)
theorem z9i(n:Nat):lg n<=3:=by
 by_cases h:n<9
 ·have:n=0\/n=1\/n=2\/n=3\/n=4\/n=5\/n=6\/n=7\/n=8:=by omega
  rcases this with rfl | rfl | rfl | rfl | rfl | rfl | rfl | rfl | rfl<;>decide
 ·unfold lg
  rw[List.getD_eq_getElem?_getD,List.getElem?_eq_none (by simp;omega)]
  decide
theorem z6e{n:Nat}(h0:0<n)(h:n<=8):q3H ((n:Int) - 1)=(lg n:Int)/\n<=2^lg n/\ixD (.lst [.int 0,.int 0,.int 1,.int 2,.int 2,.int 3,.int 3,.int 3,.int 3]) (.int n)=some (.int (lg n:Int)):=by
 have:n=1\/n=2\/n=3\/n=4\/n=5\/n=6\/n=7\/n=8:=by omega
 rcases this with rfl | rfl | rfl | rfl | rfl | rfl | rfl | rfl<;>exact⟨by decide +kernel,by decide,rfl⟩
theorem q9l{R:List (List Int)}(h:0<R.length):0<(firsts R).length:=by
 obtain⟨r,hr⟩:=List.exists_mem_of_length_pos h
 exact List.length_pos_of_mem (((q4T R).2.2.1 r).mpr hr)
theorem z5l(σ:List (List Int))(r:List Int):cmpD .NotIn (.lst (iD r)) (.lst (σ.map λr=>.lst (iD r)))=some (!σ.elem r):=by
 show(if DV.plain 60 (.lst (iD r))&&DV.plains 60 (σ.map λr=>.lst (iD r))then some (!(σ.map λr=>DV.lst (iD r)).any λd=>deq d (.lst (iD r)))else none)=_
 rw[z2a 59,z3b 59,z6U (f:=λr=>.lst (iD r)) y1t]
 rfl
def hd(l:List Nat):DV:=match l with | []=>.non | c::_=>.int c
theorem z5H{e:ME}(h:evE G F e δ=some (.ok (.lst ds) .strong)):evE G F (.bi .list [e]) δ=some (.ok (.lst ds) .fresh):=by
 have q:evE G F (.bi .list [e]) δ=Rs.thn (evEs G F [e] δ) (λl=>q9i l):=rfl
 rw[q,q0a h q0e]
 rfl
section
variable {G:Gs} {F:Nat->List DV->Option Ou} {δ:List Sv} {fu:Nat} {d:DV} {r:List MS}
theorem y1s{a b c:ME}{cx cy:Cl}{o:Option Re}(ha:evE G F a δ=some (.ok (.bl false) cx))(hb:evE G F b δ=some (.ok (.bl false) cy))(hc:evE G F c δ=o):evE G F (.or [a,b,c]) δ=o:=by
 have e:evE G F (.or [a,b,c]) δ=Re.thn (evE G F a δ) (λx cc=>orD x cc (Re.thn (evE G F b δ) λy cd=>orD y cd (evE G F c δ))):=by
  rw[evE,evOr,evOr,evOr];rfl
 rw[e,ha,q0R]
 show Re.thn (evE G F b δ) (λy cd=>orD y cd (evE G F c δ))=_
 rw[hb,q0R]
 exact hc
end
theorem cds0(h0:0<R.length):∃c cs,cds R=c::cs/\c.length=lg (firsts R).length:=by
 cases R with
 | nil=>cases h0
 | cons r R=>exact⟨_,_,rfl,z4y _ _⟩
theorem at0{c:List Int}{cs:List (List Int)}:ixD (rL (c::cs)) (.int 0)=some (.lst (iD c)):=q7F (rows:=c::cs) (i:=0) (by simp)
theorem q5g(r:List Int):(iD r).length=r.length:=by unfold iD;rw[List.length_map]
end k53
end
noncomputable section
namespace k53
open PySem L2
theorem q6Q{α:Type}{p q:α->Bool}:∀{l:List α},(∀x∈l,p x=true->q x=true)->(l.filter p).length<=(l.filter q).length
 | [],_=>Nat.le_refl _
 | a::l,h=>by
  have ih:=q6Q (p:=p) (q:=q) (l:=l) λx hx=>h x (List.mem_cons_of_mem _ hx)
  cases ep:p a with
  | false=>
   rw[List.filter_cons_of_neg (by rw[ep];decide)]
   cases eq:q a with
   | false=>rw[List.filter_cons_of_neg (by rw[eq];decide)];exact ih
   | true=>rw[List.filter_cons_of_pos eq,List.length_cons];omega
  | true=>
   rw[List.filter_cons_of_pos ep,List.filter_cons_of_pos (h a (List.mem_cons_self ..) ep),List.length_cons,List.length_cons]
   omega
theorem z0d{α:Type}{p q r:α->Bool}:∀{l:List α},(∀x∈l,p x=true->q x=true\/r x=true)->(l.filter p).length<=(l.filter q).length+(l.filter r).length
 | [],_=>Nat.le_refl _
 | a::l,h=>by
  have ih:=z0d (p:=p) (q:=q) (r:=r) (l:=l) λx hx=>h x (List.mem_cons_of_mem _ hx)
  have ha:=h a (List.mem_cons_self ..)
  rw[List.filter_cons,List.filter_cons,List.filter_cons]
  cases ep:p a<;>cases eq:q a<;>cases er:r a<;>simp only[if_true,if_false,List.length_cons,Bool.false_eq_true]<;>first | omega | exact absurd (ha ep) (by rw[eq,er];simp)
theorem z1f{α:Type}{p q:α->Bool}:∀{l:List α},(l.filter p).length=(l.filter λx=>p x&&q x).length+(l.filter λx=>p x && !q x).length
 | []=>rfl
 | a::l=>by
  have ih:=z1f (p:=p) (q:=q) (l:=l)
  rw[List.filter_cons,List.filter_cons,List.filter_cons]
  cases ep:p a<;>cases eq:q a<;>simp<;>omega
theorem z1r{g:Nat->Nat}(h0:g 0=0)(hs:∀t,t<10->g (t+1)<=g t+1):∀N n,N<=10->n<=g N->∃t,t<=N/\g t=n
 | 0,n,_,h=>⟨0,Nat.le_refl _,by omega⟩
 | N+1,n,hN,h=>by
  by_cases q:n<=g N
  ·obtain⟨t,h1,h2⟩:=z1r h0 hs N n (by omega) q
   exact⟨t,by omega,h2⟩
  ·have:=hs N (by omega)
   exact⟨N+1,Nat.le_refl _,by omega⟩
theorem z8q:∀t,t<10->((List.range 10).filter λw=>w==t).length<=1:=by decide
theorem q3G{c j:Nat}(h:j∈cs c):c.testBit j=true:=(List.mem_filter.mp h).2
theorem q5k{c j:Nat}(h:c.testBit j=true):j∈cs c:=by
 refine List.mem_filter.mpr ⟨List.mem_range.mpr ?_,h⟩
 have h1:=Nat.ge_two_pow_of_testBit h
 have h0:c≠0:=by intro z;rw[z,Nat.zero_testBit]at h;cases h
 have:=(Nat.le_log2 h0).mpr h1
 omega
theorem tb5{c j:Nat}(hc:c<32)(h:c.testBit j=true):j<5:=by
 have h1:=Nat.ge_two_pow_of_testBit h
 rcases Nat.lt_or_ge j 5 with z | z
 ·exact z
 ·have:2^5<=2^j:=Nat.pow_le_pow_right (by decide) z
  omega
def Sb(h C:Nat):Prop:=0<h/\h<C/\h &&& C=h
theorem q8c:∀C,C<32->∀h,h<32->h &&& C=h->∀j,j<5->(C - h).testBit j=(C.testBit j && !h.testBit j)/\(h.testBit j=true->C.testBit j=true):=by decide +kernel
theorem Sb.lt{h C:Nat}(s:Sb h C)(hC:C<32):h<32:=Nat.lt_trans s.2.1 hC
theorem y0f{h C j:Nat}(s:Sb h C)(hC:C<32)(hj:j∈cs h):j∈cs C:=q5k ((q8c C hC h (s.lt hC) s.2.2 j (tb5 (s.lt hC) (q3G hj))).2 (q3G hj))
theorem z4t{h C j:Nat}(s:Sb h C)(hC:C<32)(hj:j∈cs (C - h)):j∈cs C/\j∉cs h:=by
 have hb:=q3G hj
 have h5:=tb5 (show C - h<32 by omega) hb
 rw[(q8c C hC h (s.lt hC) s.2.2 j h5).1,Bool.and_eq_true]at hb
 refine⟨q5k hb.1,λz=>?_⟩
 rw[q3G z]at hb
 exact absurd hb.2 (by decide)
theorem y1b{h C j:Nat}(s:Sb h C)(hC:C<32)(hj:j∈cs C):j∈cs h\/j∈cs (C - h):=by
 have hb:=q3G hj
 have h5:=tb5 hC hb
 cases e:h.testBit j with
 | true=>exact .inl (q5k e)
 | false=>exact .inr (q5k (by rw[(q8c C hC h (s.lt hC) s.2.2 j h5).1,hb,e];rfl))
theorem z0c:∀R,R<32->2<=(cs R).length->∃h∈List.range 32,(0<h/\h<R/\h &&& R=h)/\2*(cs h).length<=(cs R).length+1/\2*(cs (R - h)).length<=(cs R).length+1:=by decide +kernel
theorem z3t:∀b0 b1 b2 b3 b4:Bool,∃h∈List.range 32,h.testBit 0=b0/\h.testBit 1=b1/\h.testBit 2=b2/\h.testBit 3=b3/\h.testBit 4=b4:=by decide +kernel
theorem z6g(q:Nat->Bool):∃h,h<32/\∀j,j<5->h.testBit j=q j:=by
 obtain⟨h,h1,e0,e1,e2,e3,e4⟩:=z3t (q 0) (q 1) (q 2) (q 3) (q 4)
 refine⟨h,List.mem_range.mp h1,λj hj=>?_⟩
 match j,hj with
 | 0,_=>exact e0
 | 1,_=>exact e1
 | 2,_=>exact e2
 | 3,_=>exact e3
 | 4,_=>exact e4
theorem z8e:∀C,C<32->∀h,h<32->(∀j,j<5->h.testBit j=true->C.testBit j=true)->h &&& C=h/\h<=C:=by decide +kernel
theorem tb0{h:Nat}{j:Nat}(e:h.testBit j=true):0<h:=by
 rcases Nat.eq_zero_or_pos h with z | z
 ·rw[z,Nat.zero_testBit]at e;cases e
 ·exact z
theorem q8s:∀c,c<32->0<c->0<(cs c).length:=by decide +kernel
abbrev Mx:=Nat->Nat->Int
def wp(f:Mx)(R C:Nat)(w:Nat):Bool:=(cs R).any λi=>(cs C).any λj=>f i j==(w:Int)
def wn(f:Mx)(R C:Nat):Nat:=((List.range 10).filter (wp f R C)).length
def sw(f:Mx):Mx:=λi j=>f j i
theorem q2f{f:Mx}{R C w:Nat}:wp f R C w=true↔∃i j,i∈cs R/\j∈cs C/\f i j=(w:Int):=by
 unfold wp
 rw[List.any_eq_true]
 constructor
 ·rintro⟨i,hi,h⟩
  obtain⟨j,hj,h⟩:=List.any_eq_true.mp h
  exact⟨i,j,hi,hj,beq_iff_eq.mp h⟩
 ·rintro⟨i,j,hi,hj,h⟩
  exact⟨i,hi,List.any_eq_true.mpr ⟨j,hj,beq_iff_eq.mpr h⟩⟩
theorem y0X(f:Mx)(R C w:Nat):wp (sw f) C R w=wp f R C w:=by
 rw[Bool.eq_iff_iff,q2f,q2f]
 constructor
 ·rintro⟨i,j,a,b,c⟩;exact⟨j,i,b,a,c⟩
 ·rintro⟨i,j,a,b,c⟩;exact⟨j,i,b,a,c⟩
theorem z0S(f:Mx)(R C:Nat):wn (sw f) C R=wn f R C:=by
 unfold wn
 rw[show wp (sw f) C R=wp f R C from funext λw=>y0X f R C w]
theorem z8i{f:Mx}{R C R' C':Nat}(hR:∀i∈cs R',i∈cs R)(hC:∀j∈cs C',j∈cs C):wn f R' C'<=wn f R C:=q6Q λw _ h=>by
 obtain⟨i,j,a,b,c⟩:=q2f.mp h
 exact q2f.mpr ⟨i,j,hR i a,hC j b,c⟩
theorem z6h{f:Mx}{R C h:Nat}(s:Sb h R)(hR:R<32):wn f R C<=wn f h C+wn f (R - h) C:=z0d λw _ q=>by
 obtain⟨i,j,a,b,c⟩:=q2f.mp q
 rcases y1b s hR a with z | z
 ·exact .inl (q2f.mpr ⟨i,j,z,b,c⟩)
 ·exact .inr (q2f.mpr ⟨i,j,z,b,c⟩)
def Up(f:Mx)(R C z:Nat):Prop:=∀c d,(cs R).length<=2^c->wn f R C<=2^d->z<=c+d
structure Gd(f:Mx)(R C z:Nat):Prop where
 lo:wn f R C<=2^z
 up:Up f R C z
 uq:Up (sw f) C R z
 z0:wn f R C=1->z=0
theorem Gd.sw{f:Mx}{R C z:Nat}(g:Gd f R C z):Gd (sw f) C R z:=⟨by rw[z0S];exact g.lo,g.uq,g.up,λh=>g.z0 (by rw[←z0S];exact h)⟩
theorem z7g{f:Mx}{R C:Nat}(h:wn f R C=1):Gd f R C 0:=⟨by rw[h];decide,λ_ _ _ _=>Nat.zero_le _,λ_ _ _ _=>Nat.zero_le _,λ_=>rfl⟩
theorem q8w{n c:Nat}(h:n<=2^c)(h2:2<=n):∃c',c=c'+1/\∀m,2*m<=n+1->m<=2^c':=by
 cases c with
 | zero=>simp at h;omega
 | succ c=>exact⟨c,rfl,λm hm=>by rw[Nat.pow_succ]at h;omega⟩
theorem q6V{f:Mx}{R C:Nat}(hC:C<32)(h1:(cs R).length=1)(h2:2<=wn f R C):∃h,Sb h C/\2*wn f R h<=wn f R C+1/\2*wn f R (C - h)<=wn f R C+1:=by
 obtain⟨i,hi⟩:∃i,cs R=[i]:=by
  match e:cs R,h1 with
  | [i],_=>exact⟨i,rfl⟩
 let g:Nat->Nat:=λt=>((List.range 10).filter λw=>wp f R C w&&decide (w<t)).length
 have g0:g 0=0:=by
  show((List.range 10).filter λw=>wp f R C w&&decide (w<0)).length=0
  rw[show(λw=>wp f R C w&&decide (w<0))=λ_=>false from funext λw=>by simp]
  simp
 have gs:∀t,t<10->g (t+1)<=g t+1:=λt ht=>by
  refine Nat.le_trans (z0d (q:=λw=>wp f R C w&&decide (w<t)) (r:=λw=>w==t) λw _ h=>?_) (Nat.add_le_add_left (z8q t ht) _)
  rw[Bool.and_eq_true,decide_eq_true_eq]at h
  by_cases z:w=t
  ·exact .inr (beq_iff_eq.mpr z)
  ·exact .inl (by rw[Bool.and_eq_true,decide_eq_true_eq];exact⟨h.1,by omega⟩)
 have gN:wn f R C<=g 10:=q6Q λw hw h=>by
  rw[Bool.and_eq_true,decide_eq_true_eq]
  exact⟨h,List.mem_range.mp hw⟩
 obtain⟨t,_,ht⟩:=z1r g0 gs 10 ((wn f R C+1)/2) (Nat.le_refl _) (by omega)
 have sm:wn f R C=g t+((List.range 10).filter λw=>wp f R C w && !decide (w<t)).length:=z1f
 obtain⟨h,hh,hb⟩:=z6g λj=>C.testBit j&&decide (f i j<(t:Int))
 obtain⟨s1,s2⟩:=z8e C hC h hh λj hj e=>by rw[hb j hj,Bool.and_eq_true]at e;exact e.1
 have inh:∀j,j∈cs h↔j∈cs C/\f i j<(t:Int):=λj=>by
  constructor
  ·intro e
   have e':=q3G e
   rw[hb j (tb5 hh e'),Bool.and_eq_true,decide_eq_true_eq]at e'
   exact⟨q5k e'.1,e'.2⟩
  ·rintro⟨e1,e2⟩
   have e':=q3G e1
   exact q5k (by rw[hb j (tb5 hC e'),e',Bool.true_and,decide_eq_true_eq];exact e2)
 have ex:∀{p:Nat->Bool},0<((List.range 10).filter λw=>wp f R C w&&p w).length->∃w j,p w=true/\j∈cs C/\f i j=(w:Int):=λ{p} hp=>by
  obtain⟨w,hw⟩:=List.exists_mem_of_length_pos hp
  have hw:=(List.mem_filter.mp hw).2
  rw[Bool.and_eq_true]at hw
  obtain⟨i',j,a,b,c⟩:=q2f.mp hw.1
  rw[hi,List.mem_singleton]at a
  subst a
  exact⟨w,j,hw.2,b,c⟩
 have hpos:0<h:=by
  obtain⟨w,j,e1,e2,e3⟩:=ex (p:=λw=>decide (w<t)) (by show 0<g t;omega)
  have:j∈cs h:=(inh j).mpr ⟨e2,by rw[e3];have:=of_decide_eq_true e1;omega⟩
  exact tb0 (q3G this)
 have hlt:h<C:=by
  rcases Nat.lt_or_ge h C with z | z
  ·exact z
  ·exfalso
   have e:h=C:=Nat.le_antisymm s2 z
   obtain⟨w,j,e1,e2,e3⟩:=ex (p:=λw=>!decide (w<t)) (by omega)
   have:=((inh j).mp (by rw[e];exact e2)).2
   rw[e3]at this
   rw[Bool.not_eq_true',decide_eq_false_iff_not]at e1
   omega
 have s:Sb h C:=⟨hpos,hlt,s1⟩
 refine⟨h,s,?_,?_⟩
 ·have:wn f R h<=g t:=q6Q λw _ q=>by
   obtain⟨i',j,a,b,c⟩:=q2f.mp q
   have a':=a
   rw[hi,List.mem_singleton]at a'
   subst a'
   obtain⟨b1,b2⟩:=(inh j).mp b
   rw[Bool.and_eq_true,decide_eq_true_eq]
   exact⟨q2f.mpr ⟨_,j,a,b1,c⟩,by rw[c]at b2;omega⟩
  omega
 ·have:wn f R (C - h)<=((List.range 10).filter λw=>wp f R C w && !decide (w<t)).length:=q6Q λw _ q=>by
   obtain⟨i',j,a,b,c⟩:=q2f.mp q
   have a':=a
   rw[hi,List.mem_singleton]at a'
   subst a'
   obtain⟨b1,b2⟩:=z4t s hC b
   rw[Bool.and_eq_true,Bool.not_eq_true',decide_eq_false_iff_not]
   refine⟨q2f.mpr ⟨_,j,a,b1,c⟩,λz=>b2 ((inh j).mpr ⟨b1,?_⟩)⟩
   rw[c];omega
  omega
theorem z1V{f:Mx}{R C z:Nat}(hR:R<32)(hC:C<32)(R0:0<R)(h2:2<=wn f R C)
  (sR:∀h,Sb h R->∃z1 z2,Up f h C z1/\Up f (R - h) C z2/\z<=1+max z1 z2) (sC:∀h,Sb h C->∃z1 z2,Up f R h z1/\Up f R (C - h) z2/\z<=1+max z1 z2):Up f R C z:=by
 intro c d hc hd
 have rp:=q8s R hR R0
 by_cases hr:2<=(cs R).length
 ·obtain⟨h,_,s,q1,q2⟩:=z0c R hR hr
  obtain⟨c',rfl,hm⟩:=q8w hc hr
  obtain⟨z1,z2,u1,u2,hz⟩:=sR h s
  have:=u1 c' d (hm _ q1) (Nat.le_trans (z8i (λi hi=>y0f s hR hi) λj hj=>hj) hd)
  have:=u2 c' d (hm _ q2) (Nat.le_trans (z8i (λi hi=>(z4t s hR hi).1) λj hj=>hj) hd)
  omega
 ·obtain⟨h,s,q1,q2⟩:=q6V (f:=f) hC (by omega) h2
  obtain⟨d',rfl,hm⟩:=q8w hd h2
  obtain⟨z1,z2,u1,u2,hz⟩:=sC h s
  have:=u1 c d' hc (hm _ q1)
  have:=u2 c d' hc (hm _ q2)
  omega
theorem z9K{f:Mx}{R C h z1 z2:Nat}(hR:R<32)(s:Sb h R)(g1:wn f h C<=2^z1)(g2:wn f (R - h) C<=2^z2):wn f R C<=2^(1+max z1 z2):=by
 have:=z6h (f:=f) (C:=C) s hR
 have e1:2^z1<=2^max z1 z2:=Nat.pow_le_pow_right (by decide) (Nat.le_max_left ..)
 have e2:2^z2<=2^max z1 z2:=Nat.pow_le_pow_right (by decide) (Nat.le_max_right ..)
 rw[Nat.add_comm 1,Nat.pow_succ]
 omega
def Way(f:Mx)(R C z:Nat):Prop:=(∃h z1 z2,Sb h R/\Gd f h C z1/\Gd f (R - h) C z2/\z=1+max z1 z2)\/∃h z1 z2,Sb h C/\Gd f R h z1/\Gd f R (C - h) z2/\z=1+max z1 z2
theorem z6R{f:Mx}{R C z:Nat}(hR:R<32)(hC:C<32)(R0:0<R)(C0:0<C)(h2:2<=wn f R C)(way:Way f R C z)
  (sR:∀h,Sb h R->∃z1 z2,Gd f h C z1/\Gd f (R - h) C z2/\z<=1+max z1 z2) (sC:∀h,Sb h C->∃z1 z2,Gd f R h z1/\Gd f R (C - h) z2/\z<=1+max z1 z2):Gd f R C z where
 lo:=by
  rcases way with⟨h,z1,z2,s,g1,g2,rfl⟩ | ⟨h,z1,z2,s,g1,g2,rfl⟩
  ·exact z9K hR s g1.lo g2.lo
  ·rw[←z0S]
   exact z9K hC s g1.sw.lo g2.sw.lo
 up:=z1V hR hC R0 h2 (λh s=>let ⟨z1,z2,g1,g2,q⟩:=sR h s;⟨z1,z2,g1.up,g2.up,q⟩) λh s=>let ⟨z1,z2,g1,g2,q⟩:=sC h s;⟨z1,z2,g1.up,g2.up,q⟩
 uq:=z1V hC hR C0 (by rw[z0S];exact h2) (λh s=>let ⟨z1,z2,g1,g2,q⟩:=sC h s;⟨z1,z2,g1.uq,g2.uq,q⟩) λh s=>let ⟨z1,z2,g1,g2,q⟩:=sR h s;⟨z1,z2,g1.uq,g2.uq,q⟩
 z0:=λh=>by omega
def hv(R:Nat):List Nat:=((List.range (R - 1)).map (· + 1)).filter λh=>h &&& R==h&&decide (h<R - h)
theorem z5a:∀R,R<32->∀h,h<32->0<h->h<R->h &&& R=h->((hv R).contains h||((hv R).contains (R - h)&&decide (R - (R - h)=h)))=true:=by decide +kernel
theorem z1k(R:Nat)(hR:R<32)(h:Nat)(hh:h<32)(s:Sb h R):h∈hv R\/(R - h∈hv R/\R - (R - h)=h):=by
 have:=z5a R hR h hh s.1 s.2.1 s.2.2
 rw[Bool.or_eq_true,Bool.and_eq_true,decide_eq_true_eq]at this
 rcases this with z | z
 ·exact .inl (List.contains_iff_mem.mp z)
 ·exact .inr ⟨List.contains_iff_mem.mp z.1,z.2⟩
theorem q9F{R h:Nat}(q:h∈hv R):Sb h R/\h<R - h:=by
 obtain⟨h1,h2⟩:=List.mem_filter.mp q
 obtain⟨i,hi,rfl⟩:=List.mem_map.mp h1
 rw[Bool.and_eq_true,beq_iff_eq,decide_eq_true_eq]at h2
 have:=List.mem_range.mp hi
 exact⟨⟨by omega,by omega,h2.1⟩,h2.2⟩
theorem y0H{f:Mx}{R C:Nat}(hR:R<32)(hC:C<32)(R0:0<R)(C0:0<C)(h2:2<=wn f R C):hv R≠[]\/hv C≠[]:=by
 have key:∀R,R<32->(∃h,Sb h R)->hv R≠[]:=λR hR ⟨h,s⟩ e=>by
  rcases z1k R hR h (s.lt hR) s with z | z
  ·rw[e]at z;cases z
  ·rw[e]at z;cases z.1
 have rp:=q8s R hR R0
 by_cases hr:2<=(cs R).length
 ·obtain⟨h,_,s,_⟩:=z0c R hR hr
  exact .inl (key R hR ⟨h,s⟩)
 ·obtain⟨h,s,_⟩:=q6V (f:=f) hC (by omega) h2
  exact .inr (key C hC ⟨h,s⟩)
end k53
end
noncomputable section
namespace k53
open PySem L2
variable {fu k:Nat} {F:Nat->List DV->Option Ou} {δ:List Sv} {ds:List DV} {cl:Cl} {N M:Nat} {R C:Nat}
theorem z0N{b:ME}{n:Nat}{cx:Cl}(hb:evE G F b δ=some (.ok (.int n) cx))(hn:n<=1000):q0L (evE G F (.rng [.int 1,b]) δ)=some (.ok (upTo 1 (n - 1)) .fresh):=by
 show q0L (Rs.thn (evEs G F [.int 1,b] δ) (λl=>(rngD l).map λds=>.ok (.lst ds) .fresh))=_
 rw[q0a q0d (q0a hb q0e),q2o]
 have hs:(q0E 1&&q0E (n:Int)&&decide ((n:Int) - 1<=(mostLen:Int)))=true:=by
  rw[Bool.and_eq_true,Bool.and_eq_true,decide_eq_true_iff]
  refine⟨⟨by decide,?_⟩,Int.le_trans (show(n:Int) - 1<=1000 by omega) (by decide)⟩
  unfold q0E
  rw[Bool.and_eq_true,decide_eq_true_iff,decide_eq_true_iff]
  exact⟨Int.le_trans (by decide) (Int.natCast_nonneg n),Int.lt_of_le_of_lt (show(n:Int)<=1000 by omega) (by decide)⟩
 show q0L ((if q0E 1&&q0E (n:Int)&&decide ((n:Int) - 1<=(mostLen:Int))then some (upTo 1 ((n:Int) - 1).toNat)else none).map λds=>.ok (.lst ds) .fresh)=_
 rw[if_pos hs,show((n:Int) - 1).toNat=n - 1 by omega]
 rfl
theorem y0U(n:Nat):upTo 1 n=((List.range n).map (· + 1)).map λ(h:Nat)=>DV.int (h:Int):=by
 unfold L2.upTo
 rw[List.map_map]
 apply List.map_congr_left
 intro j _
 show DV.int _=DV.int _
 congr 1
 simp only[Function.comp]
 omega
theorem z8L{a b:ME}{i j:Nat}{cx cy:Cl}(ha:evE G F a δ=some (.ok (.int i) cx))(hb:evE G F b δ=some (.ok (.int j) cy)):evE G F (.bin .BitAnd a b) δ=some (.ok (.int ((i &&& j:Nat):Int)) .strong):=q1Z ha hb (by show some (Re.ok (.int (Builtin.bitAnd (i:Int) (j:Int))) .strong)=_;rw[q9f])
theorem z9q{a b:ME}{i j:Nat}{cx cy:Cl}(ha:evE G F a δ=some (.ok (.int i) cx))(hb:evE G F b δ=some (.ok (.int j) cy)):evE G F (.cmp .Eq a b) δ=some (.ok (.bl (i==j)) .strong):=by
 rw[b_eq ha hb]
 congr 3
 rw[Bool.eq_iff_iff,beq_iff_eq,beq_iff_eq]
 omega
theorem q8k(hR:R<32):run G T fu (k+1) 22 [.int R]=some (.v (.lst (nD (hv R))) true):=by
 rw[q0D (fd:=q4k) rfl rfl]
 unfold q4k
 have w:=z0N (F:=run G T fu k) (δ:=q0h 1 [.int R]) (b:=.var 0) (n:=R) (q0b rfl) (by omega)
 rw[y0U]at w
 refine q0W (q0X (q0J (cl:=.fresh) (q6J (f:=λ(h:Nat)=>.int (h:Int)) (p:=λh=>h &&& R==h&&decide (h<R - h)) w (by decide) (by rw[List.length_map,List.length_range];exact Nat.le_trans (show R - 1<=1000 by omega) (by decide)) λh hh=>?_)))
 refine⟨[.val (.int h),.val (.int R)],rfl,?_,.strong,q0b rfl,rfl⟩
 obtain⟨i,hi,rfl⟩:=List.mem_map.mp hh
 have:=List.mem_range.mp hi
 have e1:=z9q (F:=run G T fu k) (δ:=[.val (.int ((i+1:Nat):Int)),.val (.int R)]) (z8L (a:=.var 0) (b:=.var 1) (q0b rfl) (q0b rfl)) (q0b (n:=0) rfl)
 have e2:=b_lt (G:=G) (F:=run G T fu k) (δ:=[.val (.int ((i+1:Nat):Int)),.val (.int R)]) (q0b (n:=0) rfl) (q5V (a:=.var 1) (b:=.var 0) (q0b rfl) (q0b rfl))
 have e3:decide (((i+1:Nat):Int)<(R:Int) - ((i+1:Nat):Int))=decide (i+1<R - (i+1)):=by rw[decide_eq_decide];omega
 rw[e3]at e2
 cases q:((i+1) &&& R==i+1)with
 | true=>
  rw[q]at e1
  rw[z6S e1 (z6Y e2)]
  rfl
 | false=>
  rw[q]at e1
  rw[z8F e1]
  rfl
theorem ln4{α:Type}{l:List α}(h:l.length<=4):l.length<=mostLen:=Nat.le_trans h (by decide)
abbrev Wy:=DV×Nat×(Nat×Nat)×(Nat×Nat)
def wD(a:Wy):DV:=.tup [a.1,.int a.2.1,.tup [.int a.2.2.1.1,.int a.2.2.1.2],.tup [.int a.2.2.2.1,.int a.2.2.2.2]]
def wl(R C:Nat):List Wy:=(hv R).map (λh=>(.str "row",h,(R - h,C),(h,C)))++(hv C).map (λh=>(.str "column",h,(R,C - h),(R,h)))
theorem q5n{R:Nat}(h:R<32):(hv R).length<=31:=by
 unfold hv
 refine Nat.le_trans (List.length_filter_le ..) ?_
 rw[List.length_map,List.length_range]
 omega
theorem q8T{a b:Nat}(h:b<a):(a:Int) - (b:Int)=((a - b:Nat):Int):=by omega
theorem z2C(hR:R<32)(hC:C<32):run G T fu (k+2) 21 [.int R,.int C]=some (.v (.lst ((wl R C).map wD)) true):=by
 rw[q0D (fd:=q4l) rfl rfl]
 unfold q4l
 have c1:=q0f (G:=G) (F:=run G T fu (k+1)) (δ:=q0h 4 [.int R,.int C]) (f:=22) (es:=[.var 0]) (l:=[(.int R,.strong)]) rfl rfl (q8k (k:=k) (fu:=fu) hR)
 have c2:=q0f (G:=G) (F:=run G T fu (k+1)) (δ:=[.val (.int R),.val (.int C),.val (.lst ((hv R).map λh=>wD (.str "row",h,(R - h,C),(h,C)))),.no]) (f:=22) (es:=[.var 1]) (l:=[(.int C,.strong)]) rfl rfl (q8k (k:=k) (fu:=fu) hC)
 have w1:q0L (evE G (run G T fu (k+1)) (.call 22 [.var 0]) (q0h 4 [.int R,.int C]))=some (.ok ((hv R).map λ(h:Nat)=>DV.int (h:Int)) .fresh):=by rw[c1];rfl
 have w2:q0L (evE G (run G T fu (k+1)) (.call 22 [.var 1]) [.val (.int R),.val (.int C),.val (.lst ((hv R).map λh=>wD (.str "row",h,(R - h,C),(h,C)))),.no])=some (.ok ((hv C).map λ(h:Nat)=>DV.int (h:Int)) .fresh):=by rw[c2];rfl
 have m1:=q0O (elt:=.tup [.str "row",.var 0,.tup [.bin .Sub (.var 1) (.var 0),.var 2],.tup [.var 0,.var 2]]) (tg:=.one 0) (fr:=[none,some 0,some 1]) (f:=λh=>wD (.str "row",h,(R - h,C),(h,C))) w1 (by decide) (Nat.le_trans (q5n hR) (by decide)) λh hh=>
  ⟨[.val (.int h),.val (.int R),.val (.int C)],.strong,rfl,by
   have s:=q5V (G:=G) (F:=run G T fu (k+1)) (δ:=[.val (.int h),.val (.int R),.val (.int C)]) (a:=.var 1) (b:=.var 0) (i:=R) (j:=h) (q0b rfl) (q0b rfl)
   rw[q8T (q9F hh).1.2.1]at s
   exact q4P (q0a q8y (q0a (q0b rfl) (q0a (q4P (q0a s (q0a (q0b rfl) q0e)) (ln4 (by simp)) rfl) (q0a (q4P (q0a (q0b rfl) (q0a (q0b rfl) q0e)) (ln4 (by simp)) rfl) q0e)))) (ln4 (by simp)) rfl,rfl⟩
 have m2:=q0O (elt:=.tup [.str "column",.var 0,.tup [.var 1,.bin .Sub (.var 2) (.var 0)],.tup [.var 1,.var 0]]) (tg:=.one 0) (fr:=[none,some 0,some 1]) (f:=λh=>wD (.str "column",h,(R,C - h),(R,h))) w2 (by decide) (Nat.le_trans (q5n hC) (by decide)) λh hh=>
  ⟨[.val (.int h),.val (.int R),.val (.int C)],.strong,rfl,by
   have s:=q5V (G:=G) (F:=run G T fu (k+1)) (δ:=[.val (.int h),.val (.int R),.val (.int C)]) (a:=.var 2) (b:=.var 0) (i:=C) (j:=h) (q0b rfl) (q0b rfl)
   rw[q8T (q9F hh).1.2.1]at s
   exact q4P (q0a q8y (q0a (q0b rfl) (q0a (q4P (q0a (q0b rfl) (q0a s q0e)) (ln4 (by simp)) rfl) (q0a (q4P (q0a (q0b rfl) (q0a (q0b rfl) q0e)) (ln4 (by simp)) rfl) q0e)))) (ln4 (by simp)) rfl,rfl⟩
 refine q0W (q0w (q0u m1 rfl) (q0w (q0u m2 rfl) (q0X (q0J (cl:=.fresh) ?_))))
 refine(q1Z (q0b rfl) (q0b rfl) (show binD .Add (.lst ((hv R).map λh=>wD (.str "row",h,(R - h,C),(h,C)))) (.lst ((hv C).map λh=>wD (.str "column",h,(R,C - h),(R,h)))) .strong .strong=some (.ok (.lst ((wl R C).map wD)) .fresh)from ?_))
 show(if((hv R).map λh=>wD (.str "row",h,(R - h,C),(h,C))).length+((hv C).map λh=>wD (.str "column",h,(R,C - h),(R,h))).length<=mostLen then _ else none)=_
 rw[if_pos]
 ·unfold wl
  rw[List.map_append,List.map_map,List.map_map]
  rfl
 ·rw[List.length_map,List.length_map]
  exact Nat.le_trans (Nat.add_le_add (q5n hR) (q5n hC)) (by decide)
theorem z2M(a b:Nat):run G T fu (k+1) 19 [.int a,.int b]=some (.v (.int ((1+max a b:Nat):Int)) false):=by
 rw[q0D (fd:=q1E) rfl rfl]
 unfold q1E
 have m:evE G (run G T fu k) (.bi .max [.var 0,.var 1]) (q0h 2 [.int a,.int b])=some (.ok (.int ((max a b:Nat):Int)) .strong):=by
  show some (Re.ok (.int (if(b:Int)>(a:Int)then(b:Int)else(a:Int))) .strong)=_
  congr 3
  by_cases h:(b:Int)>(a:Int)
  ·rw[if_pos h];omega
  ·rw[if_neg h];omega
 have s:=q2D (q0d (G:=G) (F:=run G T fu k) (δ:=q0h 2 [.int a,.int b]) (i:=1)) m
 rw[show(1:Int)+((max a b:Nat):Int)=((1+max a b:Nat):Int) by omega]at s
 exact q0W (q0X (q0J s))
abbrev Tb:=List ((Nat×Nat)×Nat)
def kk(p:Nat×Nat):DKey:=.t [.inl (p.1:Int),.inl (p.2:Int)]
def dC(L:Tb):DV:=.dct (L.map λp=>kk p.1) (L.map λp=>.int (p.2:Int))
def dD(L:Tb):DV:=.tup [dC L]
theorem z4H{p q:Nat×Nat}(h:kk p=kk q):p=q:=by
 unfold kk at h
 obtain⟨a,b⟩:=p
 obtain⟨c,d⟩:=q
 simp at h
 obtain⟨h1,h2⟩:=h
 rw[Int.ofNat.inj h1,Int.ofNat.inj h2]
theorem z0F(q:Nat×Nat):∀L:Tb,q7x (kk q) (L.map λp=>kk p.1) (L.map λp=>.int (p.2:Int))=(L.lookup q).map λz=>DV.int ((z:Nat):Int)
 | []=>rfl
 | (p,z)::L=>by
  show(if kk p=kk q then some (DV.int (z:Int))else q7x (kk q) (L.map λp=>kk p.1) (L.map λp=>.int (p.2:Int)))=_
  rw[List.lookup_cons]
  by_cases h:p=q
  ·rw[if_pos (by rw[h]),h,beq_self_eq_true];rfl
  ·rw[if_neg (λe=>h (z4H e)),z0F q L,show(q==p)=false from beq_eq_false_iff_ne.mpr (Ne.symm h)]
theorem z4k{q:Nat×Nat}:∀{L:Tb},L.lookup q=none->kk q∉L.map λp=>kk p.1
 | [],_,h=>by cases h
 | (p,z)::L,e,h=>by
  rw[List.lookup_cons]at e
  split at e
  ·cases e
  ·rename_i hb
   rcases List.mem_cons.mp h with w | w
   ·rw[z4H w,beq_self_eq_true]at hb;cases hb
   ·exact z4k e w
theorem z4j{i:Nat}{e:ME}{L:Tb}{r c z:Nat}{cx:Cl}(h0:δ[i]? = some (.od (dD L)))(h:evE G F e δ=some (.ok (.tup [.int r,.int c]) cx))(hl:L.lookup (r,c)=some z):evE G F (.dgp i e) δ=some (.ok (.int z) .strong):=by
 have e1:evE G F (.dgp i e) δ=(match δ[i]? with
  | some (.od (.tup [.dct ks vs]))=>Re.thn (evE G F e δ) λy _=>dgpD ks vs y
  | _=>none):=by rw[evE]<;>rfl
 rw[e1,h0]
 show Re.thn (evE G F e δ) (λy _=>dgpD (L.map λp=>kk p.1) (L.map λp=>.int (p.2:Int)) y)=_
 rw[h,q0R]
 show(match q7x (kk (r,c)) (L.map λp=>kk p.1) (L.map λp=>.int (p.2:Int))with | some (.int v)=>some (Re.ok (.int v) .strong) | _=>none)=_
 rw[z0F,hl]
 rfl
theorem z3Z{i:Nat}{a b e:ME}{L:Tb}{r c z:Nat}{cx cy cz:Cl}(h0:δ[i]? = some (.od (dD L)))(he:evE G F e δ=some (.ok (.int z) cz))(ha:evE G F a δ=some (.ok (.int r) cx))(hb:evE G F b δ=some (.ok (.int c) cy))(hn:L.lookup (r,c)=none)(hl:L.length<100000):evS G F fu (.dpp i [a,b] e) δ=some (.nx (δ.set i (.od (dD (L++[((r,c),z)]))))):=by
 have e1:evS G F fu (.dpp i [a,b] e) δ=(match δ[i]? with
  | some (.od (.tup [.dct kk vs]))=>Re.thnS δ (evE G F e δ) λd _=>Rs.thnS δ (evEs G F [a,b] δ) λl=>(dppD i δ kk vs l d).map Out.nx
  | _=>none):=by rw[evS]<;>rfl
 rw[e1,h0]
 show Re.thnS δ (evE G F e δ) (λd _=>Rs.thnS δ (evEs G F [a,b] δ) λl=>(dppD i δ (L.map λp=>kk p.1) (L.map λp=>.int (p.2:Int)) l d).map Out.nx)=_
 rw[he]
 show Rs.thnS δ (evEs G F [a,b] δ) (λl=>(dppD i δ (L.map λp=>kk p.1) (L.map λp=>.int (p.2:Int)) l (.int z)).map Out.nx)=_
 rw[q0a ha (q0a hb q0e)]
 show((if(L.map λp=>kk p.1).length<mostLen then some (δ.set i (.od (.tup [.dct (putD (kk (r,c)) (.int z) (L.map λp=>kk p.1) (L.map λp=>.int (p.2:Int))).1 (putD (kk (r,c)) (.int z) (L.map λp=>kk p.1) (L.map λp=>.int (p.2:Int))).2])))else none).map Out.nx)=_
 rw[if_pos (by rw[List.length_map];exact Nat.lt_trans hl (by decide))]
 unfold putD
 rw[if_neg (z4k hn)]
 unfold dD dC
 rw[List.map_append,List.map_append]
 rfl
theorem z3k{i f:Nat}{xs:List (Str×Nat)}{es:List ME}{x:Str}{l:List (DV×Cl)}{d:DV}(h0:δ[i]? = some (.val (.fn x)))(hx:xs.lookup x=some f)(ha:evEs G F es δ=some (.ok l))(hs:(l.all λp=>p.2 == .strong||p.2 == .fresh)=true)(h:F f (l.map (·.1))=some (.v d false)):evE G F (.callv i xs es) δ=some (.ok d .strong):=by
 have e1:evE G F (.callv i xs es) δ=(match δ[i]? with
  | some (.val (.fn x))=>(match xs.lookup x with
   | some f=>Rs.thn (evEs G F es δ) λl=>q3n F f l
   | none=>none)
  | _=>none):=by rw[evE]<;>rfl
 rw[e1,h0]
 show(match xs.lookup x with
   | some f=>Rs.thn (evEs G F es δ) λl=>q3n F f l
   | none=>none)=_
 rw[hx]
 show Rs.thn (evEs G F es δ) (λl=>q3n F f l)=_
 rw[ha]
 show q3n F f l=_
 unfold q3n
 rw[h,hs]
 rfl
theorem z0I:∀(r:List Int) (m:Int),(minI m r=m\/minI m r∈r)/\minI m r<=m/\∀x∈r,minI m r<=x
 | [],m=>⟨.inl rfl,Int.le_refl _,λx hx=>nomatch hx⟩
 | y::r,m=>by
  show(minI (if y<m then y else m) r=m\/minI (if y<m then y else m) r∈y::r)/\minI (if y<m then y else m) r<=m/\∀x∈y::r,minI (if y<m then y else m) r<=x
  obtain⟨h1,h2,h3⟩:=z0I r (if y<m then y else m)
  by_cases q:y<m
  ·rw[if_pos q]at h1 h2 h3 ⊢
   refine⟨.inr ?_,by omega,λx hx=>?_⟩
   ·rcases h1 with z | z
    ·rw[z];exact List.mem_cons_self ..
    ·exact List.mem_cons_of_mem _ z
   ·rcases List.mem_cons.mp hx with z | z
    ·rw[z];exact h2
    ·exact h3 x z
  ·rw[if_neg q]at h1 h2 h3 ⊢
   refine⟨?_,h2,λx hx=>?_⟩
   ·rcases h1 with z | z
    ·exact .inl z
    ·exact .inr (List.mem_cons_of_mem _ z)
   ·rcases List.mem_cons.mp hx with z | z
    ·rw[z];omega
    ·exact h3 x z
theorem z0u:∀l:List Nat,ints? (nD l)=some (l.map λ(j:Nat)=>(j:Int))
 | []=>rfl
 | a::l=>by
  show(ints? (nD l)).map ((a:Int) :: ·)=_
  rw[z0u l];rfl
theorem z5c{e:ME}{l:List Nat}(h:evE G F e δ=some (.ok (.lst (nD l)) cl))(hl:l≠[]):∃z∈l,(∀x∈l,z<=x)/\evE G F (.bi .min [e]) δ=some (.ok (.int (z:Nat)) .strong):=by
 cases l with
 | nil=>exact absurd rfl hl
 | cons a l=>
  obtain⟨h1,h2,h3⟩:=z0I (l.map λ(j:Nat)=>(j:Int)) a
  have e1:evE G F (.bi .min [e]) δ=some (.ok (.int (minI a (l.map λ(j:Nat)=>(j:Int)))) .strong):=by
   rw[z4w (q0a h q0e)]
   show(match ints? (nD (a::l))with | some (n::r)=>some (Re.ok (.int (minI n r)) .strong) | _=>_)=_
   rw[z0u]
   rfl
  obtain⟨z,hz,ez⟩:∃z∈a::l,minI a (l.map λ(j:Nat)=>(j:Int))=((z:Nat):Int):=by
   rcases h1 with q | q
   ·exact⟨a,List.mem_cons_self ..,q⟩
   ·obtain⟨z,hz,q⟩:=List.mem_map.mp q
    exact⟨z,List.mem_cons_of_mem _ hz,q.symm⟩
  refine⟨z,hz,λx hx=>?_,by rw[e1,ez]⟩
  rw[ez]at h2 h3
  rcases List.mem_cons.mp hx with q | q
  ·rw[q];omega
  ·have:=h3 (x:Int) (List.mem_map.mpr ⟨x,q,rfl⟩)
   omega
end k53
end
noncomputable section
namespace k53
open PySem L2
variable {fu k:Nat} {F:Nat->List DV->Option Ou} {δ:List Sv} {ds:List DV} {cl:Cl} {R C a b:Nat} {rest:List (List Int)} {L:Tb}
def mf(rest:List (List Int)):Mx:=λi j=>(rest.getD i []).getD j 0
theorem z8K(rest:List (List Int))(R C:Nat):WI (sub rest (cs R) (cs C))=(List.range 10).filter (wp (mf rest) R C):=by
 unfold WI sub wp mf
 congr 1
 funext w
 rw[List.any_map]
 congr 1
 funext i
 show((cs C).map λj=>(rest.getD i []).getD j 0).any (λx=>x==(w:Int))=_
 rw[List.any_map]
 rfl
def W9(rest:List (List Int)):Prop:=∀r∈rest,∀x∈r,0<=x/\x<=9
theorem q5W{r:List Int}{j:Nat}(h:j<r.length):r.getD j 0∈r:=by
 rw[List.getD_eq_getElem?_getD,List.getElem?_eq_getElem h]
 exact List.getElem_mem h
theorem z2U(rc:Rect a b rest)(w9:W9 rest){i j:Nat}(hi:i<a)(hj:j<b):0<=mf rest i j/\mf rest i j<=9:=by
 have h1:rest.getD i []∈rest:=q0U (by rw[rc.1];exact hi)
 exact w9 _ h1 _ (q5W (by rw[rc.2 _ h1];exact hj))
theorem q8U{c n i:Nat}(hc:c<2^n)(h:i∈cs c):i<n:=by
 have h1:=Nat.ge_two_pow_of_testBit (q3G h)
 exact(Nat.pow_lt_pow_iff_right (by decide:1<2)).mp (Nat.lt_of_le_of_lt h1 hc)
theorem p32{n:Nat}(h:n<=5):2^n<=32:=Nat.pow_le_pow_right (n:=2) (by decide) h
theorem cs5:∀c,c<32->(cs c).length<=5:=by decide +kernel
theorem z8d(rc:Rect a b rest)(w9:W9 rest)(ha:a<=5)(hb:b<=5)(R0:0<R)(R1:R<2^a)(C0:0<C)(C1:C<2^b):0<wn (mf rest) R C:=by
 have pa:=p32 ha
 have pb:=p32 hb
 obtain⟨i,hi⟩:=List.exists_mem_of_length_pos (q8s R (by omega) R0)
 obtain⟨j,hj⟩:=List.exists_mem_of_length_pos (q8s C (by omega) C0)
 have q:=z2U rc w9 (q8U R1 hi) (q8U C1 hj)
 unfold wn
 refine List.length_pos_of_mem (a:=(mf rest i j).toNat) (List.mem_filter.mpr ⟨List.mem_range.mpr (by omega),q2f.mpr ⟨i,j,hi,hj,by omega⟩⟩)
theorem z7u(rc:Rect a b rest)(w9:W9 rest)(a0:0<a)(ha:a<=5)(hb:b<=5)(R0:0<R)(R1:R<2^a)(C0:0<C)(C1:C<2^b)(h3:δ[3]? = some (.val (tT rest)))(h5:δ[5]? = some (.val (.int R)))(h6:δ[6]? = some (.val (.int C))) :
  evE G (run G T fu (k+3)) (.bi .len [.call 11 [.call 2 [.var 3,.var 5,.var 6]]]) δ=some (.ok (.int (wn (mf rest) R C:Nat)) .strong):=by
 have pa:=p32 ha
 have pb:=p32 hb
 have rs:Rect (cs R).length (cs C).length (sub rest (cs R) (cs C)):=by
  refine⟨by unfold sub;rw[List.length_map],λr hr=>?_⟩
  obtain⟨i,_,rfl⟩:=List.mem_map.mp hr
  rw[List.length_map]
 have w9':W9 (sub rest (cs R) (cs C)):=λr hr x hx=>by
  obtain⟨i,hi,rfl⟩:=List.mem_map.mp hr
  obtain⟨j,hj,rfl⟩:=List.mem_map.mp hx
  exact z2U rc w9 (q8U R1 hi) (q8U C1 hj)
 have c1:=q0f (G:=G) (F:=run G T fu (k+3)) (δ:=δ) (f:=2) (es:=[.var 3,.var 5,.var 6]) (q0a (q0b h3) (q0a (q0b h5) (q0a (q0b h6) q0e))) rfl (y1i (fu:=fu) (k:=k) rest a b R C rc a0 (by omega) (by omega) R0 R1 C0 C1)
 have c2:=q0f (G:=G) (F:=run G T fu (k+3)) (δ:=δ) (f:=11) (es:=[.call 2 [.var 3,.var 5,.var 6]]) (q0a c1 q0e) rfl (q9O (fu:=fu) (k:=k+2) _ _ _ rs (Nat.le_trans (cs5 R (by omega)) (by decide)) (Nat.le_trans (cs5 C (by omega)) (by decide)) w9')
 have l:=q2F c2
 rw[z8K]at l
 unfold nD at l
 rw[List.length_map]at l
 exact l
structure Iv(f:Mx)(b:Nat)(L:Tb)(r c:Nat):Prop where
 ok:∀r' c',0<r'->0<c'->c'<2^b->(r'<r\/r'=r/\c'<c)->∃z,L.lookup (r',c')=some z/\Gd f r' c' z
 no:∀r' c',(r<r'\/r'=r/\c<=c')->L.lookup (r',c')=none
 len:L.length<=40*r+c
def vl(L:Tb)(p:Nat×Nat):Nat:=(L.lookup p).getD 0
def wv(L:Tb)(w:Wy):Nat:=1+max (vl L w.2.2.1) (vl L w.2.2.2)
theorem q8O{L:Tb}{p q:Nat×Nat}{z:Nat}:(L++[(p,z)]).lookup q=if L.lookup q=none then(if q=p then some z else none)else L.lookup q:=by
 induction L with
 | nil=>
  show([(p,z)]:Tb).lookup q=if(none:Option Nat)=none then(if q=p then some z else none)else none
  rw[if_pos rfl,List.lookup_cons]
  by_cases h:q=p
  ·rw[if_pos h,h,beq_self_eq_true]
  ·rw[if_neg h,show(q==p)=false from beq_eq_false_iff_ne.mpr h];rfl
 | cons y L ih=>
  obtain⟨y1,y2⟩:=y
  show((y1,y2)::(L++[(p,z)])).lookup q=_
  rw[List.lookup_cons,List.lookup_cons]
  cases q==y1 with
  | true=>rw[if_neg (by intro h;cases h)]
  | false=>exact ih
theorem Iv.next{f:Mx}{r c z:Nat}(I:Iv f b L r c)(g:Gd f r c z):Iv f b (L++[((r,c),z)]) r (c+1) where
 ok:=λr' c' h1 h2 h3 h4=>by
  rw[q8O]
  by_cases e:r'=r/\c'=c
  ·obtain⟨rfl,rfl⟩:=e
   rw[if_pos (I.no _ _ (.inr ⟨rfl,Nat.le_refl _⟩)),if_pos rfl]
   exact⟨z,rfl,g⟩
  ·obtain⟨y,e1,e2⟩:=I.ok r' c' h1 h2 h3 (by omega)
   rw[e1,if_neg (by intro h;cases h)]
   exact⟨y,rfl,e2⟩
 no:=λr' c' h=>by
  rw[q8O,if_pos (I.no r' c' (by omega)),if_neg]
  intro e
  cases e
  omega
 len:=by rw[List.length_append];have:=I.len;simp;omega
theorem Iv.row{f:Mx}{r:Nat}(I:Iv f b L r (2^b))(hb:b<=5):Iv f b L (r+1) 1 where
 ok:=λr' c' h1 h2 h3 h4=>I.ok r' c' h1 h2 h3 (by omega)
 no:=λr' c' h=>I.no r' c' (by omega)
 len:=by have:=I.len;have:=p32 hb;omega
def lnB:List MS:=[.iff (.cmp .Eq (.bi .len [.call 11 [.call 2 [.var 3,.var 5,.var 6]]]) (.int 1)) [.dpp 4 [.var 5,.var 6] (.var 1)] [.set 7 false (.call 21 [.var 5,.var 6]),.dpp 4 [.var 5,.var 6] (.bi .min [.comp (.callv 4 [("joined_bits",19)] [.dgp 5 (.var 2),.dgp 5 (.var 3)]) (.many [0,1,2,3]) (.var 7) [none,none,none,none,some 2,some 4]])]]
theorem Iv.way{f:Mx}(I:Iv f b L R C)(hR:R<32)(hC:C<32)(C0:0<C)(R0:0<R)(C1:C<2^b){w:Wy}(hw:w∈wl R C):∃z1 z2,L.lookup w.2.2.1=some z1/\L.lookup w.2.2.2=some z2:=by
 unfold wl at hw
 rcases List.mem_append.mp hw with hx | hx
 ·obtain⟨h,hh,rfl⟩:=List.mem_map.mp hx
  have s:=(q9F hh).1
  obtain⟨h1,h2,h3⟩:=s
  obtain⟨z1,e1,_⟩:=I.ok (R - h) C (by omega) C0 C1 (by omega)
  obtain⟨z2,e2,_⟩:=I.ok h C (by omega) C0 C1 (by omega)
  exact⟨z1,z2,e1,e2⟩
 ·obtain⟨h,hh,rfl⟩:=List.mem_map.mp hx
  have s:=(q9F hh).1
  obtain⟨h1,h2,h3⟩:=s
  obtain⟨z1,e1,_⟩:=I.ok R (C - h) R0 (by omega) (by omega) (by omega)
  obtain⟨z2,e2,_⟩:=I.ok R h R0 (by omega) (by omega) (by omega)
  exact⟨z1,z2,e1,e2⟩
theorem Iv.gd{f:Mx}(I:Iv f b L R C)(hR:R<32)(hC:C<32)(R0:0<R)(C0:0<C)(C1:C<2^b)(h2:2<=wn f R C){z:Nat}(hz:z∈(wl R C).map (wv L))(hm:∀x∈(wl R C).map (wv L),z<=x):Gd f R C z:=by
 have row:∀h,0<h->h<R->∃z,vl L (h,C)=z/\Gd f h C z:=λh p q=>by
  obtain⟨z,e,g⟩:=I.ok h C p C0 C1 (.inl q)
  exact⟨z,by unfold vl;rw[e];rfl,g⟩
 have col:∀h,0<h->h<C->∃z,vl L (R,h)=z/\Gd f R h z:=λh p q=>by
  obtain⟨z,e,g⟩:=I.ok R h R0 p (by omega) (.inr ⟨rfl,q⟩)
  exact⟨z,by unfold vl;rw[e];rfl,g⟩
 refine z6R hR hC R0 C0 h2 ?_ (λh s=>?_) (λh s=>?_)
 ·obtain⟨w,hw,rfl⟩:=List.mem_map.mp hz
  unfold wl at hw
  rcases List.mem_append.mp hw with q | q
  ·obtain⟨h,hh,rfl⟩:=List.mem_map.mp q
   have s:=(q9F hh).1
   obtain⟨z1,e1,g1⟩:=row h s.1 s.2.1
   obtain⟨z2,e2,g2⟩:=row (R - h) (by have:=s.2.1;omega) (by have:=s.1;omega)
   refine .inl ⟨h,z1,z2,s,g1,g2,?_⟩
   show 1+max (vl L (R - h,C)) (vl L (h,C))=_
   rw[e1,e2,Nat.max_comm]
  ·obtain⟨h,hh,rfl⟩:=List.mem_map.mp q
   have s:=(q9F hh).1
   obtain⟨z1,e1,g1⟩:=col h s.1 s.2.1
   obtain⟨z2,e2,g2⟩:=col (C - h) (by have:=s.2.1;omega) (by have:=s.1;omega)
   refine .inr ⟨h,z1,z2,s,g1,g2,?_⟩
   show 1+max (vl L (R,C - h)) (vl L (R,h))=_
   rw[e1,e2,Nat.max_comm]
 ·obtain⟨z1,e1,g1⟩:=row h s.1 s.2.1
  obtain⟨z2,e2,g2⟩:=row (R - h) (by have:=s.2.1;omega) (by have:=s.1;have:=s.2.1;omega)
  refine⟨z1,z2,g1,g2,?_⟩
  rcases z1k R hR h (s.lt hR) s with q | ⟨q,e⟩
  ·have:=hm (wv L (.str "row",h,(R - h,C),(h,C))) (List.mem_map.mpr ⟨_,List.mem_append_left _ (List.mem_map.mpr ⟨h,q,rfl⟩),rfl⟩)
   have e:wv L (.str "row",h,(R - h,C),(h,C))=1+max z2 z1:=by show 1+max (vl L (R - h,C)) (vl L (h,C))=_;rw[e1,e2]
   rw[e]at this
   omega
  ·have:=hm (wv L (.str "row",R - h,(R - (R - h),C),(R - h,C))) (List.mem_map.mpr ⟨_,List.mem_append_left _ (List.mem_map.mpr ⟨R - h,q,rfl⟩),rfl⟩)
   have e:wv L (.str "row",R - h,(R - (R - h),C),(R - h,C))=1+max z1 z2:=by show 1+max (vl L (R - (R - h),C)) (vl L (R - h,C))=_;rw[e,e1,e2]
   rw[e]at this
   exact this
 ·obtain⟨z1,e1,g1⟩:=col h s.1 s.2.1
  obtain⟨z2,e2,g2⟩:=col (C - h) (by have:=s.2.1;omega) (by have:=s.1;have:=s.2.1;omega)
  refine⟨z1,z2,g1,g2,?_⟩
  rcases z1k C hC h (s.lt hC) s with q | ⟨q,e⟩
  ·have:=hm (wv L (.str "column",h,(R,C - h),(R,h))) (List.mem_map.mpr ⟨_,List.mem_append_right _ (List.mem_map.mpr ⟨h,q,rfl⟩),rfl⟩)
   have e:wv L (.str "column",h,(R,C - h),(R,h))=1+max z2 z1:=by show 1+max (vl L (R,C - h)) (vl L (R,h))=_;rw[e1,e2]
   rw[e]at this
   omega
  ·have:=hm (wv L (.str "column",C - h,(R,C - (C - h)),(R,C - h))) (List.mem_map.mpr ⟨_,List.mem_append_right _ (List.mem_map.mpr ⟨C - h,q,rfl⟩),rfl⟩)
   have e:wv L (.str "column",C - h,(R,C - (C - h)),(R,C - h))=1+max z1 z2:=by show 1+max (vl L (R,C - (C - h))) (vl L (R,C - h))=_;rw[e,e1,e2]
   rw[e]at this
   exact this
def lnD(t:DV)(rest:List (List Int))(L:Tb)(x y w:Sv):List Sv:=[.val t,.val (.int 0),.val (.fn "joined_bits"),.val (tT rest),.od (dD L),x,y,w]
theorem z3Y(t:DV)(rc:Rect a b rest)(w9:W9 rest)(a0:0<a)(ha:a<=5)(hb:b<=5)(R0:0<R)(R1:R<2^a)(C0:0<C)(C1:C<2^b)(I:Iv (mf rest) b L R C)(w:Sv) :
  ∃z w',evSs G (run G T fu (k+3)) fu lnB (lnD t rest L (.val (.int R)) (.val (.int C)) w)=some (.nx (lnD t rest (L++[((R,C),z)]) (.val (.int R)) (.val (.int C)) w'))/\Gd (mf rest) R C z:=by
 have pa:=p32 ha
 have pb:=p32 hb
 have hR:R<32:=by omega
 have hC:C<32:=by omega
 have hln:L.length<100000:=by have:=I.len;omega
 have nw:=I.no R C (.inr ⟨rfl,Nat.le_refl _⟩)
 have cnt:=z7u (fu:=fu) (k:=k) (δ:=lnD t rest L (.val (.int R)) (.val (.int C)) w) rc w9 a0 ha hb R0 R1 C0 C1 rfl rfl rfl
 have tst:=z9q cnt (q0d (i:=((1:Nat):Int)))
 have wp':=z8d rc w9 ha hb R0 R1 C0 C1
 by_cases h1:wn (mf rest) R C=1
 ·rw[h1]at tst
  exact⟨0,w,q8S (q0Z tst) (q0w (z3Z (z:=0) rfl (q0b rfl) (q0b rfl) (q0b rfl) nw hln) rfl) rfl,z7g h1⟩
 ·have tf:(wn (mf rest) R C==1)=false:=beq_eq_false_iff_ne.mpr h1
  rw[tf]at tst
  have h2:2<=wn (mf rest) R C:=by omega
  have sp:=q0f (G:=G) (F:=run G T fu (k+3)) (δ:=lnD t rest L (.val (.int R)) (.val (.int C)) w) (f:=21) (es:=[.var 5,.var 6]) (l:=[(.int R,.strong),(.int C,.strong)]) rfl rfl (z2C (fu:=fu) (k:=k+1) hR hC)
  have cm:=q0O (F:=run G T fu (k+3)) (δ:=lnD t rest L (.val (.int R)) (.val (.int C)) (.val (.lst ((wl R C).map wD)))) (l:=wl R C) (h:=wD) (f:=λw=>.int ((wv L w:Nat):Int)) (elt:=.callv 4 [("joined_bits",19)] [.dgp 5 (.var 2),.dgp 5 (.var 3)]) (tg:=.many [0,1,2,3]) (it:=.var 7) (fr:=[none,none,none,none,some 2,some 4]) (cl:=.strong) rfl (by decide)
   (by unfold wl;rw[List.length_append,List.length_map,List.length_map];exact Nat.le_trans (Nat.add_le_add (q5n hR) (q5n hC)) (by decide)) λw hw=>by
    obtain⟨z1,z2,e1,e2⟩:=I.way hR hC C0 R0 C1 hw
    refine⟨[.val w.1,.val (.int w.2.1),.val (.tup [.int w.2.2.1.1,.int w.2.2.1.2]),.val (.tup [.int w.2.2.2.1,.int w.2.2.2.2]),.val (.fn "joined_bits"),.od (dD L)],.strong,rfl,?_,rfl⟩
    have hv1:vl L w.2.2.1=z1:=by unfold vl;rw[e1];rfl
    have hv2:vl L w.2.2.2=z2:=by unfold vl;rw[e2];rfl
    have:=z3k (F:=run G T fu (k+3)) (δ:=[.val w.1,.val (.int w.2.1),.val (.tup [.int w.2.2.1.1,.int w.2.2.1.2]),.val (.tup [.int w.2.2.2.1,.int w.2.2.2.2]),.val (.fn "joined_bits"),.od (dD L)]) (i:=4) (xs:=[("joined_bits",19)]) (es:=[.dgp 5 (.var 2),.dgp 5 (.var 3)]) rfl rfl (q0a (z4j (L:=L) rfl (q0b rfl) e1) (q0a (z4j (L:=L) rfl (q0b rfl) e2) q0e)) rfl (z2M (fu:=fu) (k:=k+2) z1 z2)
    rw[this]
    unfold wv
    rw[hv1,hv2]
  have cm':evE G (run G T fu (k+3)) (.comp (.callv 4 [("joined_bits",19)] [.dgp 5 (.var 2),.dgp 5 (.var 3)]) (.many [0,1,2,3]) (.var 7) [none,none,none,none,some 2,some 4]) (lnD t rest L (.val (.int R)) (.val (.int C)) (.val (.lst ((wl R C).map wD))))=some (.ok (.lst (nD ((wl R C).map (wv L)))) .fresh):=by
   rw[cm];unfold nD;rw[List.map_map];rfl
  have ne:(wl R C).map (wv L)≠[]:=by
   intro z
   have z':=List.map_eq_nil_iff.mp z
   unfold wl at z'
   obtain⟨q1,q2⟩:=List.append_eq_nil_iff.mp z'
   rcases y0H hR hC R0 C0 h2 with q | q
   ·exact q (List.map_eq_nil_iff.mp q1)
   ·exact q (List.map_eq_nil_iff.mp q2)
  obtain⟨z,hz,hm,ez⟩:=z5c cm' ne
  exact⟨z,_,z4i (q0Z tst) (q0w (q0u sp rfl) (q0w (z3Z (z:=z) rfl ez (q0b rfl) (q0b rfl) nw hln) rfl)) rfl,I.gd hR hC R0 C0 C1 h2 hz hm⟩
end k53
end
noncomputable section
namespace k53
open PySem L2
variable {fu k:Nat} {F:Nat->List DV->Option Ou} {δ:List Sv} {ds:List DV} {cl:Cl} {R C a b:Nat} {rest:List (List Int)} {L:Tb}
theorem z2W(t:DV)(rc:Rect a b rest)(w9:W9 rest)(a0:0<a)(ha:a<=5)(hb:b<=5)(R0:0<R)(R1:R<2^a)(I:Iv (mf rest) b L R 1)(y w:Sv) :
  ∃δ',q1T (.one 6) (λδ'=>evSs G (run G T fu (k+3)) fu lnB δ') (upTo 1 (2^b - 1)) (lnD t rest L (.val (.int R)) y w)=some (.nx δ')/\∃L' y' w',δ'=lnD t rest L' (.val (.int R)) y' w'/\Iv (mf rest) b L' R (2^b - 1+1)/\(0<2^b - 1->∃L0 z,L'=L0++[((R,2^b - 1),z)]/\Gd (mf rest) R (2^b - 1) z):=by
 refine q1u (I:=λj δ'=>∃L' y' w',δ'=lnD t rest L' (.val (.int R)) y' w'/\Iv (mf rest) b L' R (j+1)/\(0<j->∃L0 z,L'=L0++[((R,j),z)]/\Gd (mf rest) R j z)) (2^b - 1) 1 (λj hj δ h=>?_) ⟨L,y,w,rfl,I,λz=>absurd z (by decide)⟩
 obtain⟨L',y',w',rfl,I',_⟩:=h
 obtain⟨z,w2,e,g⟩:=z3Y (fu:=fu) (k:=k) t rc w9 a0 ha hb R0 R1 (C:=j+1) (by omega) (by omega) I' w'
 have e1:(lnD t rest L' (.val (.int R)) y' w').set 6 (.val (.int (1+(j:Int))))=lnD t rest L' (.val (.int R)) (.val (.int ((j+1:Nat):Int))) w':=by
  show lnD t rest L' (.val (.int R)) (.val (.int (1+(j:Int)))) w'=_
  rw[show(1:Int)+(j:Int)=((j+1:Nat):Int) by omega]
 exact⟨_,by rw[e1];exact e,_,_,_,rfl,I'.next g,λ_=>⟨L',z,rfl,g⟩⟩
theorem z4A{e:ME}{n:Nat}{cx:Cl}(h:evE G F e δ=some (.ok (.int n) cx))(hn:n<=1000):evE G F (.bin .LShift (.int 1) e) δ=some (.ok (.int ((2^n:Nat):Int)) .strong):=q1Z q0d h (by
 show(if 0<=(n:Int)/\(n:Int)<=1000000/\(1:Int).natAbs<2^64 then some (Re.ok (.int (1*2^(n:Int).toNat)) .strong)else none)=_
 rw[if_pos ⟨by omega,by omega,by decide⟩,Int.toNat_natCast,Int.one_mul]
 congr 3)
def lnF:MS:=.fo (.one 6) (.rng [.int 1,.bin .LShift (.int 1) (.bi .len [.ix (.var 3) (.int 0)])]) lnB
theorem z3n(t:DV)(rc:Rect a b rest)(w9:W9 rest)(a0:0<a)(ha:a<=5)(b0:0<b)(hb:b<=5)(x y w:Sv) :
  ∃δ',q1T (.one 5) (λδ'=>evSs G (run G T fu (k+3)) fu [lnF] δ') (upTo 1 (2^a - 1)) (lnD t rest [] x y w)=some (.nx δ')/\∃L' x' y' w',δ'=lnD t rest L' x' y' w'/\Iv (mf rest) b L' (2^a - 1+1) 1/\(0<2^a - 1->∃L0 z,L'=L0++[((2^a - 1,2^b - 1),z)]/\Gd (mf rest) (2^a - 1) (2^b - 1) z):=by
 have pb:=p32 hb
 have b1:2<=2^b:=Nat.le_trans (by decide:2<=2^1) (Nat.pow_le_pow_right (by decide) b0)
 refine q1u (I:=λj δ'=>∃L' x' y' w',δ'=lnD t rest L' x' y' w'/\Iv (mf rest) b L' (j+1) 1/\(0<j->∃L0 z,L'=L0++[((j,2^b - 1),z)]/\Gd (mf rest) j (2^b - 1) z)) (2^a - 1) 1 (λj hj δ h=>?_) ⟨[],x,y,w,rfl,⟨λr' c' h1 h2 h3 h4=>by omega,λr' c' _=>rfl,by simp⟩,λz=>absurd z (by decide)⟩
 obtain⟨L',x',y',w',rfl,I',_⟩:=h
 obtain⟨δ2,e,L2,y2,w2,rfl,I2,q⟩:=z2W (fu:=fu) (k:=k) t rc w9 a0 ha hb (R:=j+1) (by omega) (by omega) I' y' w'
 rw[show 2^b - 1+1=2^b by omega]at I2
 have e1:(lnD t rest L' x' y' w').set 5 (.val (.int (1+(j:Int))))=lnD t rest L' (.val (.int ((j+1:Nat):Int))) y' w':=by
  show lnD t rest L' (.val (.int (1+(j:Int)))) y' w'=_
  rw[show(1:Int)+(j:Int)=((j+1:Nat):Int) by omega]
 have r0:0<rest.length:=by rw[rc.1];exact a0
 have ln:=q3q (F:=run G T fu (k+3)) (δ:=lnD t rest L' (.val (.int ((j+1:Nat):Int))) y' w') (q1e (a:=.var 3) (b:=.int 0) (cx:=.strong) (q0b rfl) (q0d (i:=((0:Nat):Int))) (q6r r0))
 rw[show(iD (rest.getD 0 [])).length=b by unfold iD;rw[List.length_map];exact rc.2 _ (q0U r0)]at ln
 exact⟨_,by rw[e1];exact q4I (z0N (z4A ln (by omega)) (by omega)) (.inr rfl) e rfl,_,_,_,_,rfl,I2.row hb,λ_=>q (by omega)⟩
theorem z9I{i:Nat}(h:noOt i δ=true):evS G F fu (.sep i) δ=some (.nx (δ.set i (.od (dD [])))):=by
 have e1:evS G F fu (.sep i) δ=if noOt i δ then some (.nx (δ.set i (.od (.tup [.dct [] []]))))else none:=by rw[evS]<;>rfl
 rw[e1,if_pos h]
 rfl
theorem z5R{i:Nat}(h:δ[i]? = some (.od (dD L))):evS G F fu (.retd i) δ=some (.rt (dC L) false):=by
 have e1:evS G F fu (.retd i) δ=(match δ[i]? with
  | some (.od d)=>some (.rt (unT d) false)
  | _=>none):=by rw[evS]<;>rfl
 rw[e1,h]
 rfl
theorem q5L(rows:List (List Int))(n m:Nat)(rc:Rect n m rows)(hn:0<n)(hn2:n<=60)(hm2:m<=60)(h1:(FI rows).length<=5)(h2:(FI (flip m rows)).length<=5):run G T fu (k+5) 10 [tT rows]=some (.v .non false):=by
 rw[q0D (fd:=q1C) rfl rfl]
 unfold q1C
 have c:=q0f (G:=G) (F:=run G T fu (k+4)) (δ:=q0h 1 [tT rows]) (f:=9) (es:=[.var 0]) (l:=[(tT rows,.strong)]) rfl rfl (q9D (fu:=fu) (k:=k) rows n m rc hn hn2 hm2)
 have s:sm (FI rows).length (FI (flip m rows)).length=true:=by unfold sm;rw[Bool.and_eq_true,decide_eq_true_eq,decide_eq_true_eq];omega
 rw[s]at c
 have q:=q5l c
 exact z7H (q3f (q0Z q) rfl)
def rst(m:Nat)(rows:List (List Int)):List (List Int):=sub rows (FI rows) (FI (flip m rows))
theorem z0P(rows:List (List Int))(n m:Nat)(rc:Rect n m rows)(w9:W9 rows)(hn:0<n)(hn2:n<=60)(hm:0<m)(hm2:m<=60)(h1:(FI rows).length<=5)(h2:(FI (flip m rows)).length<=5) :
  ∃L0 z,run G T fu (k+6) 20 [tT rows,.int 0,.fn "joined_bits"]=some (.v (dC (L0++[((2^(FI rows).length - 1,2^(FI (flip m rows)).length - 1),z)])) false)/\L0.length<=10000/\Gd (mf (rst m rows)) (2^(FI rows).length - 1) (2^(FI (flip m rows)).length - 1) z:=by
 have a0:0<(FI rows).length:=q7j (by rw[rc.1];exact hn)
 have b0:0<(FI (flip m rows)).length:=q7j (by rw[(q1R rc).1];exact hm)
 have rc':Rect (FI rows).length (FI (flip m rows)).length (rst m rows):=by
  refine⟨by unfold rst sub;rw[List.length_map],λr hr=>?_⟩
  obtain⟨i,_,rfl⟩:=List.mem_map.mp hr
  rw[List.length_map]
 have w9':W9 (rst m rows):=λr hr x hx=>by
  obtain⟨i,hi,rfl⟩:=List.mem_map.mp hr
  obtain⟨j,hj,rfl⟩:=List.mem_map.mp hx
  have:=q5a hi
  have:=q5a hj
  rw[(q1R rc).1]at this
  exact z2U rc w9 (by rw[←rc.1];omega) this
 obtain⟨δ',e,L',x',y',w',rfl,IV,q⟩:=z3n (fu:=fu) (k:=k+2) (tT rows) rc' w9' a0 h1 b0 h2 .no .no .no
 have a1:2<=2^(FI rows).length:=Nat.le_trans (by decide:2<=2^1) (Nat.pow_le_pow_right (by decide) a0)
 obtain⟨L0,z,rfl,g⟩:=q (by omega)
 have pa:=p32 h1
 have lln:=IV.len
 rw[List.length_append]at lln
 refine⟨L0,z,?_,by omega,g⟩
 rw[q0D (fd:=q1L) rfl rfl]
 have c1:=q0f (G:=G) (F:=run G T fu (k+5)) (δ:=q0h 8 [tT rows,.int 0,.fn "joined_bits"]) (f:=10) (es:=[.var 0]) (l:=[(tT rows,.strong)]) rfl rfl (q5L (fu:=fu) (k:=k) rows n m rc hn hn2 hm2 h1 h2)
 have c2:=q0f (G:=G) (F:=run G T fu (k+5)) (δ:=q0h 8 [tT rows,.int 0,.fn "joined_bits"]) (f:=8) (es:=[.var 0]) (l:=[(tT rows,.strong)]) rfl rfl (q6E (fu:=fu) (k:=k+2) rows n m rc hn hn2 hm2)
 have ln:=q3q (F:=run G T fu (k+5)) (δ:=lnD (tT rows) (rst m rows) [] .no .no .no) (e:=.var 3) (ds:=(rst m rows).map λr=>.tup (iD r)) (c:=.strong) rfl
 rw[List.length_map,rc'.1]at ln
 show Ou.of (evSs G (run G T fu (k+5)) fu [.exp (.call 10 [.var 0]),.set 3 false (.call 8 [.var 0]),.sep 4,.fo (.one 5) (.rng [.int 1,.bin .LShift (.int 1) (.bi .len [.var 3])]) [lnF],.retd 4] (q0h 8 [tT rows,.int 0,.fn "joined_bits"]))=_
 exact q0W (q0w (z0Q c1) (q0w (q0u c2 rfl) (q0w (z9I rfl) (q4I (z0N (z4A ln (by omega)) (by omega)) (.inr rfl) e (q0X (z5R rfl))))))
theorem z8o:∀{L:Tb},L≠[]->kvs? (L.map λp=>kk p.1) (L.map λp=>.int (p.2:Int))=none
 | [],h=>absurd rfl h
 | p::L,_=>rfl
theorem z0y:∀L:Tb,kvp? (L.map λp=>kk p.1) (L.map λp=>.int (p.2:Int))=some (L.map λp=>(((p.1.1:Int),(p.1.2:Int)),(p.2:Int)))
 | []=>rfl
 | p::L=>by
  show(kvp? (L.map λp=>kk p.1) (L.map λp=>.int (p.2:Int))).map ((((p.1.1:Int),(p.1.2:Int)),(p.2:Int)) :: ·)=_
  rw[z0y L]
  rfl
def tD(p:(Nat×Nat)×Nat):DV:=.tup [.int p.1.1,.int p.1.2,.int p.2]
theorem z7l(L:Tb)(h:L≠[])(hl:L.length<=100000):run G T fu (k+1) 17 [dC L]=some (.v (.lst (L.map tD)) true):=by
 rw[q0D (fd:=q5U) rfl rfl]
 unfold q5U
 have w:q0L (evE G (run G T fu k) (.itm (.var 0)) (q0h 1 [dC L]))=some (.ok (L.map λp=>.tup [.tup [.int p.1.1,.int p.1.2],.int p.2]) .strong):=by
  have e1:evE G (run G T fu k) (.itm (.var 0)) (q0h 1 [dC L])=Re.thn (evE G (run G T fu k) (.var 0) (q0h 1 [dC L])) (λx c=>itmD x c):=rfl
  rw[e1,q0b (d:=dC L) rfl,q0R]
  show q0L (if Cl.strong=.strong then(match kvs? (L.map λp=>kk p.1) (L.map λp=>.int (p.2:Int))with
   | some l=>some (.ok (.lst (l.map λp=>.tup [.int p.1,.int p.2])) .strong)
   | none=>(kvp? (L.map λp=>kk p.1) (L.map λp=>.int (p.2:Int))).map (λl=>.ok (.lst (l.map λp=>.tup [.tup [.int p.1.1,.int p.1.2],.int p.2])) .strong))else none)=_
  rw[if_pos rfl,z8o h,z0y]
  show some (Ri.ok ((L.map λp=>(((p.1.1:Int),(p.1.2:Int)),(p.2:Int))).map λp=>.tup [.tup [.int p.1.1,.int p.1.2],.int p.2]) .strong)=_
  rw[List.map_map]
  rfl
 refine q0W (q0X (q0J (cl:=.fresh) (q0O (f:=tD) w (by decide) (Nat.le_trans hl (by decide)) λp hp=>?_)))
 refine⟨[.val (.tup [.int p.1.1,.int p.1.2]),.val (.int p.2)],.strong,rfl,?_,rfl⟩
 exact q4P (q0a (q1e (cx:=.strong) (q0b rfl) (q0d (i:=0)) rfl) (q0a (q1e (cx:=.strong) (q0b rfl) (q0d (i:=1)) rfl) (q0a (q0b rfl) q0e))) (ln4 (by simp)) rfl
theorem z6k(xs:List DV)(x:DV):ixD (.lst (xs++[x])) (.int (-1))=some x:=by
 show(q1S (xs++[x]).length (-1)).bind (λj=>(xs++[x])[j]?)=_
 have e:q1S (xs++[x]).length (-1)=some xs.length:=by
  unfold q1S
  rw[if_neg (by decide),if_pos (by rw[List.length_append];simp;omega)]
  rw[List.length_append]
  congr 1
  simp
  omega
 rw[e,Option.bind_some,List.getElem?_append_right (Nat.le_refl _),Nat.sub_self]
 rfl
theorem z5P(rows:List (List Int))(n m:Nat)(rc:Rect n m rows)(w9:W9 rows)(hn:0<n)(hn2:n<=60)(hm:0<m)(hm2:m<=60)(h1:(FI rows).length<=5)(h2:(FI (flip m rows)).length<=5) :
  ∃z,run G T fu (k+9) 23 [tT rows]=some (.v (.int (z:Nat)) false)/\Gd (mf (rst m rows)) (2^(FI rows).length - 1) (2^(FI (flip m rows)).length - 1) z:=by
 obtain⟨L0,z,e,hl,g⟩:=z0P (fu:=fu) (k:=k) rows n m rc w9 hn hn2 hm hm2 h1 h2
 refine⟨z,?_,g⟩
 generalize 2^(FI rows).length - 1=A at e
 generalize 2^(FI (flip m rows)).length - 1=B at e
 have e1:run G T fu (k+7) 18 [tT rows]=some (.v (dC (L0++[((A,B),z)])) false):=by
  rw[q0D (fd:=q1r) rfl rfl]
  unfold q1r
  exact q0W (q0X (q0J (cl:=.strong) (q0f (G:=G) (F:=run G T fu (k+6)) (δ:=q0h 1 [tT rows]) (l:=[(tT rows,.strong),(.int 0,.strong),(.fn "joined_bits",.strong)]) rfl rfl e)))
 have e2:run G T fu (k+8) 16 [tT rows]=some (.v (.lst ((L0++[((A,B),z)]).map tD)) true):=by
  rw[q0D (fd:=q1W) rfl rfl]
  unfold q1W
  have c:=q0f (G:=G) (F:=run G T fu (k+7)) (δ:=q0h 1 [tT rows]) (f:=18) (es:=[.var 0]) (l:=[(tT rows,.strong)]) rfl rfl e1
  exact q0W (q0X (q0J (cl:=.fresh) (q0f (fr:=true) (q0a c q0e) rfl (z7l (fu:=fu) (k:=k+6) _ (by simp) (by rw[List.length_append];simp;omega)))))
 rw[q0D (fd:=q1V) rfl rfl]
 unfold q1V
 have c:=q0f (G:=G) (F:=run G T fu (k+8)) (δ:=q0h 1 [tT rows]) (f:=16) (es:=[.var 0]) (l:=[(tT rows,.strong)]) rfl rfl e2
 rw[List.map_append]at c
 exact q0W (q0X (q0J (cl:=.strong) (q1e (cx:=.strong) (q1e c (z0B (q0d (i:=1))) (z6k _ _)) (q0d (i:=2)) rfl)))
end k53
end
noncomputable section
namespace k53
open PySem L2
variable {n m:Nat} {rows:List (List Int)}
theorem q5i{α:Type}(d:α)(r:List α):(List.range r.length).map (λj=>r.getD j d)=r:=by
 apply List.ext_getElem?
 intro i
 rw[List.getElem?_map]
 by_cases h:i<r.length
 ·rw[List.getElem?_range h,Option.map_some,List.getD_eq_getElem?_getD,List.getElem?_eq_getElem h]
  rfl
 ·rw[List.getElem?_eq_none (by rw[List.length_range];omega),List.getElem?_eq_none (by omega)]
  rfl
theorem z2p{n m:Nat}{rows:List (List Int)}(R:Rect n m rows):sub rows (List.range n) (List.range m)=rows:=by
 unfold sub
 have e:∀i∈List.range n,((List.range m).map λj=>(rows.getD i []).getD j 0)=rows.getD i []:=λi hi=>by
  have hir:i<rows.length:=by rw[R.1];exact List.mem_range.mp hi
  have q:=q5i (0:Int) (rows.getD i [])
  rw[R.2 _ (q0U hir)]at q
  exact q
 rw[List.map_congr_left e,←R.1]
 exact q5i [] rows
theorem q6x{n m:Nat}{rows:List (List Int)}(R:Rect n m rows):flip n (flip m rows)=rows:=by
 have h:flip n (flip m rows)=sub rows (List.range n) (List.range m):=by
  unfold flip sub
  apply List.map_congr_left
  intro i hi
  have hir:i<rows.length:=by rw[R.1];exact List.mem_range.mp hi
  unfold col
  rw[List.map_map]
  apply List.map_congr_left
  intro j _
  show((rows.map λr=>r.getD j 0).getD i 0)=_
  rw[List.getD_eq_getElem?_getD,List.getElem?_map,List.getElem?_eq_getElem hir,List.getD_eq_getElem?_getD (l:=rows),List.getElem?_eq_getElem hir]
  rfl
 rw[h,z2p R]
theorem q6k{j:Nat}(h:j<m):(flip m rows).getD j []=col rows j:=by
 unfold flip
 rw[List.getD_eq_getElem?_getD,List.getElem?_map,List.getElem?_range h]
 rfl
theorem q1i:(flip m rows).length=m:=by unfold flip;rw[List.length_map,List.length_range]
theorem q7X{i j:Nat}(h:i<rows.length):(col rows j).getD i 0=mf rows i j:=by
 unfold col mf
 rw[List.getD_eq_getElem?_getD,List.getElem?_map,List.getElem?_eq_getElem h,List.getD_eq_getElem?_getD (l:=rows),List.getElem?_eq_getElem h]
 rfl
def fi(rows:List (List Int))(i:Nat):Nat:=rows.idxOf (rows.getD i [])
theorem q9a{i:Nat}(h:i<rows.length):fi rows i∈FI rows:=by
 have hm:=q0U h
 refine List.mem_filter.mpr ⟨List.mem_range.mpr (z2m hm),?_⟩
 rw[beq_iff_eq]
 unfold fi
 rw[q7P hm]
theorem z4D{i:Nat}(h:i<rows.length):rows.getD (fi rows i) []=rows.getD i []:=q7P (q0U h)
theorem q5Y{i:Nat}(h:i∈FI rows):fi rows i=i:=beq_iff_eq.mp (List.mem_filter.mp h).2
theorem q9U(rc:Rect n m rows){i j:Nat}(hi:i<n)(hj:j<m):mf rows i (fi (flip m rows) j)=mf rows i j:=by
 have hj':j<(flip m rows).length:=by rw[q1i];exact hj
 have h1:=z4D (rows:=flip m rows) hj'
 have h2:fi (flip m rows) j<m:=by have:=q5a (q9a (rows:=flip m rows) hj');rw[q1i]at this;exact this
 rw[q6k h2,q6k hj]at h1
 have hi':i<rows.length:=by rw[rc.1];exact hi
 rw[←q7X hi',←q7X hi',h1]
theorem z6m{i j:Nat}(hi:i<rows.length):mf rows (fi rows i) j=mf rows i j:=by
 unfold mf
 rw[z4D hi]
theorem q5f{rows:List (List Int)}{w:Nat}:(rows.any λr=>r.any λx=>x==(w:Int))=true↔∃r∈rows,(w:Int)∈r:=by
 rw[List.any_eq_true]
 constructor
 ·rintro⟨r,hr,h⟩
  obtain⟨x,hx,h⟩:=List.any_eq_true.mp h
  exact⟨r,hr,by rw[←beq_iff_eq.mp h];exact hx⟩
 ·rintro⟨r,hr,h⟩
  exact⟨r,hr,List.any_eq_true.mpr ⟨_,h,beq_iff_eq.mpr rfl⟩⟩
theorem z3o(rc:Rect n m rows){x:Int}:(∃r∈rows,x∈r)↔∃i j,i<n/\j<m/\mf rows i j=x:=by
 constructor
 ·rintro⟨r,hr,hx⟩
  obtain⟨i,hi,rfl⟩:=List.getElem_of_mem hr
  obtain⟨j,hj,rfl⟩:=List.getElem_of_mem hx
  refine⟨i,j,by rw[←rc.1];exact hi,by rw[←rc.2 _ hr];exact hj,?_⟩
  unfold mf
  simp[List.getD_eq_getElem?_getD,List.getElem?_eq_getElem hi,List.getElem?_eq_getElem hj]
 ·rintro⟨i,j,hi,hj,rfl⟩
  have h1:rows.getD i []∈rows:=q0U (by rw[rc.1];exact hi)
  exact⟨_,h1,q5W (by rw[rc.2 _ h1];exact hj)⟩
theorem z4s(rc:Rect n m rows){x:Int}:(∃r∈rst m rows,x∈r)↔∃r∈rows,x∈r:=by
 rw[z3o rc]
 unfold rst sub
 constructor
 ·rintro⟨r,hr,hx⟩
  obtain⟨i,hi,rfl⟩:=List.mem_map.mp hr
  obtain⟨j,hj,rfl⟩:=List.mem_map.mp hx
  have h1:=q5a hi
  have h2:=q5a hj
  rw[rc.1]at h1
  rw[q1i]at h2
  exact⟨i,j,h1,h2,rfl⟩
 ·rintro⟨i,j,hi,hj,rfl⟩
  have hi':i<rows.length:=by rw[rc.1];exact hi
  refine⟨_,List.mem_map.mpr ⟨fi rows i,q9a hi',rfl⟩,List.mem_map.mpr ⟨fi (flip m rows) j,q9a (by rw[q1i];exact hj),?_⟩⟩
  show mf rows (fi rows i) (fi (flip m rows) j)=_
  rw[z6m hi',q9U rc hi hj]
theorem z9k(rc:Rect n m rows):WI (rst m rows)=WI rows:=by
 unfold WI
 congr 1
 funext w
 rw[Bool.eq_iff_iff,q5f,q5f]
 exact z4s rc
theorem q5N:∀a,a<=5->cs (2^a - 1)=List.range a:=by
 intro a ha
 have:a=0\/a=1\/a=2\/a=3\/a=4\/a=5:=by omega
 rcases this with rfl | rfl | rfl | rfl | rfl | rfl<;>decide +kernel
theorem z1B:Rect (FI rows).length (FI (flip m rows)).length (rst m rows):=by
 refine⟨by unfold rst sub;rw[List.length_map],λr hr=>?_⟩
 obtain⟨i,_,rfl⟩:=List.mem_map.mp hr
 rw[List.length_map]
theorem z5q(rc:Rect n m rows)(h1:(FI rows).length<=5)(h2:(FI (flip m rows)).length<=5):wn (mf (rst m rows)) (2^(FI rows).length - 1) (2^(FI (flip m rows)).length - 1)=(WI rows).length:=by
 unfold wn
 rw[←z8K,q5N _ h1,q5N _ h2,z2p z1B,z9k rc]
theorem z4Z{α:Type}[BEq α][LawfulBEq α]:∀{l L:List α},l.Nodup->(∀x∈l,x∈L)->l.length<=L.length
 | [],_,_,_=>Nat.zero_le _
 | x::l,L,h,s=>by
  obtain⟨h1,h2⟩:=List.nodup_cons.mp h
  have hx:=s x (List.mem_cons_self ..)
  have:=z4Z (l:=l) (L:=L.erase x) h2 λy hy=>(List.mem_erase_of_ne (λe=>h1 (by rw[←e];exact hy))).mpr (s y (List.mem_cons_of_mem _ hy))
  rw[List.length_erase_of_mem hx]at this
  have:=List.length_pos_of_mem hx
  rw[List.length_cons]
  omega
def z1D(W:List Int):Nat->List (List Int)
 | 0=>[[]]
 | b+1=>(W.map λx=>(z1D W b).map (x :: ·)).flatten
theorem q8g{α β:Type}{f:α->List β}{c:Nat}:∀{W:List α},(∀x∈W,(f x).length=c)->((W.map f).flatten).length=W.length*c
 | [],_=>by simp
 | x::W,h=>by
  rw[List.map_cons,List.flatten_cons,List.length_append,h x (List.mem_cons_self ..),q8g λy hy=>h y (List.mem_cons_of_mem _ hy),List.length_cons,Nat.add_mul,Nat.one_mul,Nat.add_comm]
theorem q6N(W:List Int):∀b,(z1D W b).length=W.length^b
 | 0=>rfl
 | b+1=>by
  show((W.map λx=>(z1D W b).map (x :: ·)).flatten).length=_
  rw[q8g (c:=W.length^b) λx _=>by rw[List.length_map,q6N W b],Nat.pow_succ,Nat.mul_comm]
theorem q7l{W:List Int}:∀{b:Nat} {r:List Int},r.length=b->(∀x∈r,x∈W)->r∈z1D W b
 | 0,r,h,_=>by rw[List.length_eq_zero_iff.mp h];exact List.mem_singleton.mpr rfl
 | b+1,[],h,_=>by cases h
 | b+1,x::r,h,s=>List.mem_flatten.mpr ⟨_,List.mem_map.mpr ⟨x,s x (List.mem_cons_self ..),rfl⟩,List.mem_map.mpr ⟨r,q7l (Nat.succ.inj h) λy hy=>s y (List.mem_cons_of_mem _ hy),rfl⟩⟩
theorem z2q{α β:Type}{f:α->β}:∀{l:List α},l.Nodup->(∀x∈l,∀y∈l,f x=f y->x=y)->(l.map f).Nodup
 | [],_,_=>List.nodup_nil
 | x::l,h,s=>by
  obtain⟨h1,h2⟩:=List.nodup_cons.mp h
  refine List.nodup_cons.mpr ⟨λz=>?_,z2q h2 λa ha b hb=>s a (List.mem_cons_of_mem _ ha) b (List.mem_cons_of_mem _ hb)⟩
  obtain⟨y,hy,e⟩:=List.mem_map.mp z
  exact h1 (by rw[←s y (List.mem_cons_of_mem _ hy) x (List.mem_cons_self ..) e];exact hy)
theorem z8c:(FI rows).Nodup:=List.Pairwise.filter _ List.nodup_range
theorem z6D(rc:Rect n m rows){i i':Nat}(hi:i<n)(hi':i'<n)(h:∀j,j<m->mf rows i j=mf rows i' j):rows.getD i []=rows.getD i' []:=by
 have l1:=rc.2 _ (q0U (rows:=rows) (i:=i) (by rw[rc.1];exact hi))
 have l2:=rc.2 _ (q0U (rows:=rows) (i:=i') (by rw[rc.1];exact hi'))
 refine List.ext_getElem (l1.trans l2.symm) λj h1 h2=>?_
 have:=h j (by rw[←l1];exact h1)
 unfold mf at this
 rw[List.getD_eq_getElem?_getD (i:=j),List.getD_eq_getElem?_getD (i:=j),List.getElem?_eq_getElem h1,List.getElem?_eq_getElem h2]at this
 exact this
theorem z9M(rc:Rect n m rows):(rst m rows).Nodup:=by
 unfold rst sub
 refine z2q z8c λi hi i' hi' e=>?_
 have a1:=q5a hi
 have a2:=q5a hi'
 rw[rc.1]at a1 a2
 have e2:rows.getD i []=rows.getD i' []:=z6D rc a1 a2 λj hj=>by
  have hq:=q9a (rows:=flip m rows) (i:=j) (by rw[q1i];exact hj)
  have:=List.map_inj_left.mp e _ hq
  rw[←q9U rc a1 hj,←q9U rc a2 hj]
  exact this
 rw[←q5Y hi,←q5Y hi']
 unfold fi
 rw[e2]
theorem q8N(rc:Rect n m rows)(w9:W9 rows):(FI rows).length<=(WI rows).length^(FI (flip m rows)).length:=by
 have h:=z4Z (L:=z1D (nI (WI rows)) (FI (flip m rows)).length) (z9M rc) λr hr=>q7l (z1B.2 r hr) λx hx=>by
  obtain⟨r',hr',hx'⟩:=(z4s rc).mp ⟨r,hr,hx⟩
  have:=w9 r' hr' x hx'
  refine z2i.mpr ⟨x.toNat,List.mem_filter.mpr ⟨List.mem_range.mpr (by omega),q5f.mpr ⟨r',hr',?_⟩⟩,by omega⟩
  rw[show((x.toNat:Nat):Int)=x by omega]
  exact hx'
 rw[q6N,z1B.1]at h
 unfold nI at h
 rw[List.length_map]at h
 exact h
theorem z5i(rc:Rect n m rows):WI (flip m rows)=WI rows:=by
 unfold WI
 congr 1
 funext w
 rw[Bool.eq_iff_iff,q5f,q5f,z3o rc,z3o (q1R rc)]
 have e:∀i j,i<n->j<m->mf (flip m rows) j i=mf rows i j:=λi j hi hj=>by
  show((flip m rows).getD j []).getD i 0=_
  rw[q6k hj,q7X (by rw[rc.1];exact hi)]
 constructor
 ·rintro⟨j,i,hj,hi,h⟩;exact⟨i,j,hi,hj,by rw[←e i j hi hj];exact h⟩
 ·rintro⟨i,j,hi,hj,h⟩;exact⟨j,i,hj,hi,by rw[e i j hi hj];exact h⟩
theorem z7i(rc:Rect n m rows)(w9:W9 rows):W9 (flip m rows):=λr hr x hx=>by
 obtain⟨j,hj,rfl⟩:=List.mem_map.mp hr
 obtain⟨r',hr',rfl⟩:=List.mem_map.mp hx
 exact w9 r' hr' _ (q5W (by rw[rc.2 r' hr'];exact List.mem_range.mp hj))
theorem z1H(rc:Rect n m rows)(w9:W9 rows):(FI (flip m rows)).length<=(WI rows).length^(FI rows).length:=by
 have h:=q8N (q1R rc) (z7i rc w9)
 rw[q6x rc,z5i rc]at h
 exact h
theorem q7d(rows:List (List Int)):(firsts rows).length=(FI rows).length:=by
 have h1:=(q4T rows).1
 have h2:=q5j rows
 unfold kI at h2
 rw[h1]at h2
 have:=congrArg List.length h2
 unfold nI at this
 rw[List.length_map,List.length_map]at this
 exact this
theorem z4q{S:List (List Int)}(h:∀r∈rows,r∈S):(FI rows).length<=S.length:=by
 have e:((FI rows).map λi=>rows.getD i []).length=(FI rows).length:=List.length_map ..
 rw[←e]
 refine z4Z (z2q z8c λi hi i' hi' q=>?_) λr hr=>?_
 ·rw[←q5Y hi,←q5Y hi']
  unfold fi
  rw[q]
 ·obtain⟨i,hi,rfl⟩:=List.mem_map.mp hr
  exact h _ (q0U (q5a hi))
end k53
end
noncomputable section
namespace k53
open PySem L2
variable {fu k:Nat} {F:Nat->List DV->Option Ou} {δ:List Sv} {ds:List DV} {cl:Cl} {n m:Nat} {rows:List (List Int)}
theorem z5W(xs:List Int)(v:Int):iD xs++[.int v]=iD (xs++[v]):=by unfold iD;rw[List.map_append];rfl
theorem z4M(xs:List Int)(j:Nat)(v:Int):(iD xs).set j (.int v)=iD (xs.set j v):=by unfold iD;rw[List.map_set]
theorem q6p(c:Int)(n:Nat)(hn:n<=1000):∃xs:List Int,xs.length=n/\run G T fu (k+1) 26 [.int c,.int n]=some (.v (.lst (iD xs)) true):=by
 rw[q0D (fd:=q1H) rfl rfl]
 obtain⟨δ1,h1,xs,rest,z,hl,rfl⟩:=q1u (i:=4) (I:=λj δ=>∃(xs:List Int) (rest:Int) (z:Sv),xs.length=j/\δ=[.val (.int c),.val (.int n),.own (.lst (iD xs)),.val (.int rest),z,.no,.no])
  (body:=λδ'=>evSs G (run G T fu k) fu [.app 2 (.bin .Mod (.var 3) (.int 306783379)),.set 3 false (.bin .FloorDiv (.var 3) (.int 306783379))] δ') n 0 (δ:=[.val (.int c),.val (.int n),.own (.lst []),.val (.int c),.no,.no,.no])
  (λj hj δ I=>by
   obtain⟨xs,rest,z,hl,rfl⟩:=I
   obtain⟨A,hA⟩:∃A:Int,rest%306783379=A:=⟨_,rfl⟩
   obtain⟨B,hB⟩:∃B:Int,rest/306783379=B:=⟨_,rfl⟩
   refine⟨_,q0w (z4F (d:=.int A) (cl:=.strong) rfl (by rw[←hA];exact q3p (q0b rfl) q0d (by decide)) rfl (by rw[q5g,hl];exact Nat.lt_of_lt_of_le (Nat.lt_of_lt_of_le hj hn) (by decide))) (q0w (q0u (d:=.int B) (cl:=.strong) (by rw[←hB];exact z2y (q0b rfl) q0d (by decide)) rfl) rfl),xs++[A],B,.val (.int (0+(j:Int))),by rw[List.length_append,hl];rfl,?_⟩
   rw[←z5W];rfl) ⟨[],c,.no,rfl,rfl⟩
 obtain⟨N0,hN0⟩:∃N0:Int,c%2147483647+48271=N0:=⟨_,rfl⟩
 obtain⟨δ2,h2,ys,num,z2,w2,hl2,rfl⟩:=q1u (i:=4) (I:=λj δ=>∃(ys:List Int) (num:Int) (z w:Sv),ys.length=n/\δ=[.val (.int c),.val (.int n),.own (.lst (iD ys)),.val (.int rest),z,.val (.int num),w])
  (body:=λδ'=>evSs G (run G T fu k) fu [.set 5 false (.bin .Mod (.bin .Add (.bin .Add (.bin .Mult (.var 5) (.int 48271)) (.bin .Mult (.var 4) (.var 4))) (.int 11)) (.int 2147483647)),.set 6 false (.bin .Add (.bin .Add (.bin .Mult (.bin .FloorDiv (.var 5) (.int 977)) (.int 16807)) (.bin .Mult (.var 5) (.bin .Add (.bin .Mult (.var 4) (.var 4)) (.int 7)))) (.var 4)),.seti 2 (.var 4) (.bin .FloorDiv (.bin .Mod (.var 6) (.int 2147483587)) (.int 7))] δ') n 0 (δ:=[.val (.int c),.val (.int n),.own (.lst (iD xs)),.val (.int rest),z,.val (.int N0),.no])
  (λj hj δ I=>by
   obtain⟨ys,num,z,w,hl2,rfl⟩:=I
   rw[show(0:Int)+(j:Int)=j by omega]
   obtain⟨N,hN⟩:∃N:Int,(num*48271+(j:Int)*j+11)%2147483647=N:=⟨_,rfl⟩
   obtain⟨M,hM⟩:∃M:Int,N/977*16807+N*((j:Int)*j+7)+j=M:=⟨_,rfl⟩
   obtain⟨D,hD⟩:∃D:Int,M%2147483587/7=D:=⟨_,rfl⟩
   have mj:q2X N ((j:Int)*j+7)=true:=by
    have hj':j<1000:=Nat.lt_of_lt_of_le hj hn
    have h0:(0:Int)<=(j:Int)*j:=Int.mul_nonneg (by omega) (by omega)
    have h1:(j:Int)*j<=1000*1000:=Int.mul_le_mul (by omega) (by omega) (by omega) (by omega)
    unfold q2X
    have:(decide (-(2^64)<(j:Int)*j+7)&&decide ((j:Int)*j+7<2^64))=true:=by
     rw[Bool.and_eq_true,decide_eq_true_eq,decide_eq_true_eq]
     exact⟨Int.lt_of_lt_of_le (show -(2^64:Int)<0 by decide) (by omega),Int.lt_of_le_of_lt (show(j:Int)*j+7<=1000007 by omega) (by decide)⟩
    rw[this]
    simp
   refine⟨_,q0w (q0u (d:=.int N) (cl:=.strong) (by rw[←hN];exact q3p (q2D (q2D (q5b (q0b rfl) q0d (m48 _)) (q5b (q0b rfl) (q0b rfl) (z9p (by omega)))) q0d) q0d (by decide)) rfl) (q0w (q0u (d:=.int M) (cl:=.strong) (by rw[←hM];exact q2D (q2D (q5b (z2y (q0b rfl) q0d (by decide)) q0d (by unfold q2X;simp)) (q5b (q0b rfl) (q2D (q5b (q0b rfl) (q0b rfl) (z9p (by omega))) q0d) mj)) (q0b rfl)) rfl) (q0w (z0J (d:=.int D) (cl:=.strong) (n:=j) (j:=j) rfl (by rw[←hD];exact z2y (q3p (q0b rfl) q0d (by decide)) q0d (by decide)) (q0b rfl) rfl (by rw[q5g,hl2];exact z5m hj)) rfl)),ys.set j D,N,.val (.int j),.val (.int M),by rw[List.length_set];exact hl2,?_⟩
   rw[←z4M];rfl) ⟨xs,N0,z,.no,hl,rfl⟩
 have tst:tstD (evE G (run G T fu k) (.cmp .Gt (.var 3) (.int 0)) [.val (.int c),.val (.int n),.own (.lst (iD xs)),.val (.int rest),z,.no,.no])=some (.ok (decide (0<rest))):=q0Z (b_gt (q0b rfl) q0d)
 unfold q1H
 by_cases hr:0<rest
 ·rw[decide_eq_true hr]at tst
  exact⟨xs,hl,q0W (q0w (q7p rfl) (q0w (q0u (q0b rfl) rfl) (q4I (q6y (n:=n) (q0b rfl) hn) (.inr rfl) h1 (z4C tst (q0X (q0J (q3O rfl)))))))⟩
 ·rw[decide_eq_false hr]at tst
  exact⟨ys,hl2,q0W (q0w (q7p rfl) (q0w (q0u (q0b rfl) rfl) (q4I (q6y (n:=n) (q0b rfl) hn) (.inr rfl) h1 (q3f tst (q0w (q0u (d:=.int N0) (cl:=.strong) (by rw[←hN0];exact q2D (q3p (q0b rfl) q0d (by decide)) q0d) rfl) (q4I (q6y (n:=n) (q0b rfl) hn) (.inr rfl) h2 (q0X (q0J (q3O rfl)))))))))⟩
theorem q7n(A:Sv):∀(q σ:List (List Int)) (z:Sv),σ.length+q.length<=1000->∃z',q1T (.one 2) (λδ'=>evSs G F fu [.iff (.cmp .NotIn (.var 2) (.var 1)) [.app 1 (.var 2)] []] δ') (q.map λr=>.lst (iD r)) [A,.own (.lst (σ.map λr=>.lst (iD r))),z]=some (.nx [A,.own (.lst ((q.foldl dR σ).map λr=>.lst (iD r))),z'])
 | [],σ,z,_=>⟨z,rfl⟩
 | r::q,σ,z,h=>by
  rw[List.length_cons]at h
  have sl:(dR σ r).length<=σ.length+1:=by unfold dR;split<;>simp
  obtain⟨z',e⟩:=q7n A q (dR σ r) (.val (.lst (iD r))) (by omega)
  refine⟨z',?_⟩
  rw[List.foldl_cons,←e]
  have t:=q0Z (q2B (q0b (G:=G) (F:=F) (n:=2) (d:=.lst (iD r)) (δ:=[A,.own (.lst (σ.map λr=>.lst (iD r))),.val (.lst (iD r))]) rfl) (q3O (n:=1) rfl) (z5l σ r))
  refine q4p (δ1:=[A,.own (.lst (σ.map λr=>.lst (iD r))),.val (.lst (iD r))]) rfl ?_
  by_cases hr:r∈σ
  ·rw[show σ.elem r=true from List.elem_iff.mpr hr]at t
   have q1:dR σ r=σ:=if_pos hr
   rw[q1]
   exact q3f t rfl
  ·rw[show σ.elem r=false from Bool.eq_false_iff.mpr λz=>hr (List.elem_iff.mp z)]at t
   have q1:dR σ r=σ++[r]:=if_neg hr
   rw[q1]
   refine q8S t (q0w (z4F (d:=.lst (iD r)) (cl:=.strong) rfl (q0b rfl) rfl (by rw[List.length_map];exact Nat.lt_of_le_of_lt (show σ.length<=1000 by omega) (by decide))) rfl) ?_
   have q2:(σ.map λr=>DV.lst (iD r))++[DV.lst (iD r)]=(σ++[r]).map λr=>DV.lst (iD r):=by rw[List.map_append];rfl
   show evSs G F fu [] [A,.own (.lst ((σ.map λr=>DV.lst (iD r))++[DV.lst (iD r)])),.val (.lst (iD r))]=_
   rw[q2]
   rfl
theorem z0v(rows:List (List Int))(hl:rows.length<=1000):run G T fu (k+1) 29 [rL rows]=some (.v (.int ((FI rows).length:Nat)) false):=by
 rw[q0D (fd:=q2a) rfl rfl]
 unfold q2a
 obtain⟨z',e⟩:=q7n (F:=run G T fu k) (fu:=fu) (.val (rL rows)) rows [] .no (by simpa using hl)
 have l:=q2F (F:=run G T fu k) (δ:=[.val (rL rows),.own (.lst ((rows.foldl dR []).map λr=>.lst (iD r))),z']) (e:=.var 1) (ds:=(rows.foldl dR []).map λr=>.lst (iD r)) (c:=.top) (q3O rfl)
 rw[List.length_map,show(rows.foldl dR []).length=(FI rows).length from q7d rows]at l
 exact q0W (q0w (q7p rfl) (q4I (ds:=rows.map λr=>.lst (iD r)) (cl:=.strong) rfl (.inl rfl) e (q0X (q0J l))))
theorem q6j(a n:Nat)(ha:a<=1000)(hn:n<=1000):run G T fu (k+1) 30 [.int a,.int n]=some (.v (.int ((a^n:Nat):Int)) false):=by
 rw[q0D (fd:=q1U) rfl rfl]
 unfold q1U
 obtain⟨δ1,h1,z,rfl⟩:=q1u (i:=3) (I:=λj δ=>∃z,δ=[.val (.int (a:Int)),.val (.int n),.val (.int ((a^j:Nat):Int)),z]) (body:=λδ'=>evSs G (run G T fu k) fu [.set 2 false (.bin .Mult (.var 2) (.var 0))] δ') n 0 (δ:=[.val (.int a),.val (.int n),.val (.int 1),.no])
  (λj hj δ I=>by
   obtain⟨z,rfl⟩:=I
   have mj:q2X ((a^j:Nat):Int) (a:Int)=true:=by
    unfold q2X
    have:(decide (-(2^64)<(a:Int))&&decide ((a:Int)<2^64))=true:=by
     rw[Bool.and_eq_true,decide_eq_true_eq,decide_eq_true_eq]
     exact⟨Int.lt_of_lt_of_le (show -(2^64:Int)<0 by decide) (by omega),Int.lt_of_le_of_lt (show(a:Int)<=1000 by omega) (by decide)⟩
    rw[this]
    simp
   refine⟨_,q0w (q0u (d:=.int ((a^(j+1):Nat):Int)) (cl:=.strong) ?_ rfl) rfl,.val (.int (0+(j:Int))),rfl⟩
   rw[q5b (i:=((a^j:Nat):Int)) (j:=(a:Int)) (q0b rfl) (q0b rfl) mj,Nat.pow_succ,Int.natCast_mul]) ⟨.no,rfl⟩
 exact q0W (q0w (q0u q0d rfl) (q4I (q6y (n:=n) (q0b rfl) hn) (.inr rfl) h1 (q0X (q0J (cl:=.strong) (q0b rfl)))))
theorem b_ge{a b:ME}{i j:Int}{cx cy:Cl}(ha:evE G F a δ=some (.ok (.int i) cx))(hb:evE G F b δ=some (.ok (.int j) cy)):evE G F (.cmp .GtE a b) δ=some (.ok (.bl (decide (j<=i))) .strong):=q2B ha hb rfl
theorem z0h:∀a,a<=8->0<a->a<=2^lg a/\(lg a=0\/2^(lg a - 1)<a):=by decide +kernel
theorem z3U(a:Nat)(a0:0<a)(a8:a<=8):run G T fu (k+2) 31 [.int (lg a:Nat),.int a]=some (.v (.bl true) false):=by
 rw[q0D (fd:=q1G) rfl rfl]
 unfold q1G
 obtain⟨h1,h2⟩:=z0h a a8 a0
 have l3:=z9i a
 have p1:=b_ge (q0f (G:=G) (F:=run G T fu (k+1)) (δ:=q0h 2 [.int (lg a:Nat),.int a]) (f:=30) (es:=[.int 2,.var 0]) (l:=[(.int 2,.strong),(.int (lg a:Nat),.strong)]) rfl rfl (q6j (fu:=fu) (k:=k) 2 (lg a) (by decide) (by omega))) (q0b (n:=1) (d:=.int a) rfl)
 rw[decide_eq_true (show(a:Int)<=((2^lg a:Nat):Int) by exact_mod_cast h1)]at p1
 have p2:=b_eq (q0b (G:=G) (F:=run G T fu (k+1)) (δ:=q0h 2 [.int (lg a:Nat),.int a]) (n:=0) (d:=.int (lg a:Nat)) rfl) (q0d (i:=0))
 refine q0W (q0X (q0J (cl:=.strong) (z6S p1 (z6Y ?_))))
 rcases h2 with q | q
 ·rw[show((lg a:Nat):Int)==0 from by rw[q];rfl]at p2
  exact z2u p2
 ·by_cases z:lg a=0
  ·rw[show(((lg a:Nat):Int)==0)=true from by rw[z];rfl]at p2
   exact z2u p2
  ·rw[show(((lg a:Nat):Int)==0)=false from beq_eq_false_iff_ne.mpr (by omega)]at p2
   refine z0Y p2 ?_
   have s:=q5V (G:=G) (F:=run G T fu (k+1)) (δ:=q0h 2 [.int (lg a:Nat),.int a]) (a:=.var 0) (b:=.int 1) (i:=(lg a:Nat)) (j:=1) (q0b rfl) q0d
   rw[show((lg a:Nat):Int) - 1=((lg a - 1:Nat):Int) by omega]at s
   have p3:=b_lt (q0f (f:=30) (es:=[.int 2,.bin .Sub (.var 0) (.int 1)]) (q0a (q0d (i:=2)) (q0a s q0e)) rfl (q6j (fu:=fu) (k:=k) 2 (lg a - 1) (by decide) (by omega))) (q0b (n:=1) (d:=.int a) rfl)
   rw[decide_eq_true (show((2^(lg a - 1):Nat):Int)<(a:Int) by exact_mod_cast q)]at p3
   exact p3
def lw(w:Nat):Nat:=[0,0,1,2,2,3,3,3,3,4,4].getD w 0
theorem q8z:∀w,w<=10->0<w->w<=2^lw w/\lw w<=4/\∀i,i<lw w->2^i<w:=by decide +kernel
theorem q9b (w e : Nat) (he : e <= 4) (h1 : w <= 2 ^ e) (h2 : ∀ i, i < e -> 2 ^ i < w) : ∀ (d j n : Nat), j + d = e -> d < n -> q1p (λ δ' => tstD (evE G (run G T fu (k + 1)) (.cmp .Lt (.call 30 [.int 2, .var 1]) (.var 0)) δ')) (λ δ' => evSs G (run G T fu (k + 1)) fu [.set 1 false (.bin .Add (.var 1) (.int 1))] δ') n [.val (.int w), .val (.int j)] = some (.nx [.val (.int w), .val (.int e)])
  | d, j, 0, _, hn => absurd hn (Nat.not_lt_zero _)
  | d, j, n + 1, hj, hn => by
    have p := b_lt (q0f (G := G) (F := run G T fu (k + 1)) (δ := [.val (.int w), .val (.int j)]) (f := 30) (es := [.int 2, .var 1]) (l := [(.int 2, .strong), (.int j, .strong)]) rfl rfl (q6j (fu := fu) (k := k) 2 j (by decide) (by omega))) (q0b (n := 0) (d := .int w) rfl)
    cases d with
    | zero =>
      have : j = e := by omega
      subst this
      rw [decide_eq_false (show ¬ ((2 ^ j : Nat) : Int) < (w : Int) by have : (w : Int) <= ((2 ^ j : Nat) : Int) := by exact_mod_cast h1
                                                                       omega)] at p
      exact z6F (q0Z p)
    | succ d =>
      rw [decide_eq_true (show ((2 ^ j : Nat) : Int) < (w : Int) by exact_mod_cast h2 j (by omega))] at p
      have ih := q9b w e he h1 h2 d (j + 1) n (by omega) (by omega)
      refine z6a (q0Z p) (q0w (q0u (d := .int ((j + 1 : Nat) : Int)) (cl := .strong) ?_ rfl) rfl) ih
      exact q2D (i := (j : Int)) (j := 1) (q0b rfl) q0d
theorem q8K(w:Nat)(w0:0<w)(w10:w<=10)(hf:10<fu):run G T fu (k+2) 32 [.int w]=some (.v (.int (lw w:Nat)) false):=by
 rw[q0D (fd:=q1A) rfl rfl]
 unfold q1A
 obtain⟨h1,h2,h3⟩:=q8z w w10 w0
 exact q0W (q0w (q0u q0d rfl) (y0p (q9b (fu:=fu) (k:=k) w (lw w) h2 h1 h3 (lw w) 0 fu (by omega) (by omega)) (q0X (q0J (cl:=.strong) (q0b rfl)))))
end k53
end
noncomputable section
namespace k53
open PySem L2
variable {fu k:Nat} {F:Nat->List DV->Option Ou} {δ:List Sv} {ds:List DV} {cl:Cl} {n m:Nat} {rows:List (List Int)}
theorem z9E(ds:List DV)(h:Nat):cutD ds none (some (h:Int))=ds.take h:=by
 unfold cutD slIx
 dsimp only
 rw[if_neg (by omega),Int.toNat_natCast,List.drop_zero,Nat.sub_zero]
 by_cases q:h<=ds.length
 ·rw[Nat.min_eq_left q]
 ·rw[Nat.min_eq_right (by omega),List.take_length,List.take_of_length_le (by omega)]
theorem z3H(ds:List DV)(h:Nat):cutD ds (some (h:Int)) none=ds.drop h:=by
 unfold cutD slIx
 dsimp only
 rw[if_neg (by omega),Int.toNat_natCast]
 by_cases q:h<=ds.length
 ·rw[Nat.min_eq_left q,List.take_of_length_le (by rw[List.length_drop];omega)]
 ·rw[Nat.min_eq_right (by omega),List.drop_length,List.take_nil,List.drop_of_length_le (by omega)]
theorem z8j{a b:ME}{c c1:Cl}{h:Nat}(ha:evE G F a δ=some (.ok (.lst ds) c))(hh:evE G F b δ=some (.ok (.int (h:Int)) c1)):evE G F (.slt a b) δ=some (.ok (.lst (ds.take h)) (Cl.anew c c)):=by
 unfold evE
 rw[ha,q0R,hh,q0R,←z9E]
 rfl
theorem z7O{a b:ME}{c c1:Cl}{h:Nat}(ha:evE G F a δ=some (.ok (.lst ds) c))(hh:evE G F b δ=some (.ok (.int (h:Int)) c1)):evE G F (.slf a b) δ=some (.ok (.lst (ds.drop h)) (Cl.anew c c)):=by
 unfold evE
 rw[ha,q0R,hh,q0R,←z3H]
 rfl
theorem z7P{a b:ME}{x y:List DV}{cx cy:Cl}(ha:evE G F a δ=some (.ok (.lst x) cx))(hb:evE G F b δ=some (.ok (.lst y) cy))(h:x.length+y.length<=1000):evE G F (.bin .Add a b) δ=some (.ok (.lst (x++y)) (Cl.anew cx cy)):=
 q1Z ha hb (if_pos (Nat.le_trans h (by decide)))
def dbB:List MS:=[.iff (.cmp .Lt (.bi .len [.var 0]) (.int 8)) [.set 3 false (.bin .Mod (.ix (.var 1) (.bin .Add (.int 1) (.var 2))) (.bin .Add (.bi .len [.var 0]) (.int 1))),.set 0 false (.bin .Add (.bin .Add (.slt (.var 0) (.var 3)) (.lst [.ix (.var 0) (.bin .Mod (.ix (.var 1) (.bin .Add (.int 4) (.var 2))) (.bi .len [.var 0]))])) (.slf (.var 0) (.var 3)))] []]
theorem z2Y(xs:List Int)(hx:xs.length=8)(h0:0<rows.length)(h8:rows.length<=8)(j:Nat)(hj:j<4)(w:Sv):∃rows' w',0<rows'.length/\rows'.length<=8/\(∀r∈rows',r∈rows)/\evSs G F fu dbB [.val (rL rows),.val (.lst (iD xs)),.val (.int j),w]=some (.nx [.val (rL rows'),.val (.lst (iD xs)),.val (.int j),w']):=by
 have ln:∀w:Sv,evE G F (.bi .len [.var 0]) [.val (rL rows),.val (.lst (iD xs)),.val (.int j),w]=some (.ok (.int (rows.length:Nat)) .strong):=λw=>by
  have:=q2F (F:=F) (δ:=[.val (rL rows),.val (.lst (iD xs)),.val (.int j),w]) (e:=.var 0) (ds:=rows.map λr=>.lst (iD r)) (c:=.strong) rfl
  rw[List.length_map]at this
  exact this
 have t:=b_lt (ln w) (q0d (i:=8))
 by_cases h:rows.length<8
 ·rw[decide_eq_true (show((rows.length:Nat):Int)<8 by omega)]at t
  obtain⟨a1,e1⟩:=q4O (l:=xs) (i:=1+(j:Int)) (by omega) (by rw[hx];omega)
  obtain⟨a2,e2⟩:=q4O (l:=xs) (i:=4+(j:Int)) (by omega) (by rw[hx];omega)
  obtain⟨p,hp⟩:∃p:Nat,a1%((rows.length:Int)+1)=(p:Int):=⟨(a1%((rows.length:Int)+1)).toNat,by have:=Int.emod_nonneg a1 (show(rows.length:Int)+1≠0 by omega);omega⟩
  obtain⟨q,hq⟩:∃q:Nat,a2%(rows.length:Int)=(q:Int):=⟨(a2%(rows.length:Int)).toNat,by have:=Int.emod_nonneg a2 (show(rows.length:Int)≠0 by omega);omega⟩
  have q1:q<rows.length:=by have:=Int.emod_lt_of_pos a2 (show 0<(rows.length:Int) by omega);omega
  have p1:p<=rows.length:=by have:=Int.emod_lt_of_pos a1 (show 0<(rows.length:Int)+1 by omega);omega
  have s1:evE G F (.bin .Mod (.ix (.var 1) (.bin .Add (.int 1) (.var 2))) (.bin .Add (.bi .len [.var 0]) (.int 1))) [.val (rL rows),.val (.lst (iD xs)),.val (.int j),w]=some (.ok (.int p) .strong):=by
   rw[←hp]
   exact q3p (q1e (q0b rfl) (q2D q0d (q0b rfl)) e1) (q2D (ln w) q0d) (by omega)
  have s2:evE G F (.bin .Mod (.ix (.var 1) (.bin .Add (.int 4) (.var 2))) (.bi .len [.var 0])) [.val (rL rows),.val (.lst (iD xs)),.val (.int j),.val (.int p)]=some (.ok (.int q) .strong):=by
   rw[←hq]
   exact q3p (q1e (q0b rfl) (q2D q0d (q0b rfl)) e2) (ln _) (by omega)
  have s3:=q1e (cx:=.strong) (q0b (G:=G) (F:=F) (n:=0) (d:=rL rows) (δ:=[.val (rL rows),.val (.lst (iD xs)),.val (.int j),.val (.int p)]) rfl) s2 (q7F q1)
  have s4:=q5m (q0a s3 q0e) (ln4 (by simp)) rfl
  have s5:=z8j (F:=F) (δ:=[.val (rL rows),.val (.lst (iD xs)),.val (.int j),.val (.int p)]) (a:=.var 0) (b:=.var 3) (ds:=rows.map λr=>.lst (iD r)) (c:=.strong) (h:=p) (q0b rfl) (q0b rfl)
  have s6:=z7O (F:=F) (δ:=[.val (rL rows),.val (.lst (iD xs)),.val (.int j),.val (.int p)]) (a:=.var 0) (b:=.var 3) (ds:=rows.map λr=>.lst (iD r)) (c:=.strong) (h:=p) (q0b rfl) (q0b rfl)
  have s7:=z7P s5 s4 (by simp;omega)
  have s8:=z7P s7 s6 (by simp;omega)
  have e:(rows.map λr=>DV.lst (iD r)).take p++[DV.lst (iD (rows.getD q []))]++(rows.map λr=>DV.lst (iD r)).drop p=(rows.take p++[rows.getD q []]++rows.drop p).map λr=>.lst (iD r):=by
   rw[List.map_append,List.map_append,List.map_take,List.map_drop]
   rfl
  refine⟨rows.take p++[rows.getD q []]++rows.drop p,.val (.int p),by rw[List.length_append,List.length_append,List.length_singleton];omega,by rw[List.length_append,List.length_append,List.length_singleton,List.length_take,List.length_drop];omega,λr hr=>?_,?_⟩
  ·rcases List.mem_append.mp hr with z | z
   ·rcases List.mem_append.mp z with z | z
    ·exact List.mem_of_mem_take z
    ·rw[List.mem_singleton.mp z];exact q0U q1
   ·exact List.mem_of_mem_drop z
  ·refine q8S (q0Z t) (q0w (q0u s1 rfl) (q0w (q0u (d:=rL (rows.take p++[rows.getD q []]++rows.drop p)) (cl:=.fresh) ?_ rfl) rfl)) rfl
   unfold rL
   rw[←e]
   exact s8
 ·rw[decide_eq_false (show ¬((rows.length:Nat):Int)<8 by omega)]at t
  exact⟨rows,w,h0,h8,λr hr=>hr,q3f (q0Z t) rfl⟩
theorem q6u(xs:List Int)(hx:xs.length=8)(h0:0<rows.length)(h8:rows.length<=8):∃rows',0<rows'.length/\rows'.length<=8/\(∀r∈rows',r∈rows)/\run G T fu (k+1) 27 [rL rows,.lst (iD xs)]=some (.v (rL rows') false):=by
 obtain⟨a0,e0⟩:=q4O (l:=xs) (i:=0) (by omega) (by rw[hx];omega)
 obtain⟨p,hp⟩:∃p:Nat,a0%4=(p:Int):=⟨(a0%4).toNat,by omega⟩
 obtain⟨δ',e,R,z,w,r0,r8,rs,rfl⟩:=q1u (i:=2) (I:=λj δ=>∃R z w,0<R.length/\R.length<=8/\(∀r∈R,r∈rows)/\δ=[.val (rL R),.val (.lst (iD xs)),z,w]) (body:=λδ'=>evSs G (run G T fu k) fu dbB δ') p 0 (δ:=[.val (rL rows),.val (.lst (iD xs)),.no,.no])
  (λj hj δ I=>by
   obtain⟨R,z,w,r0,r8,rs,rfl⟩:=I
   obtain⟨R',w',q0,q8,qs,e⟩:=z2Y (F:=run G T fu k) (fu:=fu) xs hx r0 r8 j (by omega) w
   rw[show(0:Int)+(j:Int)=j by omega]
   exact⟨_,e,R',_,w',q0,q8,λr hr=>rs r (qs r hr),rfl⟩) ⟨rows,.no,.no,h0,h8,λr hr=>hr,rfl⟩
 refine⟨R,r0,r8,rs,?_⟩
 rw[q0D (fd:=q2b) rfl rfl]
 have em:evE G (run G T fu k) (.bin .Mod (.ix (.var 1) (.int 0)) (.int 4)) [.val (rL rows),.val (.lst (iD xs)),.no,.no]=some (.ok (.int p) .strong):=by
  rw[←hp]
  exact q3p (q1e (q0b rfl) q0d e0) q0d (by decide)
 show Ou.of (evSs G (run G T fu k) fu [.set 0 false (.bi .list [.var 0]),.fo (.one 2) (.rng [.bin .Mod (.ix (.var 1) (.int 0)) (.int 4)]) dbB,.ret (.var 0)] (q0h 4 [rL rows,.lst (iD xs)]))=_
 exact q0W (q0w (q0u (z5H (q0b rfl)) rfl) (q4I (q6y em (by omega)) (.inr rfl) e (q0X (q0J (cl:=.strong) (q0b rfl)))))
end k53
end
noncomputable section
namespace k53
open PySem L2
variable {fu k:Nat} {F:Nat->List DV->Option Ou} {δ:List Sv} {ds:List DV} {cl:Cl} {n m:Nat} {rows:List (List Int)}
theorem z4K{xs:List Int}{a b:Nat}(hx:xs.length=20)(hab:a<=b)(hb:b<=20):cutD (iD xs) (some (a:Int)) (some (b:Int))=iD ((xs.drop a).take (b - a)):=by
 unfold cutD slIx
 dsimp only
 rw[if_neg (by omega),if_neg (by omega),q5g,hx,Int.toNat_natCast,Int.toNat_natCast,Nat.min_eq_left (show a<=20 by omega),Nat.min_eq_left hb]
 unfold iD
 rw[List.map_take,List.map_drop]
def smT:List MS:=q1v.body.drop 5
theorem z9d(rc:Rect n m rows){cols:List (List Int)}(hc:∀c∈cols,c∈flip m rows):∃J:List Nat,cols=J.map (col rows)/\(∀j∈J,j<m):=by
 induction cols with
 | nil=>exact⟨[],rfl,λj hj=>nomatch hj⟩
 | cons c cols ih=>
  obtain⟨J,e,hJ⟩:=ih λc hc'=>hc c (List.mem_cons_of_mem _ hc')
  obtain⟨j,hj,rfl⟩:=List.mem_map.mp (hc c (List.mem_cons_self ..))
  exact⟨j::J,by rw[e];rfl,λi hi=>by
   rcases List.mem_cons.mp hi with z | z
   ·rw[z];exact List.mem_range.mp hj
   ·exact hJ i z⟩
theorem q9m{ws:List Int}{r:List Int}(h:r∈q4L n m ws){x:Int}(hx:x∈r):x∈ws:=by
 obtain⟨j,_,rfl⟩:=List.mem_map.mp h
 exact List.mem_of_mem_drop (List.mem_of_mem_take hx)
theorem z1z{rows0:List (List Int)}{n':Nat}(n5:rows0.length<=5)(m5:m<=5)(rc:Rect n' m rows)(hr:∀r∈rows,r∈rows0){cols:List (List Int)}(hc:∀c∈cols,c∈flip m rows)(w9:W9 rows0) :
  Rect n' cols.length (flip n' cols)/\W9 (flip n' cols)/\(FI (flip n' cols)).length<=5/\(FI (flip cols.length (flip n' cols))).length<=5:=by
 obtain⟨J,e,hJ⟩:=z9d rc hc
 have rcc:Rect cols.length n' cols:=⟨rfl,λc h=>by
  obtain⟨j,_,rfl⟩:=List.mem_map.mp (hc c h)
  unfold col
  rw[List.length_map,rc.1]⟩
 have eR:flip n' cols=rows.map λr=>J.map λj=>r.getD j 0:=by
  rw[e]
  unfold flip
  apply List.ext_getElem
  ·rw[List.length_map,List.length_range,List.length_map,rc.1]
  ·intro i h1 h2
   rw[List.length_map,List.length_range]at h1
   rw[List.getElem_map,List.getElem_range,List.getElem_map]
   unfold col
   rw[List.map_map]
   apply List.map_congr_left
   intro j _
   show(rows.map λr=>r.getD j 0).getD i 0=_
   rw[List.getD_eq_getElem?_getD,List.getElem?_map,List.getElem?_eq_getElem (by rw[rc.1];exact h1)]
   rfl
 refine⟨q1R rcc,λr h x hx=>?_,?_,?_⟩
 ·rw[eR]at h
  obtain⟨r',hr',rfl⟩:=List.mem_map.mp h
  obtain⟨j,hj,rfl⟩:=List.mem_map.mp hx
  exact w9 r' (hr r' hr') _ (q5W (by rw[rc.2 r' hr'];exact hJ j hj))
 ·refine Nat.le_trans (z4q (S:=rows0.map λr=>J.map λj=>r.getD j 0) λr h=>?_) (by rw[List.length_map];exact n5)
  rw[eR]at h
  obtain⟨r',hr',rfl⟩:=List.mem_map.mp h
  exact List.mem_map.mpr ⟨r',hr r' hr',rfl⟩
 ·rw[q6x rcc]
  exact Nat.le_trans (z4q hc) (by rw[q1i];exact m5)
theorem q7s{i:Nat}{e:ME}{rows:List (List Int)}{m:Nat}(hi:δ[i]? = some (.val (rL rows)))(he:evE G F e δ=some (.ok (.int m) .strong))(hm:∀r∈rows,r.length=m)(hl:rows.length<=1000)(m8:m<=1000) :
  evE G F (.comp (.comp (.ix (.var 0) (.var 1)) (.one 0) (.var 1) [none,some 0]) (.one 0) (.rng [e]) [none,some i]) δ=some (.ok (rL (flip m rows)) .fresh):=by
 rw[q0O (h:=λ(j:Nat)=>DV.int (j:Int)) (f:=λj=>.lst (iD (col rows j))) (z2O he m8) (by decide) (by rw[List.length_range];exact Nat.le_trans m8 (by decide)) λj hj=>⟨[.val (.int j),.val (rL rows)],.fresh,by
  show some ((q0v [none,some i] δ).set 0 (.val (.int j)))=_
  unfold q0v
  show some [Sv.val (.int j),(δ.getD i .no).plain]=_
  rw[List.getD_eq_getElem?_getD,hi]
  rfl,z7U rows m j hm (List.mem_range.mp hj) hl,rfl⟩]
 unfold rL flip
 rw[List.map_map]
 rfl
theorem q5r(ns:List Int)(hns:ns.length<=63)(tp:Int)(htp:0<tp)(t10:tp<=10)(xs:List Int)(hx:xs.length=20)(far:Sv)(n0:0<n)(n5:n<=5)(m0:0<m)(m5:m<=5) :
  ∃(n' m':Nat) (R:List (List Int)),0<n'/\n'<=8/\0<m'/\m'<=8/\Rect n' m' R/\W9 R/\(FI R).length<=5/\(FI (flip m' R)).length<=5/\evSs G (run G T fu (k+1)) fu smT [.val (.scr ns),.val (.int tp),.val (.lst (iD xs)),far,.val (.int n),.val (.int m),.no,.no,.no,.no]=some (.rt (rL R) true):=by
 obtain⟨v1,c1⟩:=z0k (fu:=fu) (k:=k) ns 1
 have nm:n*m<=25:=Nat.mul_le_mul n5 m5
 obtain⟨ws0,hw0,st1⟩:=q6p (fu:=fu) (k:=k) v1 (n*m) (by omega)
 have mk1:q2X (n:Int) (m:Int)=true:=by unfold q2X;simp;omega
 have cm:=q0O (F:=run G T fu (k+1)) (δ:=[.val (.scr ns),.val (.int tp),.val (.lst (iD xs)),far,.val (.int n),.val (.int m),.no,.no,.no,.no]) (elt:=.bin .Mod (.var 0) (.var 1)) (tg:=.one 0) (it:=.call 26 [.call 25 [.var 0,.int 1],.bin .Mult (.var 4) (.var 5)]) (fr:=[none,some 1]) (l:=ws0) (h:=DV.int) (f:=λx=>.int (x%tp)) (cl:=.fresh)
  (by
   have q:=q0f (G:=G) (F:=run G T fu (k+1)) (δ:=[.val (.scr ns),.val (.int tp),.val (.lst (iD xs)),far,.val (.int n),.val (.int m),.no,.no,.no,.no]) (f:=26) (q0a (q0f (f:=25) (q0a (q0b (n:=0) (d:=.scr ns) rfl) (q0a (q0d (i:=1)) q0e)) rfl c1) (q0a (q5b (q0b (n:=4) (d:=.int n) rfl) (q0b (n:=5) (d:=.int m) rfl) mk1) q0e)) rfl (by rw[show((n:Int)*(m:Int))=((n*m:Nat):Int) by push_cast;rfl];exact st1)
   rw[q]
   rfl) (by decide) (by rw[hw0];exact Nat.le_trans nm (by decide)) (λx _=>⟨[.val (.int x),.val (.int tp)],.strong,rfl,q3p (q0b rfl) (q0b rfl) htp,rfl⟩)
 rw[show ws0.map (λx=>DV.int (x%tp))=iD (ws0.map λx=>x%tp) by unfold iD;rw[List.map_map];rfl]at cm
 obtain⟨b,hb,hb1,hb2⟩:∃b:Int,(if(ns.length:Int) - 4<(n:Int)*m then(ns.length:Int) - 4 else(n:Int)*m)=b/\b<=((n*m:Nat):Int)/\b<=(ns.length:Int) - 4:=by
  refine⟨_,rfl,?_,?_⟩<;>split<;>push_cast<;>omega
 have hb3 : -1000<=b:=by
  rw[←hb]
  have:(0:Int)<=(n:Int)*m:=Int.mul_nonneg (Int.natCast_nonneg n) (Int.natCast_nonneg m)
  split<;>omega
 have md:∀x:Int,0<=x%tp/\x%tp<=9:=λx=>by
  have h1:=Int.emod_nonneg x (show tp≠0 by omega)
  have h2:=Int.emod_lt_of_pos x htp
  omega
 obtain⟨δ1,l1,ws,z,hw,hw9,rfl⟩:=q1u (i:=7) (I:=λ_ δ=>∃(ws:List Int) (z:Sv),ws.length=n*m/\(∀x∈ws,0<=x/\x<=9)/\δ=[.val (.scr ns),.val (.int tp),.val (.lst (iD xs)),far,.val (.int n),.val (.int m),.own (.lst (iD ws)),z,.no,.no])
  (body:=λδ'=>evSs G (run G T fu (k+1)) fu [.seti 6 (.var 7) (.bin .Mod (.ix (.var 0) (.bin .Add (.int 4) (.var 7))) (.var 1))] δ') b.toNat 0 (δ:=[.val (.scr ns),.val (.int tp),.val (.lst (iD xs)),far,.val (.int n),.val (.int m),.own (.lst (iD (ws0.map λx=>x%tp))),.no,.no,.no])
  (λj hj δ I=>by
   obtain⟨ws,z,hw,hw9,rfl⟩:=I
   rw[show(0:Int)+(j:Int)=j by omega]
   have h3:4+j<ns.length:=by omega
   have hv:ixD (.scr ns) (.int (4+(j:Int)))=some (.int ns[4+j]):=by
    rw[show(4:Int)+(j:Int)=((4+j:Nat):Int) by push_cast;rfl]
    show((q1S ns.length ((4+j:Nat):Int)).bind λj=>ns[j]?).map DV.int=_
    rw[z5m h3,Option.bind_some,List.getElem?_eq_getElem h3]
    rfl
   refine⟨_,q0w (z0J (d:=.int (ns[4+j]%tp)) (cl:=.strong) (n:=j) (cx:=.strong) (j:=j) rfl (q3p (q1e (q0b rfl) (q2D q0d (q0b rfl)) hv) (q0b rfl) htp) (q0b rfl) rfl (z5m (by rw[q5g,hw];omega))) rfl,ws.set j (ns[4+j]%tp),.val (.int j),by rw[List.length_set];exact hw,λx h=>?_,?_⟩
   ·rcases List.mem_or_eq_of_mem_set h with q | q
    ·exact hw9 x q
    ·rw[q];exact md _
   ·rw[←z4M]
    rfl) ⟨ws0.map λx=>x%tp,.no,by rw[List.length_map];exact hw0,λx h=>by obtain⟨y,_,rfl⟩:=List.mem_map.mp h;exact md y,rfl⟩
 have em:evE G (run G T fu (k+1)) (.bi .min [.bin .Mult (.var 4) (.var 5),.bin .Sub (.bi .len [.var 0]) (.int 4)]) [.val (.scr ns),.val (.int tp),.val (.lst (iD xs)),far,.val (.int n),.val (.int m),.own (.lst (iD (ws0.map λx=>x%tp))),.no,.no,.no]=some (.ok (.int b) .strong):=by
  have e1:evE G (run G T fu (k+1)) (.bi .len [.var 0]) [.val (.scr ns),.val (.int tp),.val (.lst (iD xs)),far,.val (.int n),.val (.int m),.own (.lst (iD (ws0.map λx=>x%tp))),.no,.no,.no]=some (.ok (.int ns.length) .strong):=rfl
  rw[z4w (q0a (q5b (q0b (n:=4) (d:=.int n) rfl) (q0b (n:=5) (d:=.int m) rfl) mk1) (q0a (q5V e1 (q0d (i:=4))) q0e)),←hb]
  rfl
 have rt:=q0O (F:=run G T fu (k+1)) (δ:=[.val (.scr ns),.val (.int tp),.val (.lst (iD xs)),far,.val (.int n),.val (.int m),.own (.lst (iD ws)),z,.no,.no]) (elt:=.sl (.var 1) (.bin .Mult (.var 0) (.var 2)) (.bin .Add (.bin .Mult (.var 0) (.var 2)) (.var 2))) (tg:=.one 0) (it:=.rng [.var 4]) (fr:=[none,some 6,some 5]) (h:=λ(j:Nat)=>DV.int (j:Int)) (f:=λj=>.lst (iD ((ws.drop (j*m)).take m)))
  (z2O (n:=n) (q0b rfl) (by omega)) (by decide) (by rw[List.length_range];exact Nat.le_trans n5 (by decide)) (λj hj=>by
   have hj:=List.mem_range.mp hj
   have mk2:q2X (j:Int) (m:Int)=true:=by unfold q2X;simp;omega
   refine⟨[.val (.int j),.own (.lst (iD ws)),.val (.int m)],.fresh,rfl,?_,rfl⟩
   rw[←z6l hw hj]
   exact z7j (q3O rfl) (q5b (q0b rfl) (q0b rfl) mk2) (q2D (q5b (q0b rfl) (q0b rfl) mk2) (q0b rfl)))
 have eR0:(.lst ((List.range n).map λj=>DV.lst (iD ((ws.drop (j*m)).take m))):DV)=rL (q4L n m ws):=by
  unfold rL q4L
  rw[List.map_map]
  rfl
 rw[eR0]at rt
 have rc0:=z1M hw
 have w90:W9 (q4L n m ws):=λr hr x hx=>hw9 x (q9m hr hx)
 obtain⟨R1,r0,r8,rs,e1⟩:=q6u (fu:=fu) (k:=k) ((xs.drop 3).take 8) (by rw[List.length_take,List.length_drop,hx];rfl) (show 0<(q4L n m ws).length by rw[rc0.1];exact n0) (by rw[rc0.1];omega)
 have rc1:Rect R1.length m R1:=⟨rfl,λr hr=>rc0.2 r (rs r hr)⟩
 have x1:=z7j (F:=run G T fu (k+1)) (δ:=[.val (.scr ns),.val (.int tp),.val (.lst (iD xs)),far,.val (.int n),.val (.int m),.own (.lst (iD ws)),z,.no,.no]) (a:=.var 2) (lo:=.int 3) (hi:=.int 11) (ds:=iD xs) (c:=.strong) (l:=3) (h:=11) (q0b rfl) q0d q0d
 rw[show cutD (iD xs) (some 3) (some 11)=iD ((xs.drop 3).take 8)from z4K (a:=3) (b:=11) hx (by decide) (by decide)]at x1
 have c2:=q0f (G:=G) (F:=run G T fu (k+1)) (f:=27) (q0a rt (q0a x1 q0e)) rfl e1
 obtain⟨C1,q0,q8,qs,e2⟩:=q6u (fu:=fu) (k:=k) (rows:=flip m R1) ((xs.drop 11).take 8) (by rw[List.length_take,List.length_drop,hx];rfl) (by rw[q1i];exact m0) (by rw[q1i];omega)
 have cf:=q7s (F:=run G T fu (k+1)) (δ:=[.val (.scr ns),.val (.int tp),.val (.lst (iD xs)),far,.val (.int n),.val (.int m),.own (.lst (iD ws)),z,.val (rL R1),.no]) (i:=8) (e:=.var 5) (rows:=R1) (m:=m) rfl (q0b rfl) rc1.2 (by omega) (by omega)
 have x2:=z7j (F:=run G T fu (k+1)) (δ:=[.val (.scr ns),.val (.int tp),.val (.lst (iD xs)),far,.val (.int n),.val (.int m),.own (.lst (iD ws)),z,.val (rL R1),.no]) (a:=.var 2) (lo:=.int 11) (hi:=.int 19) (ds:=iD xs) (c:=.strong) (l:=11) (h:=19) (q0b rfl) q0d q0d
 rw[show cutD (iD xs) (some 11) (some 19)=iD ((xs.drop 11).take 8)from z4K (a:=11) (b:=19) hx (by decide) (by decide)]at x2
 have c3:=q0f (G:=G) (F:=run G T fu (k+1)) (f:=27) (q0a cf (q0a x2 q0e)) rfl e2
 obtain⟨f1,f2,f3,f4⟩:=z1z (by rw[rc0.1];exact n5) m5 rc1 rs qs w90
 have lc:∀c∈C1,c.length=R1.length:=λc hc=>by
  obtain⟨j,_,rfl⟩:=List.mem_map.mp (qs c hc)
  unfold col
  rw[List.length_map]
 have ll:=q2F (F:=run G T fu (k+1)) (δ:=[.val (.scr ns),.val (.int tp),.val (.lst (iD xs)),far,.val (.int n),.val (.int m),.own (.lst (iD ws)),z,.val (rL R1),.val (rL C1)]) (e:=.var 8) (ds:=R1.map λr=>.lst (iD r)) (c:=.strong) rfl
 rw[List.length_map]at ll
 have cl:=q7s (F:=run G T fu (k+1)) (δ:=[.val (.scr ns),.val (.int tp),.val (.lst (iD xs)),far,.val (.int n),.val (.int m),.own (.lst (iD ws)),z,.val (rL R1),.val (rL C1)]) (i:=9) (e:=.bi .len [.var 8]) (rows:=C1) (m:=R1.length) rfl ll lc (by omega) (by omega)
 refine⟨R1.length,C1.length,flip R1.length C1,r0,r8,q0,q8,f1,f2,f3,f4,?_⟩
 show evSs G (run G T fu (k+1)) fu [.set 6 true (.comp (.bin .Mod (.var 0) (.var 1)) (.one 0) (.call 26 [.call 25 [.var 0,.int 1],.bin .Mult (.var 4) (.var 5)]) [none,some 1]),.fo (.one 7) (.rng [.bi .min [.bin .Mult (.var 4) (.var 5),.bin .Sub (.bi .len [.var 0]) (.int 4)]]) [.seti 6 (.var 7) (.bin .Mod (.ix (.var 0) (.bin .Add (.int 4) (.var 7))) (.var 1))],.set 8 false (.call 27 [.comp (.sl (.var 1) (.bin .Mult (.var 0) (.var 2)) (.bin .Add (.bin .Mult (.var 0) (.var 2)) (.var 2))) (.one 0) (.rng [.var 4]) [none,some 6,some 5],.sl (.var 2) (.int 3) (.int 11)]),.set 9 false (.call 27 [.comp (.comp (.ix (.var 0) (.var 1)) (.one 0) (.var 1) [none,some 0]) (.one 0) (.rng [.var 5]) [none,some 8],.sl (.var 2) (.int 11) (.int 19)]),.ret (.comp (.comp (.ix (.var 0) (.var 1)) (.one 0) (.var 1) [none,some 0]) (.one 0) (.rng [.bi .len [.var 8]]) [none,some 9])] _=_
 exact q0w (q7p cm) (q4I (y1a em (by omega) hb3) (.inr rfl) l1 (q0w (q0u c2 rfl) (q0w (q0u c3 rfl) (q0X (q0J cl)))))
theorem z5k(ns:List Int)(hns:ns.length<=63)(tp:Int)(htp:0<tp)(t10:tp<=10) :
  ∃(n m:Nat) (R:List (List Int)),0<n/\n<=8/\0<m/\m<=8/\Rect n m R/\W9 R/\(FI R).length<=5/\(FI (flip m R)).length<=5/\run G T fu (k+2) 28 [.scr ns,.int tp]=some (.v (rL R) true):=by
 obtain⟨v0,c0⟩:=z0k (fu:=fu) (k:=k) ns 0
 obtain⟨xs,hx,st0⟩:=q6p (fu:=fu) (k:=k) v0 20 (by decide)
 obtain⟨a0,h0⟩:=q4O (l:=xs) (i:=0) (by omega) (by rw[hx];omega)
 obtain⟨a1,h1⟩:=q4O (l:=xs) (i:=1) (by omega) (by rw[hx];omega)
 obtain⟨a2,h2⟩:=q4O (l:=xs) (i:=2) (by omega) (by rw[hx];omega)
 obtain⟨q,hq⟩:∃q:Int,a2%8/7=q:=⟨_,rfl⟩
 have q01:q=0\/q=1:=by omega
 have s2:=q0f (G:=G) (F:=run G T fu (k+1)) (δ:=q0h 10 [.scr ns,.int tp]) (f:=26) (q0a (q0f (f:=25) (q0a (q0b (n:=0) (d:=.scr ns) rfl) (q0a (q0d (i:=0)) q0e)) rfl c0) (q0a (q0d (i:=20)) q0e)) rfl st0
 have iq:∀δ:List Sv,δ[2]? = some (.val (.lst (iD xs)))->evE G (run G T fu (k+1)) (.bin .FloorDiv (.bin .Mod (.ix (.var 2) (.int 2)) (.int 8)) (.int 7)) δ=some (.ok (.int q) .strong):=λδ h=>by
  rw[←hq]
  exact z2y (q3p (q1e (q0b h) q0d h2) q0d (by decide)) q0d (by decide)
 rcases q01 with rfl | rfl
 ·obtain⟨n,hn⟩:∃n:Nat,1+a0%4=(n:Int):=⟨(1+a0%4).toNat,by omega⟩
  obtain⟨m,hm⟩:∃m:Nat,1+a1%4=(m:Int):=⟨(1+a1%4).toNat,by omega⟩
  obtain⟨n',m',R,g1,g2,g3,g4,g5,g6,g7,g8,e⟩:=q5r (fu:=fu) (k:=k) ns hns tp htp t10 xs hx (.val (.int 4)) (n:=n) (m:=m) (by omega) (by omega) (by omega) (by omega)
  refine⟨n',m',R,g1,g2,g3,g4,g5,g6,g7,g8,?_⟩
  rw[q0D (fd:=q1v) rfl rfl]
  show Ou.of (evSs G (run G T fu (k+1)) fu (.set 2 false (.call 26 [.call 25 [.var 0,.int 0],.int 20]) :: .set 3 false (.ix (.lst [.int 4,.int 5]) (.bin .FloorDiv (.bin .Mod (.ix (.var 2) (.int 2)) (.int 8)) (.int 7))) :: .set 4 false (.bin .Add (.int 1) (.bin .Mod (.ix (.var 2) (.int 0)) (.var 3))) :: .set 5 false (.bin .Add (.int 1) (.bin .Mod (.ix (.var 2) (.int 1)) (.var 3))) :: .iff (.cmp .Eq (.var 3) (.int 5)) [.set 4 false (.int 5),.set 5 false (.int 5)] []::smT) (q0h 10 [.scr ns,.int tp]))=_
  exact q0W (q0w (q0u s2 rfl) (q0w (q0u (d:=.int 4) (cl:=.strong) (q1e (cx:=.fresh) (q5m (q0a q0d (q0a q0d q0e)) (by decide) rfl) (iq _ rfl) rfl) rfl) (q0w (q0u (d:=.int n) (cl:=.strong) (by rw[←hn];exact q2D q0d (q3p (q1e (q0b rfl) q0d h0) (q0b rfl) (by decide))) rfl) (q0w (q0u (d:=.int m) (cl:=.strong) (by rw[←hm];exact q2D q0d (q3p (q1e (q0b rfl) q0d h1) (q0b rfl) (by decide))) rfl) (q3f (q0Z (q2B (q0b rfl) q0d (show cmpD .Eq (.int 4) (.int 5)=some false from rfl))) e)))))
 ·obtain⟨n,hn⟩:∃n:Nat,1+a0%5=(n:Int):=⟨(1+a0%5).toNat,by omega⟩
  obtain⟨m,hm⟩:∃m:Nat,1+a1%5=(m:Int):=⟨(1+a1%5).toNat,by omega⟩
  obtain⟨n',m',R,g1,g2,g3,g4,g5,g6,g7,g8,e⟩:=q5r (fu:=fu) (k:=k) ns hns tp htp t10 xs hx (.val (.int 5)) (n:=5) (m:=5) (by omega) (by omega) (by omega) (by omega)
  refine⟨n',m',R,g1,g2,g3,g4,g5,g6,g7,g8,?_⟩
  rw[q0D (fd:=q1v) rfl rfl]
  show Ou.of (evSs G (run G T fu (k+1)) fu (.set 2 false (.call 26 [.call 25 [.var 0,.int 0],.int 20]) :: .set 3 false (.ix (.lst [.int 4,.int 5]) (.bin .FloorDiv (.bin .Mod (.ix (.var 2) (.int 2)) (.int 8)) (.int 7))) :: .set 4 false (.bin .Add (.int 1) (.bin .Mod (.ix (.var 2) (.int 0)) (.var 3))) :: .set 5 false (.bin .Add (.int 1) (.bin .Mod (.ix (.var 2) (.int 1)) (.var 3))) :: .iff (.cmp .Eq (.var 3) (.int 5)) [.set 4 false (.int 5),.set 5 false (.int 5)] []::smT) (q0h 10 [.scr ns,.int tp]))=_
  exact q0W (q0w (q0u s2 rfl) (q0w (q0u (d:=.int 5) (cl:=.strong) (q1e (cx:=.fresh) (q5m (q0a q0d (q0a q0d q0e)) (by decide) rfl) (iq _ rfl) rfl) rfl) (q0w (q0u (d:=.int n) (cl:=.strong) (by rw[←hn];exact q2D q0d (q3p (q1e (q0b rfl) q0d h0) (q0b rfl) (by decide))) rfl) (q0w (q0u (d:=.int m) (cl:=.strong) (by rw[←hm];exact q2D q0d (q3p (q1e (q0b rfl) q0d h1) (q0b rfl) (by decide))) rfl) (q8S (q0Z (q2B (q0b rfl) q0d (show cmpD .Eq (.int 5) (.int 5)=some true from rfl))) (q0w (q0u q0d rfl) (q0w (q0u q0d rfl) rfl)) e)))))
end k53
end
noncomputable section
namespace k53
open PySem L2
variable {fu k:Nat} {F:Nat->List DV->Option Ou} {δ:List Sv} {ds:List DV} {cl:Cl} {n m:Nat} {rows:List (List Int)}
theorem z7h(tb s:DV)(R:List (List Int))(h0:0<R.length)(h8:R.length<=8)(hl:run G T fu (k+2) 14 [tb,s]=some (.v (tT R) false)):run G T fu (k+3) 12 [tb,s]=some (.v (cL R) true):=by
 rw[q0D (fd:=q5T) rfl rfl]
 obtain⟨f1,f2,f3,f4,f5⟩:=q4T R
 have fp:=q9l h0
 obtain⟨b1,b2,b3⟩:=z6e fp (show(firsts R).length<=8 by omega)
 have rk:=q3k (fu:=fu) (k:=k+1) R (by omega)
 have kl:(kI R).length<=60:=by unfold kI;rw[List.length_map];omega
 have s1:iD (q1l ((kI R).foldl dk []))=((firsts R).map (λr=>R.idxOf r)).map λ(j:Nat)=>DV.int (j:Int):=by
  show iD (q1l ((R.map λr=>((R.idxOf r:Nat):Int)).foldl dk []))=_
  rw[f1]
  unfold iD
  rw[List.map_map,List.map_map]
  rfl
 have cm:=q0O (F:=run G T fu (k+2)) (δ:=[.val (tb),.val s,.val (.lst (iD (kI R))),.val (.lst (((firsts R).map (λr=>R.idxOf r)).map λ(j:Nat)=>DV.int (j:Int))),.val (.int (lg (firsts R).length:Int))]) (elt:=.call 15 [.idx (.var 1) (.var 0),.var 2]) (tg:=.one 0) (it:=.var 2) (fr:=[none,some 3,some 4]) (l:=R) (h:=λr=>.int ((R.idxOf r:Nat):Int)) (f:=λr=>.lst (iD (cd ((firsts R).idxOf r) (lg (firsts R).length)))) (cl:=.strong)
  (by rw[q0b (d:=.lst (iD (kI R))) rfl];unfold iD kI;rw[List.map_map];rfl) (by decide) (Nat.le_trans h8 (by decide)) (λr hr=>by
   refine⟨[.val (.int ((R.idxOf r:Nat):Int)),.val (.lst (((firsts R).map (λr=>R.idxOf r)).map λ(j:Nat)=>DV.int (j:Int))),.val (.int (lg (firsts R).length:Int))],.fresh,rfl,?_,rfl⟩
   have hm:R.idxOf r∈(firsts R).map (λr=>R.idxOf r):=List.mem_map.mpr ⟨r,(f3 r).mpr hr,rfl⟩
   have ei:=y0G hm (by rw[List.length_map];omega)
   rw[z1i (g:=λr=>R.idxOf r) (r:=r) (l:=firsts R) λx hx e=>z5b ((f3 x).mp hx) hr e]at ei
   exact q0f (fr:=true) (q0a (z4u (q0b rfl) rfl (q0b rfl) ei) (q0a (q0b rfl) q0e)) rfl (z3w ((firsts R).idxOf r) (lg (firsts R).length) (Nat.le_trans (z9i _) (by decide))))
 have e2:(.lst (R.map λr=>DV.lst (iD (cd ((firsts R).idxOf r) (lg (firsts R).length)))):DV)=cL R:=by unfold cL rL cds;rw[List.map_map];rfl
 rw[e2]at cm
 have se:=q7A (F:=run G T fu (k+2)) (δ:=[.val (tb),.val s,.val (.lst (iD (kI R))),.no,.no]) (e:=.var 2) (r:=kI R) (c:=.strong) (q0b rfl) kl
 rw[s1]at se
 have be:=z6y (F:=run G T fu (k+2)) (q5V (q2F (q0b (n:=3) (d:=.lst (((firsts R).map (λr=>R.idxOf r)).map λ(j:Nat)=>DV.int (j:Int))) (δ:=[.val (tb),.val s,.val (.lst (iD (kI R))),.val (.lst (((firsts R).map (λr=>R.idxOf r)).map λ(j:Nat)=>DV.int (j:Int))),.no]) rfl)) (q0d (i:=1)))
 rw[List.length_map,List.length_map,b1]at be
 unfold q5T
 exact q0W (q0w (q0u (cl:=.fresh) (q0f (fr:=true) (q0a (q0f (q0a (q0b rfl) (q0a (q0b rfl) q0e)) rfl hl) q0e) rfl rk) rfl) (q0w (q0u se rfl) (q0w (q0u be rfl) (q0X (q0J cm)))))
theorem z2r(rc:Rect n m rows)(n0:0<n)(n8:n<=8)(m0:0<m)(m8:m<=8)(s:Bool):run G T fu (k+4) 13 [tT rows,sd s]=some (.v (.int (lg (FI (lin m rows s)).length:Nat)) false):=by
 have hl:=z5I (fu:=fu) (k:=k) rows n m rc n0 (by omega) (by omega) s
 have l1:0<(lin m rows s).length/\(lin m rows s).length<=8:=by
  cases s with
  | true=>show 0<rows.length/\rows.length<=8;rw[rc.1];exact⟨n0,n8⟩
  | false=>show 0<(flip m rows).length/\(flip m rows).length<=8;rw[q1i];exact⟨m0,m8⟩
 have h:=z7h (fu:=fu) (k:=k) (tT rows) (sd s) (lin m rows s) l1.1 l1.2 hl
 rw[q0D (fd:=q1X) rfl rfl]
 unfold q1X
 obtain⟨c,cs,e1,e2⟩:=cds0 l1.1
 have t:=q2F (q1e (q0f (G:=G) (F:=run G T fu (k+3)) (δ:=q0h 2 [tT rows,sd s]) (f:=12) (es:=[.var 0,.var 1]) (l:=[(tT rows,.strong),(sd s,.strong)]) rfl rfl h) (q0d (i:=0)) (show ixD (cL (lin m rows s)) (.int 0)=some (.lst (iD c)) by unfold cL;rw[e1];exact at0))
 rw[q5g,e2,q7d]at t
 exact q0W (q0X (q0J t))
theorem z7N(r:List Int)(w:Int):cmpD .In (.int w) (.lst (iD r))=some (r.any λx=>x==w):=by
 show(if DV.plain 60 (.int w)&&DV.plains 60 (iD r)then some ((iD r).any λd=>deq d (.int w))else none)=_
 rw[q7N,q2A]
 show some ((iD r).any λd=>deq d (.int w))=_
 unfold iD
 rw[List.any_map]
 congr 2
theorem q6T{α:Type}{p:α->Bool}:∀l:List α,bools? (l.map λa=>.bl (p a))=some (l.map p)
 | []=>rfl
 | a::l=>by
  show(bools? (l.map λa=>.bl (p a))).map (p a :: ·)=_
  rw[q6T l];rfl
theorem z3I(hl:rows.length<=1000)(h1:δ[1]? = some (.val (rL rows))):evE G F (.bi .len [.compi (.var 0) (.one 0) (.rng [.int 10]) (.bi .any [.comp (.cmp .In (.var 1) (.var 0)) (.one 0) (.var 1) [none,some 0]]) [none,some 1]]) δ=some (.ok (.int ((WI rows).length:Nat)) .strong):=by
 have w:=z2O (F:=F) (δ:=δ) (e:=.int 10) (n:=10) q0d (by decide)
 have c:=q6J (elt:=.var 0) (tg:=.one 0) (fr:=[none,some 1]) (cd:=.bi .any [.comp (.cmp .In (.var 1) (.var 0)) (.one 0) (.var 1) [none,some 0]]) (f:=λ(j:Nat)=>DV.int (j:Int)) (p:=λw=>rows.any λr=>r.any λx=>x==(w:Int)) w (by decide) (by decide) λj _=>by
  refine⟨[.val (.int j),.val (rL rows)],?_,?_,.strong,q0b rfl,rfl⟩
  ·show some ((q0v [none,some 1] δ).set 0 (.val (.int j)))=_
   unfold q0v
   show some [Sv.val (.int j),(δ.getD 1 .no).plain]=_
   rw[List.getD_eq_getElem?_getD,h1]
   rfl
  ·have cm:=q0O (F:=F) (δ:=[.val (.int j),.val (rL rows)]) (elt:=.cmp .In (.var 1) (.var 0)) (tg:=.one 0) (it:=.var 1) (fr:=[none,some 0]) (l:=rows) (h:=λr=>.lst (iD r)) (f:=λr=>.bl (r.any λx=>x==(j:Int))) (cl:=.strong) rfl (by decide) (Nat.le_trans hl (by decide)) λr _=>⟨[.val (.lst (iD r)),.val (.int j)],.strong,rfl,q2B (q0b rfl) (q0b rfl) (z7N r j),rfl⟩
   have e:evE G F (.bi .any [.comp (.cmp .In (.var 1) (.var 0)) (.one 0) (.var 1) [none,some 0]]) [.val (.int j),.val (rL rows)]=some (.ok (.bl (rows.any λr=>r.any λx=>x==(j:Int))) .strong):=by
    show Rs.thn (evEs G F [.comp (.cmp .In (.var 1) (.var 0)) (.one 0) (.var 1) [none,some 0]] [.val (.int j),.val (rL rows)]) (λl=>anyD l)=_
    rw[q0a cm q0e,q2o]
    show(bools? (rows.map λr=>.bl (r.any λx=>x==(j:Int)))).map (λbs=>Re.ok (.bl (bs.any id)) .strong)=_
    rw[q6T]
    show some (Re.ok (.bl ((rows.map λr=>r.any λx=>x==(j:Int)).any id)) .strong)=_
    rw[List.any_map]
    rfl
   exact q0Z e
 have l:=q2F c
 rw[List.length_map]at l
 exact l
theorem z9m(rc:Rect n m rows)(w9:W9 rows)(n0:0<n)(m0:0<m):0<(WI rows).length:=by
 have h:=z2U rc w9 n0 m0
 obtain⟨r,hr,hx⟩:=(z3o rc).mpr ⟨0,0,n0,m0,rfl⟩
 refine List.length_pos_of_mem (a:=(mf rows 0 0).toNat) (List.mem_filter.mpr ⟨List.mem_range.mpr (by omega),q5f.mpr ⟨r,hr,?_⟩⟩)
 rw[show(((mf rows 0 0).toNat:Nat):Int)=mf rows 0 0 by omega]
 exact hx
theorem y0t(rows:List (List Int)):(WI rows).length<=10:=by
 unfold WI
 exact Nat.le_trans (List.length_filter_le ..) (by simp)
def sdB:List MS:=[.iff (.or [.not (.call 31 [.ix (.var 5) (.var 8),.ix (.var 4) (.var 8)]),.cmp .Gt (.var 7) (.bin .Add (.ix (.var 5) (.var 8)) (.call 32 [.var 6]))]) [.ret (.bl false)] [],.iff (.cmp .Gt (.ix (.var 4) (.var 8)) (.call 30 [.var 6,.ix (.var 4) (.bin .Sub (.int 1) (.var 8))])) [.ret (.bl false)] []]
theorem q8j {x0 x1 x2 x3 : Sv} {K B : DV} {w z a b : Nat} {j : Int} (a0 : 0 < a) (a8 : a <= 8) (b8 : b <= 8) (w0 : 0 < w) (w10 : w <= 10) (hf : 10 < fu) (h1 : ixD K (.int j) = some (.int a)) (h2 : ixD B (.int j) = some (.int (lg a : Nat))) (h3 : ixD K (.int (1 - j)) = some (.int b)) (hz : z <= lg a + lw w) (hk : a <= w ^ b) :
    evSs G (run G T fu (k + 2)) fu sdB [x0, x1, x2, x3, .val K, .val B, .val (.int w), .val (.int z), .val (.int j)] = some (.nx [x0, x1, x2, x3, .val K, .val B, .val (.int w), .val (.int z), .val (.int j)]) := by
  generalize hδ : ([x0, x1, x2, x3, .val K, .val B, .val (.int w), .val (.int z), .val (.int j)] : List Sv) = δ
  have d4 : δ[4]? = some (.val K) := by rw [← hδ]; rfl
  have d5 : δ[5]? = some (.val B) := by rw [← hδ]; rfl
  have d6 : δ[6]? = some (.val (.int w)) := by rw [← hδ]; rfl
  have d7 : δ[7]? = some (.val (.int z)) := by rw [← hδ]; rfl
  have d8 : δ[8]? = some (.val (.int j)) := by rw [← hδ]; rfl
  have i1 := q1e (G := G) (F := run G T fu (k + 2)) (cx := .strong) (q0b d5) (q0b d8) h2
  have i2 := q1e (G := G) (F := run G T fu (k + 2)) (cx := .strong) (q0b d4) (q0b d8) h1
  have i3 := q1e (G := G) (F := run G T fu (k + 2)) (cx := .strong) (q0b d4) (q5V (q0d (i := 1)) (q0b d8)) h3
  have e1 := q5l (q0f (f := 31) (q0a i1 (q0a i2 q0e)) rfl (z3U (fu := fu) (k := k) a a0 a8))
  have ln := q0f (G := G) (F := run G T fu (k + 2)) (f := 32) (es := [.var 6]) (q0a (q0b d6) q0e) rfl (q8K (fu := fu) (k := k) w w0 w10 hf)
  have e2 := b_gt (q0b d7) (q2D i1 ln)
  rw [decide_eq_false (show ¬ (((lg a : Nat) : Int) + ((lw w : Nat) : Int) < (z : Int)) by omega)] at e2
  have pw := q0f (G := G) (F := run G T fu (k + 2)) (f := 30) (q0a (q0b d6) (q0a i3 q0e)) rfl (q6j (fu := fu) (k := k + 1) w b (by omega) (by omega))
  have e3 := b_gt i2 pw
  rw [decide_eq_false (show ¬ (((w ^ b : Nat) : Int) < (a : Int)) by have : (a : Int) <= ((w ^ b : Nat) : Int) := by exact_mod_cast hk
                                                                     omega)] at e3
  exact q3f (q0Z (z0Y e1 e2)) (q3f (q0Z e3) rfl)
theorem z8V(n:Int):∃tp:Int,0<tp/\tp<=10/\ixD (.lst [.int 2,.int 4,.int 10]) (.int (n%3))=some (.int tp):=by
 have:n%3=0\/n%3=1\/n%3=2:=by omega
 rcases this with h | h | h<;>rw[h]
 ·exact⟨2,by decide,by decide,rfl⟩
 ·exact⟨4,by decide,by decide,rfl⟩
 ·exact⟨10,by decide,by decide,rfl⟩
theorem z6j:∀ns:List Int,ns.length<=63->run G T 100 60 33 [.scr ns]=some (.v (.bl true) false):=by
 intro ns hns
 obtain⟨v2,c2⟩:=z0k (fu:=100) (k:=58) ns 2
 obtain⟨xs,hx,st⟩:=q6p (fu:=100) (k:=58) v2 1 (by decide)
 obtain⟨a0,h0⟩:=q4O (l:=xs) (i:=0) (by omega) (by rw[hx];omega)
 obtain⟨tp,t0,t10,ht⟩:=z8V a0
 obtain⟨n,m,R,n0,n8,m0,m8,rc,w9,f1,f2,es⟩:=z5k (fu:=100) (k:=57) ns hns tp t0 t10
 obtain⟨z,ez,g⟩:=z5P (fu:=100) (k:=50) R n m rc w9 n0 (by omega) m0 (by omega) f1 f2
 have wf:=z5q rc f1 f2
 have w0:=z9m rc w9 n0 m0
 have w10:=y0t R
 have a0':0<(FI R).length:=q7j (by rw[rc.1];exact n0)
 have b0':0<(FI (flip m R)).length:=q7j (by rw[q1i];exact m0)
 have k1:=q8N rc w9
 have k2:=z1H rc w9
 have u1:=g.up (lg (FI R).length) (lw (WI R).length) (by rw[q5N _ f1,List.length_range];exact(z0h _ (by omega) a0').1) (by rw[wf];exact(q8z _ w10 w0).1)
 have u2:=g.uq (lg (FI (flip m R)).length) (lw (WI R).length) (by rw[q5N _ f2,List.length_range];exact(z0h _ (by omega) b0').1) (by rw[z0S,wf];exact(q8z _ w10 w0).1)
 have lo:=g.lo
 have z0:=g.z0
 rw[wf]at lo z0
 have lwz:lw (WI R).length<=z:=by
  rcases Nat.lt_or_ge z (lw (WI R).length)with q | q
  ·have:=(q8z _ w10 w0).2.2 z q
   omega
  ·exact q
 generalize hA:(FI R).length=A at *
 generalize hB:(FI (flip m R)).length=B at *
 generalize hW:(WI R).length=W at *
 have s1:=q0f (G:=G) (F:=run G T 100 59) (δ:=q0h 9 [.scr ns]) (f:=28) (q0a (q0b (n:=0) (d:=.scr ns) rfl) (q0a (q1e (q5m (q0a (q0d (i:=2)) (q0a (q0d (i:=4)) (q0a (q0d (i:=10)) q0e))) (ln4 (by simp)) rfl) (q3p (q1e (q0f (f:=26) (q0a (q0f (f:=25) (q0a (q0b (n:=0) (d:=.scr ns) rfl) (q0a (q0d (i:=2)) q0e)) rfl c2) (q0a (q0d (i:=1)) q0e)) rfl st) (q0d (i:=0)) h0) (q0d (i:=3)) (by decide)) ht) q0e)) rfl es
 have R0:0<R.length:=by rw[rc.1];exact n0
 have s2:evE G (run G T 100 59) (.bi .tuple [.comp (.bi .tuple [.var 0]) (.one 0) (.var 1) [none]]) [.val (.scr ns),.val (rL R),.no,.no,.no,.no,.no,.no,.no]=some (.ok (tT R) .strong):=by
  have c:=q0O (F:=run G T 100 59) (δ:=[.val (.scr ns),.val (rL R),.no,.no,.no,.no,.no,.no,.no]) (elt:=.bi .tuple [.var 0]) (tg:=.one 0) (it:=.var 1) (fr:=[none]) (l:=R) (h:=λr=>.lst (iD r)) (f:=λr=>.tup (iD r)) (cl:=.strong) rfl (by decide) (by rw[rc.1];exact Nat.le_trans n8 (by decide)) λr _=>⟨[.val (.lst (iD r))],.strong,rfl,q2N (c:=.strong) (q0b rfl),rfl⟩
  exact q2N c
 have l0:=q2F (F:=run G T 100 59) (δ:=[.val (.scr ns),.val (rL R),.val (tT R),.no,.no,.no,.no,.no,.no]) (q1e (a:=.var 1) (b:=.int 0) (cx:=.strong) (q0b rfl) (q0d (i:=((0:Nat):Int))) (q7F R0))
 rw[show(iD (R.getD 0 [])).length=m by rw[q5g];exact rc.2 _ (q0U R0)]at l0
 have s3:=q7s (F:=run G T 100 59) (δ:=[.val (.scr ns),.val (rL R),.val (tT R),.no,.no,.no,.no,.no,.no]) (i:=1) (rows:=R) (m:=m) rfl l0 rc.2 (by rw[rc.1];omega) (by omega)
 have k1':=z0v (fu:=100) (k:=58) R (by rw[rc.1];omega)
 have k2':=z0v (fu:=100) (k:=58) (flip m R) (by rw[q1i];omega)
 have al1:=z2r (fu:=100) (k:=55) rc n0 n8 m0 m8 true
 have al2:=z2r (fu:=100) (k:=55) rc n0 n8 m0 m8 false
 rw[hA]at k1'
 rw[hB]at k2'
 rw[show lin m R true=R from rfl,hA]at al1
 rw[show lin m R false=flip m R from rfl,hB]at al2
 have s4:=q5m (F:=run G T 100 59) (δ:=[.val (.scr ns),.val (rL R),.val (tT R),.val (rL (flip m R)),.no,.no,.no,.no,.no]) (q0a (q0f (f:=29) (es:=[.var 1]) (l:=[(rL R,.strong)]) rfl rfl k1') (q0a (q0f (f:=29) (es:=[.var 3]) (l:=[(rL (flip m R),.strong)]) rfl rfl k2') q0e)) (ln4 (by simp)) rfl
 have s5:=q5m (F:=run G T 100 59) (δ:=[.val (.scr ns),.val (rL R),.val (tT R),.val (rL (flip m R)),.val (.lst [.int A,.int B]),.no,.no,.no,.no]) (q0a (q0f (f:=13) (es:=[.var 2,.str "row"]) (l:=[(tT R,.strong),(.str "row",.strong)]) rfl rfl al1) (q0a (q0f (f:=13) (es:=[.var 2,.str "column"]) (l:=[(tT R,.strong),(.str "column",.strong)]) rfl rfl al2) q0e)) (ln4 (by simp)) rfl
 have s6:=z3I (F:=run G T 100 59) (rows:=R) (δ:=[.val (.scr ns),.val (rL R),.val (tT R),.val (rL (flip m R)),.val (.lst [.int A,.int B]),.val (.lst [.int (lg A:Nat),.int (lg B:Nat)]),.no,.no,.no]) (by rw[rc.1];omega) rfl
 rw[hW]at s6
 have s7:=q0f (G:=G) (F:=run G T 100 59) (δ:=[.val (.scr ns),.val (rL R),.val (tT R),.val (rL (flip m R)),.val (.lst [.int A,.int B]),.val (.lst [.int (lg A:Nat),.int (lg B:Nat)]),.val (.int W),.no,.no]) (f:=23) (es:=[.var 2]) (l:=[(tT R,.strong)]) rfl rfl ez
 let δ8:List Sv:=[.val (.scr ns),.val (rL R),.val (tT R),.val (rL (flip m R)),.val (.lst [.int A,.int B]),.val (.lst [.int (lg A:Nat),.int (lg B:Nat)]),.val (.int W),.val (.int z),.no]
 have t1:=q5l (q0f (G:=G) (F:=run G T 100 59) (δ:=δ8) (f:=24) (es:=[.var 7]) (l:=[(.int z,.strong)]) rfl rfl (z6G (fu:=100) (k:=58)))
 have t2:=q5l (q0f (G:=G) (F:=run G T 100 59) (δ:=δ8) (f:=24) (es:=[.ix (.var 5) (.int 0)]) (l:=[(.int (lg A:Nat),.strong)]) rfl rfl (z6G (fu:=100) (k:=58)))
 have t3:=q5l (q0f (G:=G) (F:=run G T 100 59) (δ:=δ8) (f:=24) (es:=[.ix (.var 5) (.int 1)]) (l:=[(.int (lg B:Nat),.strong)]) rfl rfl (z6G (fu:=100) (k:=58)))
 have p1:=q8j (fu:=100) (k:=57) (x0:=.val (.scr ns)) (x1:=.val (rL R)) (x2:=.val (tT R)) (x3:=.val (rL (flip m R))) (K:=.lst [.int A,.int B]) (B:=.lst [.int (lg A:Nat),.int (lg B:Nat)]) (w:=W) (z:=z) (a:=A) (b:=B) (j:=0) a0' (by omega) (by omega) w0 w10 (by decide) rfl rfl rfl u1 k1
 have p2:=q8j (fu:=100) (k:=57) (x0:=.val (.scr ns)) (x1:=.val (rL R)) (x2:=.val (tT R)) (x3:=.val (rL (flip m R))) (K:=.lst [.int A,.int B]) (B:=.lst [.int (lg A:Nat),.int (lg B:Nat)]) (w:=W) (z:=z) (a:=B) (b:=A) (j:=1) b0' (by omega) (by omega) w0 w10 (by decide) rfl rfl rfl u2 k2
 have lp:q1T (.one 8) (λδ'=>evSs G (run G T 100 59) 100 sdB δ') (upTo 0 2) δ8=some (.nx [.val (.scr ns),.val (rL R),.val (tT R),.val (rL (flip m R)),.val (.lst [.int A,.int B]),.val (.lst [.int (lg A:Nat),.int (lg B:Nat)]),.val (.int W),.val (.int z),.val (.int 1)]):=by
  show q1T (.one 8) (λδ'=>evSs G (run G T 100 59) 100 sdB δ') [.int 0,.int 1] δ8=_
  exact(q4p rfl p1).trans ((q4p rfl p2).trans rfl)
 let δ9:List Sv:=[.val (.scr ns),.val (rL R),.val (tT R),.val (rL (flip m R)),.val (.lst [.int A,.int B]),.val (.lst [.int (lg A:Nat),.int (lg B:Nat)]),.val (.int W),.val (.int z),.val (.int 1)]
 have r1:=b_ge (q0b (G:=G) (F:=run G T 100 59) (δ:=δ9) (n:=7) (d:=.int z) rfl) (q0f (f:=32) (es:=[.var 6]) (l:=[(.int W,.strong)]) rfl rfl (q8K (fu:=100) (k:=57) W w0 w10 (by decide)))
 rw[decide_eq_true (show((lw W:Nat):Int)<=(z:Int) by omega)]at r1
 have q1:=b_eq (q0b (G:=G) (F:=run G T 100 59) (δ:=δ9) (n:=7) (d:=.int z) rfl) (q0d (i:=0))
 have q2:=b_eq (q0b (G:=G) (F:=run G T 100 59) (δ:=δ9) (n:=6) (d:=.int W) rfl) (q0d (i:=1))
 have eq:((z:Int)==0)=((W:Int)==1):=by
  rw[Bool.eq_iff_iff,beq_iff_eq,beq_iff_eq]
  constructor
  ·intro h
   have:z=0:=by omega
   rw[this]at lo
   simp at lo
   omega
  ·intro h
   have:=z0 (by omega)
   omega
 rw[eq]at q1
 have r2:=q2B q1 q2 (z7E _)
 rw[q0D (fd:=z1T) rfl rfl]
 show Ou.of (evSs G (run G T 100 59) 100 z1T.body (q0h 9 [.scr ns]))=_
 unfold z1T
 exact q0W (q0w (q0u s1 rfl) (q0w (q0u s2 rfl) (q0w (q0u s3 rfl) (q0w (q0u s4 rfl) (q0w (q0u s5 rfl) (q0w (q0u s6 rfl) (q0w (q0u s7 rfl) (q3f (q0Z (y1s t1 t2 t3)) (q4I (q6y (n:=2) q0d (by decide)) (.inr rfl) lp (q0X (q0J (z3m r1 r2))))))))))))
end k53
end
noncomputable section
namespace k53
open PySem PySem.W L2 PySem.Spec PyProof.Rows
theorem lnS{α:Type}{us:List α}{n:Nat}(h:us.length=n+1):∃a r,us=a::r/\r.length=n:=by cases us with | nil=>cases h | cons a r=>exact⟨a,r,rfl,Nat.succ.inj h⟩
theorem ln0{α:Type}{us:List α}(h:us.length=0):us=[]:=List.length_eq_zero_iff.mp h
theorem ln1{α:Type}{us:List α}(h:us.length=1):∃a0,us=[a0]:=by obtain⟨_,_,rfl,h0⟩:=lnS h;obtain rfl:=ln0 h0;exact⟨_,rfl⟩
theorem ln2{α:Type}{us:List α}(h:us.length=2):∃a0 a1,us=[a0,a1]:=by obtain⟨_,_,rfl,h0⟩:=lnS h;obtain⟨_,_,rfl,h1⟩:=lnS h0;obtain rfl:=ln0 h1;exact⟨_,_,rfl⟩
theorem ln3{α:Type}{us:List α}(h:us.length=3):∃a0 a1 a2,us=[a0,a1,a2]:=by obtain⟨_,_,rfl,h0⟩:=lnS h;obtain⟨_,_,rfl,h1⟩:=lnS h0;obtain⟨_,_,rfl,h2⟩:=lnS h1;obtain rfl:=ln0 h2;exact⟨_,_,_,rfl⟩
def fn:List Str:=[("is_int" : Str),("flipped" : Str),("cut" : Str),("check_cards" : Str),("cards_in" : Str),("crossing" : Str),("row_kinds" : Str),("column_kinds" : Str),("trimmed" : Str),("is_small" : Str),("check_small" : Str),("words_in" : Str),("codes" : Str),("alone_bits" : Str),("lines_of" : Str),("digits" : Str),("bits_paper" : Str),("paper" : Str),("bits_numbers" : Str),("joined_bits" : Str),("least_numbers" : Str),("splits" : Str),("halves" : Str),("least_bits" : Str),("_law_int" : Str),("_law_cell_at" : Str),("_law_stream" : Str),("_law_doubled" : Str),("_law_small" : Str),("_law_kinds" : Str),("_law_power" : Str),("_law_enough" : Str),("_law_length" : Str),("law" : Str)]
def bl:List Str:=["isinstance","int","bool","tuple","range","len","sorted","set","max","min","list","any"]
def cl:List Str:=["TalkError","NoCard","TooGreat"]
theorem ok0:okD fn bl cl q3F ["thing","least","most"] ["thing","least","most"] (top 5)=true:=by decide +kernel
theorem ok1:okD fn bl cl q3D ["table"] ["table"] (top 8)=true:=by decide +kernel
theorem ok2:okD fn bl cl z3z ["table","rows","columns"] ["table","rows","columns"] (top 9)=true:=by decide +kernel
theorem ok3:okD fn bl cl q1B ["cards","size"] ["cards","size"] (top 10)=true:=by decide +kernel
theorem ok4:okD fn bl cl q2O ["cards"] ["cards"] (top 11)=true:=by decide +kernel
theorem ok5:okD fn bl cl q2P ["table","rows","columns"] ["table","rows","columns"] (top 12)=true:=by decide +kernel
theorem ok6:okD fn bl cl q2z ["table"] ["table"] (top 13)=true:=by decide +kernel
theorem ok7:okD fn bl cl q1q ["table"] ["table"] (top 14)=true:=by decide +kernel
theorem ok8:okD fn bl cl q3A ["table"] ["table"] (top 15)=true:=by decide +kernel
theorem ok9:okD fn bl cl q2R ["table","rest"] ["table"] (top 16)=true:=by decide +kernel
theorem ok10:okD fn bl cl q1C ["table"] ["table"] (top 17)=true:=by decide +kernel
theorem ok11:okD fn bl cl q2S ["table","words","row"] ["table"] (top 18)=true:=by decide +kernel
theorem ok12:okD fn bl cl q5T ["table","side","kinds","firsts","length"] ["table","side"] (top 20)=true:=by decide +kernel
theorem ok13:okD fn bl cl q1X ["table","side"] ["table","side"] (top 21)=true:=by decide +kernel
theorem ok14:okD fn bl cl q2M ["table","side"] ["table","side"] (top 22)=true:=by decide +kernel
theorem ok15:okD fn bl cl q4t ["number","length"] ["number","length"] (top 23)=true:=by decide +kernel
theorem ok16:okD fn bl cl q1W ["table"] ["table"] (top 25)=true:=by decide +kernel
theorem ok17:okD fn bl cl q5U ["numbers"] ["numbers"] (top 26)=true:=by decide +kernel
theorem ok18:okD fn bl cl q1r ["table"] ["table"] (top 27)=true:=by decide +kernel
theorem ok19:okD fn bl cl q1E ["no","yes"] ["no","yes"] (top 28)=true:=by decide +kernel
theorem ok20:okD fn bl cl q1L ["table","ground","joined","rest","numbers","rows","columns","ways"] ["table","ground","joined"] (top 29)=true:=by decide +kernel
theorem ok21:okD fn bl cl q4l ["rows","columns","by_rows","by_columns"] ["rows","columns"] (top 30)=true:=by decide +kernel
theorem ok22:okD fn bl cl q4k ["cards"] ["cards"] (top 31)=true:=by decide +kernel
theorem ok23:okD fn bl cl q1V ["table"] ["table"] (top 33)=true:=by decide +kernel
theorem ok24:okD fn bl cl q3R ["_law_found"] ["_law_found"] (top 35)=true:=by decide +kernel
theorem ok25:okD fn bl cl q1s ["_law_script","_law_k"] ["_law_script","_law_k"] (top 36)=true:=by decide +kernel
theorem ok26:okD fn bl cl q1H ["_law_cell","_law_many","_law_found","_law_rest","_law_k","_law_number","_law_mixed"] ["_law_cell","_law_many"] (top 37)=true:=by decide +kernel
theorem ok27:okD fn bl cl q2b ["_law_rows","_law_xs","_law_k","_law_at"] ["_law_rows","_law_xs"] (top 38)=true:=by decide +kernel
theorem ok28:okD fn bl cl q1v ["_law_script","_law_most","_law_xs","_law_far","_law_many","_law_wide","_law_words","_law_k","_law_rows","_law_columns"] ["_law_script","_law_most"] (top 39)=true:=by decide +kernel
theorem ok29:okD fn bl cl q2a ["_law_rows","_law_kinds_here","_law_row"] ["_law_rows"] (top 40)=true:=by decide +kernel
theorem ok30:okD fn bl cl q1U ["_law_one","_law_many","_law_found","_law_k"] ["_law_one","_law_many"] (top 41)=true:=by decide +kernel
theorem ok31:okD fn bl cl q1G ["_law_bits","_law_many"] ["_law_bits","_law_many"] (top 42)=true:=by decide +kernel
theorem ok32:okD fn bl cl q1A ["_law_many","_law_found"] ["_law_many"] (top 43)=true:=by decide +kernel
theorem ok33:okD fn bl cl z1T ["_law_script","_law_rows","_law_table","_law_columns","_law_many","_law_bits","_law_words","_law_least","_law_side"] ["_law_script"] (top 44)=true:=by decide +kernel
theorem dfok:DfOk G T:=by
 refine⟨λf ds q=>?_,λf n q=>?_⟩
 ·unfold G at q
  cases q
 ·unfold G at q
  cases q
abbrev ck(P:Params)(x:Str)(f:Addr)(i:Nat)(dV pm:Value)(cd:Addr):Prop:=(nsIn (kK P) mainGlobals x,(kK P).lookup f,codeIn (kK P) (.ref cd) x,keepIn (kK P) (.ref f))=(some (some (.ref f)),some (fo x i dV pm cd),true,true)
theorem ck4{P:Params}{x:Str}{f:Addr}{i:Nat}{dV pm:Value}{cd:Addr}(q:ck P x f i dV pm cd):nsIn (kK P) mainGlobals x=some (some (.ref f))/\(kK P).lookup f=some (fo x i dV pm cd)/\codeIn (kK P) (.ref cd) x=true/\keepIn (kK P) (.ref f)=true:=by
 obtain⟨a,b⟩:=Prod.mk.inj q
 obtain⟨b,c⟩:=Prod.mk.inj b
 exact⟨a,b,Prod.mk.inj c⟩
theorem zz(P:Params):bl.map (nsIn (kK P) mainGlobals)=bl.map λ_=>some none:=by kernel_rfl
open PySem.W
theorem all_mk{l:OpenLaw}{w:World}{h:Heap}{mg:Str->Option Value}{fa:Addr}(X:(kK w.params).In h)(Ns:h.Ns mainGlobals mg)(hfa:mg "law" = some (.ref fa)):∃fd:FuncData,(∀(s:Shared) (v:Value),BindsTo s fd ⟨[v],[]⟩ [("_law_script",v)])/\∀base:Heap,(kK w.params).In base->base.Ns mainGlobals mg->FnOk l.prog w (kK w.params) mg base CX0 60 fa fd ["_law_script"] (spS (kK w.params)):=by
 obtain⟨a0,l0,c0,k0⟩:=ck4 (P:=w.params) (x:="is_int") (f:=58) (i:=5) (dV:=.none) (pm:=(.str "talkleast.checks" 239)) (cd:=57) (by kernel_rfl)
 have S0:=q0i X Ns ok0 a0 l0 c0 k0 λ_ _ _ _ _ _ us hl=>by obtain⟨_,_,_,rfl⟩:=ln3 hl;rfl
 obtain⟨a1,l1,c1,k1⟩:=ck4 (P:=w.params) (x:="flipped") (f:=63) (i:=8) (dV:=.none) (pm:=(.str "talkleast.tables" 250)) (cd:=62) (by kernel_rfl)
 have S1:=q0i X Ns ok1 a1 l1 c1 k1 λ_ _ _ _ _ _ us hl=>by obtain⟨_,rfl⟩:=ln1 hl;rfl
 obtain⟨a2,l2,c2,k2⟩:=ck4 (P:=w.params) (x:="cut") (f:=70) (i:=9) (dV:=.none) (pm:=(.str "talkleast.tables" 250)) (cd:=69) (by kernel_rfl)
 have S2:=q0i X Ns ok2 a2 l2 c2 k2 λ_ _ _ _ _ _ us hl=>by obtain⟨_,_,_,rfl⟩:=ln3 hl;rfl
 obtain⟨a3,l3,c3,k3⟩:=ck4 (P:=w.params) (x:="check_cards") (f:=77) (i:=10) (dV:=.none) (pm:=(.str "talkleast.tables" 250)) (cd:=76) (by kernel_rfl)
 have S3:=q0i X Ns ok3 a3 l3 c3 k3 λ_ _ _ _ _ _ us hl=>by obtain⟨_,_,rfl⟩:=ln2 hl;rfl
 obtain⟨a4,l4,c4,k4⟩:=ck4 (P:=w.params) (x:="cards_in") (f:=82) (i:=11) (dV:=.none) (pm:=(.str "talkleast.tables" 250)) (cd:=81) (by kernel_rfl)
 have S4:=q0i X Ns ok4 a4 l4 c4 k4 λ_ _ _ _ _ _ us hl=>by obtain⟨_,rfl⟩:=ln1 hl;rfl
 obtain⟨a5,l5,c5,k5⟩:=ck4 (P:=w.params) (x:="crossing") (f:=87) (i:=12) (dV:=.none) (pm:=(.str "talkleast.tables" 250)) (cd:=86) (by kernel_rfl)
 have S5:=q0i X Ns ok5 a5 l5 c5 k5 λ_ _ _ _ _ _ us hl=>by obtain⟨_,_,_,rfl⟩:=ln3 hl;rfl
 obtain⟨a6,l6,c6,k6⟩:=ck4 (P:=w.params) (x:="row_kinds") (f:=92) (i:=13) (dV:=.none) (pm:=(.str "talkleast.tables" 250)) (cd:=91) (by kernel_rfl)
 have S6:=q0i X Ns ok6 a6 l6 c6 k6 λ_ _ _ _ _ _ us hl=>by obtain⟨_,rfl⟩:=ln1 hl;rfl
 obtain⟨a7,l7,c7,k7⟩:=ck4 (P:=w.params) (x:="column_kinds") (f:=99) (i:=14) (dV:=.none) (pm:=(.str "talkleast.tables" 250)) (cd:=98) (by kernel_rfl)
 have S7:=q0i X Ns ok7 a7 l7 c7 k7 λ_ _ _ _ _ _ us hl=>by obtain⟨_,rfl⟩:=ln1 hl;rfl
 obtain⟨a8,l8,c8,k8⟩:=ck4 (P:=w.params) (x:="trimmed") (f:=106) (i:=15) (dV:=.none) (pm:=(.str "talkleast.tables" 250)) (cd:=105) (by kernel_rfl)
 have S8:=q0i X Ns ok8 a8 l8 c8 k8 λ_ _ _ _ _ _ us hl=>by obtain⟨_,rfl⟩:=ln1 hl;rfl
 obtain⟨a9,l9,c9,k9⟩:=ck4 (P:=w.params) (x:="is_small") (f:=113) (i:=16) (dV:=.none) (pm:=(.str "talkleast.tables" 250)) (cd:=112) (by kernel_rfl)
 have S9:=q0i X Ns ok9 a9 l9 c9 k9 λ_ _ _ _ _ _ us hl=>by obtain⟨_,rfl⟩:=ln1 hl;rfl
 obtain⟨a10,l10,c10,k10⟩:=ck4 (P:=w.params) (x:="check_small") (f:=120) (i:=17) (dV:=.none) (pm:=(.str "talkleast.tables" 250)) (cd:=119) (by kernel_rfl)
 have S10:=q0i X Ns ok10 a10 l10 c10 k10 λ_ _ _ _ _ _ us hl=>by obtain⟨_,rfl⟩:=ln1 hl;rfl
 obtain⟨a11,l11,c11,k11⟩:=ck4 (P:=w.params) (x:="words_in") (f:=127) (i:=18) (dV:=.none) (pm:=(.str "talkleast.tables" 250)) (cd:=126) (by kernel_rfl)
 have S11:=q0i X Ns ok11 a11 l11 c11 k11 λ_ _ _ _ _ _ us hl=>by obtain⟨_,rfl⟩:=ln1 hl;rfl
 obtain⟨a12,l12,c12,k12⟩:=ck4 (P:=w.params) (x:="codes") (f:=132) (i:=20) (dV:=.none) (pm:=(.str "talkleast.alone" 333)) (cd:=131) (by kernel_rfl)
 have S12:=q0i X Ns ok12 a12 l12 c12 k12 λ_ _ _ _ _ _ us hl=>by obtain⟨_,_,rfl⟩:=ln2 hl;rfl
 obtain⟨a13,l13,c13,k13⟩:=ck4 (P:=w.params) (x:="alone_bits") (f:=140) (i:=21) (dV:=(.ref 133)) (pm:=(.str "talkleast.alone" 333)) (cd:=139) (by kernel_rfl)
 have tl13:(kK w.params).lookup 133=some ⟨.type "tuple",none,.seq #[.str "row" 341] 0,#[]⟩:=by kernel_rfl
 have S13:=q5z X Ns ok13 a13 l13 c13 k13 (λs us hK hl=>by rw[List.append_nil]at hl ⊢;obtain⟨_,_,rfl,h0⟩:=lnS hl;obtain⟨_,_,rfl,h1⟩:=lnS h0;obtain rfl:=ln0 h1;first | exact .of_eq rfl | exact .of_defaults rfl (hK _ _ tl13) rfl rfl rfl) ⟨λ_=>⟨[.str "row" 341],[.str "row"],λs us hK hl=>by(rw[List.length_append]at hl;replace hl:=Nat.succ.inj hl;obtain⟨_,_,rfl,h0⟩:=lnS hl;obtain rfl:=ln0 h0;first | exact .of_eq rfl | exact .of_defaults rfl (hK _ _ tl13) rfl rfl rfl),.cons ⟨_,rfl⟩ .nil,λH=>RepL.one (q2t.mpr ⟨rfl,by decide⟩)⟩,λn z=>by cases z;exact z1A (λs us w hK hl=>by replace hl:=Nat.succ.inj hl;obtain⟨_,_,rfl,h0⟩:=lnS hl;obtain rfl:=ln0 h0;first | exact .of_eq rfl | exact .of_defaults rfl (hK _ _ tl13) rfl rfl rfl) (by intro z;cases z)⟩
 obtain⟨a14,l14,c14,k14⟩:=ck4 (P:=w.params) (x:="lines_of") (f:=147) (i:=22) (dV:=.none) (pm:=(.str "talkleast.alone" 333)) (cd:=146) (by kernel_rfl)
 have S14:=q0i X Ns ok14 a14 l14 c14 k14 λ_ _ _ _ _ _ us hl=>by obtain⟨_,_,rfl⟩:=ln2 hl;rfl
 obtain⟨a15,l15,c15,k15⟩:=ck4 (P:=w.params) (x:="digits") (f:=152) (i:=23) (dV:=.none) (pm:=(.str "talkleast.alone" 333)) (cd:=151) (by kernel_rfl)
 have S15:=q0i X Ns ok15 a15 l15 c15 k15 λ_ _ _ _ _ _ us hl=>by obtain⟨_,_,rfl⟩:=ln2 hl;rfl
 obtain⟨a16,l16,c16,k16⟩:=ck4 (P:=w.params) (x:="bits_paper") (f:=159) (i:=25) (dV:=.none) (pm:=(.str "talkleast.parts" 364)) (cd:=158) (by kernel_rfl)
 have S16:=q0i X Ns ok16 a16 l16 c16 k16 λ_ _ _ _ _ _ us hl=>by obtain⟨_,rfl⟩:=ln1 hl;rfl
 obtain⟨a17,l17,c17,k17⟩:=ck4 (P:=w.params) (x:="paper") (f:=164) (i:=26) (dV:=.none) (pm:=(.str "talkleast.parts" 364)) (cd:=163) (by kernel_rfl)
 have S17:=q0i X Ns ok17 a17 l17 c17 k17 λ_ _ _ _ _ _ us hl=>by obtain⟨_,rfl⟩:=ln1 hl;rfl
 obtain⟨a18,l18,c18,k18⟩:=ck4 (P:=w.params) (x:="bits_numbers") (f:=171) (i:=27) (dV:=.none) (pm:=(.str "talkleast.parts" 364)) (cd:=170) (by kernel_rfl)
 have S18:=q0i X Ns ok18 a18 l18 c18 k18 λ_ _ _ _ _ _ us hl=>by obtain⟨_,rfl⟩:=ln1 hl;rfl
 obtain⟨a19,l19,c19,k19⟩:=ck4 (P:=w.params) (x:="joined_bits") (f:=178) (i:=28) (dV:=.none) (pm:=(.str "talkleast.parts" 364)) (cd:=177) (by kernel_rfl)
 have S19:=q0i X Ns ok19 a19 l19 c19 k19 λ_ _ _ _ _ _ us hl=>by obtain⟨_,_,rfl⟩:=ln2 hl;rfl
 obtain⟨a20,l20,c20,k20⟩:=ck4 (P:=w.params) (x:="least_numbers") (f:=183) (i:=29) (dV:=.none) (pm:=(.str "talkleast.parts" 364)) (cd:=182) (by kernel_rfl)
 have S20:=q0i X Ns ok20 a20 l20 c20 k20 λ_ _ _ _ _ _ us hl=>by obtain⟨_,_,_,rfl⟩:=ln3 hl;rfl
 obtain⟨a21,l21,c21,k21⟩:=ck4 (P:=w.params) (x:="splits") (f:=188) (i:=30) (dV:=.none) (pm:=(.str "talkleast.parts" 364)) (cd:=187) (by kernel_rfl)
 have S21:=q0i X Ns ok21 a21 l21 c21 k21 λ_ _ _ _ _ _ us hl=>by obtain⟨_,_,rfl⟩:=ln2 hl;rfl
 obtain⟨a22,l22,c22,k22⟩:=ck4 (P:=w.params) (x:="halves") (f:=193) (i:=31) (dV:=.none) (pm:=(.str "talkleast.parts" 364)) (cd:=192) (by kernel_rfl)
 have S22:=q0i X Ns ok22 a22 l22 c22 k22 λ_ _ _ _ _ _ us hl=>by obtain⟨_,rfl⟩:=ln1 hl;rfl
 obtain⟨a23,l23,c23,k23⟩:=ck4 (P:=w.params) (x:="least_bits") (f:=200) (i:=33) (dV:=.none) (pm:=(.str "talkleast.least" 412)) (cd:=199) (by kernel_rfl)
 have S23:=q0i X Ns ok23 a23 l23 c23 k23 λ_ _ _ _ _ _ us hl=>by obtain⟨_,rfl⟩:=ln1 hl;rfl
 obtain⟨a24,l24,c24,k24⟩:=ck4 (P:=w.params) (x:="_law_int") (f:=207) (i:=35) (dV:=.none) (pm:=(.str "law_talkleast_k53_whole_alone" 421)) (cd:=206) (by kernel_rfl)
 have S24:=q0i X Ns ok24 a24 l24 c24 k24 λ_ _ _ _ _ _ us hl=>by obtain⟨_,rfl⟩:=ln1 hl;rfl
 obtain⟨a25,l25,c25,k25⟩:=ck4 (P:=w.params) (x:="_law_cell_at") (f:=214) (i:=36) (dV:=.none) (pm:=(.str "law_talkleast_k53_whole_alone" 421)) (cd:=213) (by kernel_rfl)
 have S25:=q0i X Ns ok25 a25 l25 c25 k25 λ_ _ _ _ _ _ us hl=>by obtain⟨_,_,rfl⟩:=ln2 hl;rfl
 obtain⟨a26,l26,c26,k26⟩:=ck4 (P:=w.params) (x:="_law_stream") (f:=221) (i:=37) (dV:=.none) (pm:=(.str "law_talkleast_k53_whole_alone" 421)) (cd:=220) (by kernel_rfl)
 have S26:=q0i X Ns ok26 a26 l26 c26 k26 λ_ _ _ _ _ _ us hl=>by obtain⟨_,_,rfl⟩:=ln2 hl;rfl
 obtain⟨a27,l27,c27,k27⟩:=ck4 (P:=w.params) (x:="_law_doubled") (f:=228) (i:=38) (dV:=.none) (pm:=(.str "law_talkleast_k53_whole_alone" 421)) (cd:=227) (by kernel_rfl)
 have S27:=q0i X Ns ok27 a27 l27 c27 k27 λ_ _ _ _ _ _ us hl=>by obtain⟨_,_,rfl⟩:=ln2 hl;rfl
 obtain⟨a28,l28,c28,k28⟩:=ck4 (P:=w.params) (x:="_law_small") (f:=233) (i:=39) (dV:=.none) (pm:=(.str "law_talkleast_k53_whole_alone" 421)) (cd:=232) (by kernel_rfl)
 have S28:=q0i X Ns ok28 a28 l28 c28 k28 λ_ _ _ _ _ _ us hl=>by obtain⟨_,_,rfl⟩:=ln2 hl;rfl
 obtain⟨a29,l29,c29,k29⟩:=ck4 (P:=w.params) (x:="_law_kinds") (f:=240) (i:=40) (dV:=.none) (pm:=(.str "law_talkleast_k53_whole_alone" 421)) (cd:=239) (by kernel_rfl)
 have S29:=q0i X Ns ok29 a29 l29 c29 k29 λ_ _ _ _ _ _ us hl=>by obtain⟨_,rfl⟩:=ln1 hl;rfl
 obtain⟨a30,l30,c30,k30⟩:=ck4 (P:=w.params) (x:="_law_power") (f:=247) (i:=41) (dV:=.none) (pm:=(.str "law_talkleast_k53_whole_alone" 421)) (cd:=246) (by kernel_rfl)
 have S30:=q0i X Ns ok30 a30 l30 c30 k30 λ_ _ _ _ _ _ us hl=>by obtain⟨_,_,rfl⟩:=ln2 hl;rfl
 obtain⟨a31,l31,c31,k31⟩:=ck4 (P:=w.params) (x:="_law_enough") (f:=254) (i:=42) (dV:=.none) (pm:=(.str "law_talkleast_k53_whole_alone" 421)) (cd:=253) (by kernel_rfl)
 have S31:=q0i X Ns ok31 a31 l31 c31 k31 λ_ _ _ _ _ _ us hl=>by obtain⟨_,_,rfl⟩:=ln2 hl;rfl
 obtain⟨a32,l32,c32,k32⟩:=ck4 (P:=w.params) (x:="_law_length") (f:=261) (i:=43) (dV:=.none) (pm:=(.str "law_talkleast_k53_whole_alone" 421)) (cd:=260) (by kernel_rfl)
 have S32:=q0i X Ns ok32 a32 l32 c32 k32 λ_ _ _ _ _ _ us hl=>by obtain⟨_,rfl⟩:=ln1 hl;rfl
 obtain⟨a33,l33,c33,k33⟩:=ck4 (P:=w.params) (x:="law") (f:=266) (i:=44) (dV:=.none) (pm:=(.str "law_talkleast_k53_whole_alone" 421)) (cd:=265) (by kernel_rfl)
 have S33:=q0i X Ns ok33 a33 l33 c33 k33 λ_ _ _ _ _ _ us hl=>by obtain⟨_,rfl⟩:=ln1 hl;rfl
 have e:=hfa.symm.trans (mg_of X Ns a33)
 cases e
 refine⟨_,λs v=>.of_eq rfl,λbase _ _=>z3L (T:=T) (G:=G) (fu:=100) rfl (q0o S0 (q0o S1 (q0o S2 (q0o S3 (q0o S4 (q0o S5 (q0o S6 (q0o S7 (q0o S8 (q0o S9 (q0o S10 (q0o S11 (q0o S12 (q0o S13 (q0o S14 (q0o S15 (q0o S16 (q0o S17 (q0o S18 (q0o S19 (q0o S20 (q0o S21 (q0o S22 (q0o S23 (q0o S24 (q0o S25 (q0o S26 (q0o S27 (q0o S28 (q0o S29 (q0o S30 (q0o S31 (q0o S32 (q0o S33 z9b)))))))))))))))))))))))))))))))))) (λx hx=>mg_none_of X Ns (List.map_inj_left.mp (zz _) x hx)) ?_ ?_ ?_ dfok z3r (i:=33) rfl rfl S33 z6j⟩
 ·have xa0:nsIn (kK w.params) mainGlobals "TalkError" = some (some (.ref 24)):=by kernel_rfl
  have xa1:nsIn (kK w.params) mainGlobals "NoCard" = some (some (.ref 37)):=by kernel_rfl
  have xa2:nsIn (kK w.params) mainGlobals "TooGreat" = some (some (.ref 49)):=by kernel_rfl
  refine⟨q5O ⟨24,mg_of X Ns xa0,⟨by kernel_rfl,by kernel_rfl,by kernel_rfl,by kernel_rfl,by kernel_rfl,by kernel_rfl,by kernel_rfl,by kernel_rfl⟩,⟨_,_,_,[.type "ValueError",.type "Exception",.type "BaseException",.type "object"],PySem.F.excBase_ValueError,by kernel_rfl⟩,(q1I (t:="TalkError") (Ct:=24) (mg_of X Ns xa0) ⟨by kernel_rfl,λ_=>by kernel_rfl⟩ (q1I (t:="NoCard") (Ct:=37) (mg_of X Ns xa1) ⟨by kernel_rfl,λz=>nomatch z⟩ (q1I (t:="TooGreat") (Ct:=49) (mg_of X Ns xa2) ⟨by kernel_rfl,λz=>nomatch z⟩ q7U))),by kernel_rfl⟩ (q5O ⟨37,mg_of X Ns xa1,⟨by kernel_rfl,by kernel_rfl,by kernel_rfl,by kernel_rfl,by kernel_rfl,by kernel_rfl,by kernel_rfl,by kernel_rfl⟩,⟨_,_,_,[.type "ValueError",.type "Exception",.type "BaseException",.type "object"],PySem.F.excBase_ValueError,by kernel_rfl⟩,(q1I (t:="TalkError") (Ct:=24) (mg_of X Ns xa0) ⟨by kernel_rfl,λ_=>by kernel_rfl⟩ (q1I (t:="NoCard") (Ct:=37) (mg_of X Ns xa1) ⟨by kernel_rfl,λ_=>by kernel_rfl⟩ (q1I (t:="TooGreat") (Ct:=49) (mg_of X Ns xa2) ⟨by kernel_rfl,λz=>nomatch z⟩ q7U))),by kernel_rfl⟩ (q5O ⟨49,mg_of X Ns xa2,⟨by kernel_rfl,by kernel_rfl,by kernel_rfl,by kernel_rfl,by kernel_rfl,by kernel_rfl,by kernel_rfl,by kernel_rfl⟩,⟨_,_,_,[.type "ValueError",.type "Exception",.type "BaseException",.type "object"],PySem.F.excBase_ValueError,by kernel_rfl⟩,(q1I (t:="TalkError") (Ct:=24) (mg_of X Ns xa0) ⟨by kernel_rfl,λ_=>by kernel_rfl⟩ (q1I (t:="NoCard") (Ct:=37) (mg_of X Ns xa1) ⟨by kernel_rfl,λz=>nomatch z⟩ (q1I (t:="TooGreat") (Ct:=49) (mg_of X Ns xa2) ⟨by kernel_rfl,λ_=>by kernel_rfl⟩ q7U))),by kernel_rfl⟩ (z5T))),all_cons ⟨_,mg_of X Ns xa0⟩ (all_cons ⟨_,mg_of X Ns xa1⟩ (all_cons ⟨_,mg_of X Ns xa2⟩ (z6I)))⟩
 ·intro x d h
  have g0:nsIn (kK w.params) mainGlobals "SMALL_LINES" = some (some (.int 5 252)):=by kernel_rfl
  exact q9g ⟨_,.int _,mg_of X Ns g0,⟨_,rfl⟩,λH=>q0y.mpr rfl⟩ (q9g ⟨_,.ref _,S19.mg,rfl,λH=>z4z.mpr ⟨_,rfl,S19.mg⟩⟩ (z6O)) x d h
 ·intro x kvs h
  exact z5u x kvs h
end k53
open PySem PySem.W PyProof.Rows
set_option maxRecDepth 100000 in
set_option maxHeartbeats 0 in
theorem PySem.Challenge.cw_talkleast_k53_whole_alone_holds : PySem.Challenge.rw_talkleast_k53_whole_alone.Holds := by
 refine holds_law (by kernel_rfl) λ said => ?_
 refine holds_open (q := k53.kQ) (loose := k53.kL) (Xt := λ s => xlAt k53.kQ [] s && recOk (RowW.records (OpenRow.toRowW (OpenLaw.row PySem.Challenge.rw_talkleast_k53_whole_alone))) s) (XP := XL k53.kQ []) (Yf := (kHook k53.kK k53.kA k53.kE).obs) (Ya := (kHook k53.kK k53.kA k53.kE).val) (YP := (kHook k53.kK k53.kA k53.kE).says) (N := 3454) k53.kLeft (kHook k53.kK k53.kA k53.kE).of (kHook k53.kK k53.kA k53.kE).keeps (λ s e => xl_of s (Bool.and_eq_true_iff.mp e).1) XL.keeps (by rfl) (by rfl) (by rfl) (λ s e => recFacts_of (Bool.and_eq_true_iff.mp e).2) (by rfl) said (by decide +kernel) ⟨rfl, rfl, rfl, rfl, rfl, by decide +kernel⟩ ?hw ?hc
 case hw => w_witness2
 exact L2.walkE (l := PySem.Challenge.rw_talkleast_k53_whole_alone) (k := 60) (p := "_law_script") rfl rfl ⟨rfl, by decide, by decide⟩ (λ w h Y => kIn_of Y) λ w mg fa h KX G hmg => k53.all_mk KX G hmg
end

import PyProof.Rows.All
import Wide.All
import OpenK.AllK
import Wide.FinOn
import Lean
import PyProof.EqAt
import PyProof.EqKinds
import PyProof.TupleCall
import PyProof.ExcAttrAll.ValueError
import PyProof.ZipIter
import PyProof.TupleIter
import PyProof.P3In
import PyProof.Rows.SeqMore2
import PyProof.FactsAll.tuple_3
import PyProof.FactsAll.list_3
import PyProof.Rows.Range3
import KE.KRevIter
import PyProof.Rows.FactsT2
import PySem.Builtin.Int.W1All
import PyProof.SetScanFacts
import PyProof.SetKind
import PyProof.DictKinds
import PyProof.DictStraight
import PyProof.Rows.SetFrom
import PyProof.CollectWalk
import PyProof.Seq
import PyProof.DictIter
import PyProof.Rows.Tup
import PyProof.FactsAll.set_1
import PyProof.FactsAll.set_2
import PyProof.Rows.SortWalk
import PyProof.ConsumeWalk
import PyProof.Rows.SumAny
import PySem.Syntax
import PySem.Eval
import KE.KLam
import PyProof.StrWalks
import PyProof.StrOps
import PyProof.StrCalls2
import PyProof.StrLawsTight
import PyProof.StrLawsFirst
import PyProof.StrLawsChain
import PyProof.StrLawsIn
import PyProof.Rows.StrJoin2
import PyProof.Rows.StrItems
import PyProof.CallStr
import KE.KIntText
import PyProof.SliceStr2
import PyProof.StrLaws
import PyProof.StrLawsIdx
import PyProof.DictTable
import PyProof.ListRange
import PyProof.EnumMake
import PyProof.DictItems
import PyProof.DictItemsLoops
import PyProof.MeetsDict
import PyProof.DictWalks
import PyProof.RulesTry
import KE.KPairComp
import PySem.Challenge.RW_talkleast_k84_what_is_no_text_of_a_plan
set_option Elab.async false
set_option linter.all false
set_option bootstrap.genMatcherCode false
set_option genSizeOfSpec false
set_option compiler.extract_closed false
set_option maxRecDepth 100000
set_option maxHeartbeats 4000000
noncomputable section
namespace L2
open PySem
def q1d(s:Stmt):Arguments:=match s with
 | .FunctionDef _ a _ _ _ _ _ _ _ _=>a
 | _=>{posonlyargs:=[],args:=[],vararg:=none,kwonlyargs:=[],kw_defaults:=[],kwarg:=none,defaults:=[]}
def q0C(s:Stmt):List Stmt:=match s with
 | .FunctionDef _ _ b _ _ _ _ _ _ _=>b
 | _=>[]
def q0h(s:Stmt):Scope:=match s with
 | .FunctionDef _ _ _ _ _ _ sc _ _ _=>sc
 | _=>{kind:=.function,names:=[],isGenerator:=false,isCoroutine:=false}
end L2
namespace k84
open PySem PySem.W L2 PySem.Spec PyProof.Rows
def top(i:Nat):Stmt:=PySem.Challenge.pw_talkleast_k84_what_is_no_text_of_a_plan.main.body.getD i (.Pass ⟨0,0,0,0⟩)
def cbod(s:Stmt):List Stmt:=match s with
 | .ClassDef _ _ _ b _ _ _ _ _ _ _=>b
 | _=>[]
def meth(j:Nat):Stmt:=(cbod (top 22)).getD j (.Pass ⟨0,0,0,0⟩)
def fo(n:Str)(i:Nat)(dV pm:Value)(cd:Addr):Obj:=⟨.type "function",none,.func (fnOf n n (q1d (top i)) (q0C (top i)) (q0h (top i)) dV .none .none pm none (.ref cd) .none),#[]⟩
def fm(n q:Str)(j:Nat)(pm:Value)(cd:Addr):Obj:=⟨.type "function",none,.func (fnOf n q (q1d (meth j)) (q0C (meth j)) (q0h (meth j)) .none .none .none pm none (.ref cd) .none),#[]⟩
def en(P:Params)(s:Str)(t:Nat)(v:Value):DictEntry:=⟨PyData.keyHash P s,.str s t,v⟩
def co(n:Str)(t:Nat)(ln na fl:Int)(a b c d e:Value)(q:Int)(r:Nat):Obj:=⟨.type "code",none,.fields #[.str n t,.str n (t+1),.str "/claim/cut.py" (t+2),.int ln 0,.int na 0,.int 0 0,.int 0 0,.int fl 0,a,.bool true,.int 181 0,b,.none,c,d,e,.int q 0,.int ln 0,.str "/claim/cut.py" r],#[]⟩
def kK(P:Params):Frag:=[(2,⟨.none,none,.dict #[] 0,#[]⟩),
 (3,⟨.type "dict",none,.dict #[en P "__name__" 165 (.str "law_talkleast_k84_what_is_no_text_of_a_plan" 429),en P "__doc__" 166 .none,en P "__package__" 167 .none,en P "__loader__" 168 (.builtin "__main__.__loader__#opaque"),en P "__spec__" 169 .none,en P "__annotations__" 170 (.ref 6),en P "__builtins__" 171 (.ref 4),en P "__file__" 173 (.str "/claim/cut.py" 172),en P "__cached__" 174 .none,en P "TalkError" 206 (.ref 24),en P "NoTable" 222 (.ref 37),en P "NoPlan" 238 (.ref 49),en P "NoText" 254 (.ref 61),en P "is_int" 265 (.ref 70),en P "GREATEST_WORD" 267 (.int 9 266),en P "MOST_ASKS_DEEP" 271 (.int 12 270),en P "MOST_ASKS" 273 (.int 300 272),en P "ALL_CARDS" 275 (.int 255 274),en P "made_plan" 282 (.ref 77),en P "is_plan" 290 (.ref 84),en P "is_end" 297 (.ref 91),en P "is_ask" 304 (.ref 98),en P "is_tuple" 312 (.ref 105),en P "is_text" 320 (.ref 112),en P "outcomes_of" 327 (.ref 119),en P "DIGITS" 331 (.str "0123456789" 330),en P "read_plan" 340 (.ref 126),en P "Reader" 428 (.ref 192),en P "_law_cell_at" 438 (.ref 203),en P "_law_stream" 449 (.ref 210),en P "_law_plan" 463 (.ref 217),en P "_law_text" 472 (.ref 224),en P "_law_split" 481 (.ref 231),en P "_law_due" 495 (.ref 238),en P "_law_odd" 503 (.ref 245),en P "_law_spoiled" 513 (.ref 252),en P "_law_answered" 524 (.ref 259),en P "law" 534 (.ref 266)] 38,#[]⟩),
 (23,⟨.type "dict",none,.dict #[en P "__module__" 196 (.str "talkleast.errors" 187),en P "__firstlineno__" 200 (.int 2 199),en P "__static_attributes__" 201 (.ref 22),en P "__weakref__" 203 (.ref 25),en P "__doc__" 204 .none] 3,#[]⟩),
 (24,⟨.type "type",none,.cls ⟨"TalkError",[.type "ValueError"],[.ref 24,.type "ValueError",.type "Exception",.type "BaseException",.type "object"],23,"TalkError",true,[],[.ref 37,.ref 49,.ref 61],false,none,false⟩,#[some (.ref 15),none,some (.str "TalkError" 189),some (.str "TalkError" 197),some (.builtin "ValueError.__new__"),some (.bool true)]⟩),
 (25,⟨.type "getset_descriptor",none,.fields #[.str "__weakref__" 202,.ref 24,.builtin "ExceptionGroup.__weakref__",.none],#[]⟩),
 (36,⟨.type "dict",none,.dict #[en P "__module__" 214 (.str "talkleast.errors" 187),en P "__firstlineno__" 218 (.int 4 217),en P "__static_attributes__" 219 (.ref 35),en P "__doc__" 220 .none] 2,#[]⟩),
 (37,⟨.type "type",none,.cls ⟨"NoTable",[.ref 24],[.ref 37,.ref 24,.type "ValueError",.type "Exception",.type "BaseException",.type "object"],36,"NoTable",true,[],[],false,none,false⟩,#[some (.ref 28),none,some (.str "NoTable" 207),some (.str "NoTable" 215),some (.builtin "ValueError.__new__"),some (.bool true)]⟩),
 (48,⟨.type "dict",none,.dict #[en P "__module__" 230 (.str "talkleast.errors" 187),en P "__firstlineno__" 234 (.int 6 233),en P "__static_attributes__" 235 (.ref 47),en P "__doc__" 236 .none] 2,#[]⟩),
 (49,⟨.type "type",none,.cls ⟨"NoPlan",[.ref 24],[.ref 49,.ref 24,.type "ValueError",.type "Exception",.type "BaseException",.type "object"],48,"NoPlan",true,[],[],false,none,false⟩,#[some (.ref 40),none,some (.str "NoPlan" 223),some (.str "NoPlan" 231),some (.builtin "ValueError.__new__"),some (.bool true)]⟩),
 (60,⟨.type "dict",none,.dict #[en P "__module__" 246 (.str "talkleast.errors" 187),en P "__firstlineno__" 250 (.int 8 249),en P "__static_attributes__" 251 (.ref 59),en P "__doc__" 252 .none] 2,#[]⟩),
 (61,⟨.type "type",none,.cls ⟨"NoText",[.ref 24],[.ref 61,.ref 24,.type "ValueError",.type "Exception",.type "BaseException",.type "object"],60,"NoText",true,[],[],false,none,false⟩,#[some (.ref 52),none,some (.str "NoText" 239),some (.str "NoText" 247),some (.builtin "ValueError.__new__"),some (.bool true)]⟩),
 (69,co "is_int" 257 11 3 3 (.ref 64) (.ref 65) (.ref 66) (.ref 67) (.ref 68) 263 264),
 (70,fo "is_int" 6 .none (.str "talkleast.checks" 255) 69),
 (76,co "made_plan" 276 18 1 3 (.ref 71) (.ref 72) (.ref 73) (.ref 74) (.ref 75) 280 281),
 (77,fo "made_plan" 12 .none (.str "talkleast.plans" 268) 76),
 (83,co "is_plan" 283 24 2 3 (.ref 78) (.ref 79) (.ref 80) (.ref 81) (.ref 82) 288 289),
 (84,fo "is_plan" 13 .none (.str "talkleast.plans" 268) 83),
 (90,co "is_end" 291 28 1 3 (.ref 85) (.ref 86) (.ref 87) (.ref 88) (.ref 89) 295 296),
 (91,fo "is_end" 14 .none (.str "talkleast.plans" 268) 90),
 (97,co "is_ask" 298 30 1 3 (.ref 92) (.ref 93) (.ref 94) (.ref 95) (.ref 96) 302 303),
 (98,fo "is_ask" 15 .none (.str "talkleast.plans" 268) 97),
 (104,co "is_tuple" 305 34 2 3 (.ref 99) (.ref 100) (.ref 101) (.ref 102) (.ref 103) 310 311),
 (105,fo "is_tuple" 16 .none (.str "talkleast.plans" 268) 104),
 (111,co "is_text" 313 36 2 3 (.ref 106) (.ref 107) (.ref 108) (.ref 109) (.ref 110) 318 319),
 (112,fo "is_text" 17 .none (.str "talkleast.plans" 268) 111),
 (118,co "outcomes_of" 321 38 1 3 (.ref 113) (.ref 114) (.ref 115) (.ref 116) (.ref 117) 325 326),
 (119,fo "outcomes_of" 18 .none (.str "talkleast.plans" 268) 118),
 (125,co "read_plan" 332 44 1 3 (.ref 120) (.ref 121) (.ref 122) (.ref 123) (.ref 124) 338 339),
 (126,fo "read_plan" 21 .none (.str "talkleast.texts" 328) 125),
 (139,⟨.type "code",none,.fields #[.str "__init__" 353,.str "Reader.__init__" 354,.str "/claim/cut.py" 355,.int 57 0,.int 2 0,.int 0 0,.int 0 0,.int 3 0,.ref 134,.bool true,.int 181 0,.ref 135,.none,.ref 136,.ref 137,.ref 138,.int 358 0,.int 57 0,.str "/claim/cut.py" 359],#[]⟩),
 (140,fm "__init__" "Reader.__init__" 0 (.str "talkleast.texts" 328) 139),
 (146,⟨.type "code",none,.fields #[.str "sign" 361,.str "Reader.sign" 362,.str "/claim/cut.py" 363,.int 61 0,.int 1 0,.int 0 0,.int 0 0,.int 3 0,.ref 141,.bool true,.int 181 0,.ref 142,.none,.ref 143,.ref 144,.ref 145,.int 365 0,.int 61 0,.str "/claim/cut.py" 366],#[]⟩),
 (147,fm "sign" "Reader.sign" 1 (.str "talkleast.texts" 328) 146),
 (153,⟨.type "code",none,.fields #[.str "at_digit" 368,.str "Reader.at_digit" 369,.str "/claim/cut.py" 370,.int 64 0,.int 1 0,.int 0 0,.int 0 0,.int 3 0,.ref 148,.bool true,.int 181 0,.ref 149,.none,.ref 150,.ref 151,.ref 152,.int 372 0,.int 64 0,.str "/claim/cut.py" 373],#[]⟩),
 (154,fm "at_digit" "Reader.at_digit" 2 (.str "talkleast.texts" 328) 153),
 (160,⟨.type "code",none,.fields #[.str "take" 375,.str "Reader.take" 376,.str "/claim/cut.py" 377,.int 67 0,.int 2 0,.int 0 0,.int 0 0,.int 3 0,.ref 155,.bool true,.int 181 0,.ref 156,.none,.ref 157,.ref 158,.ref 159,.int 380 0,.int 67 0,.str "/claim/cut.py" 381],#[]⟩),
 (161,fm "take" "Reader.take" 3 (.str "talkleast.texts" 328) 160),
 (167,⟨.type "code",none,.fields #[.str "take_digit" 383,.str "Reader.take_digit" 384,.str "/claim/cut.py" 385,.int 72 0,.int 1 0,.int 0 0,.int 0 0,.int 3 0,.ref 162,.bool true,.int 181 0,.ref 163,.none,.ref 164,.ref 165,.ref 166,.int 388 0,.int 72 0,.str "/claim/cut.py" 389],#[]⟩),
 (168,fm "take_digit" "Reader.take_digit" 4 (.str "talkleast.texts" 328) 167),
 (174,⟨.type "code",none,.fields #[.str "take_plan" 391,.str "Reader.take_plan" 392,.str "/claim/cut.py" 393,.int 79 0,.int 1 0,.int 0 0,.int 0 0,.int 3 0,.ref 169,.bool true,.int 181 0,.ref 170,.none,.ref 171,.ref 172,.ref 173,.int 399 0,.int 79 0,.str "/claim/cut.py" 400],#[]⟩),
 (175,fm "take_plan" "Reader.take_plan" 5 (.str "talkleast.texts" 328) 174),
 (181,⟨.type "code",none,.fields #[.str "take_side" 402,.str "Reader.take_side" 403,.str "/claim/cut.py" 404,.int 91 0,.int 1 0,.int 0 0,.int 0 0,.int 3 0,.ref 176,.bool true,.int 181 0,.ref 177,.none,.ref 178,.ref 179,.ref 180,.int 406 0,.int 91 0,.str "/claim/cut.py" 407],#[]⟩),
 (182,fm "take_side" "Reader.take_side" 6 (.str "talkleast.texts" 328) 181),
 (188,⟨.type "code",none,.fields #[.str "take_cards" 409,.str "Reader.take_cards" 410,.str "/claim/cut.py" 411,.int 98 0,.int 1 0,.int 0 0,.int 0 0,.int 3 0,.ref 183,.bool true,.int 181 0,.ref 184,.none,.ref 185,.ref 186,.ref 187,.int 416 0,.int 98 0,.str "/claim/cut.py" 417],#[]⟩),
 (189,fm "take_cards" "Reader.take_cards" 7 (.str "talkleast.texts" 328) 188),
 (191,⟨.type "dict",none,.dict #[en P "__module__" 348 (.str "talkleast.texts" 328),en P "__firstlineno__" 352 (.int 55 351),en P "__init__" 360 (.ref 140),en P "sign" 367 (.ref 147),en P "at_digit" 374 (.ref 154),en P "take" 382 (.ref 161),en P "take_digit" 390 (.ref 168),en P "take_plan" 401 (.ref 175),en P "take_side" 408 (.ref 182),en P "take_cards" 418 (.ref 189),en P "__static_attributes__" 421 (.ref 190),en P "__dict__" 423 (.ref 193),en P "__weakref__" 425 (.ref 194),en P "__doc__" 426 .none] 4,#[]⟩),
 (192,⟨.type "type",none,.cls ⟨"Reader",[.type "object"],[.ref 192,.type "object"],191,"Reader",true,[],[],false,none,false⟩,#[none,none,some (.str "Reader" 341),some (.str "Reader" 349),some (.builtin "object.__new__"),some (.bool true)]⟩),
 (193,⟨.type "getset_descriptor",none,.fields #[.str "__dict__" 422,.ref 192,.builtin "function.__dict__",.builtin "function.__dict__#set"],#[]⟩),
 (194,⟨.type "getset_descriptor",none,.fields #[.str "__weakref__" 424,.ref 192,.builtin "ExceptionGroup.__weakref__",.none],#[]⟩),
 (202,co "_law_cell_at" 431 109 2 3 (.ref 197) (.ref 198) (.ref 199) (.ref 200) (.ref 201) 436 437),
 (203,fo "_law_cell_at" 24 .none (.str "law_talkleast_k84_what_is_no_text_of_a_plan" 429) 202),
 (209,co "_law_stream" 439 113 2 3 (.ref 204) (.ref 205) (.ref 206) (.ref 207) (.ref 208) 447 448),
 (210,fo "_law_stream" 25 .none (.str "law_talkleast_k84_what_is_no_text_of_a_plan" 429) 209),
 (216,co "_law_plan" 450 120 4 3 (.ref 211) (.ref 212) (.ref 213) (.ref 214) (.ref 215) 461 462),
 (217,fo "_law_plan" 26 .none (.str "law_talkleast_k84_what_is_no_text_of_a_plan" 429) 216),
 (223,co "_law_text" 464 128 1 3 (.ref 218) (.ref 219) (.ref 220) (.ref 221) (.ref 222) 470 471),
 (224,fo "_law_text" 27 .none (.str "law_talkleast_k84_what_is_no_text_of_a_plan" 429) 223),
 (230,co "_law_split" 473 138 1 3 (.ref 225) (.ref 226) (.ref 227) (.ref 228) (.ref 229) 479 480),
 (231,fo "_law_split" 28 .none (.str "law_talkleast_k84_what_is_no_text_of_a_plan" 429) 230),
 (237,co "_law_due" 482 150 1 3 (.ref 232) (.ref 233) (.ref 234) (.ref 235) (.ref 236) 493 494),
 (238,fo "_law_due" 29 .none (.str "law_talkleast_k84_what_is_no_text_of_a_plan" 429) 237),
 (244,co "_law_odd" 496 172 1 3 (.ref 239) (.ref 240) (.ref 241) (.ref 242) (.ref 243) 501 502),
 (245,fo "_law_odd" 30 .none (.str "law_talkleast_k84_what_is_no_text_of_a_plan" 429) 244),
 (251,co "_law_spoiled" 504 177 2 3 (.ref 246) (.ref 247) (.ref 248) (.ref 249) (.ref 250) 511 512),
 (252,fo "_law_spoiled" 31 .none (.str "law_talkleast_k84_what_is_no_text_of_a_plan" 429) 251),
 (258,co "_law_answered" 514 187 1 3 (.ref 253) (.ref 254) (.ref 255) (.ref 256) (.ref 257) 522 523),
 (259,fo "_law_answered" 32 .none (.str "law_talkleast_k84_what_is_no_text_of_a_plan" 429) 258),
 (265,co "law" 525 200 1 3 (.ref 260) (.ref 261) (.ref 262) (.ref 263) (.ref 264) 532 533),
 (266,fo "law" 33 .none (.str "law_talkleast_k84_what_is_no_text_of_a_plan" 429) 265)]
def kA:List Addr:=[2,3,23,24,25,36,37,48,49,60,61,69,70,76,77,83,84,90,91,97,98,104,105,111,112,118,119,125,126,139,140,146,147,153,154,160,161,167,168,174,175,181,182,188,189,191,192,193,194,202,203,209,210,216,217,223,224,230,231,237,238,244,245,251,252,258,259,265,266]
def kT:Frag:=[(65,⟨.none,none,.fields #[],#[]⟩),(72,⟨.none,none,.fields #[],#[]⟩),(79,⟨.none,none,.fields #[],#[]⟩),(86,⟨.none,none,.fields #[],#[]⟩),(93,⟨.none,none,.fields #[],#[]⟩),(100,⟨.none,none,.fields #[],#[]⟩),(107,⟨.none,none,.fields #[],#[]⟩),(114,⟨.none,none,.fields #[],#[]⟩),(121,⟨.none,none,.fields #[],#[]⟩),(135,⟨.none,none,.fields #[],#[]⟩),(142,⟨.none,none,.fields #[],#[]⟩),(149,⟨.none,none,.fields #[],#[]⟩),(156,⟨.none,none,.fields #[],#[]⟩),(163,⟨.none,none,.fields #[],#[]⟩),(170,⟨.none,none,.fields #[],#[]⟩),(177,⟨.none,none,.fields #[],#[]⟩),(184,⟨.none,none,.fields #[],#[]⟩),(198,⟨.none,none,.fields #[],#[]⟩),(205,⟨.none,none,.fields #[],#[]⟩),(212,⟨.none,none,.fields #[],#[]⟩),(219,⟨.none,none,.fields #[],#[]⟩),(226,⟨.none,none,.fields #[],#[]⟩),(233,⟨.none,none,.fields #[],#[]⟩),(240,⟨.none,none,.fields #[],#[]⟩),(247,⟨.none,none,.fields #[],#[]⟩),(254,⟨.none,none,.fields #[],#[]⟩),(261,⟨.none,none,.fields #[],#[]⟩)]
def kAll(P:Params):Frag:=kT++kK P
def kB:List Addr:=[65,72,79,86,93,100,107,114,121,135,142,149,156,163,170,177,184,198,205,212,219,226,233,240,247,254,261,2,3,23,24,25,36,37,48,49,60,61,69,70,76,77,83,84,90,91,97,98,104,105,111,112,118,119,125,126,139,140,146,147,153,154,160,161,167,168,174,175,181,182,188,189,191,192,193,194,202,203,209,210,216,217,223,224,230,231,237,238,244,245,251,252,258,259,265,266]
theorem kE:∀P,kB=(kAll P).map (·.1):=λ_=>by kernel_rfl
def kQ:Program:=view PySem.Challenge.pw_talkleast_k84_what_is_no_text_of_a_plan [1,2,3,4,6,7,9,10,11,12,13,14,15,16,17,18,20,21,22,24,25,26,27,28,29,30,31,32,33]
def kL:List Str:=[]
set_option maxHeartbeats 0 in
theorem kLeft:LeftO PySem.Challenge.pw_talkleast_k84_what_is_no_text_of_a_plan kQ kL (λs=>xlAt kQ [] s&&recOk (RowW.records (OpenRow.toRowW (OpenLaw.row PySem.Challenge.rw_talkleast_k84_what_is_no_text_of_a_plan))) s) (kHook kAll kB kE).obs (kHook kAll kB kE).val 4038:=by
 intro w
 kernel_rfl
end k84
end
noncomputable section
namespace L2
open PySem PySem.Spec PyProof.Rows
abbrev Key:=Sum Int Str
def z7z:Key->Value->Bool
 | .inl k,v=>Value.isInt k v
 | .inr x,v=>Value.isStrOf x v
def keyH(w:World):Key->Int
 | .inl k=>hashInt k
 | .inr x=>hashStr w x
theorem q0W:∀{k:Key} {v:Value},z7z k v=true->(∃i t,k=Sum.inl i/\v=Value.int i t)\/(∃x t,k=Sum.inr x/\v=Value.str x t)
 | .inl i,v,h=>by obtain⟨t,e⟩:=Value.isInt_shape (k:=i) (v:=v) h;exact .inl ⟨i,t,rfl,e⟩
 | .inr x,v,h=>by obtain⟨t,e⟩:=Value.isStrOf_shape (x:=x) (v:=v) h;exact .inr ⟨x,t,rfl,e⟩
theorem z7x(a b:Int):decide ((Sum.inl a:Key)=Sum.inl b)=(a==b):=by
 by_cases e:a=b
 ·subst e;simp
 ·have h:¬(Sum.inl a:Key)=Sum.inl b:=λq=>e (Sum.inl.inj q);rw[decide_eq_false h];exact(beq_eq_false_iff_ne.mpr e).symm
theorem z7E(a b:Str):decide ((Sum.inr a:Key)=Sum.inr b)=decide (a=b):=by
 by_cases e:a=b
 ·subst e;simp
 ·have h:¬(Sum.inr a:Key)=Sum.inr b:=λq=>e (Sum.inr.inj q);rw[decide_eq_false h,decide_eq_false e]
theorem z7v(a:Int)(b:Str):decide ((Sum.inl a:Key)=Sum.inr b)=false:=decide_eq_false (λq=>nomatch q)
theorem z5x(a:Str)(b:Int):decide ((Sum.inr a:Key)=Sum.inl b)=false:=decide_eq_false (λq=>nomatch q)
def q7c(prog:Program)(w:World):PySem.KeyKind prog w Key where
 is:=z7z
 hash:=keyH w
 inj:=λv a b ha hb=>by
  rcases q0W ha with⟨i,t,rfl,rfl⟩ | ⟨x,t,rfl,rfl⟩
  ·rcases q0W hb with⟨j,u,rfl,e⟩ | ⟨y,u,rfl,e⟩
   ·injection e with e1 _;rw[e1]
   ·exact nomatch e
  ·rcases q0W hb with⟨j,u,rfl,e⟩ | ⟨y,u,rfl,e⟩
   ·exact nomatch e
   ·injection e with e1 _;rw[e1]
 byValue:=λk v h=>by rcases q0W h with⟨i,t,rfl,rfl⟩ | ⟨x,t,rfl,rfl⟩<;>rfl
 pyHash:=λhv h=>by
  rcases q0W hv with⟨i,t,rfl,rfl⟩ | ⟨x,t,rfl,rfl⟩
  ·exact wpAny_pyHash_int h
  ·exact wpAny_pyHash_str h
 eqBool:=λhu hv h=>by
  rcases q0W hu with⟨i,t,rfl,rfl⟩ | ⟨x,t,rfl,rfl⟩
  ·rcases q0W hv with⟨j,u,rfl,rfl⟩ | ⟨y,u,rfl,rfl⟩
   ·rw[z7x]at h;exact wpAny_eqBool_int h
   ·rw[z7v]at h;exact SeqAt.EqAt.int_str i t y u _ _ _ _ h
  ·rcases q0W hv with⟨j,u,rfl,rfl⟩ | ⟨y,u,rfl,rfl⟩
   ·rw[z5x]at h;exact SeqAt.EqAt.str_int x t j u _ _ _ _ h
   ·rw[z7E]at h;exact wpAny_eqBool_str h
 «strs»:=λk x t v h=>by
  rcases q0W h with⟨i,u,rfl,e⟩ | ⟨y,u,rfl,e⟩
  ·exact nomatch e
  ·injection e with e1 _
   subst e1;cases v<;>rfl
end L2
namespace L2
open PySem PySem.Spec PyProof.Rows
inductive V where
 | non | bl (b:Bool) | int (i:Int) | str (x:Str) | byt (b:Array UInt8) | flt (b:UInt64) | ref (a:Addr) | ty (n:String)
 deriving DecidableEq
def RelV:V->Value->Prop
 | .non,u=>u=Value.none
 | .bl b,u=>u=Value.bool b
 | .int i,u=>∃t,u=Value.int i t
 | .str x,u=>∃t,u=Value.str x t
 | .byt b,u=>∃t,u=Value.bytes b t
 | .flt b,u=>∃t,u=Value.float b t
 | .ref a,u=>u=Value.ref a
 | .ty n,u=>u=Value.type n
abbrev Vals:List V->List Value->Prop:=Paired RelV
theorem Vals.length{xs:List V}{us:List Value}(r:Vals xs us):xs.length=us.length:=Paired.length r
theorem Vals.get:∀{xs:List V} {us:List Value} {i:Nat} {x:V},Vals xs us->xs[i]? = some x->∃u,us[i]? = some u/\RelV x u
 | _,_,_,_,.nil,e=>by simp at e
 | _,_,0,_,.cons r _,e=>by simp at e;subst e;exact⟨_,rfl,r⟩
 | _,_,i+1,x,.cons _ t,e=>by obtain⟨u,h1,h2⟩:=Vals.get (i:=i) (x:=x) t (by simpa using e);exact⟨u,by simpa using h1,h2⟩
theorem Vals.append:∀{xs ys:List V} {us ws:List Value},Vals xs us->Vals ys ws->Vals (xs++ys) (us++ws)
 | _,_,_,_,.nil,s=>s
 | _,_,_,_,.cons r t,s=>.cons r (Vals.append t s)
theorem Vals.take:∀{xs:List V} {us:List Value} (n:Nat),Vals xs us->Vals (xs.take n) (us.take n)
 | _,_,0,_=>.nil
 | _,_,_+1,.nil=>.nil
 | _,_,n+1,.cons r t=>.cons r (Vals.take n t)
theorem Vals.drop:∀{xs:List V} {us:List Value} (n:Nat),Vals xs us->Vals (xs.drop n) (us.drop n)
 | _,_,0,r=>r
 | _,_,_+1,.nil=>.nil
 | _,_,n+1,.cons _ t=>Vals.drop n t
def RelO:Option V->Option Value->Prop
 | some v,some u=>RelV v u
 | none,none=>True
 | _,_=>False
def KV{κ:Type}:List (κ×V)->List (κ×Value)->Prop:=Paired λ(p:κ×V) (q:κ×Value)=>p.1=q.1/\RelV p.2 q.2
def kV:Key->V
 | .inl i=>.int i
 | .inr x=>.str x
inductive HO where
 | lst (xs:List V)
 | tup (xs:List V)
 | dK (kvs:List (Key×V)) | dT (kvs:List (List Key×V))
 | set (S:Int->Bool) (n:Nat)
 | ins (C dx:Addr) (fs:List (Str×V))
 | own (x:Addr)
 | xd (fs:List (Str×V))
 | met (f x:Addr)
 | rng (lo hi:Int)
 | frz (o:Obj) (u:HO)
 | tbl (q:Str)
 | ext (φ:Heap->Prop)
abbrev Hp:=Addr->Option HO
def upd(H:Hp)(a:Addr)(o:HO):Hp:=λb=>if b=a then some o else H b
theorem q0v{H:Hp}{a:Addr}{o:HO}:upd H a o a=some o:=by unfold upd;rw[if_pos rfl]
theorem q0j{H:Hp}{a b:Addr}{o:HO}(h:b≠a):upd H a o b=H b:=by unfold upd;rw[if_neg h]
theorem q0u{H:Hp}{a b:Addr}{o:HO}(h:H a=some o)(h':H b=none):a≠b:=by
 intro e;subst e;rw[h]at h';cases h'
def q2V(h:Heap)(a:Addr)(items:Array Value):Prop:=∃o,h.get? a=some o/\(o.cls=.type "tuple" /\ o.dict=none)/\∃n,o.data=.seq items n
theorem q2V.tup{h:Heap}{a items}(x:q2V h a items):IsTup h a items:=let ⟨o,ho,hc,r⟩:=x;⟨o,ho,hc.1,r⟩
theorem q2V.lt{h:Heap}{a items}(x:q2V h a items):a<h.objs.size:=let ⟨_,ho,_⟩:=x;Heap.lt_size ho
theorem q2V.new(h:Heap)(items:Array Value):q2V (h.push {cls:=.type "tuple",data:=.seq items}) h.objs.size items:=⟨_,Heap.get?_push_size _ rfl,⟨rfl,rfl⟩,_,rfl⟩
section
variable (P:Program) (w:World)
def q1J(H:Hp)(h:Heap)(a:Addr):HO->Prop
 | .lst xs=>xs.length<=sizeLine/\∃(its:List Value) (n:Nat),Vals xs its/\h.get? a=some {cls:=.type "list",data:=.seq its.toArray n}
 | .tup xs=>xs.length<=sizeLine/\∃its:List Value,Vals xs its/\q2V h a its.toArray
 | .dK kvs=>kvs.length<=sizeLine/\(a==sysModules)=false/\∃vs,KV kvs vs/\h.DictOf (q7c P w) a vs
 | .dT kvs=>kvs.length<=sizeLine/\(a==sysModules)=false/\∃xs:List (List Key×Addr×Value),
   Paired (λ(p:List Key×V) (q:List Key×Addr×Value)=>p.1=q.1/\H q.2.1=some (.tup (p.1.map kV))/\RelV p.2 q.2.2) kvs xs /\
   ∃o es ep,h.get? a=some o/\o.ExactDict/\o.data=.dict es ep/\es.toList=xs.map (entryOfKey (tupleKind (q7c P w)))/\(xs.map (·.1)).Nodup
 | .set S n=>h.SetOf (intKind P w) a S n
 | .ins C dx fs=>H dx=some (.own a)/\fs.length<=1000/\dx≠a/\h.get? a=some (PySem.W.instObj C dx) /\
   ∃mA,h.Ns1 dx mA/\(∀f,RelO (fs.lookup f) (mA f))/\PySem.Within mA (fs.map (·.1))
 | .own _=>∃o,h.get? a=some o
 | .xd fs=>∃mA,h.Ns1 a mA/\∀f,RelO (fs.lookup f) (mA f)
 | .rng lo hi=>∃t u v,h.get? a=some {cls:=.type "range",data:=.fields #[.int lo t,.int hi u,.int 1 v]}
 | .frz o u=>h.get? a=some o/\q1J H h a u
 | .tbl q=>∃ps:Array Value,h.get? a=some {cls:=.none,data:=.fields ps} /\ TriplesOk ps.toList/\∀pos cv,codeAmong pos ps.toList=some cv->∃c oc u vs t,cv=.ref c/\H c=some (.frz oc u)/\oc.data=.fields vs/\vs[1]? = some (.str q t)
 | .met f x=>h.get? a=some (PySem.W.methodObj (.ref f) (.ref x))
 | .ext φ=>φ h/\(∃o,h.get? a=some o)/\∀h1 h2:Heap,φ h1->(∀o,h1.get? a=some o->h2.get? a=some o)->φ h2
def HOk(H:Hp)(h:Heap):Prop:=∀a o,H a=some o->q1J P w H h a o
end
section
variable {P:Program} {w:World} {H H':Hp} {h h':Heap} {a:Addr} {o:HO}
theorem q1J.lt(x:q1J P w H h a o):a<h.objs.size:=by
 cases o with
 | lst xs=>obtain⟨_,_,_,_,e⟩:=x;exact Heap.lt_size e
 | tup xs=>obtain⟨_,_,_,p⟩:=x;exact p.lt
 | dK kvs=>obtain⟨_,_,_,_,o,_,_,e,_⟩:=x;exact Heap.lt_size e
 | dT kvs=>obtain⟨_,_,_,_,o,_,_,e,_⟩:=x;exact Heap.lt_size e
 | set S n=>obtain⟨o,_,_,_,e,_⟩:=x;exact Heap.lt_size e
 | ins C dx fs=>obtain⟨_,_,_,e,_⟩:=x;exact Heap.lt_size e
 | own y=>obtain⟨_,e⟩:=x;exact Heap.lt_size e
 | xd fs=>obtain⟨_,⟨_,_,_,e,_⟩,_⟩:=x;exact Heap.lt_size e
 | rng lo hi=>obtain⟨_,_,_,e⟩:=x;exact Heap.lt_size e
 | frz ob u=>obtain⟨e,_⟩:=x;exact Heap.lt_size e
 | tbl q=>obtain⟨_,e,_⟩:=x;exact Heap.lt_size e
 | met f y=>exact Heap.lt_size (show h.get? a=some _ from x)
 | ext φ=>obtain⟨_,⟨_,e⟩,_⟩:=x;exact Heap.lt_size e
theorem Paired.mapP{α β:Type}{F G:α->β->Prop}:∀{l₁:List α} {l₂:List β},Paired F l₁ l₂->(∀a b,F a b->G a b)->Paired G l₁ l₂
 | _,_,.nil,_=>.nil
 | _,_,.cons r t,f=>.cons (f _ _ r) (Paired.mapP t f)
theorem q1J.stay(x:q1J P w H h a o)(k:∀b u,(b=a\/H b=some (.own a))->h.get? b=some u->h'.get? b=some u)
  (ho:∀b,H b=some (.own a)->H' b=some (.own a)) (ht:∀b xs,H b=some (.tup xs)->H' b=some (.tup xs)) (hz:∀b o u vs,o.data=.fields vs->H b=some (.frz o u)->H' b=some (.frz o u)):q1J P w H' h' a o:=by
 induction o with
 | lst xs=>obtain⟨z,its,n,r,e⟩:=x;exact⟨z,its,n,r,k _ _ (.inl rfl) e⟩
 | tup xs=>obtain⟨z,its,r,ob,e,c⟩:=x;exact⟨z,its,r,ob,k _ _ (.inl rfl) e,c⟩
 | dK kvs=>obtain⟨z,y,vs,r,ob,es,ep,e,c⟩:=x;exact⟨z,y,vs,r,ob,es,ep,k _ _ (.inl rfl) e,c⟩
 | dT kvs=>
  obtain⟨z,y,xs,r,ob,es,ep,e,c⟩:=x;exact⟨z,y,xs,Paired.mapP r λp q z=>⟨z.1,ht _ _ z.2.1,z.2.2⟩,ob,es,ep,k _ _ (.inl rfl) e,c⟩
 | set S n=>obtain⟨ob,es,ep,t,e,c⟩:=x;exact⟨ob,es,ep,t,k _ _ (.inl rfl) e,c⟩
 | ins C dx fs=>
  obtain⟨d,z,ne,e,mA,⟨od,es,ep,e2,c⟩,r⟩:=x;exact⟨ho _ d,z,ne,k _ _ (.inl rfl) e,mA,⟨od,es,ep,k _ _ (.inr d) e2,c⟩,r⟩
 | own y=>obtain⟨ob,e⟩:=x;exact⟨ob,k _ _ (.inl rfl) e⟩
 | xd fs=>obtain⟨mA,⟨od,es,ep,e,c⟩,r⟩:=x;exact⟨mA,⟨od,es,ep,k _ _ (.inl rfl) e,c⟩,r⟩
 | rng lo hi=>obtain⟨t,u,v,e⟩:=x;exact⟨t,u,v,k _ _ (.inl rfl) e⟩
 | frz ob u ih=>obtain⟨e,q⟩:=x;exact⟨k _ _ (.inl rfl) e,ih q⟩
 | tbl q=>
  obtain⟨ps,e,t,f⟩:=x;refine⟨ps,k a _ (.inl rfl) e,t,λpos cv z=>?_⟩;obtain⟨c,oc,u,vs,t',e1,e2,e3,e4⟩:=f pos cv z;exact⟨c,oc,u,vs,t',e1,hz _ _ _ _ e3 e2,e3,e4⟩
 | met f y=>
  have e:h.get? a=some (PySem.W.methodObj (.ref f) (.ref y)):=x;show h'.get? a=some (PySem.W.methodObj (.ref f) (.ref y));exact k a _ (.inl rfl) e
 | ext φ=>obtain⟨p,⟨o,e⟩,st⟩:=x;exact⟨st _ _ p λo q=>k _ _ (.inl rfl) q,⟨o,k _ _ (.inl rfl) e⟩,st⟩
theorem HOk.lt(x:HOk P w H h)(e:H a=some o):a<h.objs.size:=(x a o e).lt
theorem HOk.fresh(x:HOk P w H h)(e:h.objs.size<=a):H a=none:=by
 cases q:H a with
 | none=>rfl
 | some u=>exact absurd (Nat.lt_of_lt_of_le (x.lt q) e) (Nat.lt_irrefl _)
theorem HOk.kept(x:HOk P w H h)(k:∀b u,h.get? b=some u->h'.get? b=some u):HOk P w H h':=λa o e=>
 (x a o e).stay (λb u _ q=>k b u q) (λ_ q=>q) (λ_ _ q=>q) λ_ _ _ _ _ q=>q
theorem HOk.laid(x:HOk P w H h)(k:∀b u,h.get? b=some u->h'.get? b=some u)(hp:h.objs.size<=a)(new:q1J P w (upd H a o) h' a o):HOk P w (upd H a o) h':=λb u e=>by
 have hn:=x.fresh hp;by_cases hb:b=a
 ·subst hb;rw[q0v]at e;cases e;exact new
 ·rw[q0j hb]at e;exact(x b u e).stay (λc v _ q=>k c v q) (λc q=>by rw[q0j (q0u q hn)];exact q) (λc xs q=>by rw[q0j (q0u q hn)];exact q) λc _ _ _ _ q=>by rw[q0j (q0u q hn)];exact q
end
def Rd(H:Hp)(a:Addr)(u:HO):Prop:=H a=some u\/∃o,H a=some (.frz o u)
theorem Rd.ok{P:Program}{w:World}{H:Hp}{h:Heap}{a:Addr}{u:HO}(r:Rd H a u)(x:HOk P w H h):q1J P w H h a u:=by
 rcases r with r | ⟨o,r⟩
 ·exact x a u r
 ·obtain⟨_,q⟩:=x a _ r;exact q
def Mut:Option HO->Prop
 | some (.lst _)=>True
 | some (.dK _)=>True
 | some (.dT _)=>True
 | some (.set _ _)=>True
 | some (.ins _ _ _)=>True
 | some (.ext _)=>True
 | _=>False
section
variable {P:Program} {w:World} {H:Hp} {h h':Heap} {x e:Addr} {o':HO}
theorem HOk.write(ok:HOk P w H h)(mu:Mut (H x))(he:e=x\/H e=some (.own x))(k:∀b u,b≠e->h.get? b=some u->h'.get? b=some u)(heo:∃u,h'.get? e=some u)
  (new:q1J P w (upd H x o') h' x o'):HOk P w (upd H x o') h':=λb u q=>by
 have nown:∀c y,H c=some (.own y)->c≠x:=λc y r z=>by subst z;rw[r]at mu;exact mu
 have ntup:∀c xs,H c=some (.tup xs)->c≠x:=λc xs r z=>by subst z;rw[r]at mu;exact mu
 by_cases hb:b=x
 ·subst hb;rw[q0v]at q;cases q;exact new
 ·rw[q0j hb]at q;by_cases hbe:b=e
  ·have q':H b=some (.own x):=by
    rcases he with z | z
    ·exact absurd (hbe.trans z) hb
    ·rw[hbe];exact z
   rw[q]at q';cases q';obtain⟨v,hv⟩:=heo;exact⟨v,by rw[hbe];exact hv⟩
  ·refine(ok b u q).stay (λc v hc r=>k c v ?_ r) (λc r=>by rw[q0j (nown c b r)];exact r) (λc xs r=>by rw[q0j (ntup c xs r)];exact r) λc o v _ _ r=>by rw[q0j λz=>by subst z;rw[r]at mu;exact mu];exact r
   rcases hc with rfl | hc
   ·exact hbe
   ·rintro rfl
    rcases he with z | z
    ·exact nown c b hc z
    ·rw[hc]at z;cases z;exact hb rfl
end
structure Un(fs ex:List Addr)(H H':Hp)(h h':Heap):Prop where
 keep:∀b o,h.get? b=some o->H b=none->b∉fs->b∉ex->h'.get? b=some o
 slot:∀b o,h.get? b=some o->H b=none->b∈fs->b∉ex->∃sl,h'.get? b=some {o with slots:=sl}
 free:∀b o,h.get? b=some o->H b=none->b∉ex->H' b=none
 there:∀b o,h.get? b=some o->b∉ex->∃o',h'.get? b=some o'
 tups:∀b xs,H b=some (.tup xs)->H' b=some (.tup xs)
 frzs:∀b o u,H b=some (.frz o u)->H' b=some (.frz o u)
 tbls:∀b q,H b=some (.tbl q)->H' b=some (.tbl q)
section
variable {fs fs' ex ex':List Addr} {H H1 H2:Hp} {h h1 h2 h':Heap} {a x e:Addr} {o:HO}
theorem Un.any(u:Un fs ex H H1 h h1){b:Addr}{ob:Obj}(q:h.get? b=some ob)(n:H b=none)(hx:b∉ex):∃sl,h1.get? b=some {ob with slots:=sl}:=by
 by_cases hb:b∈fs
 ·exact u.slot b ob q n hb hx
 ·exact⟨ob.slots,u.keep b ob q n hb hx⟩
theorem Un.kept(k:∀b u,h.get? b=some u->h'.get? b=some u):Un fs ex H H h h':=
 ⟨λb ob q _ _ _=>k b ob q,λb ob q _ _ _=>⟨ob.slots,k b ob q⟩,λ_ _ _ n _=>n,λb ob q _=>⟨ob,k b ob q⟩,λ_ _ q=>q,λ_ _ _ q=>q,λ_ _ q=>q⟩
theorem Un.refl:Un fs ex H H h h:=Un.kept λ_ _ q=>q
theorem Un.laid(k:∀b u,h.get? b=some u->h'.get? b=some u)(hp:h.objs.size<=a)(hn:H a=none):Un fs ex H (upd H a o) h h' where
 keep:=λb u q _ _ _=>k b u q
 slot:=λb u q _ _ _=>⟨u.slots,k b u q⟩
 free:=λb u q n _=>by rw[q0j (Nat.ne_of_lt (Nat.lt_of_lt_of_le (Heap.lt_size q) hp))];exact n
 there:=λb u q _=>⟨u,k b u q⟩
 tups:=λb xs q=>by rw[q0j (q0u q hn)];exact q
 frzs:=λb u xs q=>by rw[q0j (q0u q hn)];exact q
 tbls:=λb ps q=>by rw[q0j (q0u q hn)];exact q
theorem Un.write(mu:Mut (H x))(he:e=x\/H e=some (.own x))(k:∀b u,b≠e->h.get? b=some u->h'.get? b=some u)(heo:∃u,h'.get? e=some u):Un fs ex H (upd H x o) h h':=by
 have hx:∀b,H b=none->b≠x:=λb n z=>by subst z;rw[n]at mu;exact mu
 have hb:∀b,H b=none->b≠e:=λb n z=>by
  subst z;rcases he with r | r
  ·exact hx b n r
  ·rw[n]at r;cases r
 have hm:∀b u,H b=some u->¬Mut (some u)->b≠x:=λb u q nm z=>by subst z;rw[q]at mu;exact nm mu
 refine⟨λb u q n _ _=>k b u (hb b n) q,λb u q n _ _=>⟨u.slots,k b u (hb b n) q⟩,λb u q n _=>by rw[q0j (hx b n)];exact n,λb u q _=>?_,
  λb xs q=>by rw[q0j (hm b _ q λz=>z)];exact q,λb u xs q=>by rw[q0j (hm b _ q λz=>z)];exact q,λb ps q=>by rw[q0j (hm b _ q λz=>z)];exact q⟩
 by_cases hbe:b=e
 ·subst hbe;exact heo
 ·exact⟨u,k b u hbe q⟩
end
def trk(h:Heap)(H:Hp):List Addr:=(List.range h.objs.size).filter λa=>(H a).isSome
def hidT(h:Heap)(H:Hp):Heap:=PySem.W.hideAll h (trk h H)
theorem q9s(h:Heap)(H:Hp):(hidT h H).objs.size=h.objs.size:=PySem.W.hideAll_size _ _
theorem z1I{h:Heap}{H:Hp}{b:Addr}{o:Obj}(e:h.get? b=some o)(n:H b=none):(hidT h H).get? b=some o:=
 PySem.W.hideAll_get _ e λhm=>by have q:(H b).isSome=true:=(List.mem_filter.mp hm).2;rw[n]at q;simp at q
theorem z3v{h:Heap}{H:Hp}{b:Addr}{o:Obj}(e:(hidT h H).get? b=some o):h.get? b=some o/\H b=none:=by
 have e':h.get? b=some o:=PySem.W.of_hideAll (trk h H) e;refine⟨e',?_⟩;cases q:H b with
 | none=>rfl
 | some x=>
  have hm:b∈trk h H:=List.mem_filter.mpr ⟨List.mem_range.mpr (Heap.lt_size e'),by simp[q]⟩;have z:(hidT h H).get? b=none:=PySem.W.hideAll_none (trk h H) hm;rw[z]at e;cases e
def z4Z(g h:Heap)(L:Addr):List (Addr×Obj):=(List.range h.objs.size).filterMap λa=>if a=L\/(g.get? a).isSome=true then none else(h.get? a).map λo=>(a,o)
def rest(g h:Heap)(L d:Addr):List (Addr×Obj):=(z4Z g h L).filter λp=>decide (p.1≠d)
end L2
namespace L2
open PySem PySem.Spec PyProof.Rows
structure Mod(K:PySem.W.Frag)(mg:Str->Option Value)(base:Heap):Prop where
 kin:K.In base
 glob:base.Ns mainGlobals mg
 blt:∃mb,base.Ns builtinsNs mb/\∀x:Str,x ≠ "__name__" -> mb x=bootBuiltins x
 nolimit:base.NoLimit
 bmod:∃bm ob,mg "__builtins__" = some (.ref bm)/\bm≠builtinsNs/\base.get? bm=some ob/\ob.cls=.type "module" /\ ob.dict=some builtinsNs/\ob.data=.plain
structure Cx where
 prog:Program
 w:World
 K:PySem.W.Frag
 mg:Str->Option Value
 base:Heap
 A:Around
 N:List Str
 s₀:Shared
 H₀:Hp
 env:Env
 outer:List Env
 stack:List Env
 ex:List Addr
 fn:Str->Bool
 calm:Bool
 pn:List (Addr×Obj)
 xe:Value->Shared->Prop
def q0Y(K:PySem.W.Frag):List (Addr×Str):=K.filterMap λp=>match p.2.cls,p.2.data with
 | .type "code",.fields vs=>(match(vs[11]?:Option Value),(vs[1]?:Option Value)with
  | some (.ref P),some (.str q _)=>if(K.lookup P).isNone then some (P,q ++ ".<locals>." ++ "<lambda>")else none
  | _,_=>none)
 | _,_=>none
def q6x(K:PySem.W.Frag)(H:Hp):Prop:=∀p∈q0Y K,H p.1=some (.tbl p.2)
def frs(l:List Env):List Addr:=l.filterMap (·.frame)
abbrev Cx.fs(X:Cx):List Addr:=frs X.outer
def Vis(sc:Scope)(x:Str):Prop:=sc.names.lookup x=some .local\/sc.names.lookup x=some .cell\/sc.names.lookup x=some .free
def Loc(sc:Scope)(x:Str):Prop:=sc.names.lookup x=some .local\/sc.names.lookup x=some .cell
def Look(env:Env)(h:Heap)(m:Str->Option Value)(x:Str)(u:Value):Prop:=
 (env.kindOf x=some .local/\m x=some u)\/((env.kindOf x=some .cell\/env.kindOf x=some .free)/\∃c,env.cells.lookup x=some c/\h.IsCell c (some u))
structure Cx.Ok(X:Cx):Prop where
 mod:Mod X.K X.mg X.base
 kind:X.env.scope.kind=.function
 glob:X.env.globals=mainGlobals
 blt:X.env.builtins=builtinsNs
 above:X.s₀.heap.objs.size<=X.env.locals
 inj:∀x y c,X.env.cells.lookup x=some c->X.env.cells.lookup y=some c->x=y
 has:∀x,(X.env.kindOf x=some .cell\/X.env.kindOf x=some .free)->∃c,X.env.cells.lookup x=some c
 cab:∀x c,X.fn x=true->X.env.cells.lookup x=some c->X.s₀.heap.objs.size<=c
 hd:X.calm=true->X.A.handled=none
 frames:X.A.frames=some X.stack
 stk:X.stack=X.outer\/(X.stack=X.env::X.outer/\X.env.frame=some X.env.locals)
 exf:∀b∈X.ex,b≠X.env.locals/\∀x c,X.env.cells.lookup x=some c->c≠b
 bs:∀b o,X.base.get? b=some o->X.s₀.heap.get? b=some o/\X.H₀ b=none
 bsz:X.base.objs.size<=X.s₀.heap.objs.size
 noex:∀b o,X.base.get? b=some o->b∉X.ex
 exfs:∀b∈X.ex,b∉X.fs
 funs:X.s₀.heap.FunFrames X.base X.outer
 frf:(∀b∈X.fs,X.H₀ b=none)/\q6x X.K X.H₀
structure Inv(X:Cx)(pins:List (Addr×Obj))(σ:List (Option V))(H:Hp)(s:Shared):Prop where
 ok:X.Ok
 os:s.os=X.s₀.os
 bare:AllBare s.gens
 base:Un X.fs X.ex X.H₀ H X.s₀.heap s.heap
 loc:∃m,s.heap.Ns X.env.locals m/\∀(i:Nat) (x:Str) (v:V),X.N[i]? = some x->σ[i]? = some (some v)->Vis X.env.scope x->∃u,RelV v u/\Look X.env s.heap m x u
 cell:∀x c,X.env.cells.lookup x=some c->∃v,s.heap.IsCell c v
 free:H X.env.locals=none
 freeC:∀x c,X.env.cells.lookup x=some c->H c=none
 pin:∀p∈X.pn++pins,s.heap.get? p.1=some p.2/\H p.1=none/\p.1≠X.env.locals/\p.1∉X.fs/\∀v,p.2.data ≠ .cell v
 hok:HOk X.prog X.w H s.heap
 len:σ.length=X.N.length
section
variable {X:Cx} {pins:List (Addr×Obj)} {σ:List (Option V)} {H H':Hp} {s:Shared} {h':Heap}
theorem Cx.Ok.nofr(ok:X.Ok){b:Addr}{o:Obj}(e:X.base.get? b=some o):b∉X.fs:=λhb=>by
 have:=(ok.funs.mem hb).1;rw[e]at this;cases this
theorem Inv.bs(I:Inv X pins σ H s):∀b o,X.base.get? b=some o->s.heap.get? b=some o/\H b=none:=λb o e=>
 ⟨I.base.keep b o (I.ok.bs b o e).1 (I.ok.bs b o e).2 (I.ok.nofr e) (I.ok.noex b o e),I.base.free b o (I.ok.bs b o e).1 (I.ok.bs b o e).2 (I.ok.noex b o e)⟩
theorem Inv.bk(I:Inv X pins σ H s):∀b o,X.base.get? b=some o->s.heap.get? b=some o:=λb o e=>(I.bs b o e).1
theorem Inv.mod(I:Inv X pins σ H s):Mod X.K X.mg X.base:=I.ok.mod
theorem Inv.tabs(I:Inv X pins σ H s):q6x X.K H:=λp hp=>I.base.tbls p.1 p.2 (I.ok.frf.2 p hp)
theorem Inv.kIn(I:Inv X pins σ H s):X.K.In s.heap:=I.ok.mod.kin.keeps I.bk
theorem Inv.lt(I:Inv X pins σ H s):X.env.locals<s.heap.objs.size:=let ⟨_,hn,_⟩:=I.loc;hn.lt
theorem Inv.sz(I:Inv X pins σ H s):X.s₀.heap.objs.size<=s.heap.objs.size:=Nat.le_trans I.ok.above (Nat.le_of_lt I.lt)
theorem Inv.nofs(I:Inv X pins σ H s){a:Addr}(h:s.heap.objs.size<=a):a∉X.fs:=λhb=>by
 obtain⟨_,o,ho,_⟩:=I.ok.funs.mem hb
 exact absurd (Nat.lt_of_lt_of_le (Heap.lt_size ho) (Nat.le_trans I.sz h)) (Nat.lt_irrefl _)
theorem Inv.cne(I:Inv X pins σ H s):∀x c,X.env.cells.lookup x=some c->c≠X.env.locals:=λx c e z=>by
 obtain⟨v,o,ho,hd⟩:=I.cell x c e;obtain⟨m,⟨o',es,ep,ho',hd',_⟩,_⟩:=I.loc;rw[z,ho']at ho;cases ho;rw[hd']at hd;cases hd
theorem Inv.funs(I:Inv X pins σ H s):s.heap.FunFrames X.base X.outer:=by
 have all:∀(l:List Env),(∀b∈frs l,b∈X.fs)->X.s₀.heap.FunFrames X.base l->s.heap.FunFrames X.base l:=by
  intro l
  induction l with
  | nil=>intro _ _;trivial
  | cons env r ih=>
   intro hs hl;obtain⟨hk,⟨L,o,hf,hn,ho,hd⟩,hr⟩:=hl;have hL:L∈X.fs:=hs L (by unfold frs;rw[List.filterMap_cons,hf];exact List.mem_cons_self);obtain⟨sl,e⟩:=I.base.slot L o ho (I.ok.frf.1 L hL) hL λz=>I.ok.exfs L z hL
   exact⟨hk,⟨L,_,hf,hn,e,hd⟩,ih (λb hb=>hs b (by unfold frs;rw[List.filterMap_cons,hf];exact List.mem_cons_of_mem _ hb)) hr⟩
 exact all X.outer (λ_ hb=>hb) I.ok.funs
theorem Inv.stack(I:Inv X pins σ H s):s.heap.FunFrames X.base X.stack:=by
 rcases I.ok.stk with e | ⟨e,hf⟩
 ·rw[e];exact I.funs
 ·rw[e];obtain⟨m,hn,_⟩:=I.loc;refine .cons (by rw[I.ok.kind];decide) hf hn ?_ I.funs
  exact Heap.get?_none_of_le (Nat.le_trans I.ok.bsz I.ok.above)
theorem Inv.stkSub(I:Inv X pins σ H s):∀b∈frs X.stack,b∈X.env.locals::X.fs:=λb hb=>by
 rcases I.ok.stk with e | ⟨e,hf⟩
 ·rw[e]at hb;exact List.mem_cons_of_mem _ hb
 ·rw[e]at hb;unfold frs at hb;rw[List.filterMap_cons,hf]at hb;exact hb
theorem Inv.stkFree(I:Inv X pins σ H s):∀b∈frs X.stack,H b=none:=λb hb=>by
 rcases List.mem_cons.mp (I.stkSub b hb)with e | hb
 ·rw[e];exact I.free
 ·obtain⟨_,o,ho,_⟩:=I.ok.funs.mem hb
  exact I.base.free b o ho (I.ok.frf.1 b hb) λz=>I.ok.exfs b z hb
theorem Inv.step{g':Array GenState}{t':Nat}{d':Drawn}{ch:List Addr}(I:Inv X pins σ H s)
  (hch:∀b∈ch,(b∈X.ex\/X.s₀.heap.objs.size<=b)/\b≠X.env.locals/\(∀x c,X.env.cells.lookup x=some c->c≠b)/\∀p∈X.pn++pins,p.1≠b)
  (keep:∀b o,b≠X.env.locals->b∉X.fs->b∉ch->s.heap.get? b=some o->H b=none->h'.get? b=some o)
  (slot:∀b o,b≠X.env.locals->b∈X.fs->b∉ch->s.heap.get? b=some o->H b=none->∃sl,h'.get? b=some {o with slots:=sl}) (free:∀b o,b∉ch->s.heap.get? b=some o->H b=none->H' b=none)
  (there:∀b o,b∉ch->s.heap.get? b=some o->∃o',h'.get? b=some o')
  (tups:∀b xs,H b=some (.tup xs)->H' b=some (.tup xs)) (frzs:∀b o u,H b=some (.frz o u)->H' b=some (.frz o u)) (tbls:∀b q,H b=some (.tbl q)->H' b=some (.tbl q))
  (ns:∀m,s.heap.Ns X.env.locals m->h'.Ns X.env.locals m) (hok:HOk X.prog X.w H' h') (hg:AllBare g') :
  Inv X pins σ H' {s with heap:=h',gens:=g',drawn:=d',toks:=t'}:=by
 have neL:∀b o,X.s₀.heap.get? b=some o->b≠X.env.locals:=λb o e=>Nat.ne_of_lt (Nat.lt_of_lt_of_le (Heap.lt_size e) I.ok.above);have neC:∀b o,X.s₀.heap.get? b=some o->b∉X.ex->b∉ch:=λb o e hx hb=>by
  rcases(hch b hb).1 with z | z
  ·exact hx z
  ·exact absurd (Nat.lt_of_lt_of_le (Heap.lt_size e) z) (Nat.lt_irrefl _)
 have cellK:∀x c,X.env.cells.lookup x=some c->∀v,s.heap.IsCell c v->h'.IsCell c v:=λx c e v ⟨o,ho,hd⟩=>by
  have nch:c∉ch:=λz=>(hch c z).2.2.1 x c e rfl;by_cases hc:c∈X.fs
  ·obtain⟨sl,q⟩:=slot c o (I.cne x c e) hc nch ho (I.freeC x c e);exact⟨_,q,hd⟩
  ·exact⟨o,keep c o (I.cne x c e) hc nch ho (I.freeC x c e),hd⟩
 refine⟨I.ok,I.os,hg,⟨λb o e n hb hx=>?_,λb o e n hb hx=>?_,λb o e n hx=>?_,λb o e hx=>?_,λb xs e=>tups b xs (I.base.tups b xs e),λb o xs e=>frzs b o xs (I.base.frzs b o xs e),λb ps e=>?_⟩,?_,λx c e=>?_,?_,λx c e=>?_,λp hp=>?_,hok,I.len⟩
 ·exact keep b o (neL b o e) hb (neC b o e hx) (I.base.keep b o e n hb hx) (I.base.free b o e n hx)
 ·obtain⟨sl,e1⟩:=I.base.slot b o e n hb hx;obtain⟨sl',e2⟩:=slot b _ (neL b o e) hb (neC b o e hx) e1 (I.base.free b o e n hx);exact⟨sl',e2⟩
 ·obtain⟨o',e1⟩:=I.base.there b o e hx;exact free b o' (neC b o e hx) e1 (I.base.free b o e n hx)
 ·obtain⟨o',e1⟩:=I.base.there b o e hx;exact there b o' (neC b o e hx) e1
 ·exact tbls b ps (I.base.tbls b ps e)
 ·obtain⟨m,hn,hl⟩:=I.loc;refine⟨m,ns m hn,λi x v e1 e2 e3=>?_⟩;obtain⟨u,r,l⟩:=hl i x v e1 e2 e3;refine⟨u,r,?_⟩;rcases l with l | ⟨k,c,e,z⟩
  ·exact .inl l
  ·exact .inr ⟨k,c,e,cellK x c e _ z⟩
 ·obtain⟨v,z⟩:=I.cell x c e;exact⟨v,cellK x c e v z⟩
 ·obtain⟨m,⟨o,_,_,ho,_⟩,_⟩:=I.loc;exact free _ o (λz=>(hch _ z).2.1 rfl) ho I.free
 ·obtain⟨v,o,ho,hd⟩:=I.cell x c e;exact free c o (λz=>(hch c z).2.2.1 x c e rfl) ho (I.freeC x c e)
 ·obtain⟨e,n,ne,nf,d⟩:=I.pin p hp;have nch:p.1∉ch:=λz=>(hch p.1 z).2.2.2 p hp rfl
  exact⟨keep p.1 p.2 ne nf nch e n,free p.1 p.2 nch e n,ne,nf,d⟩
theorem Inv.un{t':Nat}(I:Inv X pins σ H s)(u:Un X.fs [] H H' s.heap h')(hok:HOk X.prog X.w H' h'):Inv X pins σ H' {s with heap:=h',toks:=t'}:=by
 obtain⟨m,⟨o,es,ep,ho,r⟩,_⟩:=id I.loc;obtain⟨sl,hL⟩:=u.any ho I.free (by simp);exact I.step (g':=s.gens) (d':=s.drawn) (ch:=[]) (λ_ z=>nomatch z) (λb o _ hb _ e n=>u.keep b o e n hb (by simp)) (λb o _ hb _ e n=>u.slot b o e n hb (by simp)) (λb o _ e n=>u.free b o e n (by simp)) (λb o _ e=>u.there b o e (by simp)) u.tups u.frzs u.tbls (λm' hm=>by
  obtain⟨o',es',ep',ho',r'⟩:=hm;rw[ho]at ho';cases ho';exact⟨_,es',ep',hL,r'⟩) hok I.bare
theorem Inv.call{g':Array GenState}{t':Nat}{d':Drawn}{ch:List Addr}(I:Inv X pins σ H s)(u:Un (frs X.stack) ch H H' s.heap h')(hok:HOk X.prog X.w H' h')(hg:AllBare g')
  (hch:∀b∈ch,(b∈X.ex\/X.s₀.heap.objs.size<=b)/\b≠X.env.locals/\(∀x c,X.env.cells.lookup x=some c->c≠b)/\∀p∈X.pn++pins,p.1≠b) :
  Inv X pins σ H' {s with heap:=h',gens:=g',drawn:=d',toks:=t'}:=by
 obtain⟨m,⟨o,es,ep,ho,r⟩,_⟩:=id I.loc;obtain⟨sl,hL⟩:=u.any ho I.free λz=>(hch _ z).2.1 rfl
 exact I.step (ch:=ch) hch (λb o hL hb hc e n=>u.keep b o e n (λz=>(List.mem_cons.mp (I.stkSub b z)).elim hL hb) hc) (λb o _ _ hc e n=>u.any e n hc) (λb o hc e n=>u.free b o e n hc) (λb o hc e=>u.there b o e hc) u.tups u.frzs u.tbls (λm' hm=>by
  obtain⟨o',es',ep',ho',r'⟩:=hm;rw[ho]at ho';cases ho';exact⟨_,es',ep',hL,r'⟩) hok hg
theorem Inv.turned{t':Nat}{it:Addr}(I:Inv X pins σ H s)(k:∀b o,b≠it->s.heap.get? b=some o->h'.get? b=some o)(hn:H it=none)(hL:it≠X.env.locals)
  (h1:it∈X.ex\/X.s₀.heap.objs.size<=it) (h2:∀x c,X.env.cells.lookup x=some c->c≠it) (h3:∀p∈X.pn++pins,p.1≠it):Inv X pins σ H {s with heap:=h',toks:=t'}:=by
 have nit:∀b u,H b=some u->b≠it:=λb u e z=>by rw[z,hn]at e;cases e
 refine I.step (g':=s.gens) (d':=s.drawn) (ch:=[it]) (λb hb=>?_) (λb o _ _ hc e _=>k b o (λz=>hc (by simp[z])) e) (λb o _ _ hc e _=>⟨o.slots,k b o (λz=>hc (by simp[z])) e⟩) (λ_ _ _ _ n=>n)
  (λb o hc e=>⟨o,k b o (λz=>hc (by simp[z])) e⟩) (λ_ _ e=>e) (λ_ _ _ e=>e) (λ_ _ e=>e) (λm hm=>?_) (λb u e=>?_) I.bare
 ·have e:b=it:=by simpa using hb
  subst e;exact⟨h1,hL,h2,h3⟩
 ·obtain⟨o,es,ep,ho,r⟩:=hm;exact⟨o,es,ep,k _ o (Ne.symm hL) ho,r⟩
 ·refine(I.hok b u e).stay (λc v hc q=>k c v ?_ q) (λ_ q=>q) (λ_ _ q=>q) λ_ _ _ _ _ q=>q;rcases hc with z | z
  ·rw[z];exact nit b u e
  ·exact nit c _ z
theorem Inv.tok(I:Inv X pins σ H s)(t:Nat):Inv X pins σ H {s with toks:=t}:=I.un (h':=s.heap) (t':=t) Un.refl I.hok
theorem Inv.kept{t':Nat}(I:Inv X pins σ H s)(k:∀b u,s.heap.get? b=some u->h'.get? b=some u):Inv X pins σ H {s with heap:=h',toks:=t'}:=I.un (Un.kept k) (I.hok.kept k)
theorem Inv.laid{a:Addr}{o:HO}{t':Nat}(I:Inv X pins σ H s)(k:∀b u,s.heap.get? b=some u->h'.get? b=some u)(hp:s.heap.objs.size<=a)(new:q1J X.prog X.w (upd H a o) h' a o) :
  Inv X pins σ (upd H a o) {s with heap:=h',toks:=t'}:=I.un (Un.laid k hp (I.hok.fresh hp)) (I.hok.laid k hp new)
theorem Inv.write{x e:Addr}{o:HO}{t':Nat}(I:Inv X pins σ H s)(mu:Mut (H x))(he:e=x\/H e=some (.own x))(k:∀b u,b≠e->s.heap.get? b=some u->h'.get? b=some u)(heo:∃u,h'.get? e=some u)
  (new:q1J X.prog X.w (upd H x o) h' x o):Inv X pins σ (upd H x o) {s with heap:=h',toks:=t'}:=I.un (Un.write mu he k heo) (I.hok.write mu he k heo new)
theorem Inv.pins_of{pins':List (Addr×Obj)}(I:Inv X pins σ H s)(h:∀p∈pins',s.heap.get? p.1=some p.2/\H p.1=none/\p.1≠X.env.locals/\p.1∉X.fs/\∀v,p.2.data ≠ .cell v):Inv X pins' σ H s:=
 ⟨I.ok,I.os,I.bare,I.base,I.loc,I.cell,I.free,I.freeC,λp hp=>(List.mem_append.mp hp).elim (λz=>I.pin p (List.mem_append_left _ z)) (h p),I.hok,I.len⟩
theorem q4f{N:List Str}(hN:N.Nodup){i j:Nat}{x:Str}(a:N[i]? = some x)(b:N[j]? = some x):i=j:=by
 obtain⟨h1,e1⟩:=List.getElem?_eq_some_iff.mp a;obtain⟨h2,e2⟩:=List.getElem?_eq_some_iff.mp b;exact(List.getElem_inj hN).mp (e1.trans e2.symm)
theorem q6g{M:Model}{A:Around}{E:Value->Shared->Prop}{i:Nat}{x:Str}{v:V}{u:Value}{Q:Unit->Shared->Prop}(I:Inv X pins σ H s)(hN:X.N.Nodup)(hi:X.N[i]? = some x)(hx:Loc X.env.scope x)(r:RelV v u)
  (h:∀s',Inv X pins (σ.set i (some v)) H s'->(∃a,Heap.SameBut a s.heap s'.heap/\(a=X.env.locals\/X.env.cells.lookup x=some a))->Q () s') (hf:X.fn x=true\/X.env.scope.names.lookup x=some .local:=by first | exact .inl rfl | exact .inr rfl | assumption):wpAny M A (storeName X.env x u) Q E s:=by
 obtain⟨m,hn,hl⟩:=id I.loc;have hcls:(X.env.scope.kind == .class||(X.env.scope.kind == .module&&X.env.locals != X.env.globals))=false:=by rw[I.ok.kind];rfl
 have hiσ:i<σ.length:=by rw[I.len];exact(List.getElem?_eq_some_iff.mp hi).1
 have cne:=I.cne;have tracked:∀{a:Addr} {h':Heap},(∃o,s.heap.get? a=some o/\H a=none)->Heap.SameBut a s.heap h'->HOk X.prog X.w H h':=λ{a h'} ha hs b ob e=>by
  obtain⟨_,_,hfree⟩:=ha;refine(I.hok b ob e).stay (λc w' hc q=>(hs.2 c ?_).trans q) (λ_ q=>q) (λ_ _ q=>q) λ_ _ _ _ _ q=>q
  rintro rfl
  rcases hc with rfl | hc
  ·rw[hfree]at e;cases e
  ·rw[hfree]at hc;cases hc
 rcases hx with hk | hk
 ·refine wpAny_storeName_local hk hn (λh' hn' hs=>?_) hcls;obtain⟨oL,_,_,hoL,_⟩:=id hn;refine h _ ⟨I.ok,I.os,I.bare,⟨λb o e n hb hx=>?_,λb o e n hb hx=>?_,I.base.free,λb o e hx=>?_,I.base.tups,I.base.frzs,I.base.tbls⟩,⟨_,hn',λj y v' e1 e2 e3=>?_⟩,λy c e=>?_,I.free,I.freeC,λp hp=>?_,tracked ⟨oL,hoL,I.free⟩ hs,by simpa using I.len⟩ ⟨_,hs,.inl rfl⟩
  ·exact(hs.2 b (Nat.ne_of_lt (Nat.lt_of_lt_of_le (Heap.lt_size e) I.ok.above))).trans (I.base.keep b o e n hb hx)
  ·obtain⟨sl,e1⟩:=I.base.slot b o e n hb hx;exact⟨sl,(hs.2 b (Nat.ne_of_lt (Nat.lt_of_lt_of_le (Heap.lt_size e) I.ok.above))).trans e1⟩
  ·obtain⟨o',e1⟩:=I.base.there b o e hx;exact⟨o',(hs.2 b (Nat.ne_of_lt (Nat.lt_of_lt_of_le (Heap.lt_size e) I.ok.above))).trans e1⟩
  ·by_cases hj:j=i
   ·subst hj;rw[hi]at e1;cases e1;rw[List.getElem?_set_self hiσ]at e2;cases e2;exact⟨u,r,.inl ⟨hk,by simp⟩⟩
   ·rw[List.getElem?_set_ne (Ne.symm hj)]at e2;obtain⟨u',r',q⟩:=hl j y v' e1 e2 e3;refine⟨u',r',?_⟩;rcases q with⟨k,e⟩ | ⟨k,c,e,z⟩
    ·refine .inl ⟨k,?_⟩;have:y≠x:=λe=>hj (q4f hN e1 (e▸hi));simp[this,e]
    ·exact .inr ⟨k,c,e,z.sameBut hs (cne y c e)⟩
  ·obtain⟨w',z⟩:=I.cell y c e;exact⟨w',z.sameBut hs (cne y c e)⟩
  ·obtain⟨e,n,ne,nf,d⟩:=I.pin p hp;exact⟨(hs.2 p.1 ne).trans e,n,ne,nf,d⟩
 ·have hfn:X.fn x=true:=by
   rcases hf with z | z
   ·exact z
   ·rw[z]at hk;cases hk
  obtain⟨c,hc⟩:=I.ok.has x (.inl hk);obtain⟨w',z⟩:=I.cell x c hc;refine wpAny_storeName_cell I.ok.kind hk hc z (λh' hc' hs=>?_);obtain⟨oc,hoc,hocd⟩:=id z;refine h {s with heap:=h'} ⟨I.ok,I.os,I.bare,⟨λb o e n hb hx=>?_,λb o e n hb hx=>?_,I.base.free,λb o e hx=>?_,I.base.tups,I.base.frzs,I.base.tbls⟩,⟨m,hn.sameBut hs (Ne.symm (cne x c hc)),λj y v' e1 e2 e3=>?_⟩,λy c' e=>?_,I.free,I.freeC,λp hp=>?_,tracked ⟨oc,hoc,I.freeC x c hc⟩ hs,by simpa using I.len⟩ ⟨c,hs,.inr hc⟩
  ·exact(hs.2 b (Nat.ne_of_lt (Nat.lt_of_lt_of_le (Heap.lt_size e) (I.ok.cab x c hfn hc)))).trans (I.base.keep b o e n hb hx)
  ·obtain⟨sl,e1⟩:=I.base.slot b o e n hb hx;exact⟨sl,(hs.2 b (Nat.ne_of_lt (Nat.lt_of_lt_of_le (Heap.lt_size e) (I.ok.cab x c hfn hc)))).trans e1⟩
  ·obtain⟨o',e1⟩:=I.base.there b o e hx;exact⟨o',(hs.2 b (Nat.ne_of_lt (Nat.lt_of_lt_of_le (Heap.lt_size e) (I.ok.cab x c hfn hc)))).trans e1⟩
  ·by_cases hj:j=i
   ·subst hj;rw[hi]at e1;cases e1;rw[List.getElem?_set_self hiσ]at e2;cases e2;exact⟨u,r,.inr ⟨.inl hk,c,hc,hc'⟩⟩
   ·rw[List.getElem?_set_ne (Ne.symm hj)]at e2;obtain⟨u',r',q⟩:=hl j y v' e1 e2 e3;refine⟨u',r',?_⟩;rcases q with q | ⟨k,c',e,z'⟩
    ·exact .inl q
    ·refine .inr ⟨k,c',e,z'.sameBut hs ?_⟩
     rintro rfl
     exact hj (q4f hN e1 (I.ok.inj _ _ _ e hc▸hi))
  ·by_cases hcc:c'=c
   ·subst hcc;exact⟨_,hc'⟩
   ·obtain⟨w2,z2⟩:=I.cell y c' e;exact⟨w2,z2.sameBut hs hcc⟩
  ·obtain⟨e,n,ne,nf,d⟩:=I.pin p hp;refine⟨(hs.2 p.1 ?_).trans e,n,ne,nf,d⟩;intro q;rw[q,hoc]at e;have q':oc=p.2:=Option.some.inj e;exact d w' (by rw[←q'];exact hocd)
theorem q5G{M:Model}{A:Around}{E:Value->Shared->Prop}{i:Nat}{x:Str}{v:V}{u:Value}{Q:Unit->Shared->Prop}(I:Inv X pins σ H s)(hN:X.N.Nodup)(hi:X.N[i]? = some x)(hx:Loc X.env.scope x)(r:RelV v u)
  (h:∀s',Inv X pins (σ.set i (some v)) H s'->Q () s') (hf:X.fn x=true\/X.env.scope.names.lookup x=some .local:=by first | exact .inl rfl | exact .inr rfl | assumption):wpAny M A (storeName X.env x u) Q E s:=
 q6g I hN hi hx r (λs' I' _=>h s' I') hf
theorem Inv.call'{s':Shared}{ch:List Addr}(I:Inv X pins σ H s)(ho:s'.os=s.os)(u:Un (frs X.stack) ch H H' s.heap s'.heap)(hok:HOk X.prog X.w H' s'.heap)(hg:AllBare s'.gens)
  (hch:∀b∈ch,(b∈X.ex\/X.s₀.heap.objs.size<=b)/\b≠X.env.locals/\(∀x c,X.env.cells.lookup x=some c->c≠b)/\∀p∈X.pn++pins,p.1≠b):Inv X pins σ H' s':=by
 obtain⟨h',g',d',t',o'⟩:=s';have e:o'=s.os:=ho;subst e;exact I.call (g':=g') (t':=t') (d':=d') u hok hg hch
end
abbrev XK:=Value->Option Addr->Hp->Prop
abbrev St:=List (Option V)
abbrev VK:=V->Hp->Prop
abbrev TE:=St->Hp->VK->Prop
abbrev TT:=St->Hp->(Bool->Hp->Prop)->Prop
abbrev TA:=St->Hp->(List V->Hp->Prop)->Prop
structure Ends where
 nx:St->Hp->Prop
 rt:VK
 bk:St->Hp->Prop:=λ_ _=>False
 ct:St->Hp->Prop:=λ_ _=>False
abbrev TS:=Ends->St->Hp->Prop
def EP(X:Cx)(pins:List (Addr×Obj))(σ:St)(Q:VK)(u:Value)(s':Shared):Prop:=∃v H',Inv X pins σ H' s'/\RelV v u/\Q v H'
def TP(X:Cx)(pins:List (Addr×Obj))(σ:St)(Q:Bool->Hp->Prop)(b:Bool)(s':Shared):Prop:=∃H',Inv X pins σ H' s'/\Q b H'
def AP(X:Cx)(pins:List (Addr×Obj))(σ:St)(Q:List V->Hp->Prop)(us:List Value)(s':Shared):Prop:=∃vs H',Inv X pins σ H' s'/\Vals vs us/\Q vs H'
def SP(X:Cx)(pins:List (Addr×Obj))(D:Ends)(f:Flow)(s':Shared):Prop:=
 match f with
 | .next=>∃σ' H',Inv X pins σ' H' s'/\D.nx σ' H'
 | .brk=>∃σ' H',Inv X pins σ' H' s'/\D.bk σ' H'
 | .cont=>∃σ' H',Inv X pins σ' H' s'/\D.ct σ' H'
 | .ret u=>∃v σ' H',Inv X pins σ' H' s'/\RelV v u/\D.rt v H'
def PE(X:Cx)(e:Expr)(t:TE):Prop:=
 ∀(pins:List (Addr×Obj)) (s:Shared) (σ:St) (H:Hp) (Q:VK),Inv X pins σ H s->t σ H Q->wpAny (model X.prog X.w) X.A (eval e X.env) (EP X pins σ Q) X.xe s
def PT(X:Cx)(e:Expr)(t:TT):Prop:=
 ∀(pins:List (Addr×Obj)) (s:Shared) (σ:St) (H:Hp) (Q:Bool->Hp->Prop),Inv X pins σ H s->t σ H Q->wpAny (model X.prog X.w) X.A (isTrue e X.env (eval e X.env)) (TP X pins σ Q) X.xe s
def PW(X:Cx)(e:Expr)(t:TT):Prop:=
 ∀(whole:Sem Value) (pins:List (Addr×Obj)) (s:Shared) (σ:St) (H:Hp) (Q:Bool->Hp->Prop),Inv X pins σ H s->t σ H Q->wpAny (model X.prog X.w) X.A (isTrue e X.env whole) (TP X pins σ Q) X.xe s
theorem PW.pt{X:Cx}{e:Expr}{t:TT}(h:PW X e t):PT X e t:=h _
def PA(X:Cx)(es:List Expr)(t:TA):Prop:=
 ∀(pos:Pos) (pins:List (Addr×Obj)) (s:Shared) (σ:St) (H:Hp) (Q:List V->Hp->Prop),Inv X pins σ H s->t σ H Q->wpAny (model X.prog X.w) X.A (spliced (backTo pos (starEach es X.env))) (AP X pins σ Q) X.xe s
def PS(X:Cx)(st:Stmt)(t:TS):Prop:=
 ∀(pins:List (Addr×Obj)) (s:Shared) (σ:St) (H:Hp) (D:Ends),Inv X pins σ H s->t D σ H->wpAny (model X.prog X.w) X.A (exec st X.env) (SP X pins D) X.xe s
def PSs(X:Cx)(st:List Stmt)(t:TS):Prop:=
 ∀(pins:List (Addr×Obj)) (s:Shared) (σ:St) (H:Hp) (D:Ends),Inv X pins σ H s->t D σ H->wpAny (model X.prog X.w) X.A (execs st X.env) (SP X pins D) X.xe s
theorem thn{α:Type}{t:Sem α}{Q Q':α->Shared->Prop}{M:Model}{A:Around}{E:Value->Shared->Prop}{s:Shared}(h:wpAny M A t Q E s)(hQ:∀a s,Q a s->Q' a s):wpAny M A t Q' E s:=wpAny_mono h hQ λ_ _ x=>x
end L2
namespace L2
open PySem PySem.Spec PyProof.Rows
section
variable {X:Cx}
theorem bin{a b:Expr}{ta tb:TE}(ha:PE X a ta)(hb:PE X b tb){pins:List (Addr×Obj)}{s:Shared}{σ:St}{H:Hp}{R:V->V->Hp->Prop}(I:Inv X pins σ H s)(h:ta σ H λx H1=>tb σ H1 λy H2=>R x y H2)
  {α:Type} {Q:α->Shared->Prop} {f:Value->Value->Sem α}
  (hf:∀v u s2 x y H2,Inv X pins σ H2 s2->RelV x v->RelV y u->R x y H2->wpAny (model X.prog X.w) X.A (f v u) Q X.xe s2) :
  wpAny (model X.prog X.w) X.A (eval a X.env) (λv s₁=>wpAny (model X.prog X.w) X.A (eval b X.env) (λu s₂=>wpAny (model X.prog X.w) X.A (f v u) Q X.xe s₂) X.xe s₁) X.xe s:=by
 refine thn (ha pins s σ H _ I h) λv s1 ⟨x,H1,I1,r1,q1⟩=>?_;refine thn (hb pins s1 σ H1 _ I1 q1) λu s2 ⟨y,H2,I2,r2,q2⟩=>?_;exact hf v u s2 x y H2 I2 r1 r2 q2
def tVar(i:Nat):TE:=λσ H Q=>∃v,σ[i]? = some (some v)/\Q v H
def tC(v:V):TE:=λ_ H Q=>Q v H
theorem q2u{i:Nat}{x:Str}{pos:Pos}(hN:X.N[i]? = some x)(hv:Vis X.env.scope x)(hd:(x==("__debug__" : Str))=false:=by decide)(hcd:(x==("__classdict__" : Str))=false:=by decide):PE X (.Name x pos) (tVar i):=by
 intro pins s σ H Q I h;obtain⟨v,e,h⟩:=h;obtain⟨m,hn,hl⟩:=I.loc;obtain⟨u,r,l⟩:=hl i x v hN e hv;have fin:EP X pins σ Q u s:=⟨v,H,I,r,h⟩;rcases l with⟨hk,hm⟩ | ⟨hk,c,hc,hcell⟩
 ·exact wpAny_Name (wpAny_loadName_local I.ok.kind hk hn hm fin) hd
 ·rcases hk with hk | hk
  ·exact wpAny_Name (wpAny_loadName_cell I.ok.kind hk hc hcell fin) hd
  ·exact wpAny_Name (wpAny_loadName_free I.ok.kind hk hc hcell fin hcd) hd
theorem z2r{i j pos}:PE X (.Constant (.int i) j pos) (tC (.int i)):=λ_ _ _ H _ I h=>wpAny_Constant_int ⟨.int i,H,I.tok _,⟨_,rfl⟩,h⟩
theorem z7I{b j pos}:PE X (.Constant (.bool b) j pos) (tC (.bl b)):=λ_ _ _ H _ I h=>Constant_bool ⟨.bl b,H,I,rfl,h⟩
theorem z6Z{j pos}:PE X (.Constant .none j pos) (tC .non):=λ_ _ _ H _ I h=>Constant_none ⟨.non,H,I,rfl,h⟩
theorem z7b{x j pos}:PE X (.Constant (.str x) j pos) (tC (.str x)):=λ_ _ _ H _ I h=>Calls.Constant_str ⟨.str x,H,I.tok _,⟨_,rfl⟩,h⟩
def Gl(X:Cx)(x:Str):Prop:=X.env.kindOf x=some .globalImplicit
theorem q3e{E:Value->Shared->Prop}{pins:List (Addr×Obj)}{s:Shared}{σ:St}{H:Hp}{x:Str}{u:Value}{pos:Pos}{Q:Value->Shared->Prop}(I:Inv X pins σ H s)(hg:Gl X x)(hm:X.mg x=some u)(h:Q u s)
  (hd:(x==("__debug__" : Str))=false:=by decide):wpAny (model X.prog X.w) X.A (eval (.Name x pos) X.env) Q E s:=
 Calls.Name_function_global I.ok.kind hg (Calls.loadGlobal_global (by rw[I.ok.glob];exact I.mod.glob.keeps I.bk) hm h) hd
theorem q7E{E:Value->Shared->Prop}{pins:List (Addr×Obj)}{s:Shared}{σ:St}{H:Hp}{x:Str}{u:Value}{pos:Pos}{Q:Value->Shared->Prop}(I:Inv X pins σ H s)(hg:Gl X x)(hm:X.mg x=none)(hv:bootBuiltins x=some u)(h:Q u s)
  (hn:x ≠ "__name__":=by decide) (hd:(x==("__debug__" : Str))=false:=by decide):wpAny (model X.prog X.w) X.A (eval (.Name x pos) X.env) Q E s:=by
 obtain⟨mb,h1,h2⟩:=I.mod.blt;exact Calls.Name_function_global I.ok.kind hg (Calls.loadGlobal_builtin (by rw[I.ok.glob];exact I.mod.glob.keeps I.bk) hm (by rw[I.ok.blt];exact h1.keeps I.bk) ((h2 x hn).trans hv) h) hd
theorem q8L{x:Str}{v:V}{u:Value}{pos:Pos}(hg:Gl X x)(hm:X.mg x=some u)(r:RelV v u)(hd:(x==("__debug__" : Str))=false:=by decide):PE X (.Name x pos) (tC v):=
 λ_ _ _ H _ I h=>q3e I hg hm ⟨v,H,I,r,h⟩ hd
theorem z0F{x:Str}{v:V}{u:Value}{pos:Pos}(hg:Gl X x)(hm:X.mg x=none)(hv:bootBuiltins x=some u)(r:RelV v u)(hn:x ≠ "__name__":=by decide)(hd:(x==("__debug__" : Str))=false:=by decide):PE X (.Name x pos) (tC v):=
 λ_ _ _ H _ I h=>q7E I hg hm hv ⟨v,H,I,r,h⟩ hn hd
variable {a b:Expr} {ta tb:TE} {pos:Pos}
variable {tA tB':TT} {rest:List Expr}
def tAnd(t u:TT):TT:=λσ H Q=>t σ H λc H1=>if c=true then u σ H1 Q else Q false H1
def tOr(t u:TT):TT:=λσ H Q=>t σ H λc H1=>if c=true then Q true H1 else u σ H1 Q
def tNot(t:TT):TT:=λσ H Q=>t σ H λc H1=>Q (!c) H1
theorem z3D(ha:PT X a tA):PW X (.BoolOp .And [a] pos) tA:=by
 intro wh pins s σ H Q I h;refine isTrue_and (thn (ha pins s σ H Q I h) λc s1 e=>?_);cases c with
 | true=>exact isTrue_and_nil e
 | false=>exact e
theorem z6s(ha:PT X a tA):PW X (.BoolOp .Or [a] pos) tA:=by
 intro wh pins s σ H Q I h;refine isTrue_or (thn (ha pins s σ H Q I h) λc s1 e=>?_);cases c with
 | false=>exact isTrue_or_nil e
 | true=>exact e
theorem z0c(ha:PT X a tA)(hb:PW X (.BoolOp .And (b::rest) pos) tB'):PW X (.BoolOp .And (a::b::rest) pos) (tAnd tA tB'):=by
 intro wh pins s σ H Q I h;refine isTrue_and (thn (ha pins s σ H _ I h) λc s1 ⟨H1,I1,q1⟩=>?_);cases c with
 | true=>exact hb wh pins s1 σ H1 Q I1 q1
 | false=>exact⟨H1,I1,q1⟩
theorem z3P(ha:PT X a tA)(hb:PW X (.BoolOp .Or (b::rest) pos) tB'):PW X (.BoolOp .Or (a::b::rest) pos) (tOr tA tB'):=by
 intro wh pins s σ H Q I h;refine isTrue_or (thn (ha pins s σ H _ I h) λc s1 ⟨H1,I1,q1⟩=>?_);cases c with
 | true=>exact⟨H1,I1,q1⟩
 | false=>exact hb wh pins s1 σ H1 Q I1 q1
theorem z2M(ha:PT X a tA):PT X (.UnaryOp .Not a pos) (tNot tA):=by
 intro pins s σ H Q I h;exact isTrue_not (ha pins s σ H (λc H1=>Q (!c) H1) I h)
theorem z2u{op}{t:TE}(h:PE X a t):PE X (.BoolOp op [a] pos) t:=λpins s σ H Q I hw=>BoolOp_one (h pins s σ H Q I hw)
end
end L2
namespace L2
open PySem PySem.Spec PyProof.Rows
def SqL(K:PySem.W.Frag)(H:Hp)(a:Addr)(xs:List V):Prop:=
 Rd H a (.lst xs) \/
  ∃(o:Obj) (its:Array Value) (n:Nat),K.lookup a=some o/\o.cls=.type "list" /\ o.dict=none/\o.data=.seq its n/\its.size<=sizeLine/\Vals xs its.toList
def SqT(K:PySem.W.Frag)(H:Hp)(a:Addr)(xs:List V):Prop:=
 Rd H a (.tup xs) \/
  ∃(o:Obj) (its:Array Value) (n:Nat),K.lookup a=some o/\(o.cls=.type "tuple" /\ o.dict=none)/\o.data=.seq its n/\its.size<=sizeLine/\Vals xs its.toList
def absV:Value->Option V
 | .none=>some .non
 | .bool b=>some (.bl b)
 | .int i _=>some (.int i)
 | .str x _=>some (.str x)
 | .bytes b _=>some (.byt b)
 | .float b _=>some (.flt b)
 | .ref a=>some (.ref a)
 | .type n=>some (.ty n)
 | _=>none
theorem RelV.abs{x:V}{u:Value}(r:RelV x u):absV u=some x:=by
 cases x with
 | non=>cases r;rfl
 | bl _=>cases r;rfl
 | int _=>obtain⟨t,rfl⟩:=r;rfl
 | str _=>obtain⟨t,rfl⟩:=r;rfl
 | byt _=>obtain⟨t,rfl⟩:=r;rfl
 | flt _=>obtain⟨t,rfl⟩:=r;rfl
 | ref _=>cases r;rfl
 | ty _=>cases r;rfl
theorem RelV.inj{x y:V}{u:Value}(r:RelV x u)(q:RelV y u):x=y:=Option.some.inj (r.abs.symm.trans q.abs)
theorem Vals.inj{xs ys:List V}{us:List Value}(h:Vals xs us):Vals ys us->xs=ys:=by
 induction h generalizing ys with
 | nil=>intro t;cases t;rfl
 | cons r _ ih=>intro t;cases t with | cons r' t'=>rw[r.inj r',ih t']
section
variable {X:Cx} {pins:List (Addr×Obj)} {σ:St} {H:Hp} {s:Shared} {a:Addr} {xs ys:List V}
theorem SqL.of{K:PySem.W.Frag}(h:H a=some (.lst xs)):SqL K H a xs:=.inl (.inl h)
theorem SqT.of{K:PySem.W.Frag}(h:H a=some (.tup xs)):SqT K H a xs:=.inl (.inl h)
theorem Inv.list(I:Inv X pins σ H s)(h:SqL X.K H a xs):∃its:List Value,Vals xs its/\PlainL s.heap a its.toArray/\xs.length<=sizeLine:=by
 rcases h with h | ⟨o,its,n,hk,hc,hd,hs,hz,r⟩
 ·obtain⟨z,its,n,r,e⟩:=h.ok I.hok;exact⟨its,r,⟨_,n,e,rfl,rfl,rfl⟩,z⟩
 ·refine⟨its.toList,r,⟨o,n,I.kIn a o hk,hc,hd,by simpa using hs⟩,?_⟩;have e:=r.length;simp only[Array.length_toList]at e;omega
theorem Inv.tuple(I:Inv X pins σ H s)(h:SqT X.K H a xs):∃its:List Value,Vals xs its/\IsTup s.heap a its.toArray/\xs.length<=sizeLine:=by
 rcases h with h | ⟨o,its,n,hk,hc,hs,hz,r⟩
 ·obtain⟨z,its,r,p⟩:=h.ok I.hok;exact⟨its,r,p.tup,z⟩
 ·refine⟨its.toList,r,⟨o,I.kIn a o hk,hc.1,n,by simpa using hs⟩,?_⟩;have e:=r.length;simp only[Array.length_toList]at e;omega
theorem Inv.list_inj(I:Inv X pins σ H s)(h:SqL X.K H a xs)(h':SqL X.K H a ys):xs=ys:=by
 obtain⟨its,r,⟨o,n,e,_,_,d⟩,_⟩:=I.list h;obtain⟨its',r',⟨o',n',e',_,_,d'⟩,_⟩:=I.list h';rw[e]at e';cases e';rw[d]at d';injection d' with d1 _
 have:its=its':=by simpa using congrArg Array.toList d1
 subst this;exact r.inj r'
theorem Inv.tuple_inj(I:Inv X pins σ H s)(h:SqT X.K H a xs)(h':SqT X.K H a ys):xs=ys:=by
 obtain⟨its,r,⟨o,e,_,n,d⟩,_⟩:=I.tuple h;obtain⟨its',r',⟨o',e',_,n',d'⟩,_⟩:=I.tuple h';rw[e]at e';cases e';rw[d]at d';injection d' with d1 _
 have:its=its':=by simpa using congrArg Array.toList d1
 subst this;exact r.inj r'
end
section
variable {X:Cx} {pins:List (Addr×Obj)} {σ:St} {H:Hp} {s:Shared} {E:Value->Shared->Prop}
end
section
variable {X:Cx} {st:Stmt} {rest:List Stmt} {t u:TS} {e:Expr} {te:TE} {pos:Pos}
def z7U:TS:=λD σ H=>D.nx σ H
def tSeq(t u:TS):TS:=λD σ H=>t {D with nx:=u D} σ H
theorem z0B:PSs X [] z7U:=λ_ _ σ H _ I h=>wpAny_execs_nil ⟨σ,H,I,h⟩
theorem q2k(h1:PS X st t)(h2:PSs X rest u):PSs X (st::rest) (tSeq t u):=by
 intro pins s σ H D I h;refine wpAny_execs_cons (thn (h1 pins s σ H {D with nx:=u D} I h) λf s1 q=>?_);cases f with
 | next=>
  obtain⟨σ',H',I',q⟩:=q;exact h2 pins s1 σ' H' D I' q
 | ret v=>exact q
 | brk=>exact q
 | cont=>exact q
theorem z3R(h1:PS X st t):PSs X [st] t:=by
 intro pins s σ H D I h;refine wpAny_execs_cons (thn (h1 pins s σ H D I h) λf s1 q=>?_);cases f with
 | next=>exact wpAny_execs_nil q
 | ret v=>exact q
 | brk=>exact q
 | cont=>exact q
theorem Inv.quiet{pins:List (Addr×Obj)}{σ:St}{H:Hp}{s:Shared}(I:Inv X pins σ H s):interactive X.env=false:=by simp[interactive,I.ok.kind]
def z9j(te:TE):TS:=λD σ H=>te σ H λ_ H1=>D.nx σ H1
theorem q8S(he:PE X e te)(hs:swapsWith e none pos.line X.env=pure false:=by rfl):PS X (.Expr e pos) (z9j te):=by
 intro pins s σ H D I h;exact wpAny_Expr_any (thn (he pins s σ H _ I h) λv s1 ⟨x,H1,I1,r1,q1⟩=>⟨σ,H1,I1,q1⟩) I.quiet hs
def tRet(te:TE):TS:=λD σ H=>te σ H D.rt
theorem q5Y(he:PE X e te):PS X (.Return (some e) pos) (tRet te):=by
 intro pins s σ H D I h;exact wpAny_Return_some (thn (he pins s σ H _ I h) λv s1 ⟨x,H1,I1,r1,q1⟩=>⟨x,σ,H1,I1,r1,q1⟩)
def tIfS(c:TT)(t u:TS):TS:=λD σ H=>c σ H λb H1=>if b=true then t D σ H1 else u D σ H1
theorem z4I{c:Expr}{a b:List Stmt}{tc:TT}(hc:PT X c tc)(ha:PSs X a t)(hb:PSs X b u):PS X (.If c a b pos) (tIfS tc t u):=by
 intro pins s σ H D I h;refine wpAny_If (thn (hc pins s σ H _ I h) λd s1 ⟨H1,I1,q1⟩=>?_);cases d with
 | true=>exact ha pins s1 σ H1 D I1 q1
 | false=>exact hb pins s1 σ H1 D I1 q1
def z7g:TS:=λ_ _ _=>False
theorem q1A{sts:List Stmt}:PSs X sts z7g:=λ_ _ _ _ _ _ h=>h.elim
end
abbrev TG:=V->St->Hp->(St->Hp->Prop)->Prop
abbrev TGs:=List V->St->Hp->(St->Hp->Prop)->Prop
def PG(X:Cx)(target:Expr)(t:TG):Prop:=
 ∀(pins:List (Addr×Obj)) (s:Shared) (σ:St) (H:Hp) (v:V) (u:Value) (Q:St->Hp->Prop),Inv X pins σ H s->RelV v u->t v σ H Q ->
  wpAny (model X.prog X.w) X.A (assign target X.env u) (λ_ s'=>∃σ' H',Inv X pins σ' H' s'/\Q σ' H') X.xe s
def PGs(X:Cx)(ts:List Expr)(t:TGs):Prop:=
 ∀(pins:List (Addr×Obj)) (s:Shared) (σ:St) (H:Hp) (vs:List V) (us:List Value) (Q:St->Hp->Prop),Inv X pins σ H s->Vals vs us->t vs σ H Q ->
  wpAny (model X.prog X.w) X.A (assignInOrder ((assignEach ts X.env).map (·.2)) us) (λ_ s'=>∃σ' H',Inv X pins σ' H' s'/\Q σ' H') X.xe s
section
variable {X:Cx} {pos:Pos}
def q8i(i:Nat):TG:=λv σ H Q=>Q (σ.set i (some v)) H
theorem q9t{i:Nat}{x:Str}(hN:X.N.Nodup)(hi:X.N[i]? = some x)(hx:Loc X.env.scope x)(hf:X.fn x=true\/X.env.scope.names.lookup x=some .local:=by first | exact .inl rfl | exact .inr rfl | assumption):PG X (.Name x pos) (q8i i):=by
 intro pins s σ H v u Q I r h;exact wpAny_assign_Name (q5G I hN hi hx r (λs' I'=>⟨_,H,I',h⟩) hf)
def gNil:TGs:=λvs σ H Q=>vs=[]/\Q σ H
def z7D(t:TG)(u:TGs):TGs:=λvs σ H Q=>∃v r,vs=v::r/\t v σ H λσ' H'=>u r σ' H' Q
theorem z4G:PGs X [] gNil:=by
 intro pins s σ H vs us Q I r h;obtain⟨e,h⟩:=h;subst e;cases r;exact assignInOrder_nil ⟨σ,H,I,h⟩
theorem z1n{e:Expr}{es:List Expr}{t:TG}{u:TGs}(h1:PG X e t)(h2:PGs X es u)
  (hs:(assignEach (e::es) X.env).map (·.2)=assign e X.env::(assignEach es X.env).map (·.2):=by rfl):PGs X (e::es) (z7D t u):=by
 intro pins s σ H vs us Q I r h;obtain⟨v,vr,e1,h⟩:=h;subst e1;cases r with
 | cons r rr=>
  rw[hs];refine assignInOrder_cons (thn (h1 pins s σ H _ _ _ I r h) λ_ s1 ⟨σ1,H1,I1,q1⟩=>?_);exact h2 pins s1 σ1 H1 _ _ Q I1 rr q1
def gTup(K:PySem.W.Frag)(n:Nat)(t:TGs):TG:=λv σ H Q=>∃a xs,v=.ref a/\SqT K H a xs/\xs.length=n/\t xs σ H Q
theorem z6u{es:List Expr}{k:Nat}{t:TGs}{n:Nat}(hc:X.calm=true)(h:PGs X es t)
  (hn:(assignEach es X.env).length=n:=by rfl) (hst:(assignEach es X.env).findIdx? (·.1)=none:=by rfl):PG X (.Tuple es k pos) (gTup X.K n t):=by
 intro pins s σ H v u Q I r hw;obtain⟨a,xs,e1,hq,hl,hw⟩:=hw;subst e1;cases r;obtain⟨its,rv,ht,hz⟩:=I.tuple hq;refine assign_Tuple_tuple (I.ok.hd hc) ht (by simp[hn,←hl,rv.length]) hst λh' hx=>?_
 have I1:Inv X pins σ H {s with heap:=h'}:=I.kept (t':=s.toks) λb o e=>hx b o (Nat.ne_of_lt (Heap.lt_size e)) e;exact h pins _ σ H xs _ Q I1 (by simpa using rv) hw
def tAsg(te:TE)(g:TG):TS:=λD σ H=>te σ H λx H1=>g x σ H1 D.nx
theorem q4H{i:Nat}{x:Str}{e:Expr}{te:TE}{pos':Pos}(hN:X.N.Nodup)(hi:X.N[i]? = some x)(hx:Loc X.env.scope x)(he:PE X e te)(hs:swapsWith e (some (.Name x pos')) pos.line X.env=pure false:=by rfl)(hf:X.fn x=true\/X.env.scope.names.lookup x=some .local:=by first | exact .inl rfl | exact .inr rfl | assumption) :
  PS X (.Assign [.Name x pos'] e pos) (tAsg te (q8i i)):=by
 intro pins s σ H D I h;refine wpAny_Assign_Name (thn (he pins s σ H _ I h) λv s1 ⟨y,H1,I1,r1,q1⟩=>?_) hs;exact q5G I1 hN hi hx r1 (λs2 I2=>⟨_,H1,I2,q1⟩) hf
end
section
variable {X:Cx} {pos:Pos}
def z7a(c:TT)(tb:TS):TS:=λD σ H=>∃W:Nat->St->Hp->Prop,(∃m,W m σ H)/\∀m σ H,W m σ H ->
 c σ H λb H1=>if b=true then ∃N:St->Hp->Prop,(∀σ' H',N σ' H'->∃m',m'<m/\W m' σ' H')/\tb {D with nx:=N,ct:=N,bk:=D.nx} σ H1 else D.nx σ H1
theorem z1j{c:Expr}{body:List Stmt}{tc:TT}{tb:TS}(hp:PassesOwn (model X.prog X.w) X.A X.env X.xe)(hc:PT X c tc)(hb:PSs X body tb):PS X (.While c body [] pos) (z7a tc tb):=by
 intro pins s σ H D I h;obtain⟨W,⟨m0,w0⟩,turn⟩:=h;refine wpAny_While (codeAny_whileLoop (λn s'=>∃σ' H',Inv X pins σ' H' s'/\W n σ' H') ?_ m0 ⟨σ,H,I,w0⟩)
 rintro n s1 ⟨σ1,H1,I1,w1⟩
 refine wpAny_passesOwn hp (thn (hc pins s1 σ1 H1 _ I1 (turn n σ1 H1 w1)) λb s2 ⟨H2,I2,q2⟩=>?_);cases b with
 | true=>
  obtain⟨N,hN,q2⟩:=q2;rw[if_pos rfl];refine wpAny_passesOwn hp (thn (hb pins s2 σ1 H2 _ I2 q2) λf s3 q3=>?_);cases f with
  | next=>
   obtain⟨σ3,H3,I3,n3⟩:=q3;obtain⟨m',hm,w3⟩:=hN σ3 H3 n3;exact⟨m',hm,σ3,H3,I3,w3⟩
  | cont=>
   obtain⟨σ3,H3,I3,n3⟩:=q3;obtain⟨m',hm,w3⟩:=hN σ3 H3 n3;exact⟨m',hm,σ3,H3,I3,w3⟩
  | brk=>exact q3
  | ret v=>exact q3
 | false=>
  rw[if_neg Bool.false_ne_true];exact wpAny_execs_nil ⟨σ1,H2,I2,q2⟩
end
structure It where
 go:Nat->Hp->Prop
 yld:Nat->Hp->V->Hp->Prop
 stop:Nat->Hp->Prop
def FpOk(X:Cx)(pins:List (Addr×Obj))(H:Hp)(b:Addr):Prop:=
 H b=none/\b≠X.env.locals/\b∉X.fs/\(b∈X.ex\/X.s₀.heap.objs.size<=b)/\(∀x c,X.env.cells.lookup x=some c->c≠b)/\∀p∈X.pn++pins,p.1≠b
theorem Inv.fpOk{X:Cx}{pins:List (Addr×Obj)}{σ:St}{H H':Hp}{s:Shared}{b:Addr}(I:Inv X pins σ H s)(hb:s.heap.objs.size<=b)(hn:H' b=none):FpOk X pins H' b:=by
 refine⟨hn,Nat.ne_of_gt (Nat.lt_of_lt_of_le I.lt hb),I.nofs hb,.inr (Nat.le_trans I.sz hb),λx c e z=>?_,λp hp z=>?_⟩
 ·obtain⟨v,q⟩:=I.cell x c e;exact absurd (Nat.lt_of_lt_of_le q.lt (by rw[z];exact hb)) (Nat.lt_irrefl _)
 ·exact absurd (Nat.lt_of_lt_of_le (Heap.lt_size (I.pin p hp).1) (by rw[z];exact hb)) (Nat.lt_irrefl _)
structure Turn(P:Program)(w:World)(K:PySem.W.Frag)(tg:Expr)(J:It)(fp:List Addr)(it:Addr)(tn:Nat->Heap->Prop):Prop where
 mem:it∈fp
 obj:∀i h,tn i h->∀b∈fp,∃o,h.get? b=some o/\∀v,o.data ≠ .cell v
 keep:∀i h h',tn i h->(∀b∈fp,∀o,h.get? b=some o->h'.get? b=some o)->tn i h'
 item:∀(X:Cx),X.prog=P->X.w=w->X.K=K->X.calm=true->∀(i:Nat) (pins:List (Addr×Obj)) (s:Shared) (σ:St) (H:Hp) (E:Value->Shared->Prop),Inv X pins σ H s->(∀b∈fp,FpOk X pins H b)->tn i s.heap->J.go i H ->
  wpAny (model P w) X.A (pyNext (.ref it)) (λr s1=>∃u,r=some u /\
   wpAny (model P w) X.A (letOwnedTupleGo tg (.ref it) u) (λ_ s2=>∃x H',Inv X pins σ H' s2/\RelV x u/\J.yld i H x H'/\tn (i+1) s2.heap/\∀b∈fp,H' b=none) E s1) E s
 done:∀(X:Cx),X.prog=P->X.w=w->X.K=K->X.calm=true->∀(i:Nat) (pins:List (Addr×Obj)) (s:Shared) (σ:St) (H:Hp) (E:Value->Shared->Prop),Inv X pins σ H s->(∀b∈fp,FpOk X pins H b)->tn i s.heap->J.stop i H ->
  wpAny (model P w) X.A (pyNext (.ref it)) (λr s1=>r=none/\Inv X pins σ H s1) E s
 self:∀(A:Around) (i:Nat) (s:Shared) (Q:Value->Shared->Prop) (E:Value->Shared->Prop),tn i s.heap->Q (.ref it) s->wpAny (model P w) A (pyIter (.ref it)) Q E s
abbrev TI:=St->Hp->(It->Hp->Prop)->Prop
def PIE(X:Cx)(pins:List (Addr×Obj))(σ:St)(tg:Expr)(R:It->Hp->Prop)(itv:Value)(s2:Shared):Prop:=
 ∃(it:Addr) (fp:List Addr) (tn:Nat->Heap->Prop) (J:It) (H':Hp),itv=.ref it/\Inv X pins σ H' s2/\Turn X.prog X.w X.K tg J fp it tn/\tn 0 s2.heap/\(∀b∈fp,FpOk X pins H' b)/\R J H'
def PI(X:Cx)(tg iter:Expr)(wi:TI):Prop:=
 ∀(pins:List (Addr×Obj)) (s:Shared) (σ:St) (H:Hp) (R:It->Hp->Prop),Inv X pins σ H s->wi σ H R ->
  wpAny (model X.prog X.w) X.A (eval iter X.env) (λv s1=>wpAny (model X.prog X.w) X.A (pyIter v) (PIE X pins σ tg R) X.xe s1) X.xe s
theorem q9I{M:Model}{A:Around}{E:Value->Shared->Prop}{s:Shared}{tg:Expr}{it:Addr}{u:Value}{o:Obj}{n:String}{vs:Array Value}{Q:Unit->Shared->Prop}(ho:s.heap.get? it=some o)(hc:o.cls=.type n)(hd:o.data=.fields vs)
    (hn : ["enumerate","zip","dict_itemiterator","dict_reverseitemiterator","odict_iterator","itertools.zip_longest","itertools.pairwise"].contains n=false) (hQ:Q () s):wpAny M A (letOwnedTupleGo tg (.ref it) u) Q E s:=by
  unfold letOwnedTupleGo;cases tg<;>first
    | exact wpAny_pure hQ
    | (cases u<;>first
        | exact wpAny_pure hQ
        | (refine wpAny_bind (wpAny_load ho ?_)
           rw[hc,hd];show wpAny M A (if(["enumerate","zip","dict_itemiterator","dict_reverseitemiterator","odict_iterator","itertools.zip_longest","itertools.pairwise"].contains n&&vs[0]? == some (rawInt _))=true then _ else _) Q E s;rw[if_neg (by intro h;rw[hn,Bool.false_and]at h;cases h)];exact wpAny_pure hQ))
def Itl(K:PySem.W.Frag)(a:Addr):It:=
 ⟨λi H=>∃xs x,SqL K H a xs/\xs[i]? = some x,λi H x H'=>H'=H/\∀xs,SqL K H a xs->xs[i]? = some x,λi H=>∃xs,SqL K H a xs/\xs.length<=i⟩
def Itt(K:PySem.W.Frag)(a:Addr):It:=
 ⟨λi H=>∃xs x,SqT K H a xs/\xs[i]? = some x,λi H x H'=>H'=H/\∀xs,SqT K H a xs->xs[i]? = some x,λi H=>∃xs,SqT K H a xs/\xs.length<=i⟩
def Itr(lo:Int)(n:Nat):It:=⟨λi _=>i<n,λi H x H'=>H'=H/\x=.int (lo+i),λi _=>n<=i⟩
theorem z0j{P:Program}{w:World}{K:PySem.W.Frag}{tg:Expr}(a it:Addr):Turn P w K tg (Itl K a) [it] it (λi h=>h.IsListIter it a i) where
 mem:=by simp
 obj:=λi h st b hb=>by
  have e:b=it:=by simpa using hb
  subst e;obtain⟨o,e,c,d⟩:=st;exact⟨o,e,λv z=>by rw[d]at z;cases z⟩
 keep:=λi h h' st k=>st.at λo e=>k it (by simp) o e
 item:=by
  intro X hP hw hK hc i pins s σ H E I hf st hg;subst hP hw hK;obtain⟨xs,x,hq,hx⟩:=hg;obtain⟨its,rv,p,hz⟩:=I.list hq;obtain⟨u,hu,ru⟩:=rv.get hx;obtain⟨f0,f1,f2,f3,f4,f5⟩:=hf it (by simp);refine wpAny_pyNext_list_item st p.isList (x:=u) (by simpa using hu) λh' st' sb=>?_
  have I1:Inv X pins σ H {s with heap:=h'}:=I.turned (t':=s.toks) (λb o hb e=>(sb.2 b hb).trans e) f0 f1 f3 f4 f5;obtain⟨o,e,c,d⟩:=id st';exact⟨u,rfl,q9I (s:={s with heap:=h'}) e c d (by decide) ⟨x,H,I1,ru,⟨rfl,λys hy=>by rw[I.list_inj hy hq];exact hx⟩,st',λb hb=>(hf b hb).1⟩⟩
 done:=by
  intro X hP hw hK hc i pins s σ H E I hf st hg;subst hP hw hK;obtain⟨xs,hq,hx⟩:=hg;obtain⟨its,rv,p,hz⟩:=I.list hq;obtain⟨f0,f1,f2,f3,f4,f5⟩:=hf it (by simp);have hl:=rv.length;exact wpAny_pyNext_list_end (I.ok.hd hc) st p.isList (by simp;omega) λh' eb=>⟨rfl,I.turned (t':=s.toks) (λb o hb e=>eb b o hb e) f0 f1 f3 f4 f5⟩
 self:=λ_ _ _ _ _ st h=>wpAny_pyIter_listiter st h
theorem q8r{P:Program}{w:World}{K:PySem.W.Frag}{tg:Expr}(a it:Addr):Turn P w K tg (Itt K a) [it] it (λi h=>h.IsTupleIter it a i) where
 mem:=by simp
 obj:=λi h st b hb=>by
  have e:b=it:=by simpa using hb
  subst e;obtain⟨o,e,c,d⟩:=st;exact⟨o,e,λv z=>by rw[d]at z;cases z⟩
 keep:=λi h h' st k=>st.at λo e=>k it (by simp) o e
 item:=by
  intro X hP hw hK hc i pins s σ H E I hf st hg;subst hP hw hK;obtain⟨xs,x,hq,hx⟩:=hg;obtain⟨its,rv,p,hz⟩:=I.tuple hq;obtain⟨u,hu,ru⟩:=rv.get hx;obtain⟨f0,f1,f2,f3,f4,f5⟩:=hf it (by simp);refine wpAny_pyNext_tuple_item st (show s.heap.IsTuple a its.toArray from p) (x:=u) (by simpa using hu) λh' st' sb=>?_
  have I1:Inv X pins σ H {s with heap:=h'}:=I.turned (t':=s.toks) (λb o hb e=>(sb.2 b hb).trans e) f0 f1 f3 f4 f5;obtain⟨o,e,c,d⟩:=id st';exact⟨u,rfl,q9I (s:={s with heap:=h'}) e c d (by decide) ⟨x,H,I1,ru,⟨rfl,λys hy=>by rw[I.tuple_inj hy hq];exact hx⟩,st',λb hb=>(hf b hb).1⟩⟩
 done:=by
  intro X hP hw hK hc i pins s σ H E I hf st hg;subst hP hw hK;obtain⟨xs,hq,hx⟩:=hg;obtain⟨its,rv,p,hz⟩:=I.tuple hq;obtain⟨f0,f1,f2,f3,f4,f5⟩:=hf it (by simp);have hl:=rv.length;exact wpAny_pyNext_tuple_end (I.ok.hd hc) st (show s.heap.IsTuple a its.toArray from p) (by simp;omega) λh' eb=>⟨rfl,I.turned (t':=s.toks) (λb o hb e=>eb b o hb e) f0 f1 f3 f4 f5⟩
 self:=λ_ _ _ _ _ st h=>wpAny_pyIter_tupleiter st h
theorem q8x{P:Program}{w:World}{K:PySem.W.Frag}{tg:Expr}(it:Addr)(lo:Int)(n:Nat):Turn P w K tg (Itr lo n) [it] it (λi h=>IsRangeIter h it (lo+(i:Nat)*1) ((n:Int) - (i:Nat)) 1) where
 mem:=by simp
 obj:=λi h st b hb=>by
  have e:b=it:=by simpa using hb
  subst e;exact⟨_,st,λv z=>by
   have z':Data.fields _=Data.cell v:=z;cases z'⟩
 keep:=λi h h' st k=>k it (by simp) _ st
 item:=by
  intro X hP hw hK hc i pins s σ H E I hf st hg;subst hP hw hK;obtain⟨f0,f1,f2,f3,f4,f5⟩:=hf it (by simp);have W:=Walks.range (prog:=X.prog) (w:=X.w) (I.ok.hd hc) it lo 1 n;refine W.item i s _ _ hg st λv h' tk hv st' kk=>?_
  obtain⟨t,rfl⟩:=hv;have I1:Inv X pins σ H {s with heap:=h',toks:=tk}:=I.turned (λb o hb e=>kk b o (by simpa using hb) e) f0 f1 f3 f4 f5;refine⟨_,rfl,q9I (s:={s with heap:=h',toks:=tk}) (n:="range_iterator") st' rfl rfl (by decide) ⟨.int (lo+i),H,I1,⟨t,?_⟩,⟨rfl,rfl⟩,st',λb hb=>(hf b hb).1⟩⟩;rw[Int.mul_one]
 done:=by
  intro X hP hw hK hc i pins s σ H E I hf st hg;subst hP hw hK;obtain⟨f0,f1,f2,f3,f4,f5⟩:=hf it (by simp);exact wpAny_pyNext_range_end (I.ok.hd hc) st (by have:n<=i:=hg;omega) λh' eb=>⟨rfl,I.turned (t':=s.toks) (λb o hb e=>eb b o hb e) f0 f1 f3 f4 f5⟩
 self:=λ_ _ _ _ _ st h=>wpAny_pyIter_rangeiter st h
end L2
namespace L2
open PySem PySem.Spec PyProof.Rows
section
variable {X:Cx} {tg:Expr}
def z8S(K:PySem.W.Frag)(tl:TE):TI:=λσ H R=>tl σ H λx H1=>∃a,x=.ref a/\(∃xs,SqL K H1 a xs)/\R (Itl K a) H1
def iTup(K:PySem.W.Frag)(tl:TE):TI:=λσ H R=>tl σ H λx H1=>∃a,x=.ref a/\(∃xs,SqT K H1 a xs)/\R (Itt K a) H1
theorem q7n{l:Expr}{tl:TE}(hl:PE X l tl):PI X tg l (z8S X.K tl):=by
 intro pins s σ H R I h;refine thn (hl pins s σ H _ I h) λv s1 ⟨x,H1,I1,r1,q1⟩=>?_
 obtain⟨a,e,⟨xs,hq⟩,q⟩:=q1;subst e;cases r1;obtain⟨its,rv,p,hz⟩:=I1.list hq;refine wpAny_pyIter_list p.isList ?_;refine⟨s1.heap.objs.size,[s1.heap.objs.size],_,_,H1,rfl,I1.kept (t':=s1.toks) λb o e=>Heap.get?_push_of_some _ e,z0j a _,⟨_,Heap.get?_push_size _ rfl,rfl,rfl⟩,λb hb=>?_,q⟩;have e:b=s1.heap.objs.size:=by simpa using hb
 subst e;exact I1.fpOk (Nat.le_refl _) (I1.hok.fresh (Nat.le_refl _))
theorem z5P{l:Expr}{tl:TE}(hl:PE X l tl):PI X tg l (iTup X.K tl):=by
 intro pins s σ H R I h;refine thn (hl pins s σ H _ I h) λv s1 ⟨x,H1,I1,r1,q1⟩=>?_
 obtain⟨a,e,⟨xs,hq⟩,q⟩:=q1;subst e;cases r1;obtain⟨its,rv,p,hz⟩:=I1.tuple hq;refine wpAny_pyIter_tuple (show s1.heap.IsTuple a its.toArray from p) ?_;refine⟨s1.heap.objs.size,[s1.heap.objs.size],_,_,H1,rfl,I1.kept (t':=s1.toks) λb o e=>Heap.get?_push_of_some _ e,q8r a _,⟨_,Heap.get?_push_size _ rfl,rfl,rfl⟩,λb hb=>?_,q⟩;have e:b=s1.heap.objs.size:=by simpa using hb
 subst e;exact I1.fpOk (Nat.le_refl _) (I1.hok.fresh (Nat.le_refl _))
theorem z2a{pins:List (Addr×Obj)}{σ:St}{H:Hp}{s:Shared}{R:It->Hp->Prop}{E:Value->Shared->Prop}{lo hi:Int}{t u v:Tok}{tk:Nat}(I:Inv X pins σ H s)(h1 : -(2^62)<=lo)(h2:lo<2^62)(h3 : -(2^62)<=hi)(h4:hi<2^62)
  (q:R (Itr lo (hi - lo).toNat) H):wpAny (model X.prog X.w) X.A (pyIter (.ref s.heap.objs.size)) (PIE X pins σ tg R) E {s with heap:=s.heap.push {cls:=.type "range",data:=.fields #[.int lo t,.int hi u,.int 1 v]},toks:=tk}:=by
 refine wpAny_pyIter_range (IsRange.new ..) (small_one h1 h2 h3 h4) ?_;have I1:Inv X pins σ H {s with heap:=s.heap.push {cls:=.type "range",data:=.fields #[.int lo t,.int hi u,.int 1 v]},toks:=tk}:=I.kept λb o e=>Heap.get?_push_of_some _ e;refine⟨(s.heap.push {cls:=.type "range",data:=.fields #[.int lo t,.int hi u,.int 1 v]}).objs.size,[(s.heap.push {cls:=.type "range",data:=.fields #[.int lo t,.int hi u,.int 1 v]}).objs.size],_,_,H,rfl,
  I1.kept (t':=tk) λb o e=>Heap.get?_push_of_some _ e,q8x _ lo (hi - lo).toNat,?_,λb hb=>?_,q⟩
 ·have e1:lo+((0:Nat):Int)*1=lo:=by simp
  have e2:(((hi - lo).toNat:Nat):Int) - ((0:Nat):Int)=Builtin.Range.rangeSize lo hi 1:=by rw[rangeSize_one];split<;>omega
  show IsRangeIter _ _ (lo+((0:Nat):Int)*1) ((((hi - lo).toNat:Nat):Int) - ((0:Nat):Int)) 1;rw[e1,e2];exact Heap.get?_push_size _ rfl
 ·have e:b=(s.heap.push {cls:=.type "range",data:=.fields #[.int lo t,.int hi u,.int 1 v]}).objs.size:=by simpa using hb
  subst e;exact I1.fpOk (Nat.le_refl _) (I1.hok.fresh (Nat.le_refl _))
def z7V(ta:TA):TI:=λσ H R=>ta σ H λvs H1=>∃j:Int,vs=[.int j] /\ -(2^62)<=j/\j<2^62/\R (Itr 0 j.toNat) H1
theorem q8Z{a:Expr}{ta:TA}{p pos:Pos}(hg:Gl X "range")(hm:X.mg "range" = none)(ha:PA X [a] ta)(hs:starEach [a] X.env=[(false,eval a X.env)]:=by rfl):PI X tg (.Call (.Name "range" p) [a] [] pos) (z7V ta):=by
 intro pins s σ H R I h;refine Call_ (q7E I hg hm boot_range (PyProof.Rows.callWith_type1 (thn (ha pos pins s σ H _ I h) λus s1 ⟨vs,H1,I1,r1,q1⟩=>?_) hs rfl));obtain⟨j,e,q1,q2,q⟩:=q1;subst e;cases r1 with
 | cons r rr=>
  cases rr;obtain⟨t,rfl⟩:=r;exact call_range_1 (z2a I1 (by omega) (by omega) q1 q2 (by simpa using q))
def tFor(wi:TI)(g:TG)(tb:TS):TS:=λD σ H=>wi σ H λJ H1=>∃W:Nat->Nat->St->Hp->Prop,(∃m,W 0 m σ H1)/\∀i m σ H,W i m σ H ->
 (J.stop i H/\D.nx σ H)\/(J.go i H/\∃N:St->Hp->Prop,(∀σ' H',N σ' H'->∃m',m'<m/\W (i+1) m' σ' H')/\∀x H',J.yld i H x H'->g x σ H' λσ2 H2=>tb {D with nx:=N,ct:=N,bk:=D.nx} σ2 H2)
def q5X(fp:List Addr)(h:Heap):List (Addr×Obj):=fp.filterMap λb=>(h.get? b).map λo=>(b,o)
theorem q2P{fp:List Addr}{h:Heap}{b:Addr}{o:Obj}(hb:b∈fp)(e:h.get? b=some o):(b,o)∈q5X fp h:=List.mem_filterMap.mpr ⟨b,hb,by rw[e];rfl⟩
theorem q8Y{fp:List Addr}{h:Heap}{p:Addr×Obj}(hp:p∈q5X fp h):p.1∈fp/\h.get? p.1=some p.2:=by
 obtain⟨b,hb,e⟩:=List.mem_filterMap.mp hp;cases q:h.get? b with
 | none=>rw[q]at e;cases e
 | some o=>
  rw[q]at e;have e':(b,o)=p:=Option.some.inj e;subst e';exact⟨hb,q⟩
theorem Inv.pinned{pins:List (Addr×Obj)}{σ:St}{H:Hp}{s:Shared}{fp:List Addr}(I:Inv X pins σ H s)(hf:∀b∈fp,FpOk X pins H b)(ho:∀b∈fp,∃o,s.heap.get? b=some o/\∀v,o.data ≠ .cell v):Inv X (pins++q5X fp s.heap) σ H s:=
 I.pins_of λp hp=>(List.mem_append.mp hp).elim (λz=>I.pin p (List.mem_append_right _ z)) λz=>by obtain⟨hb,e⟩:=q8Y z;obtain⟨f0,f1,f2,_⟩:=hf p.1 hb;obtain⟨o,e',d⟩:=ho p.1 hb;rw[e]at e';cases e';exact⟨e,f0,f1,f2,d⟩
theorem Inv.unpinned{pins pl:List (Addr×Obj)}{σ:St}{H:Hp}{s:Shared}(I:Inv X (pins++pl) σ H s):Inv X pins σ H s:=I.pins_of λp hp=>I.pin p (List.mem_append_right _ (List.mem_append_left _ hp))
theorem z2l{iter:Expr}{body:List Stmt}{wi:TI}{g:TG}{tb:TS}{pos:Pos}(hp:PassesOwn (model X.prog X.w) X.A X.env X.xe)(hc:X.calm=true)(hi:PI X tg iter wi)(hg:PG X tg g)(hb:PSs X body tb)
  (hs:∀x,foldedSetIterable iter X.env x=pure x:=by intro _;rfl):PS X (.For tg iter body [] pos) (tFor wi g tb):=by
 intro pins s σ H D I h;refine wpAny_For (thn (hi pins s σ H _ I h) λv s1 h1=>thn h1 λitv s2 h2=>?_) hs;obtain⟨it,fp,tn,J,H2,e,I2,T,st2,f2,W,⟨m0,w0⟩,turn⟩:=h2;subst e;have stat:∀{H':Hp},(∀b∈fp,H' b=none)->∀b∈fp,FpOk X pins H' b:=λhn b hb=>⟨hn b hb,(f2 b hb).2⟩
 refine codeAny_forLoop_any (λn s'=>∃i σ' H',Inv X pins σ' H' s'/\tn i s'.heap/\(∀b∈fp,H' b=none)/\W i n σ' H') ?_ m0 ⟨0,σ,H2,I2,st2,λb hb=>(f2 b hb).1,w0⟩
 rintro n s3 ⟨i,σ3,H3,I3,st3,fr3,w3⟩
 rcases turn i n σ3 H3 w3 with⟨stop,qn⟩ | ⟨go,N,hN,step⟩
 ·refine wpAny_passesOwn hp (thn (T.done X rfl rfl rfl hc i pins s3 σ3 H3 X.xe I3 (stat fr3) st3 stop) λr s4 ⟨hr,I4⟩=>?_);subst hr;exact wpAny_execs_nil ⟨σ3,H3,I4,qn⟩
 ·refine wpAny_passesOwn hp (thn (T.item X rfl rfl rfl hc i pins s3 σ3 H3 X.xe I3 (stat fr3) st3 go) λr s4 ⟨u,hr,h4⟩=>?_);subst hr;refine wpAny_passesOwn hp (thn h4 λ_ s5 ⟨x,H5,I5,r5,y5,st5,fr5⟩=>?_);have I5':=I5.pinned (stat fr5) (T.obj _ _ st5);refine wpAny_passesOwn hp (thn (hg _ s5 σ3 H5 x u _ I5' r5 (step x H5 y5)) λ_ s6 ⟨σ6,H6,I6,q6⟩=>?_);refine wpAny_passesOwn hp (thn (hb _ s6 σ6 H6 _ I6 q6) λf s7 q7=>?_);have again:∀{σ7:St} {H7:Hp},Inv X (pins++q5X fp s5.heap) σ7 H7 s7->N σ7 H7->∃m,m<n/\∃i σ' H',Inv X pins σ' H' s7/\tn i s7.heap/\(∀b∈fp,H' b=none)/\W i m σ' H':=λ{σ7 H7} I7 n7=>by
   obtain⟨m',hm,w7⟩:=hN σ7 H7 n7;refine⟨m',hm,i+1,σ7,H7,I7.unpinned,T.keep _ _ _ st5 λb hb o e=>(I7.pin (b,o) (List.mem_append_right _ (List.mem_append_right _ (q2P hb e)))).1,λb hb=>?_,w7⟩;obtain⟨o,e,d⟩:=T.obj _ _ st5 b hb;exact(I7.pin (b,o) (List.mem_append_right _ (List.mem_append_right _ (q2P hb e)))).2.1
  cases f with
  | next=>obtain⟨σ7,H7,I7,n7⟩:=q7;exact again I7 n7
  | cont=>obtain⟨σ7,H7,I7,n7⟩:=q7;exact again I7 n7
  | brk=>obtain⟨σ7,H7,I7,q7⟩:=q7;exact⟨σ7,H7,I7.unpinned,q7⟩
  | ret v=>obtain⟨x7,σ7,H7,I7,r7,q7⟩:=q7;exact⟨x7,σ7,H7,I7.unpinned,r7,q7⟩
end
end L2
namespace L2
open PySem PySem.Spec PyProof.Rows
abbrev R2:=V->V->Hp->VK->Prop
def OpR(X:Cx)(f:Value->Value->Sem Value)(r:R2):Prop:=
 ∀(pins:List (Addr×Obj)) (s:Shared) (σ:St) (H:Hp) (x y:V) (v u:Value) (Q:VK),Inv X pins σ H s->RelV x v->RelV y u->r x y H Q ->
  wpAny (model X.prog X.w) X.A (f v u) (EP X pins σ Q) X.xe s
def UnR(X:Cx)(f:Value->Sem Value)(r:V->Hp->VK->Prop):Prop:=
 ∀(pins:List (Addr×Obj)) (s:Shared) (σ:St) (H:Hp) (x:V) (v:Value) (Q:VK),Inv X pins σ H s->RelV x v->r x H Q ->
  wpAny (model X.prog X.w) X.A (f v) (EP X pins σ Q) X.xe s
def q2Q(X:Cx)(f:Value)(r:List V->Hp->VK->Prop):Prop:=
 ∀(pins:List (Addr×Obj)) (s:Shared) (σ:St) (H:Hp) (xs:List V) (us:List Value) (Q:VK),Inv X pins σ H s->Vals xs us->r xs H Q ->
  wpAny (model X.prog X.w) X.A (call f us) (EP X pins σ Q) X.xe s
def TruR(X:Cx)(r:V->Hp->(Bool->Hp->Prop)->Prop):Prop:=
 ∀(pins:List (Addr×Obj)) (s:Shared) (σ:St) (H:Hp) (x:V) (v:Value) (Q:Bool->Hp->Prop),Inv X pins σ H s->RelV x v->r x H Q ->
  wpAny (model X.prog X.w) X.A (truthy v) (TP X pins σ Q) X.xe s
def tOp(r:R2)(ta tb:TE):TE:=λσ H Q=>ta σ H λx H1=>tb σ H1 λy H2=>r x y H2 Q
def tUn(r:V->Hp->VK->Prop)(ta:TE):TE:=λσ H Q=>ta σ H λx H1=>r x H1 Q
def rI(C:Int->Int->Prop)(g:Int->Int->V):R2:=λx y H Q=>∃i j,x=.int i/\y=.int j/\C i j/\Q (g i j) H
def rI0(g:Int->Int->V):R2:=λx y H Q=>∃i j,x=.int i/\y=.int j/\Q (g i j) H
def rU(g:Int->V):V->Hp->VK->Prop:=λx H Q=>∃i,x=.int i/\Q (g i) H
section
variable {X:Cx} {a b c:Expr} {ta tb tc:TE} {pos:Pos}
theorem binT(ha:PE X a ta)(hb:PE X b tb){pins:List (Addr×Obj)}{s:Shared}{σ:St}{H:Hp}{R:V->V->Hp->Prop}(I:Inv X pins σ H s)
  (h:ta σ H λx H1=>tb σ H1 λy H2=>R x y H2) {Q:Value->Shared->Prop} {f:Value->Value->Sem Value}
  (hf:∀v u s2 x y H2,Inv X pins σ H2 s2->RelV x v->RelV y u->R x y H2->wpAny (model X.prog X.w) X.A (f v u) Q X.xe s2) :
  wpAny (model X.prog X.w) X.A (eval a X.env) (λv s₁=>wpAny (model X.prog X.w) X.A (eval b X.env) (λu s₂=>wpAny (model X.prog X.w) X.A (f v u) Q X.xe s₂) X.xe s₁) X.xe s:=by
 refine thn (ha pins s σ H _ I h) λv s1 ⟨x,H1,I1,r1,q1⟩=>?_;refine thn (hb pins s1 σ H1 _ I1 q1) λu s2 ⟨y,H2,I2,r2,q2⟩=>?_;exact hf v u s2 x y H2 I2 r1 r2 q2
theorem z5I{op:Operator}{r:R2}(ho:OpR X (binaryOp op) r)(ha:PE X a ta)(hb:PE X b tb):PE X (.BinOp a op b pos) (tOp r ta tb):=by
 intro pins s σ H Q I h;exact wpAny_BinOp (binT ha hb I h λv u s2 x y H2 I2 rx ry q=>ho pins s2 σ H2 x y v u Q I2 rx ry q)
theorem z8q{op:UnaryOp}{r:V->Hp->VK->Prop}(ho:UnR X (unaryOp op) r)(ha:PE X a ta):PE X (.UnaryOp op a pos) (tUn r ta):=by
 intro pins s σ H Q I h;exact UnaryOp_ (thn (ha pins s σ H _ I h) λv s1 ⟨x,H1,I1,r1,q1⟩=>ho pins s1 σ H1 x v Q I1 r1 q1)
theorem opI{f:Value->Value->Sem Value}{C:Int->Int->Prop}{g:Int->Int->Int}
  (rule:∀(i j:Int) (t u:Tok) (s:Shared) (Q:Value->Shared->Prop) (E:Value->Shared->Prop),C i j->Q (.int (g i j) s.toks) {s with toks:=s.toks+1} -> wpAny (model X.prog X.w) X.A (f (.int i t) (.int j u)) Q E s) :
  OpR X f (rI C λi j=>.int (g i j)):=by
 intro pins s σ H x y v u Q I rx ry h;obtain⟨i,j,rfl,rfl,hc,q⟩:=h;obtain⟨t,rfl⟩:=rx;obtain⟨t',rfl⟩:=ry;exact rule i j t t' s _ _ hc ⟨.int (g i j),H,I.tok _,⟨_,rfl⟩,q⟩
theorem opI0{f:Value->Value->Sem Value}{g:Int->Int->Int}
  (rule:∀(i j:Int) (t u:Tok) (s:Shared) (Q:Value->Shared->Prop) (E:Value->Shared->Prop),Q (.int (g i j) s.toks) {s with toks:=s.toks+1} -> wpAny (model X.prog X.w) X.A (f (.int i t) (.int j u)) Q E s) :
  OpR X f (rI0 λi j=>.int (g i j)):=by
 intro pins s σ H x y v u Q I rx ry h;obtain⟨i,j,rfl,rfl,q⟩:=h;obtain⟨t,rfl⟩:=rx;obtain⟨t',rfl⟩:=ry;exact rule i j t t' s _ _ ⟨.int (g i j),H,I.tok _,⟨_,rfl⟩,q⟩
theorem opB0{f:Value->Value->Sem Value}{g:Int->Int->Bool}
  (rule:∀(i j:Int) (t u:Tok) (s:Shared) (Q:Value->Shared->Prop) (E:Value->Shared->Prop),Q (.bool (g i j)) s->wpAny (model X.prog X.w) X.A (f (.int i t) (.int j u)) Q E s) :
  OpR X f (rI0 λi j=>.bl (g i j)):=by
 intro pins s σ H x y v u Q I rx ry h;obtain⟨i,j,rfl,rfl,q⟩:=h;obtain⟨t,rfl⟩:=rx;obtain⟨t',rfl⟩:=ry;exact rule i j t t' s _ _ ⟨.bl (g i j),H,I,rfl,q⟩
def CPow(i j:Int):Prop:=0<=j/\j<=1000000/\i.natAbs<2^64
def CMul(i j:Int):Prop:=(-(2^64)<i/\i<2^64)\/(-(2^64)<j/\j<2^64)
theorem CMul.ok{i j:Int}(h:CMul i j):IntMulOk i j:=by
 rcases h with⟨h1,h2⟩ | ⟨h1,h2⟩
 ·exact .of_left (intBits_le_64 h1 h2)
 ·exact .of_right (intBits_le_64 h1 h2)
theorem z6z:OpR X (binaryOp .Add) (rI0 λi j=>.int (i+j)):=opI0 λ_ _ _ _ _ _ _ q=>add_int q
theorem z5i:OpR X (binaryOp .Sub) (rI0 λi j=>.int (i - j)):=opI0 λ_ _ _ _ _ _ _ q=>sub_int q
theorem z7A:OpR X (binaryOp .Mod) (rI (λ_ j=>0<j) λi j=>.int (i%j)):=opI λi j _ _ _ _ _ hc q=>by
 have h1:(0:Int)<j:=hc;exact mod_int' (by omega) (by rw[Int.fmod_eq_emod_of_nonneg i (by omega)];exact q)
theorem z4J:OpR X (binaryOp .Mod) (rI (λ_ j=>j≠0) λi j=>.int (i.fmod j)):=opI λ_ _ _ _ _ _ _ hc q=>mod_int' hc q
theorem z7j:OpR X (binaryOp .LShift) (rI CPow λi j=>.int (i*2^j.toNat)):=opI λ_ _ _ _ _ _ _ hc q=>lshift_int_small hc.1 hc.2.1 hc.2.2 q
theorem z8h:OpR X (binaryOp .BitOr) (rI0 λi j=>.int (Builtin.bitOr i j)):=opI0 λ_ _ _ _ _ _ _ q=>or_int q
theorem unI{f:Value->Sem Value}{g:Int->Int}
  (rule:∀(i:Int) (t:Tok) (s:Shared) (Q:Value->Shared->Prop) (E:Value->Shared->Prop),Q (.int (g i) s.toks) {s with toks:=s.toks+1} -> wpAny (model X.prog X.w) X.A (f (.int i t)) Q E s) :
  UnR X f (rU λi=>.int (g i)):=by
 intro pins s σ H x v Q I rx h;obtain⟨i,rfl,q⟩:=h;obtain⟨t,rfl⟩:=rx;exact rule i t s _ _ ⟨.int (g i),H,I.tok _,⟨_,rfl⟩,q⟩
theorem z5g:UnR X (unaryOp .USub) (rU λi=>.int (-i)):=unI λ_ _ _ _ _ q=>neg_int q
end
section
variable {X:Cx} {a b c:Expr} {ta tb tc:TE} {pos:Pos}
theorem z2m{pins:List (Addr×Obj)}{σ:St}{H:Hp}{s:Shared}{Q:VK}{k k':Bool}(I:Inv X pins σ H s)(q:Q (.bl k) H)(e:k=k'):EP X pins σ Q (.bool k') s:=by
 subst e;exact⟨.bl k,H,I,rfl,q⟩
theorem z8K:OpR X (compareOp .Lt) (rI0 λi j=>.bl (decide (i<j))):=opB0 λ_ _ _ _ _ _ _ q=>lt_int q
theorem z8k:OpR X (compareOp .LtE) (rI0 λi j=>.bl (decide (i<=j))):=opB0 λ_ _ _ _ _ _ _ q=>le_int q
theorem z8C:OpR X (compareOp .Gt) (rI0 λi j=>.bl (decide (j<i))):=opB0 λ_ _ _ _ _ _ _ q=>gt_int q
theorem z7o:OpR X (compareOp .Is) (λx y H Q=>y=.non/\Q (.bl (decide (x=.non))) H):=by
 intro pins s σ H x y v u Q I rx ry h;obtain⟨rfl,q⟩:=h;cases ry;refine is_none_gen (z2m I q ?_);cases x<;>first
  | (cases rx;rfl)
  | (obtain⟨t,rfl⟩:=rx;rfl)
theorem z4l:OpR X (compareOp .IsNot) (λx y H Q=>y=.non/\Q (.bl (!decide (x=.non))) H):=by
 intro pins s σ H x y v u Q I rx ry h;obtain⟨rfl,q⟩:=h;cases ry;refine isnot_none_gen (z2m I q ?_);cases x<;>first
  | (cases rx;rfl)
  | (obtain⟨t,rfl⟩:=rx;rfl)
theorem OpR.or{f:Value->Value->Sem Value}{r r':R2}(h:OpR X f r)(h':OpR X f r'):OpR X f (λx y H Q=>r x y H Q\/r' x y H Q):=by
 intro pins s σ H x y v u Q I rx ry q;rcases q with q | q
 ·exact h pins s σ H x y v u Q I rx ry q
 ·exact h' pins s σ H x y v u Q I rx ry q
theorem z9p(b:Expr){op:CmpOp}(h:op ≠ .In:=by decide)(h2:op ≠ .NotIn:=by decide):behindInMarks op b=false:=by
 have e1:(op==CmpOp.In)=false:=by cases op<;>first | rfl | exact absurd rfl h
 have e2:(op==CmpOp.NotIn)=false:=by cases op<;>first | rfl | exact absurd rfl h2
 cases b<;>simp[behindInMarks,e1,e2]
theorem z2U{op:CmpOp}{r:R2}(ho:OpR X (compareOp op) r)(ha:PE X a ta)(hb:PE X b tb)(hm:behindInMarks op b=false):PE X (.Compare a [op] [b] pos) (tOp r ta tb):=by
 intro pins s σ H Q I h;exact wpAny_Compare1 (binT ha hb I h λv u s2 x y H2 I2 rx ry q=>ho pins s2 σ H2 x y v u Q I2 rx ry q) hm
def z5A(t:TE):TT:=λσ H Q=>t σ H λx H'=>∃k,x=.bl k/\Q k H'
theorem z4S{op:CmpOp}{r:R2}(ho:OpR X (compareOp op) r)(ha:PE X a ta)(hb:PE X b tb)(hm:behindInMarks op b=false):PT X (.Compare a [op] [b] pos) (z5A (tOp r ta tb)):=by
 intro pins s σ H Q I h;refine wpAny_isTrue_Compare1 (thn (ha pins s σ H _ I h) λv s1 ⟨x,H1,I1,r1,q1⟩=>thn (hb pins s1 σ H1 _ I1 q1) λu s2 ⟨y,H2,I2,r2,q2⟩=>
  thn (ho pins s2 σ H2 x y v u _ I2 r1 r2 q2) λc s3 ⟨z,H3,I3,r3,k,e,q3⟩=>?_) hm
 subst e;cases r3;exact wpAny_truthy_bool ⟨H3,I3,q3⟩
def z0D(r r':R2)(ta tb tc:TE):TE:=λσ H Q=>ta σ H λx H1=>tb σ H1 λy H2=>r x y H2 λz H3=>∃k,z=.bl k /\
 (if k=true then tc σ H3 λw' H4=>r' y w' H4 Q else Q (.bl false) H3)
theorem z1q{op op':CmpOp}{r r':R2}(ho:OpR X (compareOp op) r)(ho':OpR X (compareOp op') r')(ha:PE X a ta)(hb:PE X b tb)(hc:PE X c tc)
  (hm:lastMarks [op,op'] [b,c]=false:=by with_unfolding_all rfl):PE X (.Compare a [op,op'] [b,c] pos) (z0D r r' ta tb tc):=by
 intro pins s σ H Q I h;refine Compare_chain (thn (ha pins s σ H _ I h) λv s1 ⟨x,H1,I1,r1,q1⟩=>chain_link (thn (hb pins s1 σ H1 _ I1 q1) λu s2 ⟨y,H2,I2,r2,q2⟩=>
  thn (ho pins s2 σ H2 x y v u _ I2 r1 r2 q2) λd s3 ⟨z,H3,I3,r3,k,e,q3⟩=>?_)) hm
 subst e;cases r3;refine wpAny_truthy_bool ?_;cases k with
 | false=>exact ite_ff ⟨.bl false,H3,I3,rfl,q3⟩
 | true=>exact ite_tt (chain_last (thn (hc pins s3 σ H3 _ I3 q3) λw' s4 ⟨z',H4,I4,r4,q4⟩=>ho' pins s4 σ H4 y z' u w' Q I4 r2 r4 q4))
theorem z1u{op op':CmpOp}{r r':R2}(ho:OpR X (compareOp op) r)(ho':OpR X (compareOp op') r')(ha:PE X a ta)(hb:PE X b tb)(hc:PE X c tc)
  (hm:lastMarks [op,op'] [b,c]=false:=by with_unfolding_all rfl):PT X (.Compare a [op,op'] [b,c] pos) (z5A (z0D r r' ta tb tc)):=by
 intro pins s σ H Q I h;refine isTrue_chain (thn (ha pins s σ H _ I h) λv s1 ⟨x,H1,I1,r1,q1⟩=>test_link (thn (hb pins s1 σ H1 _ I1 q1) λu s2 ⟨y,H2,I2,r2,q2⟩=>
  thn (ho pins s2 σ H2 x y v u _ I2 r1 r2 q2) λd s3 ⟨z,H3,I3,r3,k,e,q3⟩=>?_)) hm
 subst e;cases r3;refine wpAny_truthy_bool ?_;cases k with
 | false=>
  obtain⟨k',e',q'⟩:=q3;cases e';exact ite_ff ⟨H3,I3,q'⟩
 | true=>
  refine ite_tt (test_last (thn (hc pins s3 σ H3 _ I3 q3) λw' s4 ⟨z',H4,I4,r4,q4⟩=>thn (ho' pins s4 σ H4 y z' u w' _ I4 r2 r4 q4) λd' s5 ⟨z2,H5,I5,r5,k2,e2,q5⟩=>?_));subst e2;cases r5;exact wpAny_truthy_bool ⟨H5,I5,q5⟩
def TruV(K:PySem.W.Frag)(x:V)(H:Hp)(k:Bool):Prop:=
 match x with
 | .non=>k=false
 | .bl b=>k=b
 | .int i=>k=(i != 0)
 | .str y=>y.length<=sizeLine/\k=((y.length:Int) != 0)
 | .byt y=>y.size<=sizeLine/\k=((y.size:Int) != 0)
 | .ref p=>(∃xs,SqL K H p xs/\k = !xs.isEmpty)\/(∃xs,SqT K H p xs/\k = !xs.isEmpty)\/∃kvs,H p=some (.dK kvs)/\k = !kvs.isEmpty
 | _=>False
theorem q8q{κ:Type}{kvs:List (κ×V)}{vs:List (κ×Value)}(r:KV kvs vs):(!vs.isEmpty) = !kvs.isEmpty:=by
 cases r<;>rfl
theorem q5b{xs:List V}{its:List Value}(r:Vals xs its):(!its.toArray.isEmpty) = !xs.isEmpty:=by
 cases r<;>simp
theorem q5f:(sizeLine:Nat)<2^63:=by rw[sizeLine_eq];decide
theorem q7V:TruR X (λx H Q=>∃k,TruV X.K x H k/\Q k H):=by
 intro pins s σ H x v Q I rx h;obtain⟨k,e,q⟩:=h;have hl:=q5f;have hs:sizeLine=16777216:=sizeLine_eq;cases x with
 | non=>
  cases rx;have e':k=false:=e;subst e';exact truthy_none ⟨H,I,q⟩
 | bl b=>
  cases rx;have e':k=b:=e;subst e';exact wpAny_truthy_bool ⟨H,I,q⟩
 | int i=>
  obtain⟨t,rfl⟩:=rx;have e':k=(i != 0):=e;subst e';exact PySem.P.truthy_int ⟨H,I,q⟩
 | str y=>
  obtain⟨t,rfl⟩:=rx;obtain⟨hy,e'⟩:y.length<=sizeLine/\k=((y.length:Int) != 0):=e;subst e';exact PySem.P.truthy_str (by omega) ⟨H,I.tok _,q⟩
 | byt y=>
  obtain⟨t,rfl⟩:=rx;obtain⟨hy,e'⟩:y.size<=sizeLine/\k=((y.size:Int) != 0):=e;subst e';exact PySem.W.truthy_bytes (by omega) ⟨H,I.tok _,q⟩
 | ref p=>
  cases rx;have e':(∃xs,SqL X.K H p xs/\k = !xs.isEmpty)\/(∃xs,SqT X.K H p xs/\k = !xs.isEmpty)\/∃kvs,H p=some (.dK kvs)/\k = !kvs.isEmpty:=e;rcases e' with⟨xs,hx,e'⟩ | ⟨xs,hx,e'⟩ | ⟨kvs,hx,e'⟩
  ·subst e';obtain⟨its,r,pl,hz⟩:=I.list hx;have hlen:=r.length;exact wpAny_truthy_list pl.isList (by simp only[List.size_toArray];omega) ⟨H,I.tok _,by rw[q5b r];exact q⟩
  ·subst e';obtain⟨its,r,pl,hz⟩:=I.tuple hx;have hlen:=r.length;exact truthy_tuple pl (by simp only[List.size_toArray];omega) ⟨H,I.tok _,by rw[q5b r];exact q⟩
  ·subst e';obtain⟨hz,hS,vs,r,m⟩:kvs.length<=sizeLine/\(p==sysModules)=false/\∃vs,KV kvs vs/\s.heap.DictOf (q7c X.prog X.w) p vs:=I.hok p _ hx;have hlen:kvs.length=vs.length:=Paired.length r;exact wpAny_truthy_dict hS m (by omega) ⟨H,I.tok _,by rw[q8q r];exact q⟩
 | _=>exact(show False from e).elim
theorem q7Q(ha:PE X a ta)(he:∀whole,isTrue a X.env whole=(do let v ←whole;standAt a.pos;holding [v] (truthy v))) :
  PT X a (λσ H Q=>ta σ H λx H'=>∃k,TruV X.K x H' k/\Q k H'):=by
 intro pins s σ H Q I h;exact isTrue_plain (thn (ha pins s σ H _ I h) λv s1 ⟨x,H1,I1,r1,q1⟩=>q7V pins s1 σ H1 x v Q I1 r1 q1) (he _)
theorem q8y:OpR X (binaryOp .Add) (λx y H Q=>∃i j,x=.str i/\y=.str j/\i.length+j.length<=sizeLine/\Q (.str (i++j)) H):=by
 intro pins s σ H x y v u Q I rx ry h;obtain⟨i,j,rfl,rfl,hz,q⟩:=h;obtain⟨t,rfl⟩:=rx;obtain⟨t',rfl⟩:=ry;exact add_str (λt' tk=>⟨.str (i++j),H,I.tok _,⟨_,rfl⟩,q⟩) hz
theorem q6F{x:V}{us:List Value}(r:Vals [x] us):∃u,us=[u]/\RelV x u:=by
 cases r with
 | cons r1 r2=>cases r2;exact⟨_,rfl,r1⟩
theorem z6K{x y:V}{us:List Value}(r:Vals [x,y] us):∃u w',us=[u,w']/\RelV x u/\RelV y w':=by
 cases r with
 | cons r1 r2=>
  cases r2 with
  | cons r3 r4=>cases r4;exact⟨_,_,rfl,r1,r3⟩
theorem q5Z:q2Q X (.type "int") (λxs H Q=>(∃i,xs=[.int i]/\Q (.int i) H)\/∃k,xs=[.bl k]/\Q (.int (if k then 1 else 0)) H):=by
 intro pins s σ H xs us Q I r h;rcases h with⟨i,rfl,q⟩ | ⟨k,rfl,q⟩
 ·obtain⟨u,rfl,t,rfl⟩:=q6F r;exact call_int_int ⟨.int i,H,I,⟨_,rfl⟩,q⟩
 ·obtain⟨u,rfl,r1⟩:=q6F r;cases r1;exact call_int_bool ⟨.int (if k then 1 else 0),H,I.tok _,⟨_,rfl⟩,q⟩
end
end L2
namespace L2
open PySem PySem.Spec PyProof.Rows
structure ObjM(h:Heap)(x dx C:Addr)(mA:Str->Option Value):Prop where
 obj:h.get? x=some (PySem.W.instObj C dx)
 ns:h.Ns1 dx mA
 ne:dx≠x
theorem z0O{h:Heap}{dx:Addr}{mA:Str->Option Value}(n:h.Ns1 dx mA):∃od,h.get? dx=some od/\∀name,PySem.W.lookIn name od=some (mA name):=by
 obtain⟨o,es,ep,ho,hd,hk,_,hm⟩:=n;refine⟨o,ho,λname=>?_⟩;have e:=hm name;unfold nsFind findBy at e;rw[←Array.find?_toList]at e;unfold PySem.W.lookIn;rw[hd];dsimp only;split
 ·rename_i y q;rw[q]at e;exact congrArg some e
 ·rename_i q;rw[q]at e;have a:es.toList.any (·.refKey)=false:=by
   rw[List.any_eq_false];intro y hy;obtain⟨z,t,hkey⟩:=hk y (Array.mem_toList_iff.mp hy);simp[DictEntry.refKey,hkey]
  have a':¬es.toList.any (·.refKey)=true:=by rw[a];exact Bool.false_ne_true
  rw[if_neg a'];exact congrArg some e
theorem ObjM.look{h:Heap}{x dx C:Addr}{mA:Str->Option Value}(I:ObjM h x dx C mA):∃od,PySem.W.InstAt h x (PySem.W.instObj C dx) C (some od)/\∀name,PySem.W.lookIn name od=some (mA name):=
 let ⟨od,ho,hl⟩:=z0O I.ns
 ⟨od,⟨I.obj,rfl,rfl,ho⟩,hl⟩
section
variable {prog:Program} {w:World} {A:Around} {E:Value->Shared->Prop} {s:Shared} {K:PySem.W.Frag} {x dx C f:Addr} {mA:Str->Option Value} {name:Str} {v:Value}
theorem z3f{expr:Bool}{Q:Value->Shared->Prop}(X:K.In s.heap)(I:ObjM s.heap x dx C mA)(hg:PySem.W.plainGet K C name=true)(hh:PySem.W.hasDictIn K C=true)
  (ha:PySem.W.findIn K (.ref C) name=some none) (hv:mA name=some v) (hv':PySem.W.handedIn v=true) (h:Q v {s with toks:=s.toks+1}) :
  wpAny (model prog w) A (getAttr (.ref x) name expr) Q E s:=by
 obtain⟨od,J,hl⟩:=I.look;exact PySem.W.get_value X J (PySem.W.plainGet_of hg).1 (PySem.W.findObj_own hh ha rfl (by rw[hl,hv])) hv' h
theorem z0Y{pl:Sem Bool}{Q:Value×List Value->Shared->Prop}(X:K.In s.heap)(I:ObjM s.heap x dx C mA)(hg:PySem.W.plainGet K C name=true)
  (hf:PySem.W.findIn K (.ref C) name=some (some (.ref f))) (ht:PySem.W.isFn K (.ref f)=true) (hv:mA name=none) (h:Q (.ref f,[.ref x]) s) :
  wpAny (model prog w) A (getMethod (.ref x) name pl) Q E s:=by
 obtain⟨od,J,hl⟩:=I.look;exact PySem.W.method_fn X J (PySem.W.plainGet_of hg).1 (PySem.W.plainGet_of hg).2 hf (beq_iff_eq.mp ht) (by show(PySem.W.lookIn name od).map (·.isSome)=some false;rw[hl,hv];rfl) h
theorem z4v{ns:List Str}{Q:Unit->Shared->Prop}(X:K.In s.heap)(I:ObjM s.heap x dx C mA)
  (hs:PySem.W.findIn K (.ref C) "__setattr__" = some (some (.builtin "object.__setattr__"))) (hp:PySem.W.plainOver K C=true) (ht:PySem.W.takerIn K C name=some none) (hh:PySem.W.hasDictIn K C=true)
  (hw:PySem.Within mA ns) (hsz:ns.length<=sizeLine)
  (h:∀h',ObjM h' x dx C (λy=>if y=name then some v else mA y)->Heap.SameBut dx s.heap h'->Q () {s with heap:=h',toks:=s.toks+2}) :
  wpAny (model prog w) A (setAttr (.ref x) name v) Q E s:=by
 obtain⟨od,J,hl⟩:=I.look;refine PySem.W.set_plain X J hs (PySem.W.osa_open (s:={s with toks:=s.toks+1}) (r:=none) X J hp ht λb=>?_);obtain⟨cd,hc,hd'⟩:=PySem.W.any_some hh;have hx:s.heap.get? x=some ⟨.ref C,some dx,.plain,#[]⟩:=I.obj;refine wpAny_bind (wpAny_pure (wpAny_bind (wpAny_bind (wpAny_loadPart hx (wpAny_bind (PySem.W.Looks.here (s:={s with toks:=s.toks+1}) (PySem.W.looks_clsIn X hc) ?_))))));rw[hd'];refine wpAny_pure (a:=some dx) (wpAny_bind (wpAny_pure (wpAny_bind ?_)));refine wpAny_nsSet1 (s:={s with toks:=s.toks+1}) I.ns λh' hn2 hs2=>?_
 obtain⟨oD,esD,epD,hoD,hdD,hcD⟩:=hn2.count (PySem.Within.cons name v hw);refine wpAny_bind (wpAny_lookBehind hoD (by rw[hdD];exact pastItsLine_dict (Nat.le_trans hcD (by rw[List.length_cons];omega))) ?_);exact wpAny_pure (h _ ⟨(hs2.2 _ (Ne.symm I.ne)).trans I.obj,hn2,I.ne⟩ hs2)
theorem z1X{R:Result->Shared->Prop}{vs:List Value}{kw:List (Str×Value)}(X:K.In s.heap)(hm:PySem.W.makesIn K C=true)
  (hi:PySem.W.findIn K (.ref C) "__init__" = some (some (.ref f))) (hf:PySem.W.typeIn K (.ref f)=some (.type "function"))
  (h:codeAny (model prog w) (A.under (.builtin "type.__call__" ⟨.ref C::vs,kw⟩)) (.call (.ref f) ⟨.ref (s.heap.objs.size+1)::vs,kw⟩) (PySem.W.InitBack (s.heap.objs.size+1) R)
   {s with heap:=(s.heap.push PySem.W.emptyDict).push (PySem.W.instObj C s.heap.objs.size)}) :
  codeAny (model prog w) A (.call (.ref C) ⟨vs,kw⟩) R s:=by
 obtain⟨hh,g,d,t,os⟩:=s;exact PySem.W.make_core (PySem.W.makes_of X hm) (PySem.W.looks_findIn X hi) (λself=>PySem.W.bind_fn X self hf) (.inl rfl) h
end
def putF(f:Str)(v:V):List (Str×V)->List (Str×V)
 | []=>[(f,v)]
 | (g,x)::r=>if g=f then(g,v)::r else(g,x)::putF f v r
theorem q4s(f g:Str)(v:V):∀fs:List (Str×V),(putF f v fs).lookup g=if g=f then some v else fs.lookup g
 | []=>by
  show List.lookup g [(f,v)]=_;by_cases h:g=f
  ·have hb:(g==f)=true:=beq_iff_eq.mpr h;simp only[List.lookup,hb,if_pos h]
  ·have hb:(g==f)=false:=beq_eq_false_iff_ne.mpr h;simp only[List.lookup,hb,if_neg h]
 | (k,x)::r=>by
  have ih:=q4s f g v r;rw[show putF f v ((k,x)::r)=(if k=f then(k,v)::r else(k,x)::putF f v r)from rfl];by_cases hk:k=f
  ·rw[if_pos hk];by_cases h:g=k
   ·have hb:(g==k)=true:=beq_iff_eq.mpr h;simp only[List.lookup,hb,if_pos (h.trans hk)]
   ·have hb:(g==k)=false:=beq_eq_false_iff_ne.mpr h;simp only[List.lookup,hb,if_neg (λe:g=f=>h (e.trans hk.symm))]
  ·rw[if_neg hk];by_cases h:g=k
   ·have hb:(g==k)=true:=beq_iff_eq.mpr h;simp only[List.lookup,hb,if_neg (λe:g=f=>hk (h.symm.trans e))]
   ·have hb:(g==k)=false:=beq_eq_false_iff_ne.mpr h;simp only[List.lookup,hb];exact ih
theorem q4S(f:Str)(v:V):∀fs:List (Str×V),f∈(putF f v fs).map (·.1)/\∀g,g∈fs.map (·.1)->g∈(putF f v fs).map (·.1)
 | []=>⟨by simp[putF],λg h=>by simp at h⟩
 | (k,x)::r=>by
  obtain⟨i1,i2⟩:=q4S f v r;rw[show putF f v ((k,x)::r)=(if k=f then(k,v)::r else(k,x)::putF f v r)from rfl];by_cases hk:k=f
  ·rw[if_pos hk];subst hk;exact⟨by simp,λg h=>by simpa using h⟩
  ·rw[if_neg hk];refine⟨?_,λg h=>?_⟩
   ·rw[List.map_cons];exact List.mem_cons_of_mem _ i1
   ·rw[List.map_cons]at h ⊢;rcases List.mem_cons.mp h with e | e
    ·exact List.mem_cons.mpr (.inl e)
    ·exact List.mem_cons_of_mem _ (i2 g e)
theorem q4x(f:Str)(v:V):∀fs:List (Str×V),(putF f v fs).length<=fs.length+1
 | []=>by simp[putF]
 | (k,x)::r=>by
  have ih:=q4x f v r;rw[show putF f v ((k,x)::r)=(if k=f then(k,v)::r else(k,x)::putF f v r)from rfl];by_cases hk:k=f
  ·rw[if_pos hk,List.length_cons,List.length_cons];omega
  ·rw[if_neg hk,List.length_cons,List.length_cons];omega
theorem RelO.some_of{v:V}{o:Option Value}(r:RelO (some v) o):∃u,o=some u/\RelV v u:=by
 cases o with
 | none=>exact(show False from r).elim
 | some u=>exact⟨u,rfl,r⟩
theorem RelO.none_of{o:Option Value}(r:RelO none o):o=none:=by
 cases o with
 | none=>rfl
 | some u=>exact(show False from r).elim
theorem z0G{v:V}{u:Value}(r:RelV v u):PySem.W.handedIn u=true:=by
 cases v with
 | non=>cases(show u=Value.none from r);rfl
 | bl b=>cases(show u=Value.bool b from r);rfl
 | int i=>obtain⟨t,e⟩:=(show ∃t,u=Value.int i t from r);cases e;rfl
 | str x=>obtain⟨t,e⟩:=(show ∃t,u=Value.str x t from r);cases e;rfl
 | byt b=>obtain⟨t,e⟩:=(show ∃t,u=Value.bytes b t from r);cases e;rfl
 | flt b=>obtain⟨t,e⟩:=(show ∃t,u=Value.float b t from r);cases e;rfl
 | ref a=>cases(show u=Value.ref a from r);rfl
 | ty n=>cases(show u=Value.type n from r);rfl
section
variable {P:Program} {w:World} {H H':Hp} {h h':Heap} {a C dx:Addr} {fs fs':List (Str×V)}
theorem q6Y(hok:HOk P w H h)(e:H a=some (.ins C dx fs)):∃mA,ObjM h a dx C mA/\(∀f,RelO (fs.lookup f) (mA f))/\PySem.Within mA (fs.map (·.1))/\fs.length<=1000/\H dx=some (.own a):=by
 obtain⟨d,z,ne,ob,mA,n,r,q⟩:=(show q1J P w H h a (.ins C dx fs)from hok a _ e);exact⟨mA,⟨ob,n,ne⟩,r,q,z,d⟩
end
structure Cls(K:PySem.W.Frag)(C:Addr):Prop where
 pg:PySem.W.plainGet K C Str.empty=true
 hd:PySem.W.hasDictIn K C=true
 po:PySem.W.plainOver K C=true
 sa:PySem.W.findIn K (.ref C) "__setattr__" = some (some (.builtin "object.__setattr__"))
theorem Cls.get{K:PySem.W.Frag}{C:Addr}(c:Cls K C)(f:Str):PySem.W.plainGet K C f=true:=c.pg
def q1p(K:PySem.W.Frag)(C:Addr)(f:Str):Prop:=PySem.W.findIn K (.ref C) f=some none
theorem q1p.taker{K:PySem.W.Frag}{C:Addr}{f:Str}(n:q1p K C f):PySem.W.takerIn K C f=some none:=by
 unfold PySem.W.takerIn;rw[show PySem.W.findIn K (.ref C) f=some none from n];rfl
structure Con(K:PySem.W.Frag)(C:Addr)(f:Str)(v:V)(u:Value):Prop where
 at_:PySem.W.findIn K (.ref C) f=some (some u)
 rel:RelV v u
 get:PySem.W.specialIn K u "__get__" = some none
 cp:PySem.W.copiedNames.contains f=false
structure Meth(K:PySem.W.Frag)(C:Addr)(m:Str)(f:Addr):Prop where
 at_:PySem.W.findIn K (.ref C) m=some (some (.ref f))
 fn:PySem.W.isFn K (.ref f)=true
 kp:PySem.W.keepIn K (.ref f)=true
section
variable {X:Cx} {pins:List (Addr×Obj)} {σ:St} {H:Hp} {s:Shared} {a C dx:Addr} {fs:List (Str×V)} {f:Str} {v:V} {A:Around} {E:Value->Shared->Prop}
theorem q5l{b:Bool}{Q:Value->Shared->Prop}(I:Inv X pins σ H s)(e:H a=some (.ins C dx fs))(c:Cls X.K C)(n:q1p X.K C f)(l:fs.lookup f=some v)
  (h:∀u s',Inv X pins σ H s'->RelV v u->Q u s'):wpAny (model X.prog X.w) A (getAttr (.ref a) f b) Q E s:=by
 obtain⟨mA,O,r,_,_,_⟩:=q6Y I.hok e;obtain⟨u,hu,ru⟩:=RelO.some_of (v:=v) (o:=mA f) (by rw[←l];exact r f);exact z3f I.kIn O (c.get f) c.hd n hu (z0G ru) (h u _ (I.tok _) ru)
theorem q5u{m:Str}{g:Addr}{pl:Sem Bool}{Q:Value×List Value->Shared->Prop}(I:Inv X pins σ H s)(e:H a=some (.ins C dx fs))(c:Cls X.K C)(k:Meth X.K C m g)(l:fs.lookup m=none)
  (h:Q (.ref g,[.ref a]) s):wpAny (model X.prog X.w) A (getMethod (.ref a) m pl) Q E s:=by
 obtain⟨mA,O,r,_,_,_⟩:=q6Y I.hok e;have hn:mA m=none:=RelO.none_of (by rw[←l];exact r m);exact z0Y I.kIn O (c.get m) k.at_ k.fn hn h
theorem q5t{y:V}{u:Value}{Q:Unit->Shared->Prop}(I:Inv X pins σ H s)(e:H a=some (.ins C dx fs))(c:Cls X.K C)(n:q1p X.K C f)(hl:fs.length<1000)(ry:RelV y u)
  (h:∀s',Inv X pins σ (upd H a (.ins C dx (putF f y fs))) s'->Q () s'):wpAny (model X.prog X.w) A (setAttr (.ref a) f u) Q E s:=by
 obtain⟨mA,O,r,wi,_,ho⟩:=q6Y I.hok e;have hz:(fs.map (·.1)).length<=sizeLine:=by rw[List.length_map,sizeLine_eq];omega
 refine z4v I.kIn O c.sa c.po n.taker c.hd wi hz λh' O' sb=>h _ ?_;have hd:∃o,h'.get? dx=some o:=let ⟨o,_,_,e',_⟩:=O'.ns;⟨o,e'⟩;refine I.write (x:=a) (e:=dx) (by rw[e];exact True.intro) (.inr ho) (λb q hb z=>(sb.2 b hb).trans z) hd ?_;refine⟨by rw[q0j O.ne];exact ho,?_,O.ne,O'.obj,_,O'.ns,λg=>?_,λg hg=>?_⟩
 ·have:=q4x f y fs;omega
 ·show RelO ((putF f y fs).lookup g) (if g=f then some u else mA g);rw[q4s];by_cases q:g=f
  ·rw[if_pos q,if_pos q];exact ry
  ·rw[if_neg q,if_neg q];exact r g
 ·by_cases q:g=f
  ·rw[q];exact(q4S f y fs).1
  ·refine(q4S f y fs).2 g (wi g λz=>hg ?_);show(if g=f then some u else mA g)=none;rw[if_neg q];exact z
theorem Inv.made(I:Inv X pins σ H s):Inv X pins σ (upd (upd H s.heap.objs.size (.own (s.heap.objs.size+1))) (s.heap.objs.size+1) (.ins C s.heap.objs.size []))
  {s with heap:=(s.heap.push PySem.W.emptyDict).push (PySem.W.instObj C s.heap.objs.size)}:=by
 have e1:(s.heap.push PySem.W.emptyDict).get? s.heap.objs.size=some PySem.W.emptyDict:=Heap.get?_push_size s.heap rfl;have e2:((s.heap.push PySem.W.emptyDict).push (PySem.W.instObj C s.heap.objs.size)).get? (s.heap.objs.size+1)=some (PySem.W.instObj C s.heap.objs.size):=by
  have:=Heap.get?_push_size (s.heap.push PySem.W.emptyDict) (o:=PySem.W.instObj C s.heap.objs.size) rfl
  rwa [Heap.size_push]at this
 have e3:(s.heap.push PySem.W.emptyDict).Ns s.heap.objs.size (λ_=>none):=⟨PySem.W.emptyDict,#[],_,e1,rfl,(λe he=>absurd he (by simp)),λ_=>rfl⟩;have I1:=I.laid (a:=s.heap.objs.size) (o:=.own (s.heap.objs.size+1)) (h':=s.heap.push PySem.W.emptyDict) (t':=s.toks) (λb u q=>Heap.get?_push_of_some _ q) (Nat.le_refl _) ⟨_,e1⟩;refine I1.laid (a:=s.heap.objs.size+1) (o:=.ins C s.heap.objs.size []) (t':=s.toks) (λb u q=>Heap.get?_push_of_some _ q) (Nat.le_of_eq (Heap.size_push _ _)) ?_;have ne:s.heap.objs.size≠s.heap.objs.size+1:=Nat.ne_of_lt (Nat.lt_succ_self _);refine⟨by rw[q0j ne,q0v],Nat.zero_le _,ne,e2,λ_=>none,(Heap.Ns1.of_empty e3).at λo q=>Heap.get?_push_of_some _ q,λ_=>True.intro,λy hy=>absurd rfl hy⟩
theorem z4Y{prog:Program}{w:World}{env:Env}{e:Expr}{f:Str}{pos:Pos}{s:Shared}{Q:Value->Shared->Prop}(hb:attributeBase e f env (eval e env)=eval e env)
  (h:wpAny (model prog w) A (eval e env) (λo s₁=>wpAny (model prog w) A (getAttr o f true) Q E s₁) E s):wpAny (model prog w) A (eval (.Attribute e f pos) env) Q E s:=
 Attribute_any_ h (by rw[arm_eval_Attribute,hb])
end
def tFld(K:PySem.W.Frag)(ta:TE)(f:Str):TE:=λσ H Q=>ta σ H λx H1=>∃a C dx fs v,x=.ref a/\H1 a=some (.ins C dx fs)/\Cls K C/\q1p K C f/\fs.lookup f=some v/\Q v H1
def sFld(K:PySem.W.Frag)(ta tv:TE)(f:Str):TS:=λD σ H=>tv σ H λy H1=>ta σ H1 λx H2=>∃a C dx fs,x=.ref a/\H2 a=some (.ins C dx fs)/\Cls K C/\q1p K C f/\fs.length<1000 /\
 D.nx σ (upd H2 a (.ins C dx (putF f y fs)))
def InOp(X:Cx)(op:Operator)(rd:V->V->Hp->VK->Prop):Prop:=
 ∀(pins:List (Addr×Obj)) (s:Shared) (σ:St) (H:Hp) (x y:V) (u v:Value) (Q:VK),Inv X pins σ H s->RelV x u->RelV y v->rd x y H Q->wpAny (model X.prog X.w) X.A (inplaceOp op u v) (EP X pins σ Q) X.xe s
def z4F(K:PySem.W.Frag)(ta tv:TE)(rd:V->V->Hp->VK->Prop)(f:Str):TS:=λD σ H=>ta σ H λx H1=>∃a C dx fs v,x=.ref a/\H1 a=some (.ins C dx fs)/\Cls K C/\q1p K C f/\fs.lookup f=some v /\
 tv σ H1 λy H2=>rd v y H2 λz H3=>∃dx' fs',H3 a=some (.ins C dx' fs')/\fs'.length<1000/\D.nx σ (upd H3 a (.ins C dx' (putF f z fs')))
section
variable {X:Cx} {o e value:Expr} {f:Str} {pos pos' tpos:Pos} {ta tv:TE}
theorem z5m(he:PE X e ta)(hb:attributeBase e f X.env (eval e X.env)=eval e X.env):PE X (.Attribute e f pos) (tFld X.K ta f):=by
 intro pins s σ H Q I h;refine z4Y hb (thn (he pins s σ H _ I h) λu s1 ⟨x,H1,I1,rx,a,C,dx,fs,v,ex,ea,c,n,l,q⟩=>?_);subst ex;obtain rfl:u=Value.ref a:=rx;exact q5l I1 ea c n l λu' s2 I2 ru=>⟨v,H1,I2,ru,q⟩
theorem z2s(ha:PE X o ta)(hv:PE X value tv)(hs:swapsWith value (some (.Attribute o f pos')) pos.line X.env=pure false):PS X (.Assign [.Attribute o f pos'] value pos) (sFld X.K ta tv f):=by
 intro pins s σ H D I h;refine plainObj_wpAny_Assign_Attribute (thn (hv pins s σ H _ I h) λu s1 ⟨y,H1,I1,ry,q⟩=>thn (ha pins s1 σ H1 _ I1 q) λov s2 ⟨x,H2,I2,rx,a,C,dx,fs,ex,ea,c,n,l,q2⟩=>?_) hs;subst ex;obtain rfl:ov=Value.ref a:=rx;exact q5t I2 ea c n l ry λs3 I3=>⟨σ,_,I3,q2⟩
theorem q6j{op:Operator}{rd:V->V->Hp->VK->Prop}(ha:PE X o ta)(hv:PE X value tv)(hop:InOp X op rd):PS X (.AugAssign (.Attribute o f tpos) op value pos) (z4F X.K ta tv rd f):=by
 intro pins s σ H D I h;refine wpAny_AugAssign_AttributeAny (thn (ha pins s σ H _ I h) λov s1 ⟨x,H1,I1,rx,a,C,dx,fs,v,ex,ea,c,n,l,q⟩=>?_);subst ex;obtain rfl:ov=Value.ref a:=rx;refine q5l I1 ea c n l λu s2 I2 ru=>thn (hv pins s2 σ H1 _ I2 q) λw3 s3 ⟨y,H2,I3,ry,q3⟩=>thn (hop pins s3 σ H2 v y u w3 _ I3 ru ry q3) λw4 s4 ⟨z,H3,I4,rz,dx',fs',ea',l',q4⟩=>?_
 exact q5t I4 ea' c n l' rz λs5 I5=>⟨σ,_,I5,q4⟩
def rAdd:V->V->Hp->VK->Prop:=λx y H Q=>∃i j,x=.int i/\y=.int j/\Q (.int (i+j)) H
theorem z2w:InOp X .Add rAdd:=by
 rintro pins s σ H x y u v Q I rx ry ⟨i,j,rfl,rfl,q⟩
 obtain⟨t,rfl⟩:=(show ∃t,u=Value.int i t from rx);obtain⟨t',rfl⟩:=(show ∃t',v=Value.int j t' from ry);exact PyProof.Rows.iadd_int ⟨.int (i+j),H,I.tok _,⟨_,rfl⟩,q⟩
end
section
variable {X:Cx} {pins:List (Addr×Obj)} {σ:St} {H:Hp} {s:Shared} {A:Around} {E:Value->Shared->Prop} {Q:Value->Shared->Prop} {c:Value} {b:Bool}
inductive TyOf (K:PySem.W.Frag) (H:Hp):V->Value->Prop where
 | non:TyOf K H .non (.type "NoneType")
 | bl (x:Bool):TyOf K H (.bl x) (.type "bool")
 | int (i:Int):TyOf K H (.int i) (.type "int")
 | str (x:Str):TyOf K H (.str x) (.type "str")
 | flt (x:UInt64):TyOf K H (.flt x) (.type "float")
 | lst {a:Addr} {xs:List V} (e:H a=some (.lst xs)):TyOf K H (.ref a) (.type "list")
 | frz {a:Addr} {o:Obj} {xs:List V} (e:H a=some (.frz o (.lst xs))):TyOf K H (.ref a) (.type "list")
 | tup {a:Addr} {xs:List V} (e:H a=some (.tup xs)):TyOf K H (.ref a) (.type "tuple")
 | dK {a:Addr} {kvs:List (Key×V)} (e:H a=some (.dK kvs)):TyOf K H (.ref a) (.type "dict")
 | dT {a:Addr} {kvs:List (List Key×V)} (e:H a=some (.dT kvs)):TyOf K H (.ref a) (.type "dict")
 | ins {a C dx:Addr} {fs:List (Str×V)} (e:H a=some (.ins C dx fs)) (cl:Cls K C) (ha:PySem.W.findIn K (.ref C) "__class__" = some (some (.builtin "object.__class__")))
   (hn:PySem.W.specialIn K (.builtin "object.__class__") "__get__" = some (some (.builtin "getset_descriptor.__get__"))) (htk:PySem.W.takesIn K (.builtin "object.__class__")=some true)
   (hm:PySem.W.mroIn K C (.type "object")=some true):TyOf K H (.ref a) (.ref C)
end
end L2
namespace L2
open PySem PySem.Spec PyProof.Rows
structure Room(k:Nat)(A:Around):Prop where
 hd:A.handled=none
 dp:A.depth+3*k+5<recursionLimit
 un:A.units+16*k+200<cLine
theorem Room.mono{j k:Nat}{A:Around}(r:Room k A)(h:j<=k):Room j A:=⟨r.hd,by have:=r.dp;omega,by have:=r.un;omega⟩
theorem Room.deeper{k:Nat}{A:Around}(r:Room (k+1) A)(env:Env):Room k (A.deeper env):=
 ⟨r.hd,by have:=r.dp;show A.depth+1+3*k+5<_;omega,by have:=r.un;show A.units+3+16*k+200<_;omega⟩
theorem q8s{A:Around}{C:Addr}{us:List Value}{kw:List (Str×Value)}:(A.under (.builtin "type.__call__" ⟨.ref C::us,kw⟩)).depth=A.depth+1:=by
 first | rfl | simp[Around.under,Code.weight,Code.isCreation,Code.isGuard,Code.isCaller,Code.frames,Code.isFrame,guardIds]
theorem q8o{A:Around}{C:Addr}{us:List Value}{kw:List (Str×Value)}:(A.under (.builtin "type.__call__" ⟨.ref C::us,kw⟩)).units=A.units+1:=by
 first | rfl | simp[Around.under,Code.cUnits,Code.frames,Code.isFrame]
theorem Room.make{k:Nat}{A:Around}(r:Room (k+1) A)(C:Addr)(us:List Value)(kw:List (Str×Value)):Room k (A.under (.builtin "type.__call__" ⟨.ref C::us,kw⟩)):=
 ⟨r.hd,by have:=r.dp;rw[q8s];omega,by have:=r.un;rw[q8o];omega⟩
theorem Room.depth{k:Nat}{A:Around}(r:Room k A):A.depth<recursionLimit:=by have:=r.dp;omega
theorem Room.units{k:Nat}{A:Around}(r:Room k A):A.units+64<cLine:=by have:=r.un;omega
def tNil:TA:=λ_ H Q=>Q [] H
def z8w(ta:TE)(tr:TA):TA:=λσ H Q=>ta σ H λx H1=>tr σ H1 λxs H2=>Q (x::xs) H2
section
variable {X:Cx} {e:Expr} {es:List Expr} {te:TE} {t:TA} {pos:Pos}
theorem q2T:PA X [] tNil:=λ_ _ _ _ H Q I h=>Calls.spliced_nil ⟨[],H,I,.nil,h⟩
theorem q1u(ha:PE X e te)(hr:PA X es t)(hs:starEach (e::es) X.env=(false,eval e X.env)::starEach es X.env:=by rfl):PA X (e::es) (z8w te t):=by
 intro pos pins s σ H Q I h;rw[hs];show wpAny _ _ (spliced ((false,eval e X.env)::backTo pos (starEach es X.env))) _ _ s;refine Calls.spliced_cons (thn (ha pins s σ H _ I h) λu s1 ⟨x,H1,I1,r1,q1⟩=>?_);exact thn (hr pos pins s1 σ H1 _ I1 q1) λus s2 ⟨xs,H2,I2,r2,q2⟩=>⟨x::xs,H2,I2,.cons r1 r2,q2⟩
def tTup(t:TA):TE:=λσ H Q=>t σ H λxs H1=>xs.length<=sizeLine/\∀p,H1 p=none->Q (.ref p) (upd H1 p (.tup xs))
def tLst(t:TA):TE:=λσ H Q=>t σ H λxs H1=>xs.length<=sizeLine/\∀p,H1 p=none->Q (.ref p) (upd H1 p (.lst xs))
theorem z2k{x1}(h:PA X es t):PE X (.Tuple es x1 pos) (tTup t):=by
 intro pins s σ H Q I hq;refine wpAny_Tuple_spliced (thn (h pos pins s σ H _ I hq) λus s1 ⟨xs,H1,I1,r,z,q⟩=>⟨by rw[←r.length];exact z,?_⟩);have hf:H1 s1.heap.objs.size=none:=I1.hok.fresh (Nat.le_refl _);refine⟨.ref s1.heap.objs.size,upd H1 s1.heap.objs.size (.tup xs),I1.laid (t':=s1.toks) (λb u e=>Heap.get?_push_of_some _ e) (Nat.le_refl _) ?_,rfl,q _ hf⟩;exact⟨z,us,r,⟨_,Heap.get?_push_size _ rfl,⟨rfl,rfl⟩,_,rfl⟩⟩
theorem z6f(h:PA X es t):PE X (.List es pos) (tLst t):=by
 intro pins s σ H Q I hq;refine wpAny_List_spliced (thn (h pos pins s σ H _ I hq) λus s1 ⟨xs,H1,I1,r,z,q⟩=>⟨by rw[←r.length];exact z,?_⟩);have hf:H1 s1.heap.objs.size=none:=I1.hok.fresh (Nat.le_refl _);refine⟨.ref s1.heap.objs.size,upd H1 s1.heap.objs.size (.lst xs),I1.laid (t':=s1.toks) (λb u e=>Heap.get?_push_of_some _ e) (Nat.le_refl _) ?_,rfl,q _ hf⟩;exact⟨z,us,0,r,Heap.get?_push_size _ rfl⟩
end
abbrev Sp:=List V->Hp->VK->XK->Prop
abbrev CXT:=List Env->Hp->Shared->XK->Value->Shared->Prop
structure Env0(P:Program)(w:World)(K:PySem.W.Frag)(mg:Str->Option Value)(base:Heap)(A:Around)(outer:List Env)(s:Shared)(H:Hp):Prop where
 frames:A.frames=some outer
 mod:Mod K mg base
 bs:∀b o,base.get? b=some o->s.heap.get? b=some o/\H b=none
 bsz:base.objs.size<=s.heap.objs.size
 funs:s.heap.FunFrames base outer
 frf:(∀b∈frs outer,H b=none)/\q6x K H
 hok:HOk P w H s.heap
 bare:AllBare s.gens
def CE(outer:List Env)(P:Program)(w:World)(H:Hp)(s:Shared)(Q:VK)(u:Value)(s':Shared):Prop:=
 ∃v H',s'.os=s.os/\AllBare s'.gens/\Un (frs outer) [] H H' s.heap s'.heap/\HOk P w H' s'.heap/\RelV v u/\Q v H'
def CR(CX:CXT)(outer:List Env)(P:Program)(w:World)(H:Hp)(s:Shared)(Q:VK)(E:XK)(r:Result)(s':Shared):Prop:=
 match r with
 | .ok (.ret u)=>CE outer P w H s Q u s'
 | .ok _=>False
 | .error e=>CX outer H s E e s'
structure FnOk(P:Program)(w:World)(K:PySem.W.Frag)(mg:Str->Option Value)(base:Heap)(CX:CXT)(k:Nat)(f:Addr)(fd:FuncData)(ps:List Str)(sp:Sp):Prop where
 len:∀vs H Q E,sp vs H Q E->vs.length=ps.length
 run:∀(A:Around) (outer:List Env) (s:Shared) (H:Hp) (args:Args) (us:List Value) (vs:List V) (Q:VK) (E:XK),Room k A->Env0 P w K mg base A outer s H->BindsTo s fd args (ps.zip us)->Vals vs us->sp vs H Q E ->
  codeAny (model P w) A (.call (.ref f) args) (CR CX outer P w H s Q E) s
theorem Env0.make{P:Program}{w:World}{K:PySem.W.Frag}{mg:Str->Option Value}{base:Heap}{A:Around}{outer:List Env}{s:Shared}{H:Hp}(e:Env0 P w K mg base A outer s H)(C:Addr)(us:List Value)(kw:List (Str×Value)) :
  Env0 P w K mg base (A.under (.builtin "type.__call__" ⟨.ref C::us,kw⟩)) outer s H:=⟨by first | exact e.frames | (simpa[Around.under,Code.envs,Code.isFrame,pushEnvs]using e.frames),e.mod,e.bs,e.bsz,e.funs,e.frf,e.hok,e.bare⟩
section
variable {X:Cx} {pins:List (Addr×Obj)} {σ:St} {H:Hp} {s s':Shared}
theorem Inv.env0(I:Inv X pins σ H s):Env0 X.prog X.w X.K X.mg X.base X.A X.stack s H:=
 ⟨I.ok.frames,I.ok.mod,I.bs,Nat.le_trans I.ok.bsz I.sz,I.stack,⟨I.stkFree,I.tabs⟩,I.hok,I.bare⟩
theorem Inv.after{Q:VK}{u:Value}(I:Inv X pins σ H s)(h:CE X.stack X.prog X.w H s Q u s'):EP X pins σ Q u s':=by
 obtain⟨v,H',os,bare,un,hok,r,q⟩:=h;obtain⟨hh,g,d,t,os'⟩:=s';obtain rfl:os'=s.os:=os;exact⟨v,H',I.call (h':=hh) (g':=g) (d':=d) (t':=t) (ch:=[]) un hok bare (λb z=>absurd z (by simp)),r,q⟩
end
def z7T(C:Addr)(sp:Sp)(dvs:List V)(E:XK)(t:TA):TE:=λσ H Q=>t σ H λvs H1=>∀x dx,H1 x=none->H1 dx=none->dx≠x ->
 sp (.ref x::(vs++dvs)) (upd (upd H1 dx (.own x)) x (.ins C dx [])) (λv H2=>v=.non/\Q (.ref x) H2) E
def q1s(K:PySem.W.Frag)(fd:FuncData)(ps:List Str)(ds:List Value):Prop:=
 ∀(s:Shared) (us:List Value),K.In s.heap->(us++ds).length=ps.length->BindsTo s fd ⟨us,[]⟩ (ps.zip (us++ds))
theorem q1s.all{K:PySem.W.Frag}{fd:FuncData}{ps:List Str}(h:∀us:List Value,us.length=ps.length->bindArgs fd ⟨us,[]⟩=pure (ps.zip us)):q1s K fd ps []:=λs us _ hl=>by
 rw[List.append_nil]at hl ⊢;exact .of_eq (h us hl)
def q5n(CX:CXT)(X:Cx)(E:XK):Prop:=∀(pins:List (Addr×Obj)) (σ:St) (H:Hp) (s:Shared) (e:Value) (s':Shared),Inv X pins σ H s->CX X.stack H s E e s'->X.xe e s'
section
variable {X:Cx} {CX:CXT} {k:Nat} {f C:Addr} {fd:FuncData} {ps:List Str} {sp:Sp} {dvs:List V} {ds:List Value} {E:XK} {x m:Str} {p pos apos:Pos} {e o:Expr} {es:List Expr} {ta:TE} {t:TA}
structure Mk(K:PySem.W.Frag)(C f:Addr):Prop where
 makes:PySem.W.makesIn K C=true
 init:PySem.W.findIn K (.ref C) "__init__" = some (some (.ref f))
 fn:PySem.W.isFn K (.ref f)=true
 kp:PySem.W.keepIn K (.ref C)=true
theorem z1p{pins:List (Addr×Obj)}{σ:St}{H:Hp}{s:Shared}{Q:VK}{us:List Value}{vs:List V}(M:Mk X.K C f)(F:FnOk X.prog X.w X.K X.mg X.base CX k f fd ps sp)(hr:Room (k+1) X.A)(hb:q1s X.K fd ps ds)(hd:Vals dvs ds)
  (hx:q5n CX X E) (I:Inv X pins σ H s) (r:Vals vs us)
  (h:∀x dx,H x=none->H dx=none->dx≠x->sp (.ref x::(vs++dvs)) (upd (upd H dx (.own x)) x (.ins C dx [])) (λv H2=>v=.non/\Q (.ref x) H2) E) :
  wpAny (model X.prog X.w) X.A (call (.ref C) us) (EP X pins σ Q) X.xe s:=by
 have hq:=h (s.heap.objs.size+1) s.heap.objs.size (I.hok.fresh (Nat.le_succ _)) (I.hok.fresh (Nat.le_refl _)) (Nat.ne_of_lt (Nat.lt_succ_self _));have I2:=Inv.made (C:=C) I;have r2:Vals (V.ref (s.heap.objs.size+1)::(vs++dvs)) (Value.ref (s.heap.objs.size+1)::(us++ds)):=.cons rfl (r.append hd);have hl:(Value.ref (s.heap.objs.size+1)::us++ds).length=ps.length:=(by have e:=r2.length;rw[F.len _ _ _ _ hq]at e;exact e.symm);refine wpAny_call (z1X (f:=f) I.kIn M.makes M.init (beq_iff_eq.mp M.fn) (codeAny_mono (F.run _ X.stack _ _ ⟨Value.ref (s.heap.objs.size+1)::us,[]⟩ (Value.ref (s.heap.objs.size+1)::(us++ds)) _ _ E (hr.make C us [])
  (I2.env0.make C us []) (hb _ (Value.ref (s.heap.objs.size+1)::us) I2.kIn hl) r2 hq) λr s' hq'=>?_))
 cases r with
 | error e=>exact hx pins σ _ _ e s' I2 hq'
 | ok fl=>
  cases fl with
  | ret u=>
   obtain⟨v,H',I3,rv,ev,q3⟩:=I2.after hq';subst ev;exact⟨rv,⟨V.ref (s.heap.objs.size+1),H',I3,rfl,q3⟩⟩
  | next=>exact False.elim hq'
  | brk=>exact False.elim hq'
  | cont=>exact False.elim hq'
theorem z4p(M:Mk X.K C f)(F:FnOk X.prog X.w X.K X.mg X.base CX k f fd ps sp)(hr:Room (k+1) X.A)(hg:Gl X x)(hm:X.mg x=some (.ref C))(hb:q1s X.K fd ps ds)(hd:Vals dvs ds)(hx:q5n CX X E)
  (ha:PA X (e::es) t) (hdb:(x==("__debug__" : Str))=false:=by decide) (he:starEach (e::es) X.env=(false,eval e X.env)::starEach es X.env:=by rfl) (hpl:(backTo pos (starEach es X.env)).any (·.1)=false:=by rfl) :
  PE X (.Call (.Name x p) (e::es) [] pos) (z7T C sp dvs E t):=by
 intro pins s σ H Q I h;refine wpAny_Call_Name_kw (q3e I hg hm ?_ hdb);refine PySem.W.callWith_K (h₀:=X.base) I.ok.mod.kin M.kp (thn (ha pos pins s σ H _ I h) λus s1 ⟨vs,H1,I1,r,q⟩=>⟨I1.kIn,?_⟩) he hpl;exact z1p M F hr hb hd hx I1 r q
end
section
variable {X:Cx} {CX:CXT} {k:Nat} {f C:Addr} {fd:FuncData} {ps ks:List Str} {sp:Sp} {E:XK} {x m:Str} {p pos apos kpos:Pos} {e o:Expr} {es:List Expr} {kws:List Keyword} {te ta:TE} {t tk:TA} {nm:Option Str}
structure KBinds(K:PySem.W.Frag)(fd:FuncData)(ps ks:List Str)(g:List Value->List Value->List Value)(gV:List V->List V->List V):Prop where
 to:∀(s:Shared) (us ws:List Value),K.In s.heap->(g us ws).length=ps.length->BindsTo s fd ⟨us,ks.zip ws⟩ (ps.zip (g us ws))
 rel:∀{vs:List V} {us:List Value} {zs:List V} {ws:List Value},Vals vs us->Vals zs ws->Vals (gV vs zs) (g us ws)
variable {g:List Value->List Value->List Value} {gV:List V->List V->List V}
end
structure FnScope(N P:List Str)(sc:Scope):Prop where
 kind:sc.kind=.function
 co:sc.isCoroutine=false
 gen:sc.isGenerator=false
 nd:N.Nodup
 pre:N.take P.length=P
 par:∀x∈P,sc.names.lookup x=some .local\/sc.names.lookup x=some .cell
 nofree:∀y∈sc.names,y.2 ≠ .free
theorem q6z{kindOf:Str->Option NameKind}{x:Str}:∀{binds:List (Str×Value)} {m:Str->Option Value},(∀v,(x,v)∉binds)->bindL kindOf binds m x=m x
 | [],_,_=>rfl
 | (n,v)::r,m,h=>by
  unfold bindL;rw[q6z λw hw=>h w (List.mem_cons_of_mem _ hw)];split
  ·have:x≠n:=by rintro rfl;exact h v List.mem_cons_self
   simp[this]
  ·rfl
theorem q6c{kindOf:Str->Option NameKind}{x:Str}:∀{binds:List (Str×Value)} {m:Str->Option Value},(∀v,(x,v)∉binds)->bindC kindOf binds m x=m x
 | [],_,_=>rfl
 | (n,v)::r,m,h=>by
  unfold bindC;rw[q6c λw hw=>h w (List.mem_cons_of_mem _ hw)];split
  ·rfl
  ·have:x≠n:=by rintro rfl;exact h v List.mem_cons_self
   simp[this]
theorem q6w{kindOf:Str->Option NameKind}{x:Str}{v:Value}:∀{P:List Str} {vs:List Value} {i:Nat} {m:Str->Option Value},P.Nodup->P[i]? = some x->vs[i]? = some v->kindOf x=some .local ->
  bindL kindOf (P.zip vs) m x=some v
 | [],_,_,_,_,h,_,_=>by simp at h
 | _::_,[],_,_,_,_,h,_=>by simp at h
 | p::P,w::vs,0,m,nd,h1,h2,hk=>by simp at h1 h2;subst h1;subst h2;show bindL kindOf ((p,w)::P.zip vs) m p=_;unfold bindL;rw[q6z λv hv=>(List.nodup_cons.mp nd).1 (List.of_mem_zip hv).1,if_pos hk];simp
 | p::P,w::vs,i+1,m,nd,h1,h2,hk=>by show bindL kindOf ((p,w)::P.zip vs) m x=_;unfold bindL;exact q6w (i:=i) (List.nodup_cons.mp nd).2 (by simpa using h1) (by simpa using h2) hk
theorem q6y{kindOf:Str->Option NameKind}{x:Str}{v:Value}:∀{P:List Str} {vs:List Value} {i:Nat} {m:Str->Option Value},P.Nodup->P[i]? = some x->vs[i]? = some v->kindOf x≠some .local ->
  bindC kindOf (P.zip vs) m x=some v
 | [],_,_,_,_,h,_,_=>by simp at h
 | _::_,[],_,_,_,_,h,_=>by simp at h
 | p::P,w::vs,0,m,nd,h1,h2,hk=>by simp at h1 h2;subst h1;subst h2;show bindC kindOf ((p,w)::P.zip vs) m p=_;unfold bindC;rw[q6c λv hv=>(List.nodup_cons.mp nd).1 (List.of_mem_zip hv).1,if_neg hk];simp
 | p::P,w::vs,i+1,m,nd,h1,h2,hk=>by show bindC kindOf ((p,w)::P.zip vs) m x=_;unfold bindC;exact q6y (i:=i) (List.nodup_cons.mp nd).2 (by simpa using h1) (by simpa using h2) hk
def start(N:List Str)(vs:List V):St:=vs.map some++List.replicate (N.length - vs.length) none
def cxOf(CX:CXT)(P:Program)(w:World)(K:PySem.W.Frag)(mg:Str->Option Value)(base:Heap)(N:List Str)(qual:Str)(scope:Scope)(f:Addr)(cd:Value)(A:Around)(outer:List Env)(s:Shared)(H:Hp)(E:XK):Cx where
 prog:=P
 w:=w
 K:=K
 mg:=mg
 base:=base
 A:=A.deeper (envOfC qual scope s.heap.objs.size f cd)
 N:=N
 s₀:=s
 H₀:=H
 env:=envOfC qual scope s.heap.objs.size f cd
 outer:=outer
 stack:=envOfC qual scope s.heap.objs.size f cd::outer
 ex:=[]
 calm:=true
 fn:=λ_=>true
 pn:=[]
 xe:=λe s'=>wpAny (model P w) (A.deeper (envOfC qual scope s.heap.objs.size f cd)) (leaving (envOfC qual scope s.heap.objs.size f cd) e) (λ_ s''=>CX outer H s E e s'') (λe' s''=>CX outer H s E e' s'') s'
theorem q7F{sc:Scope}{n:Nat}{x:Str}(h:sc.names.lookup x=some .cell):∃c,(cellsFrom n sc.names []).lookup x=some c:=by
 have q:=PySem.W.cellsFrom_some sc.names n [] (.inl h);exact Option.isSome_iff_exists.mp q
theorem q9M{CX:CXT}{P:Program}{w:World}{K:PySem.W.Frag}{mg:Str->Option Value}{base:Heap}{N ps:List Str}{qual:Str}{scope:Scope}{f:Addr}{cd:Value}{A:Around}{outer:List Env}{s s1:Shared}{H:Hp}{E:XK}{us:List Value}{vs:List V}
  (S:FnScope N ps scope) (hd:A.handled=none) (e0:Env0 P w K mg base A outer s H) (hl:vs.length=ps.length) (r:Vals vs us)
  (x:InCallC s s.heap.objs.size (bindL (envOfC qual scope s.heap.objs.size f cd).kindOf (ps.zip us) λ_=>none) (cellsFrom (s.heap.objs.size+1) scope.names []) (bindC (envOfC qual scope s.heap.objs.size f cd).kindOf (ps.zip us) λ_=>none) s1) :
  Inv (cxOf CX P w K mg base N qual scope f cd A outer s H E) [] (start N vs) H s1:=by
 have hpl:ps.length<=N.length:=by have:=congrArg List.length S.pre;rw[List.length_take]at this;omega
 obtain⟨h1,tk,rfl,hk⟩:=x.done;have noA:∀b:Addr,b∉(cxOf CX P w K mg base N qual scope f cd A outer s H E).ex:=λb z=>absurd (show b∈([]:List Addr)from z) (by simp)
 refine⟨⟨e0.mod,S.kind,rfl,rfl,Nat.le_refl _,λy z c h1 h2=>?_,λy hy=>?_,λy c _ h=>?_,λ_=>hd,Around.frames_deeper e0.frames,.inr ⟨rfl,rfl⟩,λb z=>absurd z (noA b),e0.bs,e0.bsz,λb _ _=>noA b,λb z=>absurd z (noA b),e0.funs,e0.frf⟩,
  rfl,e0.bare,Un.kept hk,⟨_,x.toInCall.ns,λi y v h1 h2 h3=>?_⟩,λy c h=>⟨_,x.cell y c h⟩,e0.hok.fresh (Nat.le_refl _),λy c h=>?_,λp hp=>absurd (show p∈([]:List (Addr×Obj))from hp) (by simp),e0.hok.kept hk,?_⟩
 ·exact name_of_addr x.apart (PySem.mem_of_lookup h1) (PySem.mem_of_lookup h2)
 ·have hy:scope.names.lookup y=some .cell\/scope.names.lookup y=some .free:=hy;rcases hy with hy | hy
  ·exact q7F hy
  ·exact absurd rfl (S.nofree _ (PySem.mem_of_lookup hy))
 ·exact Nat.le_of_lt (x.above y c (PySem.mem_of_lookup h))
 ·have hi:i<vs.length:=by
   unfold start at h2;by_cases hi:i<vs.length
   ·exact hi
   ·rw[List.getElem?_append_right (by simpa using hi)]at h2;rw[List.getElem?_replicate]at h2;split at h2<;>cases h2
  have ha:vs[i]? = some v:=by
   unfold start at h2;rw[List.getElem?_append_left (by simpa using hi),List.getElem?_map]at h2;cases e:vs[i]? with
   | none=>rw[e]at h2;cases h2
   | some a=>rw[e]at h2;cases h2;rfl
  obtain⟨u,hu,rv⟩:=r.get ha;have hp:ps[i]? = some y:=(by rw[←S.pre,List.getElem?_take_of_lt (by omega)];exact h1);have ndP:ps.Nodup:=by rw[←S.pre];exact S.nd.sublist (List.take_sublist _ _)
  refine⟨u,rv,?_⟩;rcases S.par y (List.mem_of_getElem? hp)with k | k
  ·exact .inl ⟨k,q6w ndP hp hu k⟩
  ·obtain⟨c,e⟩:=q7F (n:=s.heap.objs.size+1) k;refine .inr ⟨.inl k,c,e,?_⟩;have q:=x.cell y c e;rw[q6y ndP hp hu (by show scope.names.lookup y≠_;rw[k];decide)]at q;exact q
 ·exact e0.hok.fresh (Nat.le_of_lt (x.above y c (PySem.mem_of_lookup h)))
 ·unfold start;show _=N.length;rw[List.length_append,List.length_map,List.length_replicate];omega
theorem z9a{CX:CXT}{P:Program}{w:World}{K:PySem.W.Frag}{mg:Str->Option Value}{base:Heap}{k:Nat}{f:Addr}{name qual:Str}{params:Arguments}{body:List Stmt}{scope:Scope}{dV kV doc pm cdv ct oc:Value}{an od:Option Addr}
  {osl:Array (Option Value)} {N ps:List Str} {sp:Sp} (lk:K.lookup f=some ⟨oc,od,.func (PySem.W.fnOf name qual params body scope dV kV doc pm an cdv ct),osl⟩) (hcd:PySem.W.codeIn K cdv qual=true) (S:FnScope N ps scope)
  (len:∀vs H Q E,sp vs H Q E->vs.length=ps.length)
  (hbody:∀(A:Around) (outer:List Env) (s:Shared) (H:Hp) (vs:List V) (Q:VK) (E:XK),Room k (A.deeper (envOfC qual scope s.heap.objs.size f cdv))->sp vs H Q E ->
   ∃t,PSs (cxOf CX P w K mg base N qual scope f cdv A outer s H E) body t/\t {nx:=λ_ H'=>Q .non H',rt:=Q} (start N vs) H) :
  FnOk P w K mg base CX (k+1) f (PySem.W.fnOf name qual params body scope dV kV doc pm an cdv ct) ps sp:=by
 refine⟨len,λA outer s H args us vs Q E hr e0 hb r hsp=>?_⟩;have hl:=len _ _ _ _ hsp;have KX:K.In s.heap:=e0.mod.kin.keeps λb o e=>(e0.bs b o e).1;have lim:s.heap.NoLimit:=e0.mod.nolimit.keeps λb o e=>(e0.bs b o e).1;have hkind:∀y∈ps.zip us,scope.names.lookup y.1=some .local\/(scope.names.lookup y.1=some .cell/\((cellsFrom (s.heap.objs.size+1) scope.names []).lookup y.1).isSome=true):=λ⟨n,v⟩ hy=>by
  rcases S.par n (List.of_mem_zip hy).1 with q | q
  ·exact .inl q
  ·exact .inr ⟨q,PySem.W.cellsFrom_some _ _ _ (.inl q)⟩
 refine codeAny_call_function hr.depth (KX _ _ lk) rfl S.co S.gen rfl (PySem.W.codeRec_of KX hcd) (hb _ _ _ _ ?_)
 refine wpAny_newFunctionEnv_cells S.kind hkind λenv he s1 x=>?_;subst he;refine⟨lim.keeps x.toInCall.keep,codeAny_func ?_⟩;obtain⟨t,ht,hq⟩:=hbody A outer s H vs Q E (hr.deeper _) hsp;have I:Inv (cxOf CX P w K mg base N qual scope f cdv A outer s H E) [] (start N vs) H s1:=q9M S hr.hd e0 hl r x;refine wpAny_mono (ht [] s1 (start N vs) H _ I hq) (λfl s' hs=>?_) λe s' hs=>hs;have fin:∀{σ':St} {H':Hp} {v:V} {u:Value},Inv (cxOf CX P w K mg base N qual scope f cdv A outer s H E) [] σ' H' s'->RelV v u->Q v H'->CE outer P w H s Q u s':=
  λ{σ' H' v u} J rv q=>⟨v,H',J.os,J.bare,J.base,J.hok,rv,q⟩
 cases fl with
 | ret u=>
  obtain⟨v,σ',H',J,rv,q⟩:=hs;exact fin J rv q
 | next=>
  obtain⟨σ',H',J,q⟩:=hs;exact fin (v:=V.non) (u:=Value.none) J rfl q
 | brk=>
  obtain⟨_,_,_,q⟩:=hs;exact False.elim q
 | cont=>
  obtain⟨_,_,_,q⟩:=hs;exact False.elim q
end L2
namespace L2
open PySem PySem.Spec PyProof.Rows
section
variable {X:Cx} {x:Str} {p pos:Pos} {e:Expr} {es:List Expr} {t:TA} {id T:String} {r:List V->Hp->VK->Prop}
def tCB(r:List V->Hp->VK->Prop)(t:TA):TE:=λσ H Q=>t σ H λvs H1=>r vs H1 Q
theorem q5P(hc:q2Q X (.builtin id) r)(hg:Gl X x)(hm:X.mg x=none)(hv:bootBuiltins x=some (.builtin id))(ha:PA X (e::es) t)(hn:x ≠ "__name__":=by decide)(hdb:(x==("__debug__" : Str))=false:=by decide)
  (he:starEach (e::es) X.env=(false,eval e X.env)::starEach es X.env:=by rfl) (hpl:(backTo pos (starEach es X.env)).any (·.1)=false:=by rfl):PE X (.Call (.Name x p) (e::es) [] pos) (tCB r t):=by
 intro pins s σ H Q I h;refine wpAny_Call_Name_kw (q7E I hg hm hv ?_ hn hdb);exact PyProof.Rows.callWith_builtin1 (thn (ha pos pins s σ H _ I h) λus s1 ⟨vs,H1,I1,r1,q1⟩=>hc pins s1 σ H1 vs us Q I1 r1 q1) he hpl
theorem q9F(hc:q2Q X (.type T) r)(hg:Gl X x)(hm:X.mg x=none)(hv:bootBuiltins x=some (.type T))(ha:PA X (e::es) t)(hn:x ≠ "__name__":=by decide)(hdb:(x==("__debug__" : Str))=false:=by decide)
  (he:starEach (e::es) X.env=(false,eval e X.env)::starEach es X.env:=by rfl) (hpl:(backTo pos (starEach es X.env)).any (·.1)=false:=by rfl):PE X (.Call (.Name x p) (e::es) [] pos) (tCB r t):=by
 intro pins s σ H Q I h;refine wpAny_Call_Name_kw (q7E I hg hm hv ?_ hn hdb);exact PyProof.Rows.callWith_type1 (thn (ha pos pins s σ H _ I h) λus s1 ⟨vs,H1,I1,r1,q1⟩=>hc pins s1 σ H1 vs us Q I1 r1 q1) he hpl
end
end L2
namespace HT
open PySem PyProof.Rows
section
open PySem.SeqAt
open PySem.AutoSeq1 (wpAny_loadPart')
open PySem.MeetsSeq PySem.MeetsSeq2 PySem.MeetsSeq3
end
section
variable {prog:Program} {w:World} {A:Around} {E:Value->Shared->Prop} {s:Shared}
theorem cat_tup{t b:Addr}{vs ws:List Value}{Q:Value->Shared->Prop}(ht:IsTup s.heap t vs.toArray)(hb:IsTup s.heap b ws.toArray)(hv:vs≠[])
  (h1:ws=[]->Q (.ref t) s) (h2:ws≠[]->Q (.ref s.heap.objs.size) {s with heap:=s.heap.push {cls:=.type "tuple",data:=.seq (vs++ws).toArray}})
  (hsz:vs.length+ws.length<=sizeLine):wpAny (model prog w) A (binaryOp .Add (.ref t) (.ref b)) Q E s:=by
 obtain⟨⟨cls,dd,data,sl⟩,ho,hc,n,hd⟩:=id ht;obtain⟨⟨cls2,dd2,data2,sl2⟩,ho2,hc2,n2,hd2⟩:=id hb;simp only at hc hd hc2 hd2;subst hc hd hc2 hd2;have e:vs.toArray++ws.toArray=(vs++ws).toArray:=by simp
 by_cases hw:ws=[]
 ·exact concat_meets ⟨_,ho,rfl⟩ ⟨_,ho2,rfl⟩ noFill_tuple_add seq_tuple_add PySem.F.slot_tuple_add PySem.F.entry_tuple_add (PySem.F.args_tuple_add_2 _ _)
   (tuple_addW1 t b vs.toArray ws.toArray n n2 dd dd2 sl sl2 (by simpa using hv) (by simp[hw])) ⟨ho,ho2,h1 hw⟩
 ·refine concat_meets ⟨_,ho,rfl⟩ ⟨_,ho2,rfl⟩ noFill_tuple_add seq_tuple_add PySem.F.slot_tuple_add PySem.F.entry_tuple_add (PySem.F.args_tuple_add_2 _ _)
   (tuple_addW2 t b vs.toArray ws.toArray n n2 dd dd2 sl sl2 (by simpa using hv) (by simpa using hw) (by rw[List.size_toArray,List.size_toArray];exact hsz)) ⟨ho,ho2,?_⟩
  rw[e];exact h2 hw
def sIx(n d:Nat):Option Int->Nat
 | none=>d
 | some v=>if v<0 then(v+(n:Int)).toNat else min v.toNat n
theorem z6D(n d:Nat)(hd:d<=n)(o:Option Int):sIx n d o<=n:=by
 cases o with
 | none=>exact hd
 | some v=>
  show(if v<0 then(v+(n:Int)).toNat else min v.toNat n)<=n;by_cases hv:v<0
  ·rw[if_pos hv];omega
  ·rw[if_neg hv];exact Nat.min_le_right _ _
theorem q8T(v:Int)(n d:Nat):(if v<0 then max (v+(n:Int)) 0 else min v (n:Int))=((sIx n d (some v):Nat):Int):=by
 show(if v<0 then max (v+(n:Int)) 0 else min v (n:Int))=(((if v<0 then(v+(n:Int)).toNat else min v.toNat n):Nat):Int);by_cases hv:v<0
 ·simp only[if_pos hv];omega
 ·simp only[if_neg hv];omega
theorem q8k(lo hi:Option Int)(n:Nat):Builtin.Slice.sliceAdjust lo hi 1 (n:Int)=(((sIx n 0 lo:Nat):Int),((sIx n n hi:Nat):Int)):=by
 have h1:¬((1:Int)<0):=by omega
 unfold Builtin.Slice.sliceAdjust;simp only[h1,if_false];refine Prod.ext ?_ ?_
 ·cases lo with
  | none=>rfl
  | some v=>exact q8T v n 0
 ·cases hi with
  | none=>rfl
  | some v=>exact q8T v n n
theorem q8h(i j:Nat):Builtin.Slice.slicePlaces (i:Int) (j:Int) 1=j - i:=by
 unfold Builtin.Slice.slicePlaces;have h1:(1:Int)>0:=by omega
 simp only[h1,if_true,Int.ediv_one];split<;>omega
theorem q5c{v:Value}{o:Option Int}{Q:Option Int->Shared->Prop}(p:IsPart v o)(h:Q o s):wpAny (model prog w) A (Builtin.Slice.slicePartIndex v) Q E s:=by
 cases p with
 | none=>exact slicePart_none h
 | int i t=>exact slicePart_int h
theorem q4e{sl:Addr}{vl vu:Value}{lo hi:Option Int}{n:Nat}{Q:Int×Int×Nat->Shared->Prop}(hs:s.heap.IsSliceOf sl vl vu .none)(pl:IsPart vl lo)(pu:IsPart vu hi)
  (h:Q (((sIx n 0 lo:Nat):Int),1,sIx n n hi - sIx n 0 lo) s):wpAny (model prog w) A (Builtin.Slice.sliceApplied (.ref sl) (pure (n:Int))) Q E s:=by
 obtain⟨os,hos,hcs,hds⟩:=id hs;unfold Builtin.Slice.sliceApplied Builtin.Slice.sliceFields;refine wpAny_bind (wpAny_bind (wpAny_field hos hds (x:=vl) rfl (wpAny_bind (wpAny_field hos hds (x:=vu) rfl (wpAny_bind (wpAny_field hos hds (x:=.none) rfl (wpAny_pure ?_)))))));refine wpAny_bind (slicePart_none ?_);show wpAny _ _ (if((1:Int)==0)=true then _ else _) _ _ s;rw[if_neg (by decide)];refine wpAny_bind (q5c pl (wpAny_bind (q5c pu (wpAny_bind (wpAny_pure ?_)))));show wpAny _ _ (match Builtin.Slice.sliceAdjust lo hi 1 (n:Int)with | (lo,hi)=>pure (lo,(1:Int),Builtin.Slice.slicePlaces lo hi 1)) _ _ s;rw[q8k lo hi n];show wpAny _ _ (pure (((sIx n 0 lo:Nat):Int),(1:Int),Builtin.Slice.slicePlaces ((sIx n 0 lo:Nat):Int) ((sIx n n hi:Nat):Int) 1)) _ _ s;rw[q8h];exact wpAny_pure h
theorem z0V(xs:Array Value)(i k:Nat):((List.range k).filterMap λ(m:Nat)=>xs[((i:Int)+(m:Int)*1).toNat]?).toArray=((xs.toList.drop i).take k).toArray:=by
 have e:(λ(m:Nat)=>xs[((i:Int)+(m:Int)*1).toNat]?)=λm=>xs[i+m]?:=by
  funext m
  have:((i:Int)+(m:Int)*1).toNat=i+m:=by omega
  rw[this]
 rw[e];have:=pick_run xs i k;rw[List.filterMap_map]at this;have e2:((λx=>xs[x]?) ∘ λx=>i+x)=λm=>xs[i+m]?:=rfl
 rw[e2]at this;rw[this]
theorem getItem_tuple_cut{t sl:Addr}{items:Array Value}{vl vu:Value}{lo hi:Option Int}{Q:Value->Shared->Prop}(ht:IsTup s.heap t items)(hs:s.heap.IsSliceOf sl vl vu .none)(pl:IsPart vl lo)(pu:IsPart vu hi)
  (hw:¬(sIx items.size 0 lo=0/\sIx items.size items.size hi=items.size))
  (h:Q (.ref s.heap.objs.size) {s with heap:=s.heap.push {cls:=.type "tuple",data:=.seq ((items.toList.drop (sIx items.size 0 lo)).take (sIx items.size items.size hi - sIx items.size 0 lo)).toArray}})
  (hsz:items.size<=sizeLine):wpAny (model prog w) A (getItem (.ref t) (.ref sl)) Q E s:=by
 have htake:sizeOk (.seq ((items.toList.drop (sIx items.size 0 lo)).take (sIx items.size items.size hi - sIx items.size 0 lo)).toArray):=(by show((items.toList.drop (sIx items.size 0 lo)).take (sIx items.size items.size hi - sIx items.size 0 lo)).toArray.size<=sizeLine;rw[List.size_toArray,List.length_take,List.length_drop,Array.length_toList];omega);have hj:sIx items.size items.size hi<=items.size:=z6D _ _ (Nat.le_refl _) hi;obtain⟨os,hos,hcs,hds⟩:=id hs;have hTs:s.TypeIs (.ref sl) "slice":=⟨os,hos,hcs⟩;unfold getItem
 try with_reducible refine wpAny_holding ?_
 first | refine wpAny_bind (wpAny_pure ?_) | skip
 refine wpAny_bind (wpAny_sequenceKey ht.typeIs (by decide) ?_);refine wpAny_bind (wpAny_callSpecial?_slot (name:=Str.ofString "__getitem__") ht.typeIs PyProof.Rows.slot_tuple_getitem
  (wpAny_call_entry PyProof.Rows.slot_tuple_getitem ht.typeIs entry_tuple_getitem ?_ (args_tuple_getitem _ _)))
 show wpAny _ _ (Builtin.Tuple.tupleItemsOf (.ref t) >>= _) _ _ s;refine wpAny_bind (tupleItemsOf_ ht ?_);refine wpAny_bind (wpAny_typeOf hTs ?_);rw[if_pos (by decide)];refine wpAny_bind (q4e hs pl pu ?_);have hno:¬((((sIx items.size 0 lo:Nat):Int)==0&&(1:Int)==1&&(sIx items.size items.size hi - sIx items.size 0 lo)==items.size)=true):=by intro q;rw[Bool.and_eq_true,Bool.and_eq_true]at q;have q1:((sIx items.size 0 lo:Nat):Int)=0:=eq_of_beq q.1.1;have q2:sIx items.size items.size hi - sIx items.size 0 lo=items.size:=eq_of_beq q.2;exact hw ⟨by omega,by omega⟩
 show wpAny _ _ (if(((sIx items.size 0 lo:Nat):Int)==0&&(1:Int)==1&&(sIx items.size items.size hi - sIx items.size 0 lo)==items.size)=true then _ else _) _ _ s;rw[if_neg hno,z0V]
 first
  | exact wpAny_bind (m:=Builtin.Tuple.tupleExact _) (wpAny_newObj_type (wpAny_pure ⟨_,rfl,wpAny_pure h⟩) htake)
  | exact wpAny_bind (m:=Builtin.Tuple.tupleExact _) (wpAny_newObj_type (wpAny_bind (wpAny_pure (wpAny_pure ⟨_,rfl,wpAny_pure h⟩))) htake)
  | exact wpAny_bind (wpAny_bind (m:=Builtin.Tuple.tupleExact _) (wpAny_newObj_type (wpAny_pure (wpAny_pure ⟨_,rfl,wpAny_pure h⟩)) htake))
  | exact wpAny_bind (wpAny_bind (m:=Builtin.Tuple.tupleExact _) (wpAny_newObj_type (wpAny_pure ⟨_,rfl,wpAny_pure h⟩) htake))
end
end HT
namespace L2
open PySem PySem.Spec PyProof.Rows
abbrev TO:=St->Hp->(Option Int->Hp->Prop)->Prop
def PO(X:Cx)(e:Option Expr)(t:TO):Prop:=
 ∀(pins:List (Addr×Obj)) (s:Shared) (σ:St) (H:Hp) (Q:Option Int->Hp->Prop),Inv X pins σ H s->t σ H Q ->
  wpAny (model X.prog X.w) X.A (evalPart e X.env) (λu s'=>∃o H',Inv X pins σ H' s'/\IsPart u o/\Q o H') X.xe s
def z3x:TO:=λ_ H Q=>Q none H
def z8G(t:TE):TO:=λσ H Q=>t σ H λx H1=>∃i,x=.int i/\Q (some i) H1
section
variable {X:Cx} {e:Expr} {te:TE} {lo hi:Option Expr} {tl th:TO} {pos p2:Pos}
theorem q3K:PO X none z3x:=by
 intro pins s σ H Q I h;rw[evalPart_none];exact wpAny_pure ⟨none,H,I,.none,h⟩
theorem q8Q(h:PE X e te):PO X (some e) (z8G te):=by
 intro pins s σ H Q I hw;rw[evalPart_some];refine thn (h pins s σ H _ I hw) λu s1 ⟨x,H1,I1,r1,q1⟩=>?_
 obtain⟨i,rfl,q⟩:=q1;obtain⟨t,rfl⟩:=r1;exact⟨some i,H1,I1,.int i t,q⟩
def SlR(X:Cx)(r:V->Option Int->Option Int->Hp->VK->Prop):Prop:=
 ∀(pins:List (Addr×Obj)) (s:Shared) (σ:St) (H:Hp) (x:V) (v vl vu:Value) (lo hi:Option Int) (sl:Addr) (Q:VK),Inv X pins σ H s->RelV x v->s.heap.IsSliceOf sl vl vu .none->IsPart vl lo->IsPart vu hi->r x lo hi H Q ->
  ∃T id,typeLookup (.type T) "__getitem__" = pure (some (.builtin id))/\s.TypeIs v T/\wpAny (model X.prog X.w) X.A (getItem v (.ref sl)) (EP X pins σ Q) X.xe s
theorem SlR.or{r r':V->Option Int->Option Int->Hp->VK->Prop}(h:SlR X r)(h':SlR X r'):SlR X (λx lo hi H Q=>r x lo hi H Q\/r' x lo hi H Q):=by
 intro pins s σ H x v vl vu lo hi sl Q I rx hs pl pu q;rcases q with q | q
 ·exact h pins s σ H x v vl vu lo hi sl Q I rx hs pl pu q
 ·exact h' pins s σ H x v vl vu lo hi sl Q I rx hs pl pu q
def tSl(r:V->Option Int->Option Int->Hp->VK->Prop)(te:TE)(tl th:TO):TE:=λσ H Q=>te σ H λx H1=>tl σ H1 λl H2=>th σ H2 λu H3=>r x l u H3 Q
theorem q1h{r:V->Option Int->Option Int->Hp->VK->Prop}(hr:SlR X r)(he:PE X e te)(hl:PO X lo tl)(hu:PO X hi th):PE X (.Subscript e (.Slice lo hi none p2) pos) (tSl r te tl th):=by
 intro pins s σ H Q I h;refine Subscript_ (thn (he pins s σ H _ I h) λv s1 ⟨x,H1,I1,r1,q1⟩=>?_);refine wpAny_Slice (thn (hl pins s1 σ H1 _ I1 q1) λvl s2 ⟨l,H2,I2,pl,q2⟩=>thn (hu pins s2 σ H2 _ I2 q2) λvu s3 ⟨u,H3,I3,pu,q3⟩=>?_);rw[evalPart_none];refine wpAny_pure ?_;have I4:Inv X pins σ H3 {s3 with heap:=s3.heap.push {cls:=.type "slice",data:=.fields #[vl,vu,.none]}}:=I3.kept (t':=s3.toks) λb ob q=>Heap.get?_push_of_some _ q
 obtain⟨T,id,hT,ht,hg⟩:=hr pins {s3 with heap:=s3.heap.push {cls:=.type "slice",data:=.fields #[vl,vu,.none]}} σ H3 x v vl vu l u s3.heap.objs.size Q I4 r1 (Heap.IsSliceOf.new ..) pl pu q3;show wpAny (model X.prog X.w) X.A (subscriptTail e (.Slice lo hi none p2) v (.ref s3.heap.objs.size)) (EP X pins σ Q) X.xe {s3 with heap:=s3.heap.push {cls:=.type "slice",data:=.fields #[vl,vu,.none]}};exact tail_any (ops:=[.ref s3.heap.objs.size,v]) ht hT hg (by with_unfolding_all rfl)
def cutV(xs:List V)(lo hi:Option Int):List V:=(xs.drop (HT.sIx xs.length 0 lo)).take (HT.sIx xs.length xs.length hi - HT.sIx xs.length 0 lo)
theorem q4p(xs:List V)(lo hi:Option Int):(cutV xs lo hi).length<=xs.length:=by
 unfold cutV;rw[List.length_take,List.length_drop];omega
def rSlT(K:PySem.W.Frag):V->Option Int->Option Int->Hp->VK->Prop:=λx lo hi H Q=>∃a xs,x=.ref a/\SqT K H a xs /\
 ¬(HT.sIx xs.length 0 lo=0/\HT.sIx xs.length xs.length hi=xs.length)/\∀p,H p=none->Q (.ref p) (upd H p (.tup (cutV xs lo hi)))
theorem z5U:SlR X (rSlT X.K):=by
 intro pins s σ H x v vl vu lo hi sl Q I rx hs pl pu h;obtain⟨a,xs,rfl,hx,hw,q⟩:=h;cases rx;obtain⟨its,r,ht,hz⟩:=I.tuple hx;have hlen:its.toArray.size=xs.length:=by rw[List.size_toArray];exact r.length.symm
 refine⟨"tuple",_,PyProof.Rows.slot_tuple_getitem.lookup,ht.typeIs,?_⟩;refine HT.getItem_tuple_cut ht hs pl pu (by rw[hlen];exact hw) ?_ (by rw[hlen];exact hz);rw[hlen];refine⟨.ref s.heap.objs.size,_,I.laid (t':=s.toks) (o:=.tup (cutV xs lo hi)) (λb ob q=>Heap.get?_push_of_some _ q) (Nat.le_refl _) ?_,rfl,q _ (I.hok.fresh (Nat.le_refl _))⟩;exact⟨Nat.le_trans (q4p xs lo hi) hz,_,(r.drop (HT.sIx xs.length 0 lo)).take (HT.sIx xs.length xs.length hi - HT.sIx xs.length 0 lo),q2V.new _ _⟩
def z6V(K:PySem.W.Frag):R2:=λx y H Q=>∃a b xs ys,x=.ref a/\y=.ref b/\SqT K H a xs/\SqT K H b ys/\xs≠[]/\xs.length+ys.length<=sizeLine /\
 (ys=[]->Q (.ref a) H)/\(ys≠[]->∀p,H p=none->Q (.ref p) (upd H p (.tup (xs++ys))))
theorem Vals.nil_iff{xs:List V}{us:List Value}(r:Vals xs us):us=[]↔xs=[]:=by
 cases r with
 | nil=>simp
 | cons _ _=>simp
theorem z4C:OpR X (binaryOp .Add) (z6V X.K):=by
 intro pins s σ H x y v u Q I rx ry h;obtain⟨a,b,xs,ys,rfl,rfl,ha,hb,hx,hz,q1,q2⟩:=h;cases rx;cases ry;obtain⟨its,r1,p1,_⟩:=I.tuple ha;obtain⟨its2,r2,p2,_⟩:=I.tuple hb;refine HT.cat_tup p1 p2 (λz=>hx (r1.nil_iff.mp z)) (λz=>⟨.ref a,H,I,rfl,q1 (r2.nil_iff.mp z)⟩) (λz=>?_) (by rw[←r1.length,←r2.length];exact hz);refine⟨.ref s.heap.objs.size,_,I.laid (t':=s.toks) (o:=.tup (xs++ys)) (λb ob q=>Heap.get?_push_of_some _ q) (Nat.le_refl _) ?_,rfl,q2 (λw=>z (r2.nil_iff.mpr w)) _ (I.hok.fresh (Nat.le_refl _))⟩;exact⟨by rw[List.length_append];exact hz,_,r1.append r2,q2V.new _ _⟩
end
end L2
namespace L2
open PySem PySem.Spec PyProof.Rows
def ixN(n:Nat)(i:Int):Option Nat:=if 0<=i then(if i<n then some i.toNat else none)else if -(n:Int)<=i then some (i+n).toNat else none
def atI{α:Type}(xs:List α)(i:Int):Option α:=(ixN xs.length i).bind λj=>xs[j]?
theorem z5c{n:Nat}{i:Int}{j:Nat}(h:ixN n i=some j):seqIndex? i n=some j/\j<n /\ -(n:Int)<=i/\i<n:=by
 unfold ixN at h;by_cases h0:0<=i
 ·rw[if_pos h0]at h;by_cases h1:i<n
  ·rw[if_pos h1]at h;have e:i.toNat=j:=Option.some.inj h;exact⟨by rw[seqIndex_of h0 h1,e],by omega,by omega,h1⟩
  ·rw[if_neg h1]at h;cases h
 ·rw[if_neg h0]at h;by_cases h1 : -(n:Int)<=i
  ·rw[if_pos h1]at h;have e:(i+n).toNat=j:=Option.some.inj h;exact⟨by rw[seqIndex_neg (by omega) h1,e],by omega,h1,by omega⟩
  ·rw[if_neg h1]at h;cases h
theorem q7k{α:Type}{xs:List α}{i:Int}{v:α}(h:atI xs i=some v):∃j,seqIndex? i xs.length=some j/\xs[j]? = some v/\j<xs.length /\ -(xs.length:Int)<=i/\i<xs.length:=by
 unfold atI at h;cases e:ixN xs.length i with
 | none=>rw[e]at h;cases h
 | some j=>
  rw[e]at h;obtain⟨h1,h2,h3,h4⟩:=z5c e;exact⟨j,h1,h,h2,h3,h4⟩
def z4q(b:Expr):Prop:=∀o i,subscripted b false o i=operate [o,i] (getItem o i)
def IxR(X:Cx)(r:R2):Prop:=
 ∀(value slice:Expr) (pins:List (Addr×Obj)) (s:Shared) (σ:St) (H:Hp) (x y:V) (v u:Value) (Q:VK),Inv X pins σ H s->RelV x v->RelV y u->r x y H Q ->
  subscripted slice false v u=operate [v,u] (getItem v u)->wpAny (model X.prog X.w) X.A (subscriptTail value slice v u) (EP X pins σ Q) X.xe s
def MtR(X:Cx)(id:String)(r:V->List V->Hp->VK->Prop):Prop:=
 ∀(pins:List (Addr×Obj)) (s:Shared) (σ:St) (H:Hp) (x:V) (xs:List V) (v:Value) (us:List Value) (Q:VK),Inv X pins σ H s->RelV x v->Vals xs us->r x xs H Q ->
  wpAny (model X.prog X.w) X.A (call (.builtin id) (v::us)) (EP X pins σ Q) X.xe s
section
variable {X:Cx} {a b:Expr} {ta tb:TE} {pos:Pos}
theorem IxR.or{r r':R2}(h:IxR X r)(h':IxR X r'):IxR X (λx y H Q=>r x y H Q\/r' x y H Q):=by
 intro value slice pins s σ H x y v u Q I rx ry q hs;rcases q with q | q
 ·exact h value slice pins s σ H x y v u Q I rx ry q hs
 ·exact h' value slice pins s σ H x y v u Q I rx ry q hs
theorem z8A{r:R2}(hr:IxR X r)(ha:PE X a ta)(hb:PE X b tb)(hs:z4q b):PE X (.Subscript a b pos) (tOp r ta tb):=by
 intro pins s σ H Q I h;exact Subscript_ (binT ha hb I h λv u s2 x y H2 I2 rx ry q=>hr a b pins s2 σ H2 x y v u Q I2 rx ry q (hs _ _))
def rIxL(K:PySem.W.Frag):R2:=λx y H Q=>∃p xs i v,x=.ref p/\y=.int i/\SqL K H p xs/\atI xs i=some v/\Q v H
def rIxT(K:PySem.W.Frag):R2:=λx y H Q=>∃p xs i v,x=.ref p/\y=.int i/\SqT K H p xs/\atI xs i=some v/\Q v H
def rIxS:R2:=λx y H Q=>∃z i c,x=.str z/\y=.int i/\z.length<=sizeLine/\atI z.cps.toList i=some c/\Q (.str ⟨#[c]⟩) H
theorem z3S:IxR X (rIxL X.K):=by
 intro value slice pins s σ H x y v u Q I rx ry h hs;obtain⟨p,xs,i,z,rfl,rfl,hq,he,q⟩:=h;cases rx;obtain⟨t,rfl⟩:=ry;obtain⟨its,r,pl,hz⟩:=I.list hq;obtain⟨j,h1,h2,h3,h4,h5⟩:=q7k he;obtain⟨w,ew,rw'⟩:=r.get h2;have hl:=r.length;have hn:=q5f;have fin:EP X pins σ Q w s:=⟨z,H,I,rw',q⟩;by_cases h0:0<=i
 ·have hj:i.toNat=j:=by
   rw[seqIndex_of h0 h5]at h1;exact Option.some.inj h1
  exact item_listR pl.isList h0 (by omega) (by rw[hj];simpa using ew) fin hs
 ·have hj:(i+(its.toArray.size:Int)).toNat=j:=by
   rw[seqIndex_neg (by omega) h4]at h1;rw[List.size_toArray,←hl];exact Option.some.inj h1
  exact subscriptTail_builtinR (x:=w) pl.isList.typeIs slot_list_getitem.lookup
   (wpAny_getItem_list_neg (Q:=λr s'=>r=w/\EP X pins σ Q r s') pl.isList (by omega) (by rw[List.size_toArray]<;>omega) (by omega) (by rw[hj];simpa using ew) ⟨rfl,fin⟩) hs
theorem z5j:IxR X (rIxT X.K):=by
 intro value slice pins s σ H x y v u Q I rx ry h hs;obtain⟨p,xs,i,z,rfl,rfl,hq,he,q⟩:=h;cases rx;obtain⟨t,rfl⟩:=ry;obtain⟨its,r,pl,hz⟩:=I.tuple hq;obtain⟨j,h1,h2,h3,h4,h5⟩:=q7k he;obtain⟨w,ew,rw'⟩:=r.get h2;have hl:=r.length;have hn:=q5f;have fin:EP X pins σ Q w s:=⟨z,H,I,rw',q⟩;exact subscriptTail_builtinR (x:=w) pl.typeIs slot_tuple_getitem.lookup
  (getItem_tuple (j:=j) (Q:=λr s'=>r=w/\EP X pins σ Q r s') pl (by omega) (by omega) (by rw[List.size_toArray,←hl];exact h1) (by simpa using ew) ⟨rfl,fin⟩) hs
theorem z5N:IxR X rIxS:=by
 intro value slice pins s σ H x y v u Q I rx ry h hs;obtain⟨z,i,c,rfl,rfl,hz,he,q⟩:=h;obtain⟨t,rfl⟩:=rx;obtain⟨t',rfl⟩:=ry;obtain⟨j,h1,h2,h3,h4,h5⟩:=q7k he;have hl:z.cps.toList.length=z.length:=by simp[Str.length]
 rw[hl]at h1 h4 h5;have hn:=q5f;exact tail_any (typeIs_str s z t) slot_str_getitem.lookup (getItem_str (c:=c) (by
  have e1:decide (i < -(2^63:Int))=false:=decide_eq_false (by omega);have e2:decide (i ≥ 2^63)=false:=decide_eq_false (by omega);rw[e1,e2,Bool.or_false]) (by rw[h1];simpa using h2) ⟨.str ⟨#[c]⟩,H,I.tok _,⟨_,rfl⟩,q⟩) hs
def rIx(K:PySem.W.Frag):R2:=λx y H Q=>rIxL K x y H Q\/rIxT K x y H Q\/rIxS x y H Q
theorem z7t:IxR X (rIx X.K):=z3S.or (z5j.or z5N)
theorem q6k(lo hi:Option Int)(n:Nat):(sliceBounds lo hi none n).1=((HT.sIx n 0 lo:Nat):Int)/\(sliceBounds lo hi none n).2.1=((HT.sIx n n hi:Nat):Int)/\(sliceBounds lo hi none n).2.2=1:=by
 refine⟨?_,?_,rfl⟩
 ·cases lo with
  | none=>simp[sliceBounds,HT.sIx]
  | some i=>
   simp only[sliceBounds,HT.sIx,Option.getD_none,show(1:Int)>0 by decide,if_true];by_cases h:i<0
   ·simp only[h,if_true]<;>omega
   ·simp only[h,if_false]<;>omega
 ·cases hi with
  | none=>simp[sliceBounds,HT.sIx]
  | some i=>
   simp only[sliceBounds,HT.sIx,Option.getD_none,show(1:Int)>0 by decide,if_true];by_cases h:i<0
   ·simp only[h,if_true]<;>omega
   ·simp only[h,if_false]<;>omega
theorem q5v(its:List Value)(lo hi:Option Int):slicePick its.toArray lo hi none=((its.drop (HT.sIx its.length 0 lo)).take (HT.sIx its.length its.length hi - HT.sIx its.length 0 lo)).toArray:=by
 obtain⟨h1,h2,h3⟩:=q6k lo hi its.toArray.size;unfold slicePick;rw[h1,h2,h3];simp only[sliceRange_one,pick_run,List.size_toArray]<;>rfl
def rSlL(K:PySem.W.Frag):V->Option Int->Option Int->Hp->VK->Prop:=λx lo hi H Q=>∃a xs,x=.ref a/\SqL K H a xs/\∀p,H p=none->Q (.ref p) (upd H p (.lst (cutV xs lo hi)))
theorem z5a:SlR X (rSlL X.K):=by
 intro pins s σ H x v vl vu lo hi sl Q I rx hs pl pu h;obtain⟨a,xs,rfl,hx,q⟩:=h;cases rx;obtain⟨its,r,ht,hz⟩:=I.list hx;have hlen:=r.length;refine⟨"list",_,slot_list_getitem.lookup,ht.isList.typeIs,?_⟩;refine wpAny_getItem_list_slice ht.isList hs pl pu .none (by simp) ?_ (by rw[List.size_toArray]<;>omega);rw[q5v,←hlen];refine⟨.ref s.heap.objs.size,_,I.laid (t':=s.toks) (o:=.lst (cutV xs lo hi)) (λb ob q=>Heap.get?_push_of_some _ q) (Nat.le_refl _) ?_,rfl,q _ (I.hok.fresh (Nat.le_refl _))⟩;exact⟨Nat.le_trans (q4p xs lo hi) hz,_,0,(r.drop (HT.sIx xs.length 0 lo)).take (HT.sIx xs.length xs.length hi - HT.sIx xs.length 0 lo),Heap.get?_push_size _ rfl⟩
theorem q2B:q2Q X (.builtin "len") (λxs H Q=>∃p ys,xs=[.ref p]/\(SqL X.K H p ys\/SqT X.K H p ys)/\Q (.int ys.length) H):=by
 intro pins s σ H xs us Q I r h;obtain⟨p,ys,rfl,hq,q⟩:=h;obtain⟨u,rfl,rx⟩:=q6F r;cases rx;have hn:=q5f;rcases hq with hq | hq
 ·obtain⟨its,r',pl,hz⟩:=I.list hq;have hlen:=r'.length;exact Calls.call_len_list pl.isList (by simp only[List.size_toArray]<;>omega) ⟨.int ys.length,H,I.tok _,⟨s.toks+1,by rw[List.size_toArray,hlen]⟩,q⟩
 ·obtain⟨its,r',pl,hz⟩:=I.tuple hq;have hlen:=r'.length;exact len_tuple pl (by simp only[List.size_toArray]<;>omega) ⟨.int ys.length,H,I.tok _,⟨s.toks+1,by rw[List.size_toArray,hlen]⟩,q⟩
theorem q6r:q2Q X (.builtin "len") (λxs H Q=>∃z,xs=[.str z]/\z.length<=sizeLine/\Q (.int z.length) H):=by
 intro pins s σ H xs us Q I r h;obtain⟨z,rfl,hz,q⟩:=h;obtain⟨u,rfl,t,rfl⟩:=q6F r;have hn:=q5f;exact len_str (by omega) ⟨.int z.length,H,I.tok _,⟨_,rfl⟩,q⟩
theorem q2G:q2Q X (.type "list") (λxs H Q=>∃p ys,xs=[.ref p]/\(SqL X.K H p ys\/SqT X.K H p ys)/\∀l,H l=none->Q (.ref l) (upd H l (.lst ys))):=by
 intro pins s σ H xs us Q I r h;obtain⟨p,ys,rfl,hq,q⟩:=h;obtain⟨u,rfl,rx⟩:=q6F r;cases rx;have fin:∀(its:List Value),Vals ys its->ys.length<=sizeLine->∀(h':Heap) (c':Nat),(∀b o',s.heap.get? b=some o'->h'.get? b=some o') ->
   h'.get? s.heap.objs.size=some {cls:=.type "list",dict:=none,data:=.seq its.toArray c',slots:=#[]} -> EP X pins σ Q (.ref s.heap.objs.size) {s with heap:=h'}:=λits r' hz h' c' kp e=>
  ⟨.ref s.heap.objs.size,_,I.laid (t':=s.toks) kp (Nat.le_refl _) (show q1J X.prog X.w _ h' _ (.lst ys)from⟨hz,its,c',r',e⟩),rfl,q _ (I.hok.fresh (Nat.le_refl _))⟩
 rcases hq with hq | hq
 ·obtain⟨its,r',pl,hz⟩:=I.list hq;have hlen:=r'.length;obtain⟨o,ho,hc,n,hd⟩:=pl.isList;exact call_list_seq p (.inl rfl) ho hc hd (λh' c' kp e=>fin its r' hz h' c' kp e) (by simp only[List.size_toArray]<;>omega)
 ·obtain⟨its,r',pl,hz⟩:=I.tuple hq;have hlen:=r'.length;obtain⟨o,ho,hc,n,hd⟩:=pl;exact call_list_seq p (.inr rfl) ho hc hd (λh' c' kp e=>fin its r' hz h' c' kp e) (by simp only[List.size_toArray]<;>omega)
theorem q3u:q2Q X (.type "tuple") (λxs H Q=>∃p ys,xs=[.ref p]/\((SqL X.K H p ys/\∀l,H l=none->Q (.ref l) (upd H l (.tup ys)))\/(SqT X.K H p ys/\Q (.ref p) H))):=by
 intro pins s σ H xs us Q I r h;obtain⟨p,ys,rfl,h⟩:=h;obtain⟨u,rfl,rx⟩:=q6F r;cases rx;rcases h with⟨hq,q⟩ | ⟨hq,q⟩
 ·obtain⟨its,r',pl,hz⟩:=I.list hq;have hlen:=r'.length;refine call_tuple_list pl.isList (λh' kp=>?_) (by simp only[List.size_toArray]<;>omega);have I1:Inv X pins σ H {s with heap:=h'}:=I.kept (t':=s.toks) kp;have I2:Inv X pins σ (upd H h'.objs.size (.tup ys)) {s with heap:=h'.push {cls:=.type "tuple",data:=.seq its.toArray}}:=
   I1.laid (t':=s.toks) (λb o e=>Heap.get?_push_of_some _ e) (Nat.le_refl _) (show q1J X.prog X.w _ _ _ (.tup ys)from⟨hz,its,r',q2V.new _ _⟩)
  exact⟨.ref h'.objs.size,_,I2,rfl,q _ (I1.hok.fresh (Nat.le_refl _))⟩
 ·obtain⟨its,r',pl,hz⟩:=I.tuple hq;exact call_tuple_same pl ⟨.ref p,H,I,rfl,q⟩
def tyV(K:PySem.W.Frag)(T:String)(x:V)(H:Hp):Prop:=match x with
 | .str _=>T = "str"
 | .int _=>T = "int"
 | .ref p=>(T = "list" /\ ∃xs,SqL K H p xs)\/(T = "tuple" /\ ∃o,K.lookup p=some o/\o.cls=.type "tuple" /\ o.dict=none) \/
   (T = "dict" /\ ((∃kvs,H p=some (.dK kvs))\/∃kvs,H p=some (.dT kvs)))\/(T = "set" /\ ∃S n,H p=some (.set S n))
 | _=>False
theorem z6M{pins:List (Addr×Obj)}{σ:St}{H:Hp}{s:Shared}{T:String}{x:V}{v:Value}(I:Inv X pins σ H s)(r:RelV x v)(ty:tyV X.K T x H) :
  s.TypeIs v T/\∀a,v=.ref a->∃ob,s.heap.get? a=some ob/\ob.dict=none:=by
 cases x with
 | str z=>
  obtain⟨t,rfl⟩:=r;cases(show T = "str" from ty);exact⟨typeIs_str s z t,λ_ e=>nomatch e⟩
 | int i=>
  obtain⟨t,rfl⟩:=r;cases(show T = "int" from ty);exact⟨typeIs_int s i t,λ_ e=>nomatch e⟩
 | ref p=>
  cases r;rcases ty with⟨rfl,xs,hq⟩ | ⟨rfl,o,hk,hc,hd⟩ | ⟨rfl,hk⟩ | ⟨rfl,S,n,hk⟩
  ·obtain⟨its,_,pl,_⟩:=I.list hq;refine⟨pl.isList.typeIs,λa e=>?_⟩;cases e;obtain⟨o,n,e,c,hd,_⟩:=pl;exact⟨o,e,hd⟩
  ·refine⟨⟨o,I.kIn p o hk,hc⟩,λa e=>?_⟩;cases e;exact⟨o,I.kIn _ o hk,hd⟩
  ·have z:∃o,s.heap.get? p=some o/\o.ExactDict:=by
    rcases hk with⟨kvs,hk⟩ | ⟨kvs,hk⟩
    ·obtain⟨_,_,_,_,o,_,_,e,ex,_⟩:=I.hok p _ hk;exact⟨o,e,ex⟩
    ·obtain⟨_,_,_,_,o,_,_,e,ex,_⟩:=I.hok p _ hk;exact⟨o,e,ex⟩
   obtain⟨o,e,ex⟩:=z;refine⟨⟨o,e,ex.1⟩,λa e2=>?_⟩;cases e2;exact⟨o,e,ex.2.1⟩
  ·obtain⟨o,_,_,_,e,ex,_⟩:=I.hok p _ hk;refine⟨⟨o,e,ex.1⟩,λa e2=>?_⟩;cases e2;exact⟨o,e,ex.2.1⟩
 | _=>exact False.elim ty
def tBM(K:PySem.W.Frag)(T:String)(r:V->List V->Hp->VK->Prop)(to:TE)(t:TA):TE:=λσ H Q=>to σ H λx H1=>tyV K T x H1/\t σ H1 λxs H2=>r x xs H2 Q
variable {o e:Expr} {es:List Expr} {to:TE} {t:TA} {name:Str} {apos cpos:Pos} {T id:String} {r:V->List V->Hp->VK->Prop}
theorem z5D(pa:PlainAttrs T)(slot:Slot T name id)(hty:typeOf (.builtin id)=pure (.type "method_descriptor"))(hm:MtR X id r)(ho:PE X o to)(ha:PA X (e::es) t)
  (hbase:attributeBase o name X.env (eval o X.env)=eval o X.env:=by rfl)
  (hfew:((backTo cpos (starEach (e::es) X.env)).all (λx=>!x.1)&&(backToKw cpos (keywordEach [] X.env)).all (λx=>x.1.isSome)
   && decide ((e::es).length+([]:List Keyword).length+(if([]:List Keyword).isEmpty then 0 else 1)<30))=true:=by rfl)
  (hline:(apos.endLine==cpos.line)=true:=by rfl) (hs:starEach (e::es) X.env=(false,eval e X.env)::starEach es X.env:=by rfl) (hplain:(backTo cpos (starEach es X.env)).any (·.1)=false:=by rfl) :
  PE X (.Call (.Attribute o name apos) (e::es) [] cpos) (tBM X.K T r to t):=by
 intro pins s σ H Q I h;refine wpAny_Call_method_late hbase hfew hline rfl (thn (ho pins s σ H _ I h) λv s1 ⟨x,H1,I1,r1,ty,q1⟩=>?_);obtain⟨h1,h2⟩:=z6M I1 r1 ty;refine⟨T,id,pa,slot,hty,h1,h2,?_⟩;have hA:=ha cpos pins s1 σ H1 _ I1 q1;rw[hs]at hA ⊢;refine Calls.callWith_builtin (by show(false||(backTo cpos (starEach es X.env)).any (·.1))=false;rw[hplain]<;>rfl) (Calls.evalArgs_plain ?_);exact thn hA λus s2 ⟨vs,H2,I2,r2,q2⟩=>hm pins s2 σ H2 x vs v us Q I2 r1 r2 q2
end
end L2
namespace L2
open PySem PySem.Spec PyProof.Rows
def MtM(X:Cx)(id:String)(r:V->List V->Hp->VK->Prop):Prop:=
 ∀(pins:List (Addr×Obj)) (s:Shared) (σ:St) (H:Hp) (x:V) (xs:List V) (v:Value) (us:List Value) (Q:VK),Inv X pins σ H s->RelV x v->Vals xs us->r x xs H Q ->
  wpAny (model X.prog X.w) X.A (call (.builtin id) (v::us)) (EP X pins σ Q) X.xe s
theorem Vals.unc{x:V}{xs:List V}{us:List Value}(h:Vals (x::xs) us):∃u ws,us=u::ws/\RelV x u/\Vals xs ws:=by
 cases h with
 | cons r t=>exact⟨_,_,rfl,r,t⟩
theorem Vals.nl{us:List Value}(h:Vals [] us):us=[]:=by cases h;rfl
theorem Vals.one{x:V}{us:List Value}(h:Vals [x] us):∃u,us=[u]/\RelV x u:=by
 obtain⟨u,ws,rfl,r,t⟩:=h.unc;cases t.nl;exact⟨_,rfl,r⟩
theorem Vals.two{x y:V}{us:List Value}(h:Vals [x,y] us):∃u v,us=[u,v]/\RelV x u/\RelV y v:=by
 obtain⟨u,ws,rfl,r,t⟩:=h.unc;obtain⟨v,rfl,q⟩:=t.one;exact⟨_,_,rfl,r,q⟩
theorem Vals.rep{xs:List V}{us:List Value}(h:Vals xs us):∀k:Nat,Vals (List.replicate k xs).flatten (List.replicate k us).flatten
 | 0=>.nil
 | k+1=>by rw[List.replicate_succ,List.replicate_succ,List.flatten_cons,List.flatten_cons];exact Vals.append h (Vals.rep h k)
theorem q6a(its:List Value):∀(k:Nat) (acc:List Value),
  List.foldl (λx1 x2=>x1++x2) acc.toArray (List.replicate k its.toArray)=(acc++(List.replicate k its).flatten).toArray
 | 0,acc=>by simp
 | k+1,acc=>by
  have e:acc.toArray++its.toArray=(acc++its).toArray:=by simp
  have e2:(acc++its)++(List.replicate k its).flatten=acc++(List.replicate (k+1) its).flatten:=(by rw[List.replicate_succ,List.flatten_cons,List.append_assoc]);rw[←e2,←q6a its k (acc++its),←e,List.replicate_succ,List.foldl_cons]
section
variable {X:Cx} {pins:List (Addr×Obj)} {σ:St} {H:Hp} {s:Shared} {l b:Addr} {xs ys zs:List V}
theorem Inv.lset{its its':List Value}{n:Nat}{f:Array Value->Array Value}{t':Nat}(I:Inv X pins σ H s)(hH:H l=some (.lst xs))
  (e:s.heap.get? l=some {cls:=.type "list",data:=.seq its.toArray n}) (hf:f its.toArray=its'.toArray) (hv:Vals ys its') (hz:ys.length<=sizeLine) :
  Inv X pins σ (upd H l (.lst ys)) {s with heap:=s.heap.update l (Obj.mapSeq f),toks:=t'}:=by
 have q:=PySem.IsL.update e f;rw[hf]at q;refine I.write (x:=l) (e:=l) (by rw[hH];exact trivial) (.inl rfl) (λb' u hb hu=>(Heap.get?_update_other s.heap (Obj.mapSeq f) (Ne.symm hb)).trans hu) ⟨_,q⟩ ?_;exact⟨hz,its',_,hv,q⟩
theorem Inv.lnew{its:List Value}{t':Nat}(I:Inv X pins σ H s)(hv:Vals ys its)(hz:ys.length<=sizeLine) :
  Inv X pins σ (upd H s.heap.objs.size (.lst ys)) {s with heap:=s.heap.push {cls:=.type "list",data:=.seq its.toArray},toks:=t'}:=
 I.laid (λ_ _ q=>Heap.get?_push_of_some _ q) (Nat.le_refl _) ⟨hz,its,0,hv,Heap.get?_push_size _ rfl⟩
theorem Inv.fresh(I:Inv X pins σ H s):H s.heap.objs.size=none:=I.hok.fresh (Nat.le_refl _)
theorem Inv.lstM(I:Inv X pins σ H s)(hH:H l=some (.lst xs)):xs.length<=sizeLine/\∃(its:List Value) (n:Nat),Vals xs its/\xs.length=its.length/\s.heap.get? l=some {cls:=.type "list",data:=.seq its.toArray n}:=by
 obtain⟨z,its,n,r,e⟩:=I.hok l _ hH;exact⟨z,its,n,r,r.length,e⟩
theorem z0X{n:Nat}(h:n<=sizeLine):Builtin.List.listTooLong n=false:=by
 unfold Builtin.List.listTooLong;exact decide_eq_false (by omega)
end
section
variable {X:Cx}
def z4P:V->List V->Hp->VK->Prop:=λx vs H Q=>∃l xs y,x=.ref l/\vs=[y]/\H l=some (.lst xs)/\xs.length<sizeLine/\Q .non (upd H l (.lst (xs++[y])))
theorem q9j:MtM X "list.append" z4P:=by
 intro pins s σ H x vs v us Q I rx rv h;obtain⟨l,xs,y,rfl,rfl,hH,hz,q⟩:=h;cases rx;obtain⟨u,rfl,ru⟩:=rv.one;obtain⟨z,its,n,r,hl,e⟩:=I.lstM hH;refine call_meets F.slot_list_append ⟨_,e,rfl⟩ F.entry_list_append (F.args_list_append_2 _ _) (PySem.list_append l its.toArray n u (by rw[List.size_toArray];omega)) ⟨e,?_⟩;refine⟨.non,_,I.lset (its':=its++[u]) hH e (by simp) (r.append (.cons ru .nil)) ?_,rfl,q⟩;rw[List.length_append,List.length_singleton];omega
def rCat:R2:=λx y H Q=>∃l b xs zs,x=.ref l/\y=.ref b/\H l=some (.lst xs)/\H b=some (.lst zs)/\xs.length+zs.length<=sizeLine/\∀p,H p=none->Q (.ref p) (upd H p (.lst (xs++zs)))
theorem z6B:OpR X (binaryOp .Add) rCat:=by
 intro pins s σ H x y v u Q I rx ry h;obtain⟨l,b,xs,zs,rfl,rfl,hH,hB,hz,q⟩:=h;cases rx;cases ry;obtain⟨z,its,n,r,hl,e⟩:=I.lstM hH;obtain⟨z2,its2,n2,r2,hl2,e2⟩:=I.lstM hB;refine PySem.P.add_list e e2 ?_ (by rw[List.size_toArray,List.size_toArray];omega);have ea:its.toArray++its2.toArray=(its++its2).toArray:=by simp
 rw[ea];exact⟨.ref _,_,I.lnew (t':=s.toks) (r.append r2) (by rw[List.length_append];omega),rfl,q _ I.fresh⟩
def rRep:R2:=λx y H Q=>∃l k xs,x=.ref l/\y=.int k/\H l=some (.lst xs) /\ -(2^63)<=k/\k<2^63/\xs.length*k.toNat<=sizeLine /\
 ∀p,H p=none->Q (.ref p) (upd H p (.lst (List.replicate k.toNat xs).flatten))
theorem z3b{α:Type}(xs:List α)(k:Nat):(List.replicate k xs).flatten.length=k*xs.length:=by
 induction k with
 | zero=>simp
 | succ k ih=>rw[List.replicate_succ,List.flatten_cons,List.length_append,ih,Nat.succ_mul,Nat.add_comm]
theorem z7f:OpR X (binaryOp .Mult) rRep:=by
 intro pins s σ H x y v u Q I rx ry h;obtain⟨l,k,xs,rfl,rfl,hH,h1,h2,hz,q⟩:=h;cases rx;obtain⟨t,rfl⟩:=ry;obtain⟨z,its,n,r,hl,e⟩:=I.lstM hH;have hlen:its.toArray.size*k.toNat<=sizeLine:=by rw[List.size_toArray,←hl];exact hz
 have hcap:¬its.toArray.size*k.toNat>(2^63 - 1)/8:=by
  have:(sizeLine:Nat)<=(2^63 - 1)/8:=by decide
  omega
 have hfit:¬(!Builtin.List.listFitsIndex k)=true:=(by rw[fitsIndex_both h1 h2];exact Bool.false_ne_true);have hlong:¬Builtin.List.listTooLong (its.toArray.size*k.toNat)=true:=(by rw[z0X hlen];exact Bool.false_ne_true);have hnew:List.foldl (λx1 x2=>x1++x2) #[] (List.replicate (if its.toArray.isEmpty=true then 0 else k.toNat) its.toArray)=(List.replicate k.toNat its).flatten.toArray:=by
  have f0:∀m:Nat,List.foldl (λx1 x2=>x1++x2) #[] (List.replicate m its.toArray)=(List.replicate m its).flatten.toArray:=λm=>by have:=q6a its m [];rw[List.nil_append]at this;exact this
  rw[f0];cases its with
  | nil=>simp
  | cons a r'=>rw[if_neg (by simp)]
 refine wpAny_binaryOp_repeat_ref (T:="list") (U:="int") (by decide) ⟨_,e,rfl⟩ (λs'=>typeIs_int s' k t) noFill_list_mul F.fills_int_mul F.slot_int_rmul repeat_list F.slot_int_index.lookup
  (call_meets F.slot_int_rmul (typeIs_int s k t) F.entry_int_rmul (F.args_int_rmul_2 _ _) (int___rmul___int_list k t l its.toArray n)
   ⟨e,rfl,⟨_,e,rfl⟩,call_meets F.slot_list_mul ⟨_,e,rfl⟩ F.entry_list_mul (F.args_list_mul_2 _ _) (AutoListH.list___mul___list_int_3 l its.toArray n k t hfit hcap hlong) ⟨e,?_⟩⟩)
 rw[hnew];exact⟨.ref _,_,I.lnew (t':=s.toks) (r.rep k.toNat) (by rw[z3b,Nat.mul_comm];exact hz),rfl,q _ I.fresh⟩
end
section
variable {prog:Program} {w:World} {A:Around} {E:Value->Shared->Prop} {s:Shared}
end
section
variable {X:Cx}
end
end L2
namespace Att
open PySem PySem.W PySem.Calls PyProof.Rows
theorem q4w{P:Params}{h:Heap}:∀(ns:List Int) (vs:List Value),WellAll P h vs (ns.map WData.int)->IntsAre vs ns:=by
 intro ns
 induction ns with
 | nil=>
  intro vs w;rw[List.map_nil]at w;cases w;exact .nil
 | cons n ns ih=>
  intro vs w;rw[List.map_cons]at w;cases w with
  | cons a b=>
   cases a;exact .cons _ _ (ih _ b)
theorem z0N{l:OpenLaw}{n:Nat}(hn:l.most=some n){P:Params}{h:Heap}{args:List WData}{vals:List Value}
  (hpre:l.row.toRowW.claim.pre args=true) (hwl:WellAll P h vals args) :
  ∃a vs ns,vals=[Value.ref a]/\args=[WData.list (ns.map WData.int)]/\h.get? a=some {cls:=.type "list",data:=.seq vs.toArray} /\ IntsAre vs ns/\ns.length<=n:=by
 have hsh:WShape.hasAll [] args [.list .int]=true:=(pre_splitW hpre).1;have hc:l.pre.holds [] {args:=args} = true:=(pre_splitW hpre).2;obtain⟨d,r,rfl,h1,h2⟩:=hasAllW_cons hsh;obtain rfl:=hasAllW_nil h2;obtain⟨xs,rfl,h3⟩:=hasW_list h1;obtain⟨ns,rfl⟩:=items_int h3;have hlen:ns.length<=n:=by
  unfold OpenLaw.pre at hc;have h4:(WTm.not (.lt (.lit (.int (n:Int))) (.len (.arg 0)))).holds [] {args:=[.list (ns.map .int)]} = true:=by have h4:=(holds_andW hc).1;rw[hn]at h4;exact h4
  have h5:=condW_of h4 (w_not (w_lt w_lit (w_len_list (w_arg rfl))));rw[List.length_map]at h5;refine Nat.le_of_not_lt λq=>?_;have q':(n:Int)<((ns.length:Nat):Int):=by omega
  first
   | (rw[decide_eq_true q']at h5;exact absurd h5 (by decide))
   | (simp at h5;omega)
 cases hwl with
 | cons w1 w2=>
  cases w2;cases w1 with
  | list ho hall=>exact⟨_,_,ns,rfl,rfl,ho,q4w ns _ hall,hlen⟩
theorem q8K(l:OpenLaw)(args:List WData):l.row.toRowW.claim.post args (.bool true) args=true:=
 postW_of (r:=l.row.toRowW) (X:=(true==true))
  (show WShape.has [] (.bool true) .bool=true by first | rfl | decide | simp[WShape.has,WShape.arms,WShape.armsAll])
  (show(WTm.eq .res (.lit (.bool true))).value [] {args:=args,res:=some (.bool true),after:=args} = some (.bool (true==true))from w_eq_bool (w_res rfl) w_lit) rfl
theorem attach_call{l:OpenLaw}{n:Nat}{q:Program}{loose:List Str}{XP:(Str->Option Value)->Heap->Prop}{YP:World->Heap->Prop}{d:DefRec}
  (hn:l.most=some n) (hdf:d.params.defaults=[])
  (call:∀(w:World) (s₀ s₁:Shared) (mg mb:Str->Option Value) (fa:Addr) (o:Obj) (pm cd doc:Value) (a:Addr) (vs:List Value) (ns:List Int),
   Ground q loose [] XP w s₀ mg mb s₁.heap->YP w s₁.heap ->
   s₁.heap.get? fa=some o->o.data=.func (docDef d.name d.params d.body d.scope pm cd doc)->s₁.heap.CodeRec cd d.name->mg d.name=some (.ref fa) ->
   s₁.heap.get? a=some {cls:=.type "list",data:=.seq vs.toArray} -> IntsAre vs ns->ns.length<=n->s₁.gens = #[] ->
   codeAny (model l.prog w) callerA (.call (.ref fa) ⟨[.ref a],[]⟩) (λr s'=>r=.ok (.ret (.bool true))/\OldK s₁.heap s'.heap/\s'.os=s₁.os/\AllBare s'.gens) s₁) :
  WalkO q loose XP YP l.row.toRowW d [] (λf vs=>PySem.call f vs):=by
 intro w s₀ s₁ mg mb G Y fa o pm cd doc dV kV ho hd hcd hD hmg hg args vals as hpre hlay hrd hwl hlo;obtain rfl:dV=.none:=Dflts.none hD hdf;obtain rfl:kV=.none:=Dflts.noKw hD;obtain⟨a,vs,ns,rfl,rfl,hobj,hints,hlen⟩:=z0N hn hpre hwl;refine enter_call (codeAny_mono (call w s₀ s₁ mg mb fa o pm cd doc a vs ns G Y ho (fd_plain hd) hcd hmg hobj hints hlen hg) λr s' hq=>?_);obtain⟨rfl,h2,h3,h4⟩:=hq;exact⟨.inl ⟨.bool true,.bool true,[],rfl,λ_=>rfl,.bool true,q8K l _,λ_=>⟨List.Pairwise.nil,λ_ hm=>(nomatch hm)⟩⟩,h2,h3,h4⟩
section
variable {prog:Program} {w:World} {A:Around} {E:Value->Shared->Prop} {s:Shared} {K:Frag}
def z9o(h:Heap)(L d:Addr):List (Addr×Obj):=(List.range h.objs.size).filterMap λa=>if a=L\/a=d then none else(h.get? a).map λo=>(a,o)
end
end Att
namespace L2
open PySem PySem.Spec PyProof.Rows
theorem q6A:∀{vs:List Value} {ns:List Int},IntsAre vs ns->Vals (ns.map V.int) vs
 | _,_,.nil=>.nil
 | _,_,.cons n t h=>.cons ⟨t,rfl⟩ (q6A h)
def Only(H:Hp):Prop:=∀b,H b=none\/(∃o xs,H b=some (.frz o (.lst xs)))\/∃q,H b=some (.tbl q)
theorem q4L{α:Type}{x:Addr}:∀{l:List (Addr×α)} {c:α},l.lookup x=some c->(x,c)∈l
 | (y,v)::l,c,h=>by
  rw[List.lookup_cons]at h;split at h
  ·rename_i e;cases h;rw[beq_iff_eq.mp e];exact List.mem_cons_self
  ·exact List.mem_cons_of_mem _ (q4L h)
theorem z6H{α:Type}{x:Addr}:∀{l:List (Addr×α)} {c:α},l.lookup x=none->(x,c)∉l
 | (y,v)::l,c,h,m=>by
  rw[List.lookup_cons]at h;split at h
  ·cases h
  ·rename_i e;rcases List.mem_cons.mp m with z | z
   ·cases z;simp at e
   ·exact z6H h z
theorem z6J{α β:Type}{p:α×β}{l:List (α×β)}{q:β}(nd:(l.map (·.1)).Nodup)(h1:(p.1,q)∈l)(h2:p∈l):q=p.2:=by
 induction l with
 | nil=>cases h1
 | cons y l ih=>
  rw[List.map_cons]at nd;have nd':=List.nodup_cons.mp nd;rcases List.mem_cons.mp h1 with z1 | z1<;>rcases List.mem_cons.mp h2 with z2 | z2
  ·rw[z2,←z1]
  ·exact absurd (List.mem_map.mpr ⟨p,z2,by rw[←z1]⟩) nd'.1
  ·exact absurd (List.mem_map.mpr ⟨_,z1,by rw[z2]⟩) nd'.1
  ·exact ih nd'.2 z1 z2
theorem z1A{P:Program}{w:World}{K:PySem.W.Frag}{mg mb:Str->Option Value}{CX:CXT}{k:Nat}{fa a:Addr}{fd:FuncData}{x:Str}{sp:Sp}{s₁:Shared}{vs:List Value}{ns:List Int}
  (KX:K.In s₁.heap) (hns:s₁.heap.Ns mainGlobals mg) (hb:s₁.heap.Ns builtinsNs mb) (hbb:∀x:Str,x ≠ "__name__" -> mb x=bootBuiltins x) (hlim:s₁.heap.NoLimit) (hg:s₁.gens = #[])
  (ha:s₁.heap.get? a=some {cls:=.type "list",data:=.seq vs.toArray}) (hi:IntsAre vs ns) (hl:ns.length<=sizeLine) (hr:Room k callerA)
  (F:∀base:Heap,K.In base->base.Ns mainGlobals mg->FnOk P w K mg base CX k fa fd [x] sp) (hbind:∀(s:Shared) (u:Value),BindsTo s fd ⟨[u],[]⟩ [(x,u)])
  (hsp:∀H:Hp,Only H->SqL K H a (ns.map V.int)->sp [.ref a] H (λv _=>v=.bl true) λ_ _ _=>False)
  (htb:∀p∈q0Y K,K.lookup p.1=none/\s₁.heap.get? p.1=some {cls:=.none,data:=.fields #[]} /\ isCodeTable s₁.heap p.1) (htn:((q0Y K).map (·.1)).Nodup)
  (hbm:∃bm ob,mg "__builtins__" = some (.ref bm)/\bm≠builtinsNs/\s₁.heap.get? bm=some ob/\ob.cls=.type "module" /\ ob.dict=some builtinsNs/\ob.data=.plain)
  (hCX:∀H e s',CX [] H s₁ (λ_ _ _=>False) e s'->False) :
  codeAny (model P w) callerA (.call (.ref fa) ⟨[.ref a],[]⟩) (λr s'=>r=.ok (.ret (.bool true))/\OldK s₁.heap s'.heap/\s'.os=s₁.os/\AllBare s'.gens) s₁:=by
 have rv:=q6A hi;have lenV:=hi.length;have core:∀H:Hp,Only H->SqL K H a (ns.map V.int)->HOk P w H s₁.heap->(∀b,H b≠none->b=a\/((∃q,(b,q)∈q0Y K)/\∃q,H b=some (.tbl q)))->(H a≠none->K.lookup a=none)->q6x K H ->
   codeAny (model P w) callerA (.call (.ref fa) ⟨[.ref a],[]⟩) (λr s'=>r=.ok (.ret (.bool true))/\OldK s₁.heap s'.heap/\s'.os=s₁.os/\AllBare s'.gens) s₁:=by
  intro H hO hS hok hA hK hT;have base_of:∀{b:Addr} {o:Obj},s₁.heap.get? b=some o->H b=none->(hidT s₁.heap H).get? b=some o:=λe n=>z1I e n
  have noA:∀{b:Addr} {o:Obj} {es:Array DictEntry} {ep:Nat},s₁.heap.get? b=some o->o.data=.dict es ep->H b=none:=λ{b o es ep} e d=>by
   cases q:H b with
   | none=>rfl
   | some u=>
    rcases hA b (by rw[q];simp)with e' | ⟨⟨qq,e'⟩,_⟩
    ·subst e';rw[ha]at e;cases e;have d':Data.seq vs.toArray _=Data.dict es ep:=d;cases d'
    ·rw[(htb _ e').2.1]at e;cases e;have d':Data.fields #[]=Data.dict es ep:=d;cases d'
  have nsK:∀{b:Addr} {m:Str->Option Value},s₁.heap.Ns b m->(hidT s₁.heap H).Ns b m:=λ{b m} ⟨o,es,ep,e,d,r⟩=>⟨o,es,ep,base_of e (noA e d),d,r⟩;have hKb:K.In (hidT s₁.heap H):=λb o e=>base_of (KX b o e) (by
   cases q:H b with
   | none=>rfl
   | some u=>
    rcases hA b (by rw[q];simp)with e' | ⟨⟨qq,e'⟩,_⟩
    ·subst e';rw[hK (by rw[q];simp)]at e;cases e
    ·rw[(htb _ e').1]at e;cases e)
  have hM:Mod K mg (hidT s₁.heap H):=by
   refine⟨hKb,nsK hns,⟨mb,nsK hb,hbb⟩,let ⟨mc,h1,h2⟩:=hlim;⟨mc,nsK h1,h2⟩,?bm⟩;obtain⟨bm,ob,b1,b2,b3,b4,b5,b6⟩:=hbm;refine⟨bm,ob,b1,b2,base_of b3 ?_,b4,b5,b6⟩;cases q:H bm with
   | none=>rfl
   | some u=>
    rcases hA bm (by rw[q];simp)with e' | ⟨⟨qq,e'⟩,_⟩
    ·subst e';rw[ha]at b3;cases b3;exact absurd (Value.type.inj (show Value.type "list" = Value.type "module" from b4)) (by decide)
    ·rw[(htb _ e').2.1]at b3;cases b3;cases b4
  have e0:Env0 P w K mg (hidT s₁.heap H) callerA [] s₁ H:=⟨rfl,hM,λb o e=>z3v e,Nat.le_of_eq (q9s _ _),trivial,⟨λb hb=>absurd (show b∈([]:List Addr)from hb) (by simp),hT⟩,hok,.of_eq hg⟩;refine codeAny_mono ((F _ hKb (nsK hns)).run callerA [] s₁ H ⟨[.ref a],[]⟩ [.ref a] [.ref a] _ _ hr e0 (hbind s₁ (.ref a)) (.cons rfl .nil) (hsp H hO hS)) λr s' h=>?_;cases r with
  | error e=>exact(hCX H e s' h).elim
  | ok fl=>
   cases fl with
   | next=>exact False.elim h
   | brk=>exact False.elim h
   | cont=>exact False.elim h
   | ret u=>
    obtain⟨v,H',os,bare,un,hok',r',q⟩:=h;have q':v=.bl true:=q;subst q';obtain rfl:u=Value.bool true:=r';refine⟨rfl,⟨λb o e=>?_,λb o e=>un.there b o e (by simp)⟩,os,bare⟩;cases q:H b with
    | none=>exact .inl (un.keep b o e q (by intro z;exact absurd (show b∈([]:List Addr)from z) (by simp)) (by simp))
    | some u=>
     rcases hO b with z | ⟨ob,xs,z⟩ | ⟨qq,z⟩
     ·rw[q]at z;cases z
     ·have z2:=un.frzs b ob _ z;obtain⟨e1,_⟩:=hok b _ z;obtain⟨e2,_⟩:=hok' b _ z2;rw[e]at e1;cases e1;exact .inl e2
     ·rcases hA b (by rw[q];simp)with e' | ⟨⟨q2,e'⟩,_⟩
      ·subst e';obtain⟨ps,e1,_⟩:=hok b _ z;rw[ha]at e1;have:=congrArg Obj.data (Option.some.inj e1);cases this
      ·have t:=htb _ e';rw[t.2.1]at e;cases e;obtain⟨ps,e2,_⟩:=hok' b _ (un.tbls b _ z);exact .inr (.inl ⟨t.2.2,rfl,#[],ps,rfl,by simpa using e2⟩)
 have tabH:∀f:Hp,(∀p∈q0Y K,f p.1=none)->∃H:Hp,(∀b,(∃q,(b,q)∈q0Y K/\H b=some (.tbl q))\/((∀q,(b,q)∉q0Y K)/\H b=f b)):=λf hf=>by
  refine⟨λb=>match(q0Y K).lookup b with | some q=>some (.tbl q) | none=>f b,λb=>?_⟩;cases z:(q0Y K).lookup b with
  | some q=>exact .inl ⟨q,q4L z,by simp only[z]⟩
  | none=>exact .inr ⟨λq hq=>z6H z hq,by simp only[z]⟩
 have tabT:∀{H:Hp} {f:Hp},(∀b,(∃q,(b,q)∈q0Y K/\H b=some (.tbl q))\/((∀q,(b,q)∉q0Y K)/\H b=f b))->q6x K H:=λ{H f} h p hp=>by
  rcases h p.1 with⟨q,h1,h2⟩ | ⟨h1,_⟩
  ·rw[h2,z6J htn h1 hp]
  ·exact absurd hp (h1 p.2)
 cases hk:K.lookup a with
 | some o=>
  have e:=KX a o hk;rw[ha]at e;cases e;obtain⟨H,h⟩:=tabH (λ_=>none) λ_ _=>rfl;refine core H (λb=>?_) (.inr ⟨_,vs.toArray,_,hk,rfl,rfl,rfl,by rw[List.size_toArray,lenV];exact hl,by simpa using rv⟩) (λb u z=>?_) (λb z=>?_) (λz=>?_) (tabT h)
  ·rcases h b with⟨q,_,e⟩ | ⟨_,e⟩
   ·exact .inr (.inr ⟨q,e⟩)
   ·exact .inl e
  ·rcases h b with⟨q,m,e⟩ | ⟨_,e⟩
   ·rw[e]at z;cases z;exact⟨#[],(htb _ m).2.1,trivial,λpos cv z=>by cases z⟩
   ·rw[e]at z;cases z
  ·rcases h b with⟨q,m,e⟩ | ⟨_,e⟩
   ·exact .inr ⟨⟨q,m⟩,q,e⟩
   ·exact absurd e z
  ·rcases h a with⟨q,m,e⟩ | ⟨_,e⟩
   ·have:=(htb _ m).1;rw[hk]at this;cases this
   ·exact absurd e z
 | none=>
  have hna:∀q,(a,q)∉q0Y K:=λq m=>by have:=(htb _ m).2.1;rw[ha]at this;have:=congrArg Obj.data (Option.some.inj this);cases this
  obtain⟨H,h⟩:=tabH (λb=>if b=a then some (.frz {cls:=.type "list",data:=.seq vs.toArray} (.lst (ns.map V.int)))else none) λp hp=>if_neg λz=>hna p.2 (by rw[←z];exact hp)
  have hHa:H a=some (.frz {cls:=.type "list",data:=.seq vs.toArray} (.lst (ns.map V.int))):=by
   rcases h a with⟨q,m,_⟩ | ⟨_,e⟩
   ·exact absurd m (hna q)
   ·rw[e];exact if_pos rfl
  refine core H (λb=>?_) (.inl (.inr ⟨{cls:=.type "list",data:=.seq vs.toArray},hHa⟩)) (λb u z=>?_) (λb z=>?_) (λ_=>hk) (tabT h)
  ·rcases h b with⟨q,_,e⟩ | ⟨_,e⟩
   ·exact .inr (.inr ⟨q,e⟩)
   ·by_cases hb:b=a
    ·exact .inr (.inl ⟨_,_,e.trans (if_pos hb)⟩)
    ·exact .inl (e.trans (if_neg hb))
  ·rcases h b with⟨q,m,e⟩ | ⟨_,e⟩
   ·rw[e]at z;cases z;exact⟨#[],(htb _ m).2.1,trivial,λpos cv z=>by cases z⟩
   ·rw[e]at z;by_cases hb:b=a
    ·have z':=(if_pos hb).symm.trans z;cases z';subst hb;exact⟨ha,by rw[List.length_map];exact hl,vs,_,rv,ha⟩
    ·have z':=(if_neg hb).symm.trans z;cases z'
  ·rcases h b with⟨q,m,e⟩ | ⟨_,e⟩
   ·exact .inr ⟨⟨q,m⟩,q,e⟩
   ·by_cases hb:b=a
    ·exact .inl hb
    ·exact absurd (e.trans (if_neg hb)) z
end L2
namespace L2
open PySem PySem.Spec PyProof.Rows
abbrev KOf{K:PySem.W.Frag}{h:Heap}(_:K.In h):PySem.W.Frag:=K
theorem walk_of{l:PySem.W.OpenLaw}{n k:Nat}{q:Program}{loose:List Str}{XP:(Str->Option Value)->Heap->Prop}{YP:World->Heap->Prop}{d:DefRec}{K:Params->PySem.W.Frag}{CX:World->CXT}{sp:World->Sp}{x:Str}
  (hn:l.most=some n) (hn2:n<=sizeLine) (hdf:d.params.defaults=[]) (hr:Room k callerA)
  (hY:∀(w:World) (h:Heap),YP w h->(K w.params).In h) (htb:∀(w:World) (h:Heap),YP w h->(∀p∈q0Y (K w.params),(K w.params).lookup p.1=none/\h.get? p.1=some {cls:=.none,data:=.fields #[]} /\ isCodeTable h p.1)/\((q0Y (K w.params)).map (·.1)).Nodup)
  (F:∀(w:World) (mg:Str->Option Value) (fa:Addr) (h:Heap),(K w.params).In h->h.Ns mainGlobals mg->mg d.name=some (.ref fa) ->
   ∃fd:FuncData,(∀(s:Shared) (u:Value),BindsTo s fd ⟨[u],[]⟩ [(x,u)]) /\
    ∀base:Heap,(K w.params).In base->base.Ns mainGlobals mg->FnOk l.prog w (K w.params) mg base (CX w) k fa fd [x] (sp w))
  (hsp:∀(w:World) (H:Hp) (a:Addr) (ns:List Int),ns.length<=n->Only H->SqL (K w.params) H a (ns.map V.int)->sp w [.ref a] H (λv _=>v=.bl true) λ_ _ _=>False)
  (hCX:∀(w:World) (H:Hp) (s:Shared) (e:Value) (s':Shared),CX w [] H s (λ_ _ _=>False) e s'->False) :
  PySem.W.WalkO q loose XP YP l.row.toRowW d [] (λf vs=>PySem.call f vs):=by
 refine Att.attach_call hn hdf λw s₀ s₁ mg mb fa o pm cd doc a vs ns G Y ho hd hcd hmg hobj hints hlen hg=>?_;have KX:=hY w _ Y;obtain⟨fd,hb,hF⟩:=F w mg fa _ KX G.T.g hmg;exact z1A KX G.T.g G.T.b G.T.builtins G.T.nolimit hg hobj hints (Nat.le_trans hlen hn2) hr hF hb (λH hO hS=>hsp w H a ns hlen hO hS) (htb w _ Y).1 (htb w _ Y).2 G.T.bmain λH e s'=>hCX w H s₁ e s'
end L2
namespace L2
open PySem PySem.Spec PyProof.Rows
abbrev CX0:CXT:=λ_ _ _ _ _ _=>False
abbrev E0:XK:=λ_ _ _=>False
structure Fun(K:PySem.W.Frag)(x qual:Str)(st:Stmt)(f:Addr)(fd:FuncData):Prop where
 ex:∃(oc:Value) (od:Option Addr) (kV doc pm:Value) (an:Option Addr) (cdv ct:Value) (osl:Array (Option Value)),
  fd=PySem.W.fnOf x qual (q1d st) (q0C st) (q0h st) .none kV doc pm an cdv ct/\K.lookup f=some ⟨oc,od,.func fd,osl⟩/\PySem.W.codeIn K cdv qual=true
 kp:PySem.W.keepIn K (.ref f)=true
section
variable {P:Program} {w:World} {K:PySem.W.Frag} {mg:Str->Option Value} {base:Heap}
end
section
variable {X:Cx}
end
theorem iteF{A B:Prop}(h:B):if false=true then A else B:=by
 rw[if_neg Bool.false_ne_true];exact h
theorem iteT{A B:Prop}(h:A):if true=true then A else B:=by
 rw[if_pos rfl];exact h
def Same(H H':Hp):Prop:=∀b o,H b=some o->H' b=some o
theorem Same.refl(H:Hp):Same H H:=λ_ _ h=>h
theorem Same.trans{H H1 H2:Hp}(a:Same H H1)(b:Same H1 H2):Same H H2:=λc o h=>b c o (a c o h)
theorem Same.free{H H':Hp}(e:Same H H'){l:Addr}(h:H' l=Option.none):H l=Option.none:=by
 cases q:H l with
 | none=>rfl
 | some o=>
  rw[e l o q]at h;cases h
theorem Same.seq{K:PySem.W.Frag}{H H':Hp}{a:Addr}{xs:List V}(e:Same H H')(h:SqL K H a xs):SqL K H' a xs:=by
 rcases h with(h | ⟨o,h⟩) | h
 ·exact .inl (.inl (e _ _ h))
 ·exact .inl (.inr ⟨o,e _ _ h⟩)
 ·exact .inr h
end L2
end
noncomputable section
namespace L2
open PySem PySem.Spec PyProof.Rows
def F2(o:Obj):Option Value:=match o.data with
 | .fields vs=>vs[2]?
 | _=>none
theorem F2.freed{o:Obj}{c:Value}(h:F2 o=some c):o.isFreed=false:=by
 unfold F2 at h;split at h
 ·rename_i vs e;exact Obj.isFreed_of_fields e
 ·cases h
def St2(h h':Heap):Prop:=∀a o c,h.get? a=some o->F2 o=some c->∃o',h'.get? a=some o'/\F2 o'=some c
theorem St2.refl(h:Heap):St2 h h:=λa o c e q=>⟨o,e,q⟩
theorem St2.trans{h h1 h2:Heap}(x:St2 h h1)(y:St2 h1 h2):St2 h h2:=λa o c e q=>by
 obtain⟨o1,e1,q1⟩:=x a o c e q;exact y a o1 c e1 q1
theorem St2.of_keeps{h h':Heap}(k:∀b o,h.get? b=some o->h'.get? b=some o):St2 h h':=λa o c e q=>⟨o,k a o e,q⟩
theorem St2.push(h:Heap)(o:Obj):St2 h (h.push o):=.of_keeps λb o e=>Heap.get?_push_of_some _ e
theorem St2.upd{h:Heap}{a:Addr}{f:Obj->Obj}(hf:∀o,F2 (f o)=F2 o):St2 h (h.update a f):=λb o c e q=>by
 by_cases z:a=b
 ·subst z;exact⟨f o,Heap.get?_update_self f e (F2.freed (by rw[hf];exact q)),by rw[hf];exact q⟩
 ·exact⟨o,by rw[Heap.get?_update_other _ _ z];exact e,q⟩
inductive Kp2:{α:Type} -> Sem α->Prop
 | pure {α:Type} (a:α):Kp2 (.pure a)
 | raise {α:Type} (e:Value):Kp2 (.raise e:Sem α)
 | unsupported {α:Type} (w:String):Kp2 (.unsupported w:Sem α)
 | rule {α:Type} (t:String) (k:Unit->Sem α):Kp2 (k ())->Kp2 (.rule t k)
 | at{α:Type} (p:Pos) (k:Unit->Sem α):Kp2 (k ())->Kp2 (.at p k)
 | load {α:Type} (a:Addr) (p:Option Value) (k:Obj->Sem α):(∀o,Kp2 (k o))->Kp2 (.load a p k)
 | update {α:Type} (a:Addr) (p:Option Value) (f:Obj->Obj) (k:Unit->Sem α):(∀o,F2 (f o)=F2 o)->Kp2 (k ())->Kp2 (.update a p f k)
 | alloc {α:Type} (o:Obj) (k:Addr->Sem α):(∀a,Kp2 (k a))->Kp2 (.alloc o k)
 | point {α:Type} (l:List Value) (k:Unit->Sem α):Kp2 (k ())->Kp2 (.point l k)
 | ask {α:Type} (k:Setting->Sem α):(∀a,Kp2 (k a))->Kp2 (.ask k)
 | stack {α:Type} (k:List (Code×Pos)->Sem α):(∀a,Kp2 (k a))->Kp2 (.stack k)
theorem Kp2.wp{M:Model}{Γ:PySem.Ctx}{α:Type}{m:Sem α}(k:Kp2 m):∀{Q:α->Pos->Shared->Prop} {E:Value->Pos->Shared->Prop} {p:Pos} {s:Shared},Sem.wp M Γ m Q E p s->Sem.wp M Γ m (λa p' s'=>Q a p' s'/\St2 s.heap s'.heap) (λe p' s'=>E e p' s'/\St2 s.heap s'.heap) p s:=by
 induction k with
 | pure a=>intro Q E p s h;exact⟨h,.refl _⟩
 | raise e=>intro Q E p s h;exact⟨h,.refl _⟩
 | unsupported w=>intro Q E p s h;exact h
 | rule t k _ ih=>intro Q E p s h;rw[Sem.wp]at h ⊢;exact ih h
 | «at» p' k _ ih=>intro Q E p s h;rw[Sem.wp]at h ⊢;exact ih h
 | load a p' k _ ih=>intro Q E p s h;rw[Sem.wp]at h ⊢;obtain⟨o,e,q⟩:=h;exact⟨o,e,ih o q⟩
 | update a p' f k hf _ ih=>
  intro Q E p s h;rw[Sem.wp]at h ⊢;refine⟨h.1,?_⟩;have st:St2 s.heap (s.heap.update a f):=.upd hf;have:=ih h.2;exact Sem.wp_mono M Γ _ (λa p' s' q=>⟨q.1,st.trans q.2⟩) (λe p' s' q=>⟨q.1,st.trans q.2⟩) _ _ this
 | alloc o k _ ih=>
  intro Q E p s h;rw[Sem.wp]at h ⊢;have st:St2 s.heap (s.heap.push o):=.push _ _;have:=ih _ h;exact Sem.wp_mono M Γ _ (λa p' s' q=>⟨q.1,st.trans q.2⟩) (λe p' s' q=>⟨q.1,st.trans q.2⟩) _ _ this
 | point l k _ ih=>intro Q E p s h;rw[Sem.wp]at h ⊢;exact ih h
 | ask k _ ih=>intro Q E p s h;rw[Sem.wp]at h ⊢;exact ih _ h
 | stack k _ ih=>intro Q E p s h;rw[Sem.wp]at h ⊢;exact ih _ h
theorem Kp2.any{M:Model}{A:Around}{α:Type}{m:Sem α}{Q:α->Shared->Prop}{E:Value->Shared->Prop}{s:Shared}(k:Kp2 m)(h:wpAny M A m Q E s):wpAny M A m (λa s'=>Q a s'/\St2 s.heap s'.heap) (λe s'=>E e s'/\St2 s.heap s'.heap) s:=
 λΓ p hΓ=>k.wp (h Γ p hΓ)
theorem Kp2.bind{α β:Type}{m:Sem α}{f:α->Sem β}(h:Kp2 m)(hf:∀a,Kp2 (f a)):Kp2 (m.bind f):=by
 induction h with
 | pure a=>exact hf a
 | raise e=>exact .raise e
 | unsupported w=>exact .unsupported w
 | rule t k _ ih=>exact .rule t _ ih
 | «at» p k _ ih=>exact .at p _ ih
 | load a p k _ ih=>exact .load a p _ ih
 | update a p g k hg _ ih=>exact .update a p g _ hg ih
 | alloc o k _ ih=>exact .alloc o _ ih
 | point l k _ ih=>exact .point l _ ih
 | ask k _ ih=>exact .ask _ ih
 | stack k _ ih=>exact .stack _ ih
theorem F2.fields{i:Nat}{x:Value}(hi:i≠2)(o:Obj):F2 (Obj.mapFields (·.setIfInBounds i x) o)=F2 o:=by
 obtain⟨c,d,dt,sl⟩:=o;cases dt with
 | fields vs=>
  show(vs.setIfInBounds i x)[2]? = vs[2]?;rw[Array.getElem?_setIfInBounds_ne hi]
 | _=>rfl
theorem q7m(a:Addr):Kp2 (PySem.load a):=.load a none _ λo=>.pure o
theorem q7q(v:Value):Kp2 (fieldsOf v):=by
 unfold fieldsOf;split
 ·refine .bind (q7m _) λo=>?_;split
  ·exact .pure _
  ·exact .unsupported _
 ·exact .unsupported _
theorem q3r(v:Value)(i:Nat):Kp2 (field v i):=by
 unfold field;refine .bind (q7q v) λvs=>?_
 split
 ·exact .pure _
 ·exact .unsupported _
theorem q3a(v:Value){i:Nat}(hi:i≠2)(x:Value):Kp2 (setField v i x):=by
 unfold setField;split
 ·unfold updateField;refine .bind (q7m _) λo=>?_
  split
  ·split
   ·exact .update _ _ _ _ (F2.fields hi) (.pure _)
   ·exact .unsupported _
  ·exact .unsupported _
 ·exact .unsupported _
theorem q1z(e:Value)(fr:Option Addr):Kp2 (setFlight e fr):=by
 unfold setFlight;refine .bind (q3r e 1) λtb=>?_
 split
 ·exact q3a tb (by decide) _
 ·exact .pure _
theorem q8X(env:Env)(outer:List Env):Kp2 (behindIsImport env outer):=by
 unfold behindIsImport;split
 ·exact .pure _
 ·split
  ·exact .pure _
  ·exact .bind (q3r _ _) λ_=>.pure _
theorem q5J:Kp2 PySem.stack:=.stack _ λa=>.pure a
theorem z1Z:Kp2 underTheClaimsCaller:=by
 unfold underTheClaimsCaller
 repeat (first | exact .pure _ | exact .unsupported _ | refine .bind q5J λ_=>?_ | split)
theorem z4V(env:Env)(i:Bool)(l:List Env):Kp2 (keptBack env i l):=by
 cases l with
 | nil=>
  show Kp2 (if env.scope.isGenerator||env.scope.isCoroutine then(pure Value.none:Sem Value)else do return if ←underTheClaimsCaller then Value.notImplemented else Value.none);split
  ·exact .pure _
  ·exact .bind z1Z λ_=>.pure _
 | cons c r=>exact .pure _
theorem q8c:∀l:List Env,Kp2 (readyFrames l)
 | []=>.pure _
 | env::outer=>by
  unfold readyFrames;split
  ·refine .bind (q7m _) λo=>?_;split
   ·exact .pure _
   ·refine .bind (q8X _ _) λb=>.bind (z4V _ _ _) λc=>?_;exact .update _ _ _ _ (λo=>rfl) (q8c outer)
  ·exact .unsupported _
theorem q4W(l:List Env):Kp2 (frameObject l):=by
 cases l with
 | nil=>exact .pure _
 | cons e r=>
  unfold frameObject;exact .bind (q8c _) λ_=>.pure _
theorem q8D(env:Env):Kp2 (PySem.frameOf env):=by
 unfold PySem.frameOf frameEnvs;refine .bind (.bind q5J λ_=>.pure _) λl=>.bind (q4W _) λo=>?_
 split
 ·exact .pure _
 ·exact .unsupported _
theorem z0R(f:Addr)(b:Bool):Kp2 (entryPlaceOf f b):=by
 unfold entryPlaceOf;refine .bind q5J λa=>?_
 split<;>exact .pure _
theorem q6m(ty:String)(vs:List Value):Kp2 (newFields ty vs):=by
 unfold newFields newObj;dsimp only;split
 ·exact .unsupported _
 ·unfold newObjAsIs;exact .bind (.alloc _ _ λa=>.pure a) λ_=>.pure _
theorem q7l(a b c d e:Value)(p:List Value):Kp2 (EntryCells.newEntry a b c d e p):=q6m _ _
theorem q2x(e:Value)(env:Env):Kp2 (noteFrame e env):=by
 unfold noteFrame;split
 ·refine .bind (q3r e 1) λhead=>?_;have last:∀f:Addr,Kp2 (do setField e 1 (←EntryCells.newEntry head (←PySem.frameOf env) .none (rawInt f) .none (←entryPlaceOf f (head != .none)))):=λf=>
   .bind (q8D env) λ_=>.bind (z0R _ _) λ_=>.bind (q7l _ _ _ _ _ _) λ_=>q3a e (by decide) _
  split
  ·refine .bind (q3r head 3) λfl=>?_;split
   ·exact .pure _
   ·exact .bind (q3a head (by decide) _) λ_=>last _
  ·exact last _
 ·exact .unsupported _
theorem q3J(env:Env)(e:Value):Kp2 (leaving env e):=by
 unfold leaving;exact .bind (q2x e env) λ_=>q1z e none
def Cx2(h:Heap):Nat->Addr->Prop
 | 0,a=>∃o,h.get? a=some o/\F2 o=some .none
 | n+1,a=>∃o,h.get? a=some o/\(F2 o=some .none\/∃b,F2 o=some (.ref b)/\Cx2 h n b)
theorem Cx2.st{h h':Heap}(x:St2 h h'):∀{n:Nat} {a:Addr},Cx2 h n a->Cx2 h' n a
 | 0,a,c=>by obtain⟨o,e,q⟩:=c;exact x a o _ e q
 | n+1,a,c=>by
  obtain⟨o,e,q⟩:=c;rcases q with q | ⟨b,q,c⟩
  ·obtain⟨o',e',q'⟩:=x a o _ e q;exact⟨o',e',.inl q'⟩
  ·obtain⟨o',e',q'⟩:=x a o _ e q;exact⟨o',e',.inr ⟨b,q',c.st x⟩⟩
def Ctxd(h:Heap)(a:Addr):Prop:=∃n,Cx2 h n a
theorem Ctxd.st{h h':Heap}{a:Addr}(c:Ctxd h a)(x:St2 h h'):Ctxd h' a:=let ⟨n,q⟩:=c;⟨n,q.st x⟩
theorem Ctxd.made{h h':Heap}{e:Addr}{C:Value}{vs:List Value}(hx:Heap.MadeExcOf h h' e C vs):Ctxd h' e:=by
 obtain⟨t,he,_⟩:=hx.there;exact⟨0,_,he,rfl⟩
end L2
end
noncomputable section
namespace L2
open PySem PySem.Spec PyProof.Rows
theorem q1J.there{P:Program}{w:World}{H:Hp}{h:Heap}{a:Addr}{o:HO}(x:q1J P w H h a o):∃ob,h.get? a=some ob:=by
 cases o with
 | lst xs=>obtain⟨_,_,_,_,e⟩:=x;exact⟨_,e⟩
 | tup xs=>obtain⟨_,_,_,ob,e,_⟩:=x;exact⟨_,e⟩
 | dK kvs=>obtain⟨_,_,_,_,o,_,_,e,_⟩:=x;exact⟨_,e⟩
 | dT kvs=>obtain⟨_,_,_,_,o,_,_,e,_⟩:=x;exact⟨_,e⟩
 | set S n=>obtain⟨o,_,_,_,e,_⟩:=x;exact⟨_,e⟩
 | ins C dx fs=>obtain⟨_,_,_,e,_⟩:=x;exact⟨_,e⟩
 | own y=>obtain⟨_,e⟩:=x;exact⟨_,e⟩
 | xd fs=>obtain⟨_,⟨_,_,_,e,_⟩,_⟩:=x;exact⟨_,e⟩
 | rng lo hi=>obtain⟨_,_,_,e⟩:=x;exact⟨_,e⟩
 | frz ob u=>obtain⟨e,_⟩:=x;exact⟨_,e⟩
 | tbl q=>obtain⟨_,e,_⟩:=x;exact⟨_,e⟩
 | met f y=>exact⟨_,(show h.get? a=some _ from x)⟩
 | ext φ=>obtain⟨_,⟨_,e⟩,_⟩:=x;exact⟨_,e⟩
structure Fly(P:Program)(w:World)(base:Heap)(l:List Env)(ea:Addr)(C:Value)(H:Hp)(B h:Heap):Prop where
 fly:∃a0,Heap.FlyingW B l ea C a0 h
 bas:∀b o,base.get? b=some o->B.get? b=some o
 hok:HOk P w H B
 ctx:Ctxd h ea
theorem Fly.stays{P:Program}{w:World}{base:Heap}{l:List Env}{ea:Addr}{C:Value}{H:Hp}{B h:Heap}(F:Fly P w base l ea C H B h):∀b o,B.get? b=some o->h.get? b=some o:=by
 obtain⟨a0,f⟩:=F.fly;exact f.1
theorem Fly.newE{P:Program}{w:World}{base:Heap}{l:List Env}{ea:Addr}{C:Value}{H:Hp}{B h:Heap}(F:Fly P w base l ea C H B h):B.get? ea=none:=by
 obtain⟨a0,f⟩:=F.fly;exact f.2.1
theorem Fly.untr{P:Program}{w:World}{base:Heap}{l:List Env}{ea:Addr}{C:Value}{H:Hp}{B h:Heap}(F:Fly P w base l ea C H B h):H ea=none:=by
 cases q:H ea with
 | none=>rfl
 | some o=>
  obtain⟨ob,e⟩:=(F.hok ea o q).there;rw[F.newE]at e;cases e
def CXx(P:Program)(w:World)(base:Heap):CXT:=λouter H s E e s'=>∃(ea:Addr) (C:Value) (H':Hp) (B:Heap),e=.ref ea/\s'.os=s.os/\AllBare s'.gens/\Un (frs outer) [] H H' s.heap s'.heap /\
 Fly P w base outer ea C H' B s'.heap/\(∀b o,s.heap.get? b=some o->b∉frs outer->∃o',B.get? b=some o')/\E C none H'
end L2
end
noncomputable section
namespace L2
open PySem PySem.Spec PyProof.Rows
def q0o(cells:List (Str×Addr)):List (Str×NameKind)->List (Str×Addr)->List (Str×Addr)
 | [],acc=>acc
 | (n,k)::r,acc=>if(k==NameKind.free)=true then q0o cells r ((n,(cells.lookup n).getD 0)::acc)else q0o cells r acc
theorem q1Y{env:Env}:∀(names:List (Str×NameKind)) (acc:List (Str×Addr)),(∀y∈names,y.2=NameKind.free->∃c,env.cells.lookup y.1=some c) ->
  (forIn names acc (λ(x:Str×NameKind) (cs:List (Str×Addr))=>(match x with | (name,kind)=>if(kind==NameKind.free)=true then(do let a ←cellOf env name;pure (ForInStep.yield ((name,a)::cs)))else pure (ForInStep.yield cs):Sem (ForInStep (List (Str×Addr))))):Sem (List (Str×Addr)))=pure (q0o env.cells names acc)
 | [],acc,_=>rfl
 | (n,k)::r,acc,h=>by
  have hr:∀y∈r,y.2=NameKind.free->∃c,env.cells.lookup y.1=some c:=λy hy=>h y (List.mem_cons_of_mem _ hy);rw[List.forIn_cons];by_cases hk:(k==NameKind.free)=true
  ·obtain⟨c,hc⟩:=h (n,k) List.mem_cons_self (beq_iff_eq.mp hk);have e1:cellOf env n=pure c:=by unfold cellOf;rw[hc]
   have e2:q0o env.cells ((n,k)::r) acc=q0o env.cells r ((n,c)::acc):=(by show(if(k==NameKind.free)=true then q0o env.cells r ((n,(env.cells.lookup n).getD 0)::acc)else q0o env.cells r acc)=_;rw[if_pos hk,hc];rfl);rw[e2,←q1Y r ((n,c)::acc) hr];simp only[hk,if_true,e1];rfl
  ·have e2:q0o env.cells ((n,k)::r) acc=q0o env.cells r acc:=by
    show(if(k==NameKind.free)=true then q0o env.cells r ((n,(env.cells.lookup n).getD 0)::acc)else q0o env.cells r acc)=_;rw[if_neg hk]
   rw[e2,←q1Y r acc hr];simp only[hk,if_false];rfl
theorem q2E{scope:Scope}{env:Env}(h:∀y∈scope.names,y.2=NameKind.free->∃c,env.cells.lookup y.1=some c):closureFor scope env=pure (q0o env.cells scope.names []):=by
 have q:=q1Y (env:=env) scope.names [] h;unfold closureFor
 first
  | exact(congrArg (λt=>(t >>= λcs=>pure cs)) q).trans rfl
  | (simp only[q];rfl)
theorem q2t{cells:List (Str×Addr)}:∀{names:List (Str×NameKind)} {acc:List (Str×Addr)} {x:Str} {c:Addr},(∀y∈names,y.2=NameKind.free->∃c,cells.lookup y.1=some c) ->
  (x,c)∈q0o cells names acc->(x,c)∈acc\/(cells.lookup x=some c/\(x,NameKind.free)∈names)
 | [],acc,x,c,_,h=>.inl h
 | (n,k)::r,acc,x,c,hh,h=>by
  have hr:∀y∈r,y.2=NameKind.free->∃c,cells.lookup y.1=some c:=λy hy=>hh y (List.mem_cons_of_mem _ hy);unfold q0o at h;by_cases hk:(k==NameKind.free)=true
  ·rw[if_pos hk]at h;obtain⟨c',hc⟩:=hh (n,k) List.mem_cons_self (beq_iff_eq.mp hk);rcases q2t hr h with z | ⟨z1,z2⟩
   ·rcases List.mem_cons.mp z with z | z
    ·cases z;exact .inr ⟨by rw[hc];rfl,by rw[←beq_iff_eq.mp hk];exact List.mem_cons_self⟩
    ·exact .inl z
   ·exact .inr ⟨z1,List.mem_cons_of_mem _ z2⟩
  ·rw[if_neg hk]at h;rcases q2t hr h with z | ⟨z1,z2⟩
   ·exact .inl z
   ·exact .inr ⟨z1,List.mem_cons_of_mem _ z2⟩
theorem q2l{cells:List (Str×Addr)}:∀{names:List (Str×NameKind)} {acc:List (Str×Addr)} {y:Str×Addr},y∈acc->y∈q0o cells names acc
 | [],_,_,h=>h
 | (n,k)::r,acc,y,h=>by
  unfold q0o;split
  ·exact q2l (List.mem_cons_of_mem _ h)
  ·exact q2l h
theorem q2q{cells:List (Str×Addr)}:∀{names:List (Str×NameKind)} {acc:List (Str×Addr)} {x:Str} {c:Addr},(x,NameKind.free)∈names->cells.lookup x=some c->(x,c)∈q0o cells names acc
 | (n,k)::r,acc,x,c,h,hc=>by
  unfold q0o;rcases List.mem_cons.mp h with z | z
  ·cases z;rw[if_pos (show(NameKind.free==NameKind.free)=true from rfl),hc];exact q2l List.mem_cons_self
  ·split
   ·exact q2q z hc
   ·exact q2q z hc
theorem q1q:∀(names:List (Str×NameKind)) (n:Nat) (acc:List (Str×Addr)),cellsFrom n names acc=cellsFrom n names []++acc
 | [],_,_=>rfl
 | (x,k)::r,n,acc=>by
  unfold cellsFrom;split
  ·rw[q1q r (n+1) ((x,n)::acc),q1q r (n+1) [(x,n)],List.append_assoc];rfl
  ·exact q1q r n acc
theorem q2g:∀{names:List (Str×NameKind)} {n:Nat} {x:Str} {c:Addr},(x,c)∈cellsFrom n names []->(x,NameKind.cell)∈names
 | [],_,_,_,h=>nomatch h
 | (y,k)::r,n,x,c,h=>by
  unfold cellsFrom at h;by_cases hk:(k==NameKind.cell)=true
  ·rw[if_pos hk,q1q]at h;rcases List.mem_append.mp h with z | z
   ·exact List.mem_cons_of_mem _ (q2g z)
   ·have z':(x,c)=(y,n):=by simpa using z
    cases z';rw[beq_iff_eq.mp hk];exact List.mem_cons_self
  ·rw[if_neg hk]at h;exact List.mem_cons_of_mem _ (q2g h)
theorem q2e{α:Type}{x:Str}:∀{l r:List (Str×α)},(l++r).lookup x=(l.lookup x).or (r.lookup x)
 | [],r=>by simp
 | (y,v)::l,r=>by
  rw[List.cons_append,List.lookup_cons,List.lookup_cons];cases hb:x==y with
  | true=>rfl
  | false=>exact q2e
theorem q2U{α:Type}{x:Str}:∀{l:List (Str×α)},(∀c,(x,c)∉l)->l.lookup x=none
 | [],_=>rfl
 | (y,v)::l,h=>by
  rw[List.lookup_cons];cases hb:x==y with
  | true=>exact absurd (by rw[beq_iff_eq.mp hb];exact List.mem_cons_self) (h v)
  | false=>exact q2U λc hc=>h c (List.mem_cons_of_mem _ hc)
theorem q2W{α:Type}{x:Str}:∀{l:List (Str×α)} {c:α},(x,c)∈l->∃c',l.lookup x=some c'
 | (y,v)::l,c,h=>by
  rw[List.lookup_cons];cases hb:x==y with
  | true=>exact⟨v,rfl⟩
  | false=>
   rcases List.mem_cons.mp h with z | z
   ·cases z;rw[beq_self_eq_true]at hb;cases hb
   ·exact q2W z
theorem q0P{α:Type}{x:Str}:∀{l:List (Str×α)} {c:α},(l.map (·.1)).Nodup->(x,c)∈l->l.lookup x=some c
 | (y,v)::l,c,nd,h=>by
  rw[List.lookup_cons];rw[List.map_cons]at nd;have nd':=List.nodup_cons.mp nd;rcases List.mem_cons.mp h with z | z
  ·cases z;rw[beq_self_eq_true]
  ·have:x≠y:=λe=>nd'.1 (by rw[←e];exact List.mem_map.mpr ⟨_,z,rfl⟩);rw[beq_eq_false_iff_ne.mpr this];exact q0P nd'.2 z
theorem q1W{scope:Scope}{env:Env}{x:Str}:(relabel scope env).names.lookup x=(scope.names.lookup x).map λk=>if(k==NameKind.free&&env.scope.kind == .function&&env.kindOf x==some .cell)=true then NameKind.cell else k:=by
 unfold relabel;show(scope.names.map _).lookup x=_;generalize scope.names=l
 induction l with
 | nil=>rfl
 | cons y r ih=>
  obtain⟨n,k⟩:=y;rw[List.map_cons];show List.lookup x ((if(k==NameKind.free&&env.scope.kind == .function&&env.kindOf n==some .cell)=true then(n,NameKind.cell)else(n,k))::_)=_;have e:(if(k==NameKind.free&&env.scope.kind == .function&&env.kindOf n==some .cell)=true then(n,NameKind.cell)else(n,k))=(n,if(k==NameKind.free&&env.scope.kind == .function&&env.kindOf n==some .cell)=true then NameKind.cell else k):=by split<;>rfl
  rw[e,List.lookup_cons,List.lookup_cons];cases hb:x==n with
  | true=>rw[beq_iff_eq.mp hb];rfl
  | false=>exact ih
theorem q6Q{M:Model}{A:Around}{E:Value->Shared->Prop}{s:Shared}{scope:Scope}{g:Addr}{cl:List (Str×Addr)}{q:Str}{env:Env}{Q:Env->Shared->Prop}
  (hQ:Q (newEnv scope s.heap.objs.size g (cellsFrom (s.heap.objs.size+1) scope.names cl) q none .none (some env) builtinsNs) {s with heap:=pushCells (s.heap.push {cls:=.type "dict",data:=.dict #[]}) scope.names}) :
  wpAny M A (newFunctionEnv scope g cl [] q none .none (some env)) Q E s:=by
 simp only[newFunctionEnv,Option.isSome_some,if_true];refine wpAny_bind (wpAny_alloc ?_);refine wpAny_bind (wpAny_layCells _ (λname kind cells=>by cases hkc:kind==NameKind.cell<;>simp[hkc]) _ _ _ _ ?_);rw[show({s with heap:=s.heap.push {cls:=.type "dict",data:=.dict #[]}}:Shared).heap.objs.size=s.heap.objs.size+1 from Heap.size_push ..];exact wpAny_bind (wpAny_pure (wpAny_pure hQ))
theorem q6i{prog:Program}{w:World}{A:Around}{R:Result->Shared->Prop}{s:Shared}{elt target iter:Expr}{ifs:List Expr}{scope:Scope}{pos:Pos}{it acc:Value}{env:Env}(I:Nat->Shared->Prop)
  (turn:∀n s,I n s->wpAny (model prog w) A (pyNext it) (λr s₁=>match r with
   | none=>R (.ok .next) s₁
   | some v=>wpAny (model prog w) A (letOwnedTupleGo target it v) (λ_ s₁'=>wpAny (model prog w) A (assign target env v) (λ_ s₂=>
     wpAny (model prog w) A (forIn ifs true λc r=>if r=true then do let ok ←isTrue c env (eval c env);pure (ForInStep.yield ok)else pure (ForInStep.yield r)) (λok s₃=>
      if ok=true then wpAny (model prog w) A (eval elt env) (λx s₄=>
       wpAny (model prog w) A (call (.builtin "list.append") [acc,x]) (λ_ s₅=>∃m,m<n/\I m s₅) (notedBy (model prog w) A env λe s'=>R (.error e) s') s₄) (notedBy (model prog w) A env λe s'=>R (.error e) s') s₃
      else ∃m,m<n/\I m s₃) (notedBy (model prog w) A env λe s'=>R (.error e) s') s₂) (notedBy (model prog w) A env λe s'=>R (.error e) s') s₁') (notedBy (model prog w) A env λe s'=>R (.error e) s') s₁) (notedBy (model prog w) A env λe s'=>R (.error e) s') s)
  (n:Nat) (h:I n s) :
  codeAny (model prog w) A (.compLoop (.ListComp elt [⟨target,iter,ifs,0⟩] scope pos) 0 it acc env) R s:=by
 refine codeAny_loop rfl I (λn s hI=>?_) n h;show wpAny _ A ((compTurn (.ListComp elt [⟨target,iter,ifs,0⟩] scope pos) 0 it acc env).onRaise (λx=>do noteFrame x env;theTreesLotGoes x)) _ _ s;refine wpAny_noted ?_;rw[compTurn_list];refine wpAny_bind (wpAny_standAt (wpAny_bind (wpAny_mono (turn n s hI) (λr s₁ h₁=>?_) λ_ _ h'=>h')));cases r with
 | none=>exact wpAny_pure h₁
 | some v=>
  refine wpAny_bind (wpAny_mono h₁ (λ_ s₁' h₁'=>?_) λ_ _ h'=>h');refine wpAny_bind (wpAny_mono h₁' (λ_ s₂ h₂=>wpAny_bind (wpAny_mono h₂ (λok s₃ h₃=>?_) λ_ _ h'=>h')) λ_ _ h'=>h');cases ok with
  | false=>exact wpAny_pure ⟨rfl,h₃⟩
  | true=>
   exact wpAny_bind (wpAny_bind (wpAny_mono h₃ (λx s₄ h₄=>wpAny_bind (wpAny_mono h₄ (λ_ s₅ h₅=>wpAny_pure (wpAny_pure ⟨rfl,h₅⟩)) λ_ _ h'=>h')) λ_ _ h'=>h'))
theorem HOk.track{P:Program}{w:World}{H:Hp}{h:Heap}{a:Addr}{o:HO}(x:HOk P w H h)(hn:H a=none)(new:q1J P w (upd H a o) h a o):HOk P w (upd H a o) h:=λb u e=>by
 by_cases hb:b=a
 ·subst hb;rw[q0v]at e;cases e;exact new
 ·rw[q0j hb]at e;exact(x b u e).stay (λc v _ q=>q) (λc q=>by rw[q0j (q0u q hn)];exact q) (λc xs q=>by rw[q0j (q0u q hn)];exact q) λc _ _ _ _ q=>by rw[q0j (q0u q hn)];exact q
theorem Un.track{fs ex:List Addr}{H H':Hp}{h h':Heap}{a:Addr}{o:HO}(u:Un fs ex H H' h h')(hn:H' a=none)(hh:h.get? a=none):Un fs ex H (upd H' a o) h h' where
 keep:=u.keep
 slot:=u.slot
 free:=λb ob q n hx=>by
  have:b≠a:=λz=>by rw[z,hh]at q;cases q
  rw[q0j this];exact u.free b ob q n hx
 there:=u.there
 tups:=λb xs q=>by have z:=u.tups b xs q;rw[q0j (q0u z hn)];exact z
 frzs:=λb ob xs q=>by have z:=u.frzs b ob xs q;rw[q0j (q0u z hn)];exact z
 tbls:=λb ps q=>by have z:=u.tbls b ps q;rw[q0j (q0u z hn)];exact z
structure CompScope(N N':List Str)(sc osc:Scope)(fr:List (Option Nat)):Prop where
 kind:sc.kind=.function
 nd:N'.Nodup
 snd:(sc.names.map (·.1)).Nodup
 len:fr.length=N'.length
 fre:∀(j i:Nat),fr[j]? = some (some i)->∃x,N'[j]? = some x/\N[i]? = some x/\(x,NameKind.free)∈sc.names
 out:∀y∈sc.names,y.2=NameKind.free->osc.names.lookup y.1=some .cell\/osc.names.lookup y.1=some .free
def inner(fr:List (Option Nat))(σ:St):St:=fr.map λo=>o.bind λi=>(σ[i]?).join
def q9b(X:Cx)(scope:Scope)(N':List Str)(C:Addr)(cells:List (Str×Addr))(s₂:Shared)(H₂:Hp)(fp:List Addr):Cx:=
 {X with N:=N',s₀:=s₂,H₀:=H₂,env:=compEnvC scope cells C X.env,outer:=X.stack,stack:=X.stack,ex:=fp,fn:=λx=>scope.names.lookup x==some .cell,pn:=[],xe:=λ_ _=>False}
def q0z (X : Cx) (scope : Scope) (N' : List Str) (C : Addr) (cells : List (Str × Addr)) (s₂ : Shared) (H₂ : Hp) (fp : List Addr) (x1 : XK) : Cx :=
  { X with N := N', s₀ := s₂, H₀ := H₂, env := compEnvC scope cells C X.env, outer := X.stack, stack := X.stack, ex := fp, fn := λ x => scope.names.lookup x == some .cell, pn := [],
           xe := λ e s' => ∃ pins σ H s, Inv (q9b X scope N' C cells s₂ H₂ fp) pins σ H s /\ CXx X.prog X.w X.base X.stack H s x1 e s' }
theorem Inv.comp0{X:Cx}{scope:Scope}{N':List Str}{C:Addr}{cells:List (Str×Addr)}{s₂:Shared}{H₂:Hp}{fp:List Addr}{x1:XK}{pins:List (Addr×Obj)}{σ:St}{H:Hp}{s:Shared}(I:Inv (q0z X scope N' C cells s₂ H₂ fp x1) pins σ H s):Inv (q9b X scope N' C cells s₂ H₂ fp) pins σ H s:=
 ⟨⟨I.ok.mod,I.ok.kind,I.ok.glob,I.ok.blt,I.ok.above,I.ok.inj,I.ok.has,I.ok.cab,I.ok.hd,I.ok.frames,I.ok.stk,I.ok.exf,I.ok.bs,I.ok.bsz,I.ok.noex,I.ok.exfs,I.ok.funs,I.ok.frf⟩,I.os,I.bare,I.base,I.loc,I.cell,I.free,I.freeC,I.pin,I.hok,I.len⟩
abbrev q5H:String:="comprehension.variables-let-go"
def z2c(X:Cx)(E:St->XK):Prop:=∀(scope:Scope) (N':List Str) (cells:List (Str×Addr)) (C:Nat) (pins:List (Addr×Obj)) (σ:St) (H:Hp) (s₂:Shared) (fp:List Addr) (e:Value) (s':Shared),
 Inv X pins σ H s₂->(∀b∈fp,FpOk X pins H b)->C=s₂.heap.objs.size+1->(q0z X scope N' C cells s₂ H fp (E σ)).xe e s' ->
 notedBy (model X.prog X.w) X.A (compEnvC scope cells C X.env) (λe s'=>∃m,s'.heap.Ns C m/\∀h',Heap.SameBut C s'.heap h'->∀cenv:Env,cenv.locals=C->cenv.frame=X.env.frame->wpAny (model X.prog X.w) X.A (passOn q5H e cenv:Sem Value) (λ_ _=>False) X.xe {s' with heap:=h'}) e s'
theorem q6P{X:Cx}:z2c X λ_ _ _ _=>False:=by
 intro scope N' cells C pins σ H s₂ fp e s' I f hC z;obtain⟨_,_,_,_,_,_,_,_,_,_,_,_,_,_,_,q⟩:=z;exact q.elim
section
variable {X:Cx} {pins:List (Addr×Obj)} {σ:St} {H:Hp} {s₂:Shared} {N':List Str} {scope:Scope} {fr:List (Option Nat)} {fp:List Addr} {x1:XK}
abbrev q1T:Obj:={cls:=.type "list",dict:=none,data:=.seq ([]:List Value).toArray}
abbrev q6f:Obj:={cls:=.type "dict",data:=.dict #[]}
theorem z1x(S:CompScope X.N N' scope X.env.scope fr)(I:Inv X pins σ H s₂)(f:∀b∈fp,FpOk X pins H b)(ho:∀b∈fp,@LT.lt Nat _ b s₂.heap.objs.size){C:Nat}(hC:C=s₂.heap.objs.size+1){h4:Heap}(h4e:h4=pushCells ((s₂.heap.push q1T).push q6f) scope.names) :
  Inv (q0z X scope N' C (cellsFrom (C+1) scope.names (q0o X.env.cells scope.names [])) s₂ H fp x1) [] (inner fr σ) H {s₂ with heap:=h4} /\ h4.get? s₂.heap.objs.size=some q1T/\(∀b o,s₂.heap.get? b=some o->h4.get? b=some o):=by
 have hsz1:(s₂.heap.push q1T).objs.size=s₂.heap.objs.size+1:=Heap.size_push ..;have hsz2:((s₂.heap.push q1T).push q6f).objs.size=C+1:=by rw[Heap.size_push,hsz1,hC]
 have keep:∀b o,s₂.heap.get? b=some o->h4.get? b=some o:=λb o e=>by rw[h4e];exact pushCells_keeps _ _ b o (Heap.get?_push_of_some _ (Heap.get?_push_of_some _ e))
 have hD:h4.get? s₂.heap.objs.size=some q1T:=by rw[h4e];exact pushCells_keeps _ _ _ _ (Heap.get?_push_of_some _ (Heap.get?_push_size _ rfl))
 have hns:h4.Ns C λ_=>none:=by have q:=(Heap.Ns.new (s₂.heap.push q1T) (.type "dict")).keeps (pushCells_keeps scope.names _);rw[hsz1,←hC]at q;rw[h4e];exact q
 have ok:=cellsFrom_ok scope.names ((s₂.heap.push q1T).push q6f) (C+1) [] ⟨λ_ _ hm=>(nomatch hm),List.Pairwise.nil⟩ (by rw[hsz2];exact Nat.le_refl _);rw[hsz2,←h4e]at ok;have hfree:∀y∈scope.names,y.2=NameKind.free->∃c,X.env.cells.lookup y.1=some c:=λy hy hk=>I.ok.has y.1 (S.out y hy hk);generalize hcl:q0o X.env.cells scope.names []=cl;have memcl:∀{x:Str} {c:Addr},(x,c)∈cl->X.env.cells.lookup x=some c/\(x,NameKind.free)∈scope.names:=λ{x c} hm=>by
  rw[←hcl]at hm;rcases q2t hfree hm with z | z
  ·exact nomatch z
  ·exact z
 generalize hown:cellsFrom (C+1) scope.names []=own at ok;have app:cellsFrom (C+1) scope.names cl=own++cl:=by rw[q1q,hown]
 rw[app];have memown:∀{x:Str} {c:Addr},(x,c)∈own->(x,NameKind.cell)∈scope.names:=λ{x c} hm=>by rw[←hown]at hm;exact q2g hm
 have L1:∀x c,(own++cl).lookup x=some c->((x,c)∈own)\/(X.env.cells.lookup x=some c/\(x,NameKind.free)∈scope.names/\own.lookup x=none):=λx c e=>by
  rw[q2e]at e;cases q:own.lookup x with
  | some c'=>rw[q]at e;cases e;exact .inl (PySem.mem_of_lookup q)
  | none=>rw[q]at e;have z:=memcl (PySem.mem_of_lookup (show cl.lookup x=some c from e));exact .inr ⟨z.1,z.2,rfl⟩
 have own_ge:∀{x:Str} {c:Nat},(x,c)∈own->@LE.le Nat _ (C+1) c:=λ{x c} hm=>(ok.empty x c hm).2;have cell_lt:∀{x:Str} {c:Nat},X.env.cells.lookup x=some c->@LT.lt Nat _ c s₂.heap.objs.size:=λ{x c} e=>by obtain⟨v,z⟩:=I.cell x c e;exact z.lt
 have free_no:∀{x:Str},(x,NameKind.free)∈scope.names->own.lookup x=none:=λ{x} hm=>by refine q2U λc hc=>?_;have a:=q0P S.snd hm;have b:=q0P S.snd (memown hc);rw[a]at b;cases b
 have cl_get:∀{x:Str} {c:Addr},(x,NameKind.free)∈scope.names->X.env.cells.lookup x=some c->(own++cl).lookup x=some c:=λ{x c} hm hc=>by rw[q2e,free_no hm];obtain⟨c',e⟩:=q2W (l:=cl) (by rw[←hcl];exact q2q hm hc);have z:=(memcl (PySem.mem_of_lookup e)).1;rw[hc]at z;cases z;exact e
 have hX:(q0z X scope N' C (own++cl) s₂ H fp x1).Ok:=by
  refine⟨I.ok.mod,S.kind,I.ok.glob,I.ok.blt,?_,λx y c h1 h2=>?_,λx hx=>?_,λx c hf hc=>?_,I.ok.hd,I.ok.frames,.inl rfl,λb hb=>⟨?_,λx c e=>?_⟩,I.bs,Nat.le_trans I.ok.bsz I.sz,λb o e hb=>?_,λb hb hs=>?_,I.stack,⟨I.stkFree,I.tabs⟩⟩
  ·show s₂.heap.objs.size<=C;rw[hC];exact Nat.le_succ _
  ·have h1:(own++cl).lookup x=some c:=h1;have h2:(own++cl).lookup y=some c:=h2;rcases L1 x c h1 with a | ⟨a,_⟩<;>rcases L1 y c h2 with b | ⟨b,_⟩
   ·exact name_of_addr ok.apart a b
   ·exfalso;have q1:=own_ge a;have q2:=cell_lt b;omega
   ·exfalso;have q1:=own_ge b;have q2:=cell_lt a;omega
   ·exact I.ok.inj x y c a b
  ·have hx':(relabel scope X.env).names.lookup x=some .cell\/(relabel scope X.env).names.lookup x=some .free:=hx;show ∃c,(own++cl).lookup x=some c;rw[q1W]at hx';cases q:scope.names.lookup x with
   | none=>rw[q]at hx';rcases hx' with z | z<;>cases z
   | some k=>
    have km:=PySem.mem_of_lookup q;by_cases k1:k=.cell
    ·subst k1;have z:=PySem.W.cellsFrom_some scope.names (C+1) [] (.inl q);rw[hown]at z;obtain⟨c,z⟩:=Option.isSome_iff_exists.mp z;exact⟨c,by rw[q2e,z];rfl⟩
    ·by_cases k2:k=.free
     ·subst k2;obtain⟨c,e⟩:=hfree _ km rfl;exact⟨c,cl_get km e⟩
     ·exfalso;rw[q]at hx';have e0:(k==NameKind.free)=false:=beq_eq_false_iff_ne.mpr k2;simp only[Option.map_some,e0,Bool.false_and]at hx';rcases hx' with z | z
      ·exact k1 (by simpa using z)
      ·exact k2 (by simpa using z)
  ·have hf':(scope.names.lookup x==some .cell)=true:=hf;have q:scope.names.lookup x=some .cell:=by simpa using hf'
   have z:=PySem.W.cellsFrom_some scope.names (C+1) [] (.inl q);rw[hown]at z;obtain⟨c',z⟩:=Option.isSome_iff_exists.mp z;have hc':(own++cl).lookup x=some c:=hc;rw[q2e,z]at hc';have e:c'=c:=Option.some.inj hc';subst e;have:=own_ge (PySem.mem_of_lookup z);show @LE.le Nat _ s₂.heap.objs.size c';omega
  ·have:=ho b hb;show @Ne Nat b C;omega
  ·rcases L1 x c e with a | ⟨a,_⟩
   ·have:=own_ge a;have:=ho b hb;show @Ne Nat c b;omega
   ·exact(f b hb).2.2.2.2.1 x c a
  ·rcases(f b hb).2.2.2.1 with z | z
   ·exact I.ok.noex b o e z
   ·exact absurd (Nat.lt_of_lt_of_le (Heap.lt_size e) (Nat.le_trans I.ok.bsz z)) (Nat.lt_irrefl _)
  ·rcases List.mem_cons.mp (I.stkSub b hs)with z | z
   ·exact(f b hb).2.1 z
   ·exact(f b hb).2.2.1 z
 refine⟨⟨hX,rfl,I.bare,Un.kept keep,⟨_,hns,λi x v e1 e2 e3=>?_⟩,λx c e=>?_,I.hok.fresh (by show @LE.le Nat _ s₂.heap.objs.size C;omega),λx c e=>?_,λp hp=>absurd (show p∈([]:List (Addr×Obj))from hp) (by simp),I.hok.kept keep,?_⟩,hD,keep⟩
 ·have e1:N'[i]? = some x:=e1;unfold inner at e2;rw[List.getElem?_map]at e2;cases q:fr[i]? with
  | none=>rw[q]at e2;cases e2
  | some o=>
   rw[q]at e2;cases o with
   | none=>cases e2
   | some j=>
    have e2':(σ[j]?).join=some v:=Option.some.inj e2;have hv:σ[j]? = some (some v):=by
     cases z:σ[j]? with
     | none=>rw[z]at e2';cases e2'
     | some o=>rw[z]at e2';rw[show o=some v from e2']
    obtain⟨x',a1,a2,a3⟩:=S.fre i j q;rw[e1]at a1;cases a1;obtain⟨m,hn,hl⟩:=I.loc;have ko:=S.out _ a3 rfl;obtain⟨u,r,l⟩:=hl j x v a2 hv (ko.elim (λz=>.inr (.inl z)) λz=>.inr (.inr z));rcases l with⟨k,_⟩ | ⟨k,c,e,z⟩
    ·have k':X.env.scope.names.lookup x=some .local:=k;rcases ko with w | w<;>(rw[show X.env.scope.names.lookup x=_ from w]at k';cases k')
    ·refine⟨u,r,.inr ⟨?_,c,cl_get a3 e,z.keeps keep⟩⟩;show(relabel scope X.env).names.lookup x=some .cell\/(relabel scope X.env).names.lookup x=some .free;rw[q1W,q0P S.snd a3];simp only[Option.map_some];split
     ·exact .inl rfl
     ·exact .inr rfl
 ·rcases L1 x c e with a | ⟨a,_⟩
  ·exact⟨none,(ok.empty x c a).1⟩
  ·obtain⟨v,z⟩:=I.cell x c a;exact⟨v,z.keeps keep⟩
 ·rcases L1 x c e with a | ⟨a,_⟩
  ·exact I.hok.fresh (by have:=own_ge a;show @LE.le Nat _ s₂.heap.objs.size c;omega)
  ·exact I.freeC x c a
 ·show(inner fr σ).length=N'.length;unfold inner;rw[List.length_map,S.len]
end
def PTs(X:Cx)(ifs:List Expr)(t:TT):Prop:=
 ∀(pins:List (Addr×Obj)) (s:Shared) (σ:St) (H:Hp) (Q:Bool->Hp->Prop),Inv X pins σ H s->t σ H Q ->
  wpAny (model X.prog X.w) X.A (forIn ifs true λc r=>if r=true then do let ok ←isTrue c X.env (eval c X.env);pure (ForInStep.yield ok)else pure (ForInStep.yield r)) (TP X pins σ Q) X.xe s
def tYes:TT:=λ_ H Q=>Q true H
theorem z3X{X:Cx}:PTs X [] tYes:=λ_ _ _ H _ I h=>wpAny_tests_nil ⟨H,I,h⟩
def z4Q(J:It)(g:TG)(tc:TT)(te:TE)(Fin:List V->Hp->Prop)(σ:St)(H:Hp):Prop:=
 ∃W:Nat->Nat->List V->St->Hp->Prop,(∃m,W 0 m [] σ H)/\∀i m ys σ H,W i m ys σ H ->
  (J.stop i H/\Fin ys H)\/(J.go i H/\ys.length<sizeLine/\∀x H',J.yld i H x H'->g x σ H' λσ2 H2=>tc σ2 H2 λb H3=>
   if b=true then te σ2 H3 λy H4=>∃m',m'<m/\W (i+1) m' (ys++[y]) σ2 H4 else ∃m',m'<m/\W (i+1) m' ys σ2 H3)
theorem Vals.snoc{xs:List V}{us:List Value}{x:V}{u:Value}(r:Vals xs us)(q:RelV x u):Vals (xs++[x]) (us++[u]):=r.append (.cons q .nil)
theorem q7z{X:Cx}{pins:List (Addr×Obj)}{σ:St}{H:Hp}{s₂:Shared}{N':List Str}{scope:Scope}{fr:List (Option Nat)}{fp:List Addr}{iter elt tg:Expr}{ifs:List Expr}{pos:Pos}{g:TG}{te:TE}{tc:TT}{it:Addr}{tn:Nat->Heap->Prop}{J:It}
  {E:Value->Shared->Prop} {Fin:List V->Hp->Prop} {RR:Value->Env->Result->Shared->Prop} {x1:XK}
  (S:CompScope X.N N' scope X.env.scope fr) (hc:X.calm=true)
  (hg:∀C cells s₂ H₂ fp,PG (q0z X scope N' C cells s₂ H₂ fp x1) tg g) (ht:∀C cells s₂ H₂ fp,PTs (q0z X scope N' C cells s₂ H₂ fp x1) ifs tc) (he:∀C cells s₂ H₂ fp,PE (q0z X scope N' C cells s₂ H₂ fp x1) elt te)
  (I:Inv X pins σ H s₂) (T:Turn X.prog X.w X.K tg J fp it tn) (st:tn 0 s₂.heap) (f:∀b∈fp,FpOk X pins H b) (h:z4Q J g tc te Fin (inner fr σ) H)
  (hX:∀cells (C:Nat) e s',C=s₂.heap.objs.size+1->(q0z X scope N' C cells s₂ H fp x1).xe e s'->notedBy (model X.prog X.w) X.A (compEnvC scope cells C X.env) (λe s'=>RR (.ref s₂.heap.objs.size) (compEnvC scope cells C X.env) (.error e) s') e s')
  (hRR:∀D C cells H' s' m ys,Inv X pins σ (upd H' D (.lst ys)) s'->H' D=none->s'.heap.Ns C m->upd H' D (.lst ys) C=none->C≠X.env.locals->X.s₀.heap.objs.size<=C->(∀x c,X.env.cells.lookup x=some c->c≠C)->(∀p∈X.pn++pins,p.1≠C)->Fin ys H'->RR (.ref D) (compEnvC scope cells C X.env) (.ok .next) s') :
  wpAny (model X.prog X.w) X.A (newList []) (λacc s₃=>wpAny (model X.prog X.w) X.A (newFunctionEnv scope X.env.globals (q0o X.env.cells scope.names []) [] X.env.qual none .none (some X.env)) (λcenv s₄=>
   codeAny (model X.prog X.w) X.A (.compStart (.ListComp elt [⟨tg,iter,ifs,0⟩] scope pos) 0 (.ref it) acc {cenv with scope:=relabel scope X.env}) (RR acc {cenv with scope:=relabel scope X.env}) s₄) E s₃) E s₂:=by
 have ho:∀b∈fp,b<s₂.heap.objs.size:=λb hb=>by obtain⟨o,e,_⟩:=T.obj _ _ st b hb;exact Heap.lt_size e
 refine wpAny_newObj_type (q6Q ?_);have hsz1:(s₂.heap.push q1T).objs.size=s₂.heap.objs.size+1:=Heap.size_push ..;obtain⟨I4,hD4,keep⟩:=z1x (x1:=x1) (C:=s₂.heap.objs.size+1) S I f ho rfl rfl;show codeAny _ _ (.compStart _ 0 (.ref it) (.ref s₂.heap.objs.size) (compEnvC scope (cellsFrom ((s₂.heap.push q1T).objs.size+1) scope.names (q0o X.env.cells scope.names [])) (s₂.heap.push q1T).objs.size X.env)) (RR (.ref s₂.heap.objs.size) (compEnvC scope (cellsFrom ((s₂.heap.push q1T).objs.size+1) scope.names (q0o X.env.cells scope.names [])) (s₂.heap.push q1T).objs.size X.env)) {s₂ with heap:=pushCells ((s₂.heap.push q1T).push q6f) scope.names};rw[hsz1];have hX':=λcells e s'=>hX cells _ e s' rfl
 clear hX
 generalize hDe:s₂.heap.objs.size=D at *;generalize cellsFrom (D+1+1) scope.names (q0o X.env.cells scope.names [])=cells at *;generalize pushCells ((s₂.heap.push q1T).push q6f) scope.names=h4 at *;have hfp:∀{pins':List (Addr×Obj)} {H':Hp},(∀b∈fp,H' b=none)->(∀p∈pins',p.1=D)->∀b∈fp,FpOk (q0z X scope N' (D+1) cells s₂ H fp x1) pins' H' b:=λ{pins' H'} hn hp b hb=>
  ⟨hn b hb,(I4.ok.exf b hb).1,I4.ok.exfs b hb,.inl hb,(I4.ok.exf b hb).2,λp hp' z=>by
   have hp':p∈([]:List (Addr×Obj))++pins':=hp';rw[List.nil_append]at hp';have:=ho b hb;rw[←z,hp p hp']at this;exact Nat.lt_irrefl _ this⟩
 obtain⟨W,⟨m0,w0⟩,turn⟩:=h;have hDC:D≠(q0z X scope N' (D+1) cells s₂ H fp x1).env.locals:=by show D≠D+1;omega
 have hDcell:∀x c,(q0z X scope N' (D+1) cells s₂ H fp x1).env.cells.lookup x=some c->c≠D:=λx c e z=>by
  obtain⟨v,o,hoc,hd⟩:=I4.cell x c e;have q:h4.get? D=some o:=by rw[←z];exact hoc
  rw[hD4]at q;cases q;cases hd
 have hDfs:D∉(q0z X scope N' (D+1) cells s₂ H fp x1).fs:=λz=>by
  obtain⟨_,o,ho',_⟩:=I4.ok.funs.mem z
  have:=Heap.lt_size ho';have e:s₂.heap.objs.size=D:=hDe;exact absurd this (by show ¬D<s₂.heap.objs.size;omega)
 have loop:codeAny (model X.prog X.w) X.A (.compLoop (.ListComp elt [⟨tg,iter,ifs,0⟩] scope pos) 0 (.ref it) (.ref D) (compEnvC scope cells (D+1) X.env)) (RR (.ref D) (compEnvC scope cells (D+1) X.env)) {s₂ with heap:=h4}:=by
  refine q6i (λn s'=>∃i ys its k σ' H',Inv (q0z X scope N' (D+1) cells s₂ H fp x1) [] σ' H' s'/\tn i s'.heap/\(∀b∈fp,H' b=none)/\H' D=none /\
   s'.heap.get? D=some {cls:=.type "list",data:=.seq (its:List Value).toArray k} /\ Vals ys its/\ys.length<=sizeLine/\W i n ys σ' H') ?_ m0
   ⟨0,[],[],_,_,H,I4,T.keep _ _ _ st λb _ o e=>keep b o e,λb hb=>(f b hb).1,I.hok.fresh (by omega),hD4,.nil,Nat.zero_le _,w0⟩
  rintro n s3 ⟨i,ys,its,k,σ3,H3,I3,st3,fr3,hD3,oD3,rv,hl,w3⟩
  have I3p:Inv (q0z X scope N' (D+1) cells s₂ H fp x1) [(D,{cls:=.type "list",data:=.seq its.toArray k})] σ3 H3 s3:=I3.pins_of λp hp=>by
   have e:p=(D,{cls:=.type "list",data:=.seq its.toArray k}):=by simpa using hp
   subst e;exact⟨oD3,hD3,hDC,hDfs,λv z=>by cases z⟩
  have pinD:∀p∈[((D:Addr),({cls:=.type "list",data:=.seq its.toArray k}:Obj))],p.1=D:=λp hp=>by
   have e:p=(D,{cls:=.type "list",data:=.seq its.toArray k}):=by simpa using hp
   subst e;rfl
  rcases turn i n ys σ3 H3 w3 with⟨stop,fin⟩ | ⟨go,hlt,step⟩
  ·refine thn (T.done (q0z X scope N' (D+1) cells s₂ H fp x1) rfl rfl rfl hc i _ s3 σ3 H3 _ I3p (hfp fr3 pinD) st3 stop) λr s4 ⟨hr,I4'⟩=>?_;subst hr;have oD:=(I4'.pin (D,_) (List.mem_append_right _ List.mem_cons_self)).1;have un:Un (frs X.stack) fp H H3 s₂.heap s4.heap:=I4'.base;have hn:s₂.heap.get? D=none:=Heap.get?_none_of_le (by rw[hDe];exact Nat.le_refl _);obtain⟨mC,hnC,_⟩:=I4'.loc;refine hRR D (D+1) cells H3 s4 mC ys (I.call' I4'.os (un.track hD3 hn) (I4'.hok.track hD3 ⟨hl,its,k,rv,oD⟩) I4'.bare λb hb=>?_) hD3 hnC ?_ ?_ ?_ (λx c e=>?_) (λp hp=>?_) fin
   ·obtain⟨_,f1,f2,f3,f4,f5⟩:=f b hb;exact⟨f3,f1,f4,f5⟩
   ·rw[q0j (show @Ne Nat (D+1) D by omega)];exact I4'.free
   ·have q:@LT.lt Nat _ X.env.locals s₂.heap.objs.size:=I.lt;show @Ne Nat (D+1) X.env.locals;omega
   ·have q:@LE.le Nat _ X.s₀.heap.objs.size s₂.heap.objs.size:=I.sz;show @LE.le Nat _ X.s₀.heap.objs.size (D+1);omega
   ·obtain⟨v,z⟩:=I.cell x c e;have q:@LT.lt Nat _ c s₂.heap.objs.size:=z.lt;show @Ne Nat c (D+1);omega
   ·have q:@LT.lt Nat _ p.1 s₂.heap.objs.size:=Heap.lt_size (I.pin p hp).1;show @Ne Nat p.1 (D+1);omega
  ·refine thn (T.item (q0z X scope N' (D+1) cells s₂ H fp x1) rfl rfl rfl hc i _ s3 σ3 H3 _ I3p (hfp fr3 pinD) st3 go) λr s4 ⟨u,hr,h4'⟩=>?_;subst hr;refine thn h4' λ_ s5 ⟨x,H5,I5,r5,y5,st5,fr5⟩=>?_;have I5':=I5.pinned (hfp fr5 pinD) (T.obj _ _ st5);refine wpAny_mono (hg (D+1) cells s₂ H fp _ s5 σ3 H5 x u _ I5' r5 (step x H5 y5)) (λ_ s6 ⟨σ6,H6,I6,q6⟩=>?_) λe' s9 z=>hX' cells e' s9 z;refine wpAny_mono (ht (D+1) cells s₂ H fp _ s6 σ6 H6 _ I6 q6) (λb s7 ⟨H7,I7,q7⟩=>?_) λe' s9 z=>hX' cells e' s9 z;have fpK:∀{H':Hp} {s':Shared},Inv (q0z X scope N' (D+1) cells s₂ H fp x1) ([(D,{cls:=.type "list",data:=.seq its.toArray k})]++q5X fp s5.heap) σ6 H' s'->tn (i+1) s'.heap/\(∀b∈fp,H' b=none)/\s'.heap.get? D=some {cls:=.type "list",data:=.seq its.toArray k} /\ H' D=none:=λ{H' s'} J'=>by
    refine⟨T.keep _ _ _ st5 λb hb o e=>(J'.pin (b,o) (List.mem_append_right _ (List.mem_append_right _ (q2P hb e)))).1,λb hb=>?_,?_,?_⟩
    ·obtain⟨o,e,d⟩:=T.obj _ _ st5 b hb;exact(J'.pin (b,o) (List.mem_append_right _ (List.mem_append_right _ (q2P hb e)))).2.1
    ·exact(J'.pin (D,_) (List.mem_append_right _ (List.mem_append_left _ List.mem_cons_self))).1
    ·exact(J'.pin (D,_) (List.mem_append_right _ (List.mem_append_left _ List.mem_cons_self))).2.1
   cases b with
   | false=>
    rw[if_neg Bool.false_ne_true]at q7 ⊢;obtain⟨m',hm,w7⟩:=q7;obtain⟨k1,k2,k3,k4⟩:=fpK I7;exact⟨m',hm,i+1,ys,its,k,σ6,H7,I7.pins_of (λp hp=>(nomatch hp)),k1,k2,k4,k3,rv,hl,w7⟩
   | true=>
    rw[if_pos rfl]at q7 ⊢;refine wpAny_mono (he (D+1) cells s₂ H fp _ s7 σ6 H7 _ I7 q7) (λy s8 ⟨v8,H8,I8,r8,q8⟩=>?_) λe' s9 z=>hX' cells e' s9 z
    obtain⟨m',hm,w8⟩:=q8;obtain⟨k1,k2,k3,k4⟩:=fpK I8;have hits:its.length<=sizeLine:=by rw[←rv.length];exact hl
    refine append_at k3 (λh9 hs9 hD9=>?_) (by rw[List.size_toArray];exact hits);have I9:Inv (q0z X scope N' (D+1) cells s₂ H fp x1) [] σ6 H8 s8:=I8.pins_of λp hp=>(nomatch hp);refine⟨m',hm,i+1,ys++[v8],its++[y],k+1,σ6,H8,I9.turned (it:=D) (t':=s8.toks) (λb o hb e=>(hs9.2 b hb).trans e) k4 hDC (.inr (by show s₂.heap.objs.size<=D;omega)) hDcell (λp hp=>(nomatch hp)),?_,k2,k4,?_,rv.snoc r8,?_,w8⟩
    ·exact T.keep _ _ _ k1 λb hb o e=>(hs9.2 b (by have q:@LT.lt Nat _ b D:=ho b hb;show @Ne Nat b D;omega)).trans e
    ·rw[hD9,List.push_toArray]
    ·rw[List.length_append,List.length_singleton];omega
 exact codeAny_compStart_list loop (T.self X.A 0 _ _ _ (T.keep _ _ _ st λb _ o e=>keep b o e) loop)
def q4T(M:Model)(A:Around)(E:Value->Shared->Prop)(use:Option (Value->Sem Unit))(Q:Value->Shared->Prop)(acc:Value)(cenv:Env)(r:Result)(s':Shared):Prop:=
 match r,use with
 | .ok _,none=>∃m,s'.heap.Ns cenv.locals m/\∀h',Heap.SameBut cenv.locals s'.heap h'->Q acc {s' with heap:=h'}
 | .ok _,some u=>wpAny M A (u acc) (λ_ s''=>∃m,s''.heap.Ns cenv.locals m/\∀h',Heap.SameBut cenv.locals s''.heap h'->Q .none {s'' with heap:=h'}) E s'
 | .error x,_=>∃m,s'.heap.Ns cenv.locals m/\∀h',Heap.SameBut cenv.locals s'.heap h'->wpAny M A (passOn q5H x cenv:Sem Value) (λ_ _=>False) E {s' with heap:=h'}
theorem q6o{M:Model}{A:Around}{E:Value->Shared->Prop}{s:Shared}{env:Env}{e:Expr}{scope:Scope}{pos:Pos}{newAcc fst1:Sem Value}{g:Comprehension}{gs:List Comprehension}{cl:List (Str×Addr)}{use:Option (Value->Sem Unit)}
  {Q:Value->Shared->Prop} (hcl:clausesOf e=g::gs) (hs:∀x,foldedSetIterable g.iter env x=pure x) (hclos:closureFor scope env=pure cl)
  (hkind:scope.kind=.function) (hnames:∀x∈scope.names,x.2=NameKind.local->scope.names.lookup x.1=some NameKind.local)
  (h:wpAny M A fst1 (λx s₁=>wpAny M A (pyIter x) (λit s₂=>wpAny M A newAcc (λacc s₃=>
   wpAny M A (newFunctionEnv scope env.globals cl [] env.qual none .none (some env)) (λcenv s₄=>
    codeAny M A (.compStart e 0 it acc {cenv with scope:=relabel scope env}) (q4T M A E use Q acc {cenv with scope:=relabel scope env}) s₄) E s₃) E s₂) E s₁) E s) :
  wpAny M A (comprehension e scope env pos newAcc false fst1 use) Q E s:=by
 unfold comprehension;rw[hclos,hcl];refine wpAny_bind (wpAny_mono h (λx s₁ h₁=>wpAny_bind (wpAny_standAt (wpAny_bind (wpAny_of_eq (hs x) (wpAny_bind (wpAny_holding (wpAny_mono h₁ (λit s₂ h₂=>
  wpAny_standIf (wpAny_bind (wpAny_mono h₂ (λacc s₃ h₃=>wpAny_bind (wpAny_pure (wpAny_bind (wpAny_mono h₃ (λcenv s₄ h₄=>?_) λ_ _ z=>z)))) λ_ _ z=>z)))
   λ_ _ z=>z))))))) λ_ _ z=>z)
 dsimp only;have rel:∀{l:List (Str×NameKind)},(∀x∈l,x∈scope.names)->∀x∈l,x.2=NameKind.local->Env.kindOf {cenv with scope:=relabel scope env} x.1=some NameKind.local:=λhl x hx hq=>lookup_relabel_local (hnames x (hl x hx) hq)
 have in0:∀x∈(scope.names.filter λx=>(x.2==NameKind.local||x.2==NameKind.cell)&&x.1 != (".0" : Str)).reverse,x∈scope.names:=λx hx=>(List.mem_filter.mp (List.mem_reverse.mp hx)).1;have hv:=rel in0;have hv':=rel (l:=(scope.names.filter λx=>(x.2==NameKind.local||x.2==NameKind.cell)&&x.1 != (".0" : Str)).reverse.drop 1++(scope.names.filter λx=>(x.2==NameKind.local||x.2==NameKind.cell)&&x.1 != (".0" : Str)).reverse.take 1) λx hx=>
  (List.mem_append.mp hx).elim (λz=>in0 x (List.mem_of_mem_drop z)) λz=>in0 x (List.mem_of_mem_take z)
 refine wpAny_holding (wpAny_bind (wpAny_attempt (wpAny_holding (wpAny_run (codeAny_mono h₄ λr s' hr=>?_)))));cases r with
 | ok f=>
  cases use with
  | none=>
   obtain⟨m,hn,hr⟩:=hr;exact wpAny_bind (wpAny_holding (wpAny_comp_letGo (cenv:={cenv with scope:=relabel scope env}) hkind _ s' m hv hn λh' m' _ hs'=>wpAny_pure (hr h' hs')))
  | some u=>
   refine wpAny_bind (wpAny_rule (wpAny_bind (wpAny_holding (wpAny_mono hr (λ_ s'' ⟨m,hn,hr'⟩=>?_) λ_ _ z=>z))));exact wpAny_bind (wpAny_comp_letGo (cenv:={cenv with scope:=relabel scope env}) hkind _ s'' m hv' hn λh' m' _ hs'=>wpAny_pure (hr' h' hs'))
 | error x=>
  have hr':∃m,s'.heap.Ns cenv.locals m/\∀h',Heap.SameBut cenv.locals s'.heap h'->wpAny M A (passOn q5H x {cenv with scope:=relabel scope env}:Sem Value) (λ_ _=>False) E {s' with heap:=h'}:=by cases use<;>exact hr
  obtain⟨m,hn,hr⟩:=hr';exact wpAny_bind (wpAny_holding (wpAny_comp_letGo (cenv:={cenv with scope:=relabel scope env}) hkind _ s' m hv hn λh' m' _ hs'=>wpAny_mono (hr h' hs') (λ_ _ f=>f.elim) λ_ _ y=>y))
def z4T(fr:List (Option Nat))(wi:TI)(g:TG)(tc:TT)(te:TE):TE:=λσ H Q=>wi σ H λJ H1=>z4Q J g tc te (λys H'=>∀p,H' p=none->Q (.ref p) (upd H' p (.lst ys))) (inner fr σ) H1
theorem z2T{X:Cx}{N':List Str}{scope:Scope}{fr:List (Option Nat)}{iter elt tg:Expr}{ifs:List Expr}{pos:Pos}{wi:TI}{g:TG}{te:XK->TE}{E:St->XK}{tc:TT}(S:CompScope X.N N' scope X.env.scope fr)(hc:X.calm=true)(hx:z2c X E)(hi:PI X tg iter wi)
  (hg:∀C cells s₂ H₂ fp x1,PG (q0z X scope N' C cells s₂ H₂ fp x1) tg g) (ht:∀C cells s₂ H₂ fp x1,PTs (q0z X scope N' C cells s₂ H₂ fp x1) ifs tc) (he:∀C cells s₂ H₂ fp x1,PE (q0z X scope N' C cells s₂ H₂ fp x1) elt (te x1))
  (hs:∀x,foldedSetIterable iter X.env x=pure x:=by intro _;rfl):PE X (.ListComp elt [⟨tg,iter,ifs,0⟩] scope pos) (λσ=>z4T fr wi g tc (te (E σ)) σ):=by
 intro pins s σ H Q I h;rw[eval_ListComp];have hfree:∀y∈scope.names,y.2=NameKind.free->∃c,X.env.cells.lookup y.1=some c:=λy hy hk=>I.ok.has y.1 (S.out y hy hk)
 refine q6o (use:=none) rfl hs (q2E hfree) S.kind (λx hx hl=>q0P S.snd (by rw[←hl];exact hx)) (thn (hi pins s σ H _ I h) λv s1 h1=>thn h1 λitv s2 h2=>?_);obtain⟨it,fp,tn,J,H2,e,I2,T,st2,f2,w⟩:=h2;subst e;refine q7z (RR:=λacc C=>q4T (model X.prog X.w) X.A X.xe none (EP X pins σ Q) acc C) S hc (λC cells s₂ H₂ fp=>hg C cells s₂ H₂ fp (E σ)) (λC cells s₂ H₂ fp=>ht C cells s₂ H₂ fp (E σ)) (λC cells s₂ H₂ fp=>he C cells s₂ H₂ fp (E σ)) I2 T st2 f2 w (λcells C e s' hC z=>?_) ?_
 ·refine wpAny_mono (hx scope N' cells C pins σ H2 s2 fp e s' I2 f2 hC z) (λ_ s'' ⟨m,n,q⟩=>⟨m,n,λh' hs'=>q h' hs' _ rfl rfl⟩) λe' s'' ⟨m,n,q⟩=>⟨m,n,λh' hs'=>q h' hs' _ rfl rfl⟩
 intro D C cells H' s' m ys I' hD hnC hCn hCL hCs hCc hCp fin;exact⟨m,hnC,λh' hs'=>⟨.ref D,_,I'.turned (it:=C) (t':=s'.toks) (λb o hb e=>(hs'.2 b hb).trans e) hCn hCL (.inr hCs) hCc hCp,rfl,fin D hD⟩⟩
theorem q8F{X:Cx}{N':List Str}{scope:Scope}{fr:List (Option Nat)}{iter elt tg:Expr}{ifs:List Expr}{pos spos py:Pos}{y:Str}{i:Nat}{wi:TI}{g:TG}{te:XK->TE}{E:St->XK}{tc:TT}(S:CompScope X.N N' scope X.env.scope fr)(hc:X.calm=true)(hx:z2c X E)(hN:X.N.Nodup)(hiN:X.N[i]? = some y)
  (hy:X.env.scope.names.lookup y=some .local) (hi:PI X tg iter wi)
  (hg:∀C cells s₂ H₂ fp x1,PG (q0z X scope N' C cells s₂ H₂ fp x1) tg g) (ht:∀C cells s₂ H₂ fp x1,PTs (q0z X scope N' C cells s₂ H₂ fp x1) ifs tc) (he:∀C cells s₂ H₂ fp x1,PE (q0z X scope N' C cells s₂ H₂ fp x1) elt (te x1))
  (hsw:swapsWith (.ListComp elt [⟨tg,iter,ifs,0⟩] scope pos) (some (.Name y py)) spos.line X.env=pure true:=by rfl)
  (hs:∀x,foldedSetIterable iter X.env x=pure x:=by intro _;rfl):PS X (.Assign [.Name y py] (.ListComp elt [⟨tg,iter,ifs,0⟩] scope pos) spos) (tAsg (λσ=>z4T fr wi g tc (te (E σ)) σ) (q8i i)):=by
 intro pins s σ H Dn I h;rw[exec_Assign_Name_used _ _ _ _ hsw];refine wpAny_bind (wpAny_standAt (wpAny_bind ?_));show wpAny _ _ (do let _ ←comprehension (.ListComp elt [⟨tg,iter,ifs,0⟩] scope pos) scope X.env _ (newList []) false (eval iter X.env) (some (assign (.Name y py) X.env))) _ _ s;have hfree:∀y∈scope.names,y.2=NameKind.free->∃c,X.env.cells.lookup y.1=some c:=λy hy hk=>I.ok.has y.1 (S.out y hy hk)
 refine wpAny_bind (wpAny_mono (q6o (use:=some (assign (.Name y py) X.env)) (Q:=λ_ s'=>SP X pins Dn .next s') rfl hs (q2E hfree) S.kind (λx hx hl=>q0P S.snd (by rw[←hl];exact hx))
  (thn (hi pins s σ H _ I h) λv s1 h1=>thn h1 λitv s2 h2=>?_)) (λ_ s' hq=>wpAny_pure (wpAny_pure hq)) λ_ _ e=>e)
 obtain⟨it,fp,tn,J,H2,e,I2,T,st2,f2,w⟩:=h2;subst e;refine q7z (RR:=λacc C=>q4T (model X.prog X.w) X.A X.xe (some (assign (.Name y py) X.env)) (λ_ s'=>SP X pins Dn .next s') acc C) S hc (λC cells s₂ H₂ fp=>hg C cells s₂ H₂ fp (E σ)) (λC cells s₂ H₂ fp=>ht C cells s₂ H₂ fp (E σ)) (λC cells s₂ H₂ fp=>he C cells s₂ H₂ fp (E σ)) I2 T st2 f2 w (λcells C e s' hC z=>?_) ?_
 ·refine wpAny_mono (hx scope N' cells C pins σ H2 s2 fp e s' I2 f2 hC z) (λ_ s'' ⟨m,n,q⟩=>⟨m,n,λh' hs'=>q h' hs' _ rfl rfl⟩) λe' s'' ⟨m,n,q⟩=>⟨m,n,λh' hs'=>q h' hs' _ rfl rfl⟩
 intro D C cells H' s' m ys I' hD hnC hCn hCL hCs hCc hCp fin;refine wpAny_assign_Name (q6g (v:=.ref D) I' hN hiN (Or.inl hy) rfl (λs'' I'' ⟨a,hsb,ha⟩=>⟨m,hnC.sameBut hsb ?_,λh' hs'=>⟨_,_,I''.turned (it:=C) (t':=s''.toks) (λb o hb e=>(hs'.2 b hb).trans e) hCn hCL (.inr hCs) hCc hCp,fin D hD⟩⟩) (.inr hy));rcases ha with z | z
 ·rw[z];exact hCL
 ·exact Ne.symm (hCc y a z)
end L2
end
noncomputable section
namespace L2
open PySem PySem.Spec PyProof.Rows
theorem Un.flown{fs ex:List Addr}{H H':Hp}{h0 h1 h2 B:Heap}(u:Un fs ex H H' h0 h1)(cov:∀b o,h0.get? b=some o->b∉fs->b∉ex->∃o',B.get? b=some o')(s1:∀b o,B.get? b=some o->h1.get? b=some o)(s2:∀b o,B.get? b=some o->h2.get? b=some o)
  (up:h1.UpToSlots h2) (fd:∀b∈fs,b∉ex/\H b=none/\∀o,h0.get? b=some o->∀vs,o.data ≠ .fields vs):Un fs ex H H' h0 h2:=by
 have keep:∀b o,h0.get? b=some o->H b=none->b∉fs->b∉ex->h2.get? b=some o:=λb o e n hb hx=>by have e1:=u.keep b o e n hb hx;obtain⟨o',q⟩:=cov b o e hb hx;have q1:=s1 b o' q;rw[e1]at q1;cases q1;exact s2 b o q
 have slot:∀b o,h0.get? b=some o->H b=none->b∈fs->b∉ex->∃sl,h2.get? b=some {o with slots:=sl}:=λb o e n hb hx=>by obtain⟨sl,e1⟩:=u.slot b o e n hb hx;obtain⟨sl',e2⟩:=up b _ e1 ((fd b hb).2.2 o e);exact⟨sl',e2⟩
 refine⟨keep,slot,u.free,λb o e hx=>?_,u.tups,u.frzs,u.tbls⟩;by_cases hb:b∈fs
 ·obtain⟨sl,q⟩:=slot b o e (fd b hb).2.1 hb hx;exact⟨_,q⟩
 ·obtain⟨o',q⟩:=cov b o e hb hx;exact⟨o',s2 b o' q⟩
section
variable {X:Cx} {pins:List (Addr×Obj)} {σ:St} {H:Hp} {s:Shared}
theorem Inv.frameData(I:Inv X pins σ H s):∀b∈X.fs,b∉X.ex/\X.H₀ b=none/\∀o,X.s₀.heap.get? b=some o->∀vs,o.data ≠ .fields vs:=λb hb=>by
 refine⟨λz=>I.ok.exfs b z hb,I.ok.frf.1 b hb,λo e=>?_⟩;obtain⟨_,o',e',d⟩:=I.ok.funs.mem hb
 rw[e]at e';cases e';exact d
theorem Inv.notStk(I:Inv X pins σ H s){b:Addr}{o:Obj}(e:X.s₀.heap.get? b=some o)(hb:b∉X.fs):b∉frs X.stack:=λz=>by
 rcases List.mem_cons.mp (I.stkSub b z)with q | q
 ·exact absurd (Nat.lt_of_lt_of_le (Heap.lt_size e) I.ok.above) (by rw[q];exact Nat.lt_irrefl _)
 ·exact hb q
theorem Inv.flown{h':Heap}{t':Nat}{l:List Env}{ea:Addr}{C:Value}{B:Heap}(I:Inv X pins σ H s)(F:Fly X.prog X.w X.base l ea C H B s.heap)(cov:∀b o,X.s₀.heap.get? b=some o->b∉frs X.stack->b∉X.ex->∃o',B.get? b=some o')
  (pc:∀p∈X.pn++pins,∃o',B.get? p.1=some o') (st:∀b o,B.get? b=some o->h'.get? b=some o) (up:s.heap.UpToSlots h'):Inv X pins σ H {s with heap:=h',toks:=t'}:=by
 have cellK:∀c v,s.heap.IsCell c v->h'.IsCell c v:=λc v ⟨o,ho,hd⟩=>by obtain⟨sl,q⟩:=up c o ho (λvs z=>by rw[hd]at z;cases z);exact⟨_,q,hd⟩
 refine⟨I.ok,I.os,I.bare,I.base.flown (λb o e hb hx=>cov b o e (I.notStk e hb) hx) F.stays st up I.frameData,?_,λx c e=>?_,I.free,I.freeC,λp hp=>?_,F.hok.kept st,I.len⟩
 ·obtain⟨m,hn,hl⟩:=I.loc;refine⟨m,up.ns hn,λi x v e1 e2 e3=>?_⟩;obtain⟨u,r,l⟩:=hl i x v e1 e2 e3;refine⟨u,r,?_⟩;rcases l with l | ⟨k,c,e,z⟩
  ·exact .inl l
  ·exact .inr ⟨k,c,e,cellK c _ z⟩
 ·obtain⟨v,z⟩:=I.cell x c e;exact⟨v,cellK c v z⟩
 ·obtain⟨e,n,ne,nf,d⟩:=I.pin p hp;obtain⟨o',q⟩:=pc p hp;have q1:=F.stays _ _ q;rw[e]at q1;cases q1;exact⟨st _ _ q,n,ne,nf,d⟩
end
section
variable {P:Program} {w:World} {K:PySem.W.Frag} {mg:Str->Option Value} {base:Heap} {N:List Str} {qual:Str} {scope:Scope} {f:Addr} {cd:Value} {A:Around} {outer:List Env} {s:Shared} {H:Hp} {E:XK}
abbrev cxD(P:Program)(w:World)(K:PySem.W.Frag)(mg:Str->Option Value)(base:Heap)(N:List Str)(qual:Str)(scope:Scope)(f:Addr)(cd:Value)(A:Around)(outer:List Env)(s:Shared)(H:Hp)(E:XK):Cx:=
 cxOf (CXx P w base) P w K mg base N qual scope f cd A outer s H E
theorem q7a{pins:List (Addr×Obj)}{σ:St}{H1:Hp}{s1:Shared}{h':Heap}{ea:Addr}{C:Value}{vs:List Value}(I:Inv (cxD P w K mg base N qual scope f cd A outer s H E) pins σ H1 s1)(hx:Heap.MadeExcOf s1.heap h' ea C vs)(hE:E C none H1) :
  (cxD P w K mg base N qual scope f cd A outer s H E).xe (.ref ea) {s1 with heap:=h'}:=by
 have hstk:=I.stack;have hin:∀env∈(cxD P w K mg base N qual scope f cd A outer s H E).stack,∀a,env.frame=some a->a∈frs (cxD P w K mg base N qual scope f cd A outer s H E).stack:=λenv he b hb=>List.mem_filterMap.mpr ⟨env,he,hb⟩;have hB1:∀b o,(PySem.W.hideAll s1.heap (frs (cxD P w K mg base N qual scope f cd A outer s H E).stack)).get? b=some o->s1.heap.get? b=some o:=λb o q=>PySem.W.of_hideAll _ q;have hHid:∀b u,H1 b≠none->s1.heap.get? b=some u->(PySem.W.hideAll s1.heap (frs (cxD P w K mg base N qual scope f cd A outer s H E).stack)).get? b=some u:=λb u hb q=>PySem.W.hideAll_get _ q λz=>hb (I.stkFree b z);refine wpAny_mono ((q3J _ _).any (wpAny_leaves_madeW (Q:=λ_ s'=>∃h2 t,s' = {s1 with heap:=h2} /\ Heap.FlyingW (PySem.W.hideAll s1.heap (frs (cxD P w K mg base N qual scope f cd A outer s H E).stack)) outer ea C (.ref t) h2/\h'.UpToSlots h2) (E:=λ_ _=>False) (base:=PySem.W.hideAll s1.heap (frs (cxD P w K mg base N qual scope f cd A outer s H E).stack)) (h:=s1.heap) I.ok.frames rfl hB1 (PySem.W.funFrames_hide hstk hin) hx λh2 t fl tup nt up=>⟨h2,t,rfl,fl,up⟩)) (λ_ s' ⟨⟨h2,t,e0,fl,up⟩,st⟩=>?_) (λ_ _ q=>q.1.elim);subst e0;have hcov:∀b o,s.heap.get? b=some o->b∉frs outer->∃o',(PySem.W.hideAll s1.heap (frs (cxD P w K mg base N qual scope f cd A outer s H E).stack)).get? b=some o':=λb o e hb=>by obtain⟨o1,e1⟩:=I.base.there b o e (by intro z;exact nomatch z);exact⟨o1,PySem.W.hideAll_get _ e1 (I.notStk e hb)⟩
 refine⟨ea,C,H1,_,rfl,I.os,I.bare,I.base.flown (λb o e hb _=>hcov b o e hb) hB1 fl.1 ((Heap.UpToSlots.of_keeps hx.keeps).trans up) I.frameData,⟨⟨_,fl⟩,λb o e=>?_,λa o q=>?_,(Ctxd.made hx).st st⟩,hcov,hE⟩
 ·refine PySem.W.hideAll_get _ (I.bk b o e) λz=>?_;have q:base.get? b=none:=(hstk.mem z).1;rw[q]at e;cases e
 ·refine(I.hok a o q).stay (λb u hc e=>hHid b u ?_ e) (λ_ z=>z) (λ_ _ z=>z) λ_ _ _ _ _ z=>z;rcases hc with z | z
  ·subst z;rw[q];intro z;cases z
  ·rw[z];intro z;cases z
theorem z2b{pins:List (Addr×Obj)}{σ:St}{H1:Hp}{s1:Shared}{ea:Addr}{C:Value}{B:Heap}(I:Inv (cxD P w K mg base N qual scope f cd A outer s H E) pins σ H1 s1)(F:Fly P w base (cxD P w K mg base N qual scope f cd A outer s H E).stack ea C H1 B s1.heap)
  (cov:∀b o,s.heap.get? b=some o->b∉frs (cxD P w K mg base N qual scope f cd A outer s H E).stack->∃o',B.get? b=some o') (hE:E C none H1):(cxD P w K mg base N qual scope f cd A outer s H E).xe (.ref ea) s1:=by
 obtain⟨a0,fl⟩:=F.fly;refine wpAny_mono ((q3J _ _).any (wpAny_leaves_onW (Q:=λ_ s'=>∃h2,s' = {s1 with heap:=h2} /\ Heap.FlyingW B outer ea C a0 h2/\s1.heap.UpToSlots h2) (E:=λ_ _=>False) I.ok.frames rfl fl λh2 fl2 up=>⟨h2,rfl,fl2,up⟩)) (λ_ s' ⟨⟨h2,e0,fl2,up⟩,st⟩=>?_) (λ_ _ q=>q.1.elim);subst e0;have hcov:∀b o,s.heap.get? b=some o->b∉frs outer->∃o',B.get? b=some o':=λb o e hb=>cov b o e (I.notStk e hb)
 exact⟨ea,C,H1,B,rfl,I.os,I.bare,I.base.flown (λb o e hb _=>hcov b o e hb) F.stays fl2.1 up I.frameData,⟨⟨_,fl2⟩,F.bas,F.hok,F.ctx.st st⟩,hcov,hE⟩
theorem q5d:q5n (CXx P w base) (cxD P w K mg base N qual scope f cd A outer s H E) E:=by
 intro pins σ H0 s0 e s' I hcx;obtain⟨ea,C,H',B,rfl,os,bare,un,F,cov,hE⟩:=hcx;have I':Inv (cxD P w K mg base N qual scope f cd A outer s H E) pins σ H' s':=I.call' os un (F.hok.kept F.stays) bare λb hb=>nomatch hb
 refine z2b I' F (λb o e hb=>?_) hE;obtain⟨o1,e1⟩:=I.base.there b o e (by intro z;exact nomatch z);exact cov b o1 e1 hb
end
def excO(ea:Addr)(C:Value):HO:=.ext λh=>∃oe vs,h.get? ea=some oe/\oe.cls=C/\oe.data=.fields vs
theorem z3I{P:Program}{w:World}{H:Hp}{h:Heap}{ea:Addr}{C:Value}(x:∃oe vs,h.get? ea=some oe/\oe.cls=C/\oe.data=.fields vs):q1J P w H h ea (excO ea C):=by
 refine⟨x,?_,λh1 h2 p k=>?_⟩
 ·obtain⟨oe,_,e,_⟩:=x;exact⟨oe,e⟩
 ·obtain⟨oe,vs,e,c,d⟩:=p;exact⟨oe,vs,k oe e,c,d⟩
def XP(X:Cx)(pins:List (Addr×Obj))(E:St->Value->Hp->Prop)(e:Value)(s':Shared):Prop:=∃(ea:Addr) (C:Value) (σ':St) (H':Hp) (B:Heap),e=.ref ea/\Inv X pins σ' H' s'/\Fly X.prog X.w X.base X.stack ea C H' B s'.heap /\
 (∀b o,X.s₀.heap.get? b=some o->b∉frs X.stack->b∉X.ex->∃o',B.get? b=some o')/\(∀p∈X.pn++pins,∃o',B.get? p.1=some o')/\E σ' C H'
abbrev Cx.tryIn(X:Cx)(pins:List (Addr×Obj))(E:St->Value->Hp->Prop):Cx:={X with pn:=X.pn++pins,xe:=XP X pins E}
abbrev Cx.inExc(X:Cx)(ea:Addr):Cx:={X with A:=X.A.mark (some (.ref ea)),calm:=false,xe:=λ_ _=>False}
section
variable {X:Cx} {pins pins':List (Addr×Obj)} {σ:St} {H:Hp} {s:Shared} {E:St->Value->Hp->Prop} {ea:Addr}
theorem Cx.Ok.tryIn(k:X.Ok):(X.tryIn pins E).Ok:=⟨k.mod,k.kind,k.glob,k.blt,k.above,k.inj,k.has,k.cab,k.hd,k.frames,k.stk,k.exf,k.bs,k.bsz,k.noex,k.exfs,k.funs,k.frf⟩
theorem Cx.Ok.untry(k:(X.tryIn pins E).Ok):X.Ok:=⟨k.mod,k.kind,k.glob,k.blt,k.above,k.inj,k.has,k.cab,k.hd,k.frames,k.stk,k.exf,k.bs,k.bsz,k.noex,k.exfs,k.funs,k.frf⟩
theorem Cx.Ok.inExc(k:X.Ok):(X.inExc ea).Ok:=⟨k.mod,k.kind,k.glob,k.blt,k.above,k.inj,k.has,k.cab,(λz=>(nomatch z)),k.frames,k.stk,k.exf,k.bs,k.bsz,k.noex,k.exfs,k.funs,k.frf⟩
theorem Inv.tryIn(I:Inv X (pins++pins') σ H s):Inv (X.tryIn pins E) pins' σ H s:=
 ⟨I.ok.tryIn,I.os,I.bare,I.base,I.loc,I.cell,I.free,I.freeC,λp hp=>I.pin p (by have hp:p∈(X.pn++pins)++pins':=hp;rw[List.append_assoc]at hp;exact hp),I.hok,I.len⟩
theorem Inv.untry(I:Inv (X.tryIn pins E) pins' σ H s):Inv X (pins++pins') σ H s:=
 ⟨I.ok.untry,I.os,I.bare,I.base,I.loc,I.cell,I.free,I.freeC,λp hp=>I.pin p (by show p∈(X.pn++pins)++pins';rw[List.append_assoc];exact hp),I.hok,I.len⟩
theorem Inv.inExc(I:Inv X pins σ H s):Inv (X.inExc ea) pins σ H s:=⟨I.ok.inExc,I.os,I.bare,I.base,I.loc,I.cell,I.free,I.freeC,I.pin,I.hok,I.len⟩
theorem Inv.unExc(I:Inv (X.inExc ea) pins σ H s)(k:X.Ok):Inv X pins σ H s:=⟨k,I.os,I.bare,I.base,I.loc,I.cell,I.free,I.freeC,I.pin,I.hok,I.len⟩
theorem Inv.track{a:Addr}{o:HO}(I:Inv X pins σ H s)(hn:H a=none)(h0:X.s₀.heap.get? a=none)(hL:a≠X.env.locals)(hc:∀x c,X.env.cells.lookup x=some c->c≠a)(hp:∀p∈X.pn++pins,p.1≠a)(new:q1J X.prog X.w (upd H a o) s.heap a o) :
  Inv X pins σ (upd H a o) s:=
 ⟨I.ok,I.os,I.bare,I.base.track hn h0,I.loc,I.cell,by rw[q0j (Ne.symm hL)];exact I.free,λx c e=>by rw[q0j (hc x c e)];exact I.freeC x c e,λp hq=>by
  obtain⟨e,n,ne,nf,d⟩:=I.pin p hq;exact⟨e,by rw[q0j (hp p hq)];exact n,ne,nf,d⟩,I.hok.track hn new,I.len⟩
theorem q3k{M:Model}{A:Around}{EE:Value->Shared->Prop}{i:Nat}{x:Str}{pos:Pos}{Q:Unit->Shared->Prop}(I:Inv X pins σ H s)(hN:X.N.Nodup)(hi:X.N[i]? = some x)(hx:X.env.scope.names.lookup x=some .local)
  (h:∀s',Inv X pins (σ.set i none) H s'->Q () s'):wpAny M A (do bindName X.env x .none;unbindBehindTheSuite X.env x pos) Q EE s:=by
 obtain⟨m,hn,hl⟩:=id I.loc;have hcls:(X.env.scope.kind == .class||(X.env.scope.kind == .module&&X.env.locals != X.env.globals))=false:=by rw[I.ok.kind];rfl
 have hiσ:i<σ.length:=by rw[I.len];exact(List.getElem?_eq_some_iff.mp hi).1
 have cne:=I.cne;have tracked:∀{h':Heap},Heap.SameBut X.env.locals s.heap h'->HOk X.prog X.w H h':=λ{h'} hs b ob e=>by
  refine(I.hok b ob e).stay (λc w' hc q=>(hs.2 c ?_).trans q) (λ_ q=>q) (λ_ _ q=>q) λ_ _ _ _ _ q=>q
  rintro rfl
  rcases hc with rfl | hc
  ·rw[I.free]at e;cases e
  ·rw[I.free]at hc;cases hc
 refine wpAny_nameGoes_keeps hx hn hcls λh' v hn' hs=>?_;refine h _ ⟨I.ok,I.os,I.bare,⟨λb o e n hb hx=>?_,λb o e n hb hx=>?_,I.base.free,λb o e hx=>?_,I.base.tups,I.base.frzs,I.base.tbls⟩,⟨_,hn',λj y v' e1 e2 e3=>?_⟩,λy c e=>?_,I.free,I.freeC,λp hp=>?_,tracked hs,by simpa using I.len⟩
 ·exact(hs.2 b (Nat.ne_of_lt (Nat.lt_of_lt_of_le (Heap.lt_size e) I.ok.above))).trans (I.base.keep b o e n hb hx)
 ·obtain⟨sl,e1⟩:=I.base.slot b o e n hb hx;exact⟨sl,(hs.2 b (Nat.ne_of_lt (Nat.lt_of_lt_of_le (Heap.lt_size e) I.ok.above))).trans e1⟩
 ·obtain⟨o',e1⟩:=I.base.there b o e hx;exact⟨o',(hs.2 b (Nat.ne_of_lt (Nat.lt_of_lt_of_le (Heap.lt_size e) I.ok.above))).trans e1⟩
 ·by_cases hj:j=i
  ·subst hj;rw[List.getElem?_set_self hiσ]at e2;cases e2
  ·rw[List.getElem?_set_ne (Ne.symm hj)]at e2;obtain⟨u',r',q⟩:=hl j y v' e1 e2 e3;refine⟨u',r',?_⟩;rcases q with⟨k,e⟩ | ⟨k,c,e,z⟩
   ·refine .inl ⟨k,?_⟩;have:y≠x:=λe=>hj (q4f hN e1 (e▸hi));simp[this,e]
   ·exact .inr ⟨k,c,e,z.sameBut hs (cne y c e)⟩
 ·obtain⟨w',z⟩:=I.cell y c e;exact⟨w',z.sameBut hs (cne y c e)⟩
 ·obtain⟨e,n,ne,nf,d⟩:=I.pin p hp;exact⟨(hs.2 p.1 ne).trans e,n,ne,nf,d⟩
end
def q2o(CX:CXT)(X:Cx)(E:St->XK):Prop:=∀(pins:List (Addr×Obj)) (σ:St) (H:Hp) (s:Shared) (e:Value) (s':Shared),Inv X pins σ H s->CX X.stack H s (E σ) e s'->X.xe e s'
theorem q5n.s{CX:CXT}{X:Cx}{E:XK}(h:q5n CX X E):q2o CX X λ_=>E:=λpins σ H s e s' I q=>h pins σ H s e s' I q
theorem q8E{X:Cx}{pins:List (Addr×Obj)}{E:St->Value->Hp->Prop}:q2o (CXx X.prog X.w X.base) (X.tryIn pins E) (λσ C _ H=>E σ C H):=by
 intro pins' σ H0 s0 e s' I hcx;obtain⟨ea,C,H',B,rfl,os,bare,un,F,cov,hE⟩:=hcx;have I':Inv (X.tryIn pins E) pins' σ H' s':=I.call' os un (F.hok.kept F.stays) bare λb hb=>nomatch hb
 have J:=I'.untry;refine⟨ea,C,σ,H',B,rfl,J.pins_of λp hp=>J.pin p (List.mem_append_right _ (List.mem_append_left _ hp)),F,λb o e hb hx=>?_,λp hp=>?_,hE⟩
 ·obtain⟨o1,e1⟩:=I.base.there b o e hx;exact cov b o1 e1 hb
 ·obtain⟨e,n,ne,nf,d⟩:=I.pin p (List.mem_append_left _ hp);exact cov p.1 p.2 e λz=>(List.mem_cons.mp (I.stkSub _ z)).elim ne nf
section
variable {X:Cx} {CX:CXT} {k:Nat} {f C:Addr} {fd:FuncData} {ps:List Str} {sp:Sp} {dvs:List V} {ds:List Value} {E:St->XK} {x m:Str} {p pos apos:Pos} {e o:Expr} {es:List Expr} {ta:TE} {t:TA}
theorem q7b{pins:List (Addr×Obj)}{σ:St}{H:Hp}{s:Shared}{Q:VK}{us:List Value}{vs:List V}(F:FnOk X.prog X.w X.K X.mg X.base CX k f fd ps sp)(hr:Room k X.A)(hb:q1s X.K fd ps ds)(hd:Vals dvs ds)(hx:q2o CX X E)
  (I:Inv X pins σ H s) (r:Vals vs us) (h:sp (vs++dvs) H Q (E σ)):wpAny (model X.prog X.w) X.A (call (.ref f) us) (EP X pins σ Q) X.xe s:=by
 have r2:Vals (vs++dvs) (us++ds):=r.append hd;have hl:(us++ds).length=ps.length:=by rw[←r2.length];exact F.len _ _ _ _ h
 refine wpAny_call (codeAny_mono (F.run X.A X.stack s H ⟨us,[]⟩ (us++ds) (vs++dvs) Q (E σ) hr I.env0 (hb s us I.kIn hl) r2 h) λr s' hq=>?_);cases r with
 | error e=>exact hx pins σ H s e s' I hq
 | ok fl=>
  cases fl with
  | ret u=>exact I.after hq
  | next=>exact False.elim hq
  | brk=>exact False.elim hq
  | cont=>exact False.elim hq
def z2L(sp:Sp)(dvs:List V)(E:St->XK)(t:TA):TE:=λσ H Q=>t σ H λvs H1=>sp (vs++dvs) H1 Q (E σ)
theorem z1Q(F:FnOk X.prog X.w X.K X.mg X.base CX k f fd ps sp)(hr:Room k X.A)(hg:Gl X x)(hm:X.mg x=some (.ref f))(hk:PySem.W.keepIn X.K (.ref f)=true)(hb:q1s X.K fd ps ds)(hd:Vals dvs ds)(hx:q2o CX X E)
  (ha:PA X (e::es) t) (hdb:(x==("__debug__" : Str))=false:=by decide) (he:starEach (e::es) X.env=(false,eval e X.env)::starEach es X.env:=by rfl) (hpl:(backTo pos (starEach es X.env)).any (·.1)=false:=by rfl) :
  PE X (.Call (.Name x p) (e::es) [] pos) (z2L sp dvs E t):=by
 intro pins s σ H Q I h;refine wpAny_Call_Name_kw (q3e I hg hm ?_ hdb);refine PySem.W.callWith_K (h₀:=X.base) I.ok.mod.kin hk (thn (ha pos pins s σ H _ I h) λus s1 ⟨vs,H1,I1,r,q⟩=>⟨I1.kIn,?_⟩) he hpl;exact q7b F hr hb hd hx I1 r q
end
def tTry(K:PySem.W.Frag)(cv:Value)(i:Nat)(tb:(St->Value->Hp->Prop)->TS)(ts:TS):TS:=λD σ H=>
 tb (λσ' C H'=>PySem.W.exmOne K C cv=some true/\∀ea,H' ea=none->ts {nx:=λσ2 H2=>D.nx (σ2.set i none) H2,rt:=D.rt,bk:=λσ2 H2=>D.bk (σ2.set i none) H2,ct:=λσ2 H2=>D.ct (σ2.set i none) H2} (σ'.set i (some (.ref ea))) (upd H' ea (excO ea C))) D σ H
theorem z6b{X:Cx}{body suite:List Stmt}{b₀:Stmt}{c n:Str}{np hpos pos:Pos}{i:Nat}{tb:(St->Value->Hp->Prop)->TS}{ts:TS}{cv:Value}(hst:X.stack=X.env::X.outer)(hfr:X.env.frame=some X.env.locals)(hex:X.ex=[])(hgl:Gl X c)(hm:X.mg c=some cv)
  (hN:X.N.Nodup) (hi:X.N[i]? = some n) (hl:X.env.scope.names.lookup n=some .local) (hb:∀pins E,PSs (X.tryIn pins E) body (tb E)) (hs:∀ea,PSs (X.inExc ea) (b₀::suite) ts) (hd:(c==("__debug__" : Str))=false:=by decide) :
  PS X (.Try body [.ExceptHandler (some (.Name c np)) (some n) (b₀::suite) hpos] [] [] pos) (tTry X.K cv i tb ts):=by
 intro pins s σ H D I h;refine wpAny_Try_except ?_;have un:∀{σ1:St} {H1:Hp} {s1:Shared} {E:St->Value->Hp->Prop},Inv (X.tryIn pins E) [] σ1 H1 s1->Inv X pins σ1 H1 s1:=λ{σ1 H1 s1 E} J=>by have q:=J.untry;rw[List.append_nil]at q;exact q
 refine wpAny_mono (hb pins _ [] s σ H D (Inv.tryIn (pins':=[]) (by rw[List.append_nil];exact I)) h) (λf s1 q=>?_) (λe s1 q=>?_)
 ·cases f with
  | next=>obtain⟨σ1,H1,I1,q1⟩:=q;exact wpAny_execs_nil ⟨σ1,H1,un I1,q1⟩
  | brk=>obtain⟨σ1,H1,I1,q1⟩:=q;exact⟨σ1,H1,un I1,q1⟩
  | cont=>obtain⟨σ1,H1,I1,q1⟩:=q;exact⟨σ1,H1,un I1,q1⟩
  | ret u=>obtain⟨v,σ1,H1,I1,r1,q1⟩:=q;exact⟨v,σ1,H1,un I1,r1,q1⟩
 ·obtain⟨ea,C,σ1,H1,B,rfl,I1,F,cov,pc,hE,hsuite⟩:=q;obtain⟨a0,fl⟩:=F.fly;have fl':Heap.FlyingW B (X.env::X.outer) ea C a0 s1.heap:=by rw[←hst];exact fl
  refine wpAny_looks_onW (by rw[←hst];exact I1.ok.frames) hfr fl' λh4 held up4=>?_;refine wpAny_landsW held λh5 fl5 up5=>?_;have up:=up4.trans up5;have I5:Inv X pins σ1 H1 {s1 with heap:=h5}:=I1.flown (t':=s1.toks) F cov pc fl5.1 up;have J5:Inv (X.inExc ea) pins σ1 H1 {s1 with heap:=h5}:=I5.inExc;obtain⟨oe,ws,hoe,hoec,hoed,hoe0⟩:=fl5.first
  refine wpAny_handleBy_cons (codeAny_handlers_test ?_) (by intro q;cases q);refine q3e J5 hgl hm ?_ hd;have LT:PySem.W.Looks (model X.prog X.w) h5 (typeOf (.ref ea)) C:=hoec▸(PySem.W.Looks.ld hoe).andThen .now;refine(PySem.W.exm_one (M:=model X.prog X.w) (K:=X.K) (h:=h5) J5.kIn LT hE).here ?_;show codeAny _ _ (.handlers (.ref ea) [.ExceptHandler none (some n) (b₀::suite) hpos] X.env) _ _;refine codeAny_handlers_suite_as ?_;refine lands_againW fl5 λh6 fl6 up6=>?_;have I6:Inv X pins σ1 H1 {s1 with heap:=h6}:=I1.flown (t':=s1.toks) F cov pc fl6.1 (up.trans up6);obtain⟨oe6,ws6,hoe6,hoec6,hoed6,_⟩:=fl6.first
  have hn:H1 ea=none:=F.untr;have h0:X.s₀.heap.get? ea=none:=by
   cases q:X.s₀.heap.get? ea with
   | none=>rfl
   | some o=>
    exfalso;by_cases hf:ea∈frs X.stack
    ·obtain⟨_,o',e',d⟩:=I6.stack.mem hf;have e'':h6.get? ea=some o':=e';rw[hoe6]at e'';cases e'';exact d _ hoed6
    ·obtain⟨o',z⟩:=cov ea o q hf (by rw[hex];intro z;exact nomatch z);rw[F.newE]at z;cases z
  have hL:ea≠X.env.locals:=λz=>by
   obtain⟨m,⟨o,es,ep,ho,hdd,_⟩,_⟩:=I6.loc;have ho':h6.get? ea=some o:=by rw[z];exact ho
   rw[hoe6]at ho';cases ho';rw[hoed6]at hdd;cases hdd
  have hc:∀x c,X.env.cells.lookup x=some c->c≠ea:=λx c e z=>by
   obtain⟨v,o,ho,hdd⟩:=I6.cell x c e;have ho':h6.get? ea=some o:=by rw[←z];exact ho
   rw[hoe6]at ho';cases ho';rw[hoed6]at hdd;cases hdd
  have hp:∀p∈X.pn++pins,p.1≠ea:=λp hp z=>by obtain⟨o',q⟩:=pc p hp;rw[z,F.newE]at q;cases q
  have J6:Inv (X.inExc ea) pins σ1 (upd H1 ea (excO ea C)) {s1 with heap:=h6}:=(I6.track hn h0 hL hc hp (z3I ⟨oe6,ws6,hoe6,hoec6,hoed6⟩)).inExc;refine q5G (X:=X.inExc ea) (i:=i) (v:=.ref ea) J6 hN hi (Or.inl hl) rfl (λs7 I7=>?_) (.inr hl);refine wpAny_mono (hs ea pins s7 _ _ _ I7 (hsuite ea hn)) (λf s8 q=>?_) λ_ _ z=>z.elim;cases f with
  | next=>obtain⟨σ8,H8,I8,q8⟩:=q;exact q3k (I8.unExc I.ok) hN hi hl λs9 I9=>⟨_,H8,I9,q8⟩
  | brk=>obtain⟨σ8,H8,I8,q8⟩:=q;exact q3k (I8.unExc I.ok) hN hi hl λs9 I9=>⟨_,H8,I9,q8⟩
  | cont=>obtain⟨σ8,H8,I8,q8⟩:=q;exact q3k (I8.unExc I.ok) hN hi hl λs9 I9=>⟨_,H8,I9,q8⟩
  | ret u=>obtain⟨v,σ8,H8,I8,r8,q8⟩:=q;exact q3k (I8.unExc I.ok) hN hi hl λs9 I9=>⟨v,_,H8,I9,r8,q8⟩
theorem q7x{K:PySem.W.Frag}{h₀:Heap}{mg:Str->Option Value}{x:Str}{C:Addr}{bmB:List Value}{newId:String}(X:K.In h₀)(hm:mg x=some (.ref C))(q:PySem.W.excIn K C bmB newId=true):OwnCls x C bmB newId mg h₀:=by
 refine⟨hm,?_⟩;unfold PySem.W.excIn at q;split at q
 ·rename_i dd cd sl ho;split at q
  ·rename_i C' bm k0 k1 k2 k3 n k5 hm hs;simp only[Bool.and_eq_true,beq_iff_eq,Bool.not_eq_true']at q;obtain⟨⟨⟨⟨⟨rfl,rfl⟩,hdel⟩,ht⟩,hok⟩,hni⟩:=q;obtain⟨nm,bs,mro,ns,qn,hd,sn,sub,ab,col,del⟩:=cd;dsimp only at hm hdel hok hni;subst hm hdel;have hsl:sl = #[k0,k1,k2,k3,some (.builtin n),k5]:=by
    obtain⟨l⟩:=sl;simp only at hs;rw[hs]
   subst hsl;exact⟨bm,ns,nm,qn,bs,hd,sn,sub,ab,col,dd,k0,k1,k2,k3,k5,_,X _ _ ho,.of_isNs (PySem.W.isNs_of_in X hok),PySem.W.nsMap_none_of_in X hok hni,PySem.W.tail_of_in X ht⟩
  ·cases q
 ·cases q
def q4n(X:Cx)(E:St->XK):Prop:=∀(pins:List (Addr×Obj)) (σ:St) (H:Hp) (s:Shared) (h':Heap) (ea:Addr) (C:Value) (vs:List Value),Inv X pins σ H s->Heap.MadeExcOf s.heap h' ea C vs->E σ C none H->X.xe (.ref ea) {s with heap:=h'}
theorem q5g{P:Program}{w:World}{K:PySem.W.Frag}{mg:Str->Option Value}{base:Heap}{N:List Str}{qual:Str}{scope:Scope}{f:Addr}{cd:Value}{A:Around}{outer:List Env}{s:Shared}{H:Hp}{E:XK} :
  q4n (cxD P w K mg base N qual scope f cd A outer s H E) λ_=>E:=λpins σ H1 s1 h' ea C vs I hx hE=>q7a I hx hE
def z6i(C:Addr)(E:St->XK)(t:TA):TS:=λ_ σ H=>t σ H λvs H1=>vs.length<=sizeLine/\E σ (.ref C) none H1
theorem z1M{X:Cx}{x:Str}{C:Addr}{bmB:List Value}{B newId initId:String}{np cpos pos:Pos}{e₀:Expr}{rest:List Expr}{t:TA}{E:St->XK}(FB:ExcBaseFacts B newId initId bmB)(hc:X.calm=true)(hg:Gl X x)(hm:X.mg x=some (.ref C))(hx:PySem.W.excIn X.K C bmB newId=true)
  (hR:q4n X E) (ha:PA X (e₀::rest) t) (hd:(x==("__debug__" : Str))=false:=by decide) (he:starEach (e₀::rest) X.env=(false,eval e₀ X.env)::starEach rest X.env:=by rfl) (hpl:(backTo cpos (starEach rest X.env)).any (·.1)=false:=by rfl) :
  PS X (.Raise (some (.Call (.Name x np) (e₀::rest) [] cpos)) none pos) (z6i C E t):=by
 intro pins s σ H D I h;obtain⟨tl,N,nm,q,bs,hdct,sn,sub,ab,col,dd,k0,k1,k2,k3,k5,mN,hC,hN,hni,T⟩:=(q7x I.mod.kin hm hx).obj;refine wpAny_Raise_call_subT (C:=C) (nm:=nm) (q:=q) (N:=N) (bs:=bs) (bm:=tl) (hdct:=hdct) (sn:=sn) (sub:=sub) (ab:=ab) (col:=col) (dd:=dd) (k0:=k0) (k1:=k1) (k2:=k2) (k3:=k3) (k5:=k5)
  FB (mN:=mN) (T.hasType FB.hasBase) (I.ok.hd hc) (by rw[he];show(false||(backTo cpos (starEach rest X.env)).any (·.1))=false;rw[hpl];rfl) hni (q3e I hg hm ⟨rfl,?_⟩ hd)
 have hq:=ha cpos pins s σ H _ I h;rw[he]at hq ⊢;exact Calls.evalArgs_plain (thn hq λvs s₂ ⟨xs,H2,I2,r2,hl,hE⟩=>⟨rfl,by show vs.length<=sizeLine;rw[←r2.length];exact hl,I2.bk _ _ hC,hN.keeps I2.bk,T.keeps I2.bk,λh' e hm'=>hR pins σ H2 s₂ h' e _ _ I2 hm' hE⟩)
end L2
end
noncomputable section
namespace L2
open PySem PySem.Spec PyProof.Rows
theorem q3z:entryFor table "proto.unchain" = some Builtin.«proto.unchain»:=entryFor_of_fast (by kernel_rfl)
theorem q1F:plainId "proto.unchain" = true:=by decide +kernel
def Pth(h:Heap):Nat->Addr->Addr->Prop
 | 0,a,b=>a=b
 | k+1,a,b=>∃o c,h.get? a=some o/\F2 o=some (.ref c)/\Pth h k c b
theorem Pth.snoc{h:Heap}{o:Obj}{b c:Addr}(e:h.get? b=some o)(q:F2 o=some (.ref c)):∀{k:Nat} {a:Addr},Pth h k a b->Pth h (k+1) a c
 | 0,a,p=>by have p':a=b:=p;subst p';exact⟨o,c,e,q,rfl⟩
 | k+1,a,p=>by obtain⟨o1,c1,e1,q1,p1⟩:=p;exact⟨o1,c1,e1,q1,p1.snoc e q⟩
theorem F2.at{o:Obj}{c:Value}(h:F2 o=some c):∃vs,o.data=.fields vs/\vs[2]? = some c:=by
 unfold F2 at h;split at h
 ·rename_i vs e;exact⟨vs,e,h⟩
 ·cases h
theorem Cx2.there{h:Heap}{n:Nat}{a:Addr}(c:Cx2 h n a):∃o,h.get? a=some o:=by
 cases n with
 | zero=>obtain⟨o,e,_⟩:=c;exact⟨o,e⟩
 | succ n=>obtain⟨o,e,_⟩:=c;exact⟨o,e⟩
theorem q4z{prog:Program}{w:World}{e o sl:Addr}{tg:Bool}{A:Around}{R:Result->Shared->Prop}{s:Shared}{ob:Obj}(eo:s.heap.get? o=some ob)(q:F2 ob=some .none)(hR:R (.ok (.ret .none)) s) :
  codeAny (model prog w) A (.builtin "proto.unchain" ⟨[.ref e,.ref o,.ref sl,.bool tg],[]⟩) R s:=by
 obtain⟨vs,hd,h2⟩:=F2.at q;refine codeAny_builtin q3z ?_;rw[Around.under_plainId q1F _];unfold Builtin.«proto.unchain»;refine wpAny_bind (wpAny_field eo hd h2 ?_);exact wpAny_pure hR
theorem q8B{prog:Program}{w:World}{e:Addr}{h0:Heap}(hn:h0.get? e=none):∀(n:Nat) {A:Around} {R:Result->Shared->Prop} {s:Shared} {o sl:Addr} {tg:Bool} {k:Nat},Cx2 h0 n o->St2 h0 s.heap->Pth s.heap k sl o->R (.ok (.ret .none)) s ->
  codeAny (model prog w) A (.builtin "proto.unchain" ⟨[.ref e,.ref o,.ref sl,.bool tg],[]⟩) R s:=by
 intro n
 induction n with
 | zero=>
  intro A R s o sl tg k c st p hR;obtain⟨ob,eo,q⟩:=c;obtain⟨o',e',q'⟩:=st o ob _ eo q;exact q4z e' q' hR
 | succ n ih=>
  intro A R s o sl tg k c st p hR;obtain⟨ob,eo,q⟩:=c;rcases q with q | ⟨b,q,c⟩
  ·obtain⟨o',e',q'⟩:=st o ob _ eo q;exact q4z e' q' hR
  ·obtain⟨o',e',q'⟩:=st o ob _ eo q;obtain⟨vs,hd,h2⟩:=F2.at q';have hbe:b≠e:=λz=>by
    obtain⟨o2,e2⟩:=c.there;rw[z,hn]at e2;cases e2
   have p2:=p.snoc e' q';refine codeAny_builtin q3z ?_;rw[Around.under_plainId q1F _];unfold Builtin.«proto.unchain»;refine wpAny_bind (wpAny_field e' hd h2 ?_);rw[if_neg (show ¬((Value.ref b==Value.none)=true) by simp),if_neg (show ¬((Value.ref b==Value.ref e)=true) by simpa using hbe)];by_cases z:b=sl
   ·rw[if_pos (show(Value.ref b==Value.ref sl)=true by simpa using z)];exact wpAny_bind (wpAny_rule (wpAny_pure hR))
   ·rw[if_neg (show ¬((Value.ref b==Value.ref sl)=true) by simpa using z)];cases tg with
    | false=>
     refine wpAny_bind (wpAny_pure ?_);exact wpAny_pure ⟨plainId_quiet q1F _,ih c st p2 hR⟩
    | true=>
     obtain⟨o1,c1,e1,q1,p1⟩:=p2;obtain⟨vs1,hd1,h21⟩:=F2.at q1;refine wpAny_bind (wpAny_field e1 hd1 h21 ?_);exact wpAny_pure ⟨plainId_quiet q1F _,ih c st p1 hR⟩
def q9K(C:Value)(t ea:Addr):Obj:={cls:=C,data:=.fields #[.ref t,.none,.ref ea,.none,.bool true,.none]}
theorem q6S{prog:Program}{w:World}{A:Around}{E:Value->Shared->Prop}{s:Shared}{α:Type}{Q:α->Shared->Prop}{e ea:Addr}{h0:Heap}{n:Nat}{oe:Obj}{vs:Array Value}(hh:A.handled=some (.ref ea))(hne:ea≠e)(hn:h0.get? e=none)(c:Cx2 h0 n ea)(st:St2 h0 s.heap)
  (he:s.heap.get? e=some oe) (hd:oe.data=.fields vs) (hs:2<vs.size) (h:E (.ref e) {s with heap:=s.heap.update e (Obj.mapFields (·.setIfInBounds 2 (.ref ea)))}):wpAny (model prog w) A (raiseNew (.ref e):Sem α) Q E s:=by
 unfold raiseNew;refine wpAny_bind (wpAny_handled ?_);rw[hh];dsimp only;rw[if_pos (show(Value.ref ea != Value.ref e)=true by simpa using hne)];refine wpAny_bind (wpAny_holding (wpAny_runValue (q8B (k:=0) hn n c st rfl ?_)));refine wpAny_bind (show wpAny _ _ (setField (.ref e) 2 (.ref ea)) _ _ _ from wpAny_setField he hd hs ?_);exact λΓ p hΓ=>by rw[Sem.wp_throw];exact h
section
variable {M:Model} {A:Around} {E:Value->Shared->Prop} {env:Env}
variable {nm q:Str} {C N:Addr} {bs bm:List Value} {hdct:Bool} {sn:List Str} {sub:List Value} {ab:Bool} {col:Option Bool} {dd:Option Addr} {k0 k1 k2 k3 k5:Option Value} {newId:String}
theorem q6d{s:Shared}{e:Addr}{oe:Obj}{msg:String}{Q:Value->Shared->Prop}(hbase:bm.contains (.type "BaseException")=true)(hC:s.heap.get? C=some (excClassObj nm q C N bs bm hdct sn sub ab col dd k0 k1 k2 k3 k5 newId))
  (he:s.heap.get? e=some oe) (hcl:oe.cls=.ref C) (hd:∃vs,oe.data=.fields vs) (hQ:Q (.ref e) s):wpAny M A (excFromValue (.ref e) msg) Q E s:=by
 have hcB:(Value.ref C::bm).contains (.type "BaseException")=true:=by rw[List.contains_cons,hbase,Bool.or_true]
 obtain⟨vs,hd⟩:=hd;obtain⟨oc,od,dt,sl⟩:=oe;simp only at hcl hd;subst hcl hd;obtain⟨hp,g,d,tk,os⟩:=s;unfold excFromValue
 repeat (first | with_reducible refine wpAny_loadPart_at he ?_ | with_reducible refine wpAny_loadPart_at hC ?_ | (with_reducible refine wpAny_isSubtype_exc hC ?_;rw[hcB]) | exact hQ | wp_step)
theorem q6Z{s:Shared}{e:Addr}{oe:Obj}{vs:Array Value}{Q:Flow->Shared->Prop}(hC:s.heap.get? C=some (excClassObj nm q C N bs bm hdct sn sub ab col dd k0 k1 k2 k3 k5 newId))
  (he:s.heap.get? e=some oe) (hcl:oe.cls=.ref C) (hd:oe.data=.fields vs) (h1:vs[1]? = some .none) (h:wpAny M A (raiseNew (.ref e):Sem Flow) Q E s) :
  wpAny M A (do
   let e' ←if ←isType (.ref e)then holding [.ref e] (raisedFor (.ref e) (.ref e))else raisedInstance (.ref e)
   setFlight e' none
   raiseNew e':Sem Flow) Q E s:=by
 have he':=he;obtain⟨oc,od,dt,sl⟩:=oe;simp only at hcl hd;subst hcl hd;have fl:wpAny M A (setFlight (.ref e) none) (λ_ s'=>wpAny M A (raiseNew (.ref e):Sem Flow) Q E s') E s:=(by unfold setFlight;refine wpAny_bind (wpAny_field he rfl h1 ?_);exact wpAny_pure h);obtain⟨hp,g,d,tk,os⟩:=s
 repeat (first | with_reducible refine wpAny_loadPart_at he ?_ | with_reducible refine wpAny_loadPart_at hC ?_ | exact fl | wp_step)
end
section
variable {prog:Program} {w:World} {A:Around} {E:Value->Shared->Prop} {env:Env}
variable {nm q:Str} {C N:Addr} {bs bm:List Value} {hdct:Bool} {sn:List Str} {sub:List Value} {ab:Bool} {col:Option Bool} {dd:Option Addr} {k0 k1 k2 k3 k5:Option Value} {newId:String}
theorem q5a{s:Shared}{x c:Sem Value}{ea:Addr}{Q:Flow->Shared->Prop}(hbase:bm.contains (.type "BaseException")=true)(hh:A.handled=some (.ref ea))(hc:∀(Q:Value->Shared->Prop) (s:Shared),Q .none s->wpAny (model prog w) A c Q E s)
  (h:wpAny (model prog w) A x (λv s₁=>∃e t h0 n,v=.ref e/\s₁.heap.get? C=some (excClassObj nm q C N bs bm hdct sn sub ab col dd k0 k1 k2 k3 k5 newId) /\
   s₁.heap.get? e=some {cls:=.ref C,data:=.fields #[.ref t,.none,.none,.none,.bool false,.none]} /\ ea≠e/\h0.get? e=none/\Cx2 h0 n ea/\St2 h0 s₁.heap /\
   ∀h3:Heap,h3.get? e=some (q9K (.ref C) t ea)->(∀b,b≠e->h3.get? b=s₁.heap.get? b)->E (.ref e) {s₁ with heap:=h3}) E s) :
  wpAny (model prog w) A (raiseStmt env (some x) (some c)) Q E s:=by
 unfold raiseStmt;refine wpAny_bind (wpAny_mono h (λv s₁ h₁=>?_) λ_ _ x=>x);obtain⟨e,t,h0,n,rfl,hC,he,hne,hn,hcx,hst,hE⟩:=h₁;refine wpAny_bind (wpAny_holding (hc _ _ (wpAny_bind (wpAny_pure ?_))));refine wpAny_bind (wpAny_holding (q6d hbase hC he rfl ⟨_,rfl⟩ ?_));have hCe:C≠e:=λz=>by rw[z,he]at hC;cases hC
 dsimp only;rw[if_pos (show(Value.none==Value.none)=true by rfl)];refine wpAny_bind (wpAny_pure ?_);refine wpAny_bind (wpAny_setField he rfl (show 3<6 by decide) ?_);have he1:=Heap.get?_update_self (h:=s₁.heap) (Obj.mapFields (·.setIfInBounds 3 Value.none)) he rfl;refine wpAny_bind (wpAny_setField he1 rfl (show 4<6 by decide) ?_);have he2:=Heap.get?_update_self (h:=s₁.heap.update e (Obj.mapFields (·.setIfInBounds 3 Value.none))) (Obj.mapFields (·.setIfInBounds 4 (.bool true))) he1 rfl;have oth:∀b,b≠e->((s₁.heap.update e (Obj.mapFields (·.setIfInBounds 3 Value.none))).update e (Obj.mapFields (·.setIfInBounds 4 (.bool true)))).get? b=s₁.heap.get? b:=λb hb=>by rw[Heap.get?_update_other _ _ (Ne.symm hb),Heap.get?_update_other _ _ (Ne.symm hb)]
 refine q6Z (C:=C) (nm:=nm) (q:=q) (N:=N) (bs:=bs) (bm:=bm) (hdct:=hdct) (sn:=sn) (sub:=sub) (ab:=ab) (col:=col) (dd:=dd) (k0:=k0) (k1:=k1) (k2:=k2) (k3:=k3) (k5:=k5) (newId:=newId) ((oth C hCe).trans hC) he2 rfl rfl rfl ?_;refine q6S hh hne hn hcx (hst.trans ((St2.upd (F2.fields (by decide))).trans (St2.upd (F2.fields (by decide))))) he2 rfl (show 2<6 by decide) (hE _ ?_ λb hb=>?_)
 ·exact Heap.get?_update_self _ he2 rfl
 ·exact(Heap.get?_update_other _ _ (Ne.symm hb)).trans (oth b hb)
end
end L2
end
noncomputable section
namespace L2
open PySem PySem.Spec PyProof.Rows
section
variable {prog:Program} {w:World} {A:Around} {E:Value->Shared->Prop} {env:Env} {s:Shared}
variable {nm q:Str} {C N:Addr} {bs bm bmB:List Value} {hdct:Bool} {sn:List Str} {sub:List Value} {ab:Bool} {col:Option Bool} {dd:Option Addr} {k0 k1 k2 k3 k5:Option Value} {B newId initId:String}
theorem q4E(F:ExcBaseFacts B newId initId bmB){mN:Str->Option Value}{x:Str}{np cpos pos cp:Pos}{j:Nat}{args:List Expr}{ea:Addr}{Q:Flow->Shared->Prop}
  (hbase:bm.contains (.type "BaseException")=true) (hh:A.handled=some (.ref ea)) (hplain:(backTo cpos (starEach args env)).any (·.1)=false) (hni:mN "__init__" = none)
  (h:wpAny (model prog w) A (eval (.Name x np) env) (λf s₁=>f=.ref C/\wpAny (model prog w) A (evalArgs (.ref C) true (backTo cpos (starEach args env)) [])
   (λa s₂=>a.kw=[]/\a.pos.length<=sizeLine/\s₂.heap.get? C=some (excClassObj nm q C N bs bm hdct sn sub ab col dd k0 k1 k2 k3 k5 newId)/\s₂.heap.Ns N mN/\OwnTail s₂.heap bmB bm/\(∃n,Cx2 s₂.heap n ea) /\
    ∀(h3:Heap) e t,s₂.heap.get? e=none->h3.get? e=some (q9K (.ref C) t ea)->(∀b o,s₂.heap.get? b=some o->h3.get? b=some o)->E (.ref e) {s₂ with heap:=h3}) E s₁) E s) :
  wpAny (model prog w) A (exec (.Raise (some (.Call (.Name x np) args [] cpos)) (some (.Constant .none j cp)) pos) env) Q E s:=by
 rw[arm_exec_Raise];refine wpAny_bind (wpAny_standAt ?_);refine q5a (C:=C) (nm:=nm) (q:=q) (N:=N) (bs:=bs) (bm:=bm) (hdct:=hdct) (sn:=sn) (sub:=sub) (ab:=ab) (col:=col) (dd:=dd) (k0:=k0) (k1:=k1) (k2:=k2) (k3:=k3) (k5:=k5) (newId:=newId) hbase hh (λQ' s' h'=>?_) ?_
 ·show wpAny _ _ (do let v ←eval (.Constant .none j cp) env;standAt pos;pure v) _ _ _;exact wpAny_bind (wpAny_pure (wpAny_bind (wpAny_standAt (wpAny_pure h'))))
 ·refine wpAny_bind (wpAny_mono (wpAny_Call_ofName (wpAny_mono h (λf s₁ h₁=>?_) λ_ _ x=>x)) (λv s₃ h₃=>wpAny_bind (wpAny_standAt (wpAny_pure h₃))) λ_ _ x=>x);obtain⟨rfl,h₁⟩:=h₁;unfold callWith;refine wpAny_bind (wpAny_holding (wpAny_mono h₁ (λa s₂ h₂=>wpAny_bind (wpAny_standAt ?_)) λ_ _ x=>x));obtain⟨apos,akw⟩:=a;obtain⟨hkw,hlen,hC,hn,T,⟨m,hcx⟩,h₂⟩:=h₂;obtain rfl:akw=[]:=hkw;obtain⟨hp,g,d,tk,os⟩:=s₂;simp only[hplain];refine wpAny_bind (wpAny_keeperOf_exc hC ?_);refine wpAny_bind (wpAny_call_exc_subT (hrest:=hlen) F T hC hn hni λh' e hm=>wpAny_bind (wpAny_holding (wpAny_point (wpAny_pure ?_))));obtain⟨t,ht,_,_⟩:=hm.there;obtain⟨oe,eo⟩:=hcx.there;have hne:ea≠e:=λz=>by rw[z,hm.new]at eo;cases eo
  refine⟨e,t,hp,m,rfl,hm.keeps _ _ hC,ht,hne,hm.new,hcx,.of_keeps hm.keeps,λh3 g1 g2=>h₂ h3 e t hm.new g1 λb o hb=>?_⟩;have hbe:b≠e:=λz=>by rw[z,hm.new]at hb;cases hb
  rw[g2 b hbe];exact hm.keeps b o hb
theorem q3w{base:Heap}{l:List Env}{e L:Addr}{cls a0 fl:Value}{Q:Unit->Shared->Prop}(f1:base.StaysIn s.heap)(f2:base.get? e=none)(f3:s.heap.FunFrames base l)(ht:s.heap.TracedAtW base e cls a0 fl)
  (hQ:∀h',Heap.HeldW base l e cls a0 L h'->s.heap.UpToSlots h'->Q () {s with heap:=h'}):wpAny (model prog w) A (setFlight (.ref e) (some L)) Q E s:=by
 obtain⟨oe,vs,T,oT,ts,he,hcls,hd,h1,hnT,hTe,hT,hdT,h3⟩:=ht;unfold setFlight;refine wpAny_bind (wpAny_field he hd h1 ?_);rw[if_pos (show(Value.ref T != Value.none)=true by simp)];have hsz:=(Array.getElem?_eq_some_iff.mp h3).1;refine wpAny_setField hT hdT hsz (hQ _ ?_ ?_)
 ·have other:∀b,b≠T->(s.heap.update T (Obj.mapFields (·.setIfInBounds 3 (rawInt L)))).get? b=s.heap.get? b:=λb hb=>Heap.get?_update_other _ _ (Ne.symm hb);have noRec:∀b o,s.heap.get? b=some o->(∀vs,o.data ≠ .fields vs)->b≠T:=λb o hb hnf q=>by
   rw[q,hT]at hb;injection hb with hb;subst hb;exact hnf ts hdT
  refine⟨λb o hbo=>(other b λq=>by rw[q,hnT]at hbo;cases hbo).trans (f1 b o hbo),f2,f3.of_keeps λb o hb hnf=>⟨o,(other b (noRec b o hb hnf)).trans hb,rfl⟩,?_⟩;refine⟨oe,vs,T,_,_,(other e (Ne.symm hTe)).trans he,hcls,hd,h1,hnT,hTe,Heap.get?_update_self _ hT (Obj.isFreed_of_fields (Obj.data_mapFields hdT _)),Obj.data_mapFields hdT _,?_⟩;show(ts.setIfInBounds 3 (rawInt L))[3]? = some (rawInt L);rw[Array.getElem?_setIfInBounds_self_of_lt hsz]
 ·intro b o hb hnf;have hbT:b≠T:=λq=>by rw[q,hT]at hb;injection hb with hb;subst hb;exact hnf ts hdT
  exact⟨o.slots,(Heap.get?_update_other _ _ (Ne.symm hbT)).trans hb⟩
theorem q4Z{base:Heap}{l:List Env}{e L:Addr}{cls a0 fl:Value}{Q:Unit->Shared->Prop}(f1:base.StaysIn s.heap)(f2:base.get? e=none)(f3:s.heap.FunFrames base l)(ht:s.heap.TracedAtW base e cls a0 fl)
  (hQ:∀h',Heap.HeldW base l e cls a0 L h'->s.heap.UpToSlots h'->Q () {s with heap:=h'}):wpAny (model prog w) A (do
   if(←field (.ref e) 1) == .none then unsupported "frame.own-activation:exception-without-traceback"
   setFlight (.ref e) (some L)) Q E s:=by
 have ht':=ht;obtain⟨oe,vs,T,oT,ts,he,hcls,hd,h1,hnT,hTe,hT,hdT,h3⟩:=ht;refine wpAny_bind (wpAny_field he hd h1 ?_);rw[if_neg (show ¬((Value.ref T==Value.none)=true) by simp)];exact q3w f1 f2 f3 ht' hQ
theorem z3y(x:Value)(fr:Option Addr):Kp2 (do
   if(←field x 1) == .none then unsupported "frame.own-activation:exception-without-traceback"
   setFlight x fr:Sem Unit):=by
 refine .bind (q3r x 1) λv=>?_;split
 ·exact .unsupported _
 ·exact q1z x fr
end
def q8b(X:Cx)(E:St->XK):Prop:=∀(pins:List (Addr×Obj)) (σ:St) (H:Hp) (s:Shared) (ea:Addr) (C a0:Value) (B:Heap),Inv X pins σ H s->Heap.HeldW B X.stack ea C a0 X.env.locals s.heap->(∀b o,X.base.get? b=some o->B.get? b=some o)->HOk X.prog X.w H B->Ctxd s.heap ea ->
 (∀b o,X.s₀.heap.get? b=some o->b∉frs X.stack->∃o',B.get? b=some o')->E σ C none H->X.xe (.ref ea) s
section
variable {P:Program} {w:World} {K:PySem.W.Frag} {mg:Str->Option Value} {base:Heap} {N:List Str} {qual:Str} {scope:Scope} {f:Addr} {cd:Value} {A:Around} {outer:List Env} {s:Shared} {H:Hp} {E:XK}
theorem q8a:q8b (cxD P w K mg base N qual scope f cd A outer s H E) λ_=>E:=by
 intro pins σ H1 s1 ea C a0 B I hh bas hok ctx cov hE;have lv:wpAny (model P w) (A.deeper (envOfC qual scope s.heap.objs.size f cd)) (leaving (envOfC qual scope s.heap.objs.size f cd) (.ref ea)) (λ_ s'=>∃h2,s' = {s1 with heap:=h2} /\ Heap.FlyingW B outer ea C a0 h2/\s1.heap.UpToSlots h2) (λ_ _=>False) s1:=by
  unfold leaving;refine wpAny_bind (wpAny_noteFrame_againW rfl hh.2.2.2 ?_);refine wpAny_landsW hh λh' hfl up=>⟨h',rfl,?_,up⟩
  obtain⟨k1,k2,⟨_,_,k3⟩,k4⟩:=hfl;exact⟨k1,k2,k3,k4⟩
 refine wpAny_mono ((q3J _ _).any lv) (λ_ s' ⟨⟨h2,e0,fl2,up⟩,st⟩=>?_) (λ_ _ q=>q.1.elim);subst e0;have hcov:∀b o,s.heap.get? b=some o->b∉frs outer->∃o',B.get? b=some o':=λb o e hb=>cov b o e (I.notStk e hb);exact⟨ea,C,H1,B,rfl,I.os,I.bare,I.base.flown (λb o e hb _=>hcov b o e hb) hh.1 fl2.1 up I.frameData,⟨⟨_,fl2⟩,bas,hok,ctx.st st⟩,hcov,hE⟩
end
theorem Inv.flown0{X:Cx}{pins:List (Addr×Obj)}{σ:St}{H:Hp}{s:Shared}{h':Heap}{t':Nat}{B:Heap}(I:Inv X pins σ H s)(hs:∀b o,B.get? b=some o->s.heap.get? b=some o)(hok:HOk X.prog X.w H B)(cov:∀b o,X.s₀.heap.get? b=some o->b∉frs X.stack->b∉X.ex->∃o',B.get? b=some o')
  (pc:∀p∈X.pn++pins,∃o',B.get? p.1=some o') (st:∀b o,B.get? b=some o->h'.get? b=some o) (up:s.heap.UpToSlots h'):Inv X pins σ H {s with heap:=h',toks:=t'}:=by
 have cellK:∀c v,s.heap.IsCell c v->h'.IsCell c v:=λc v ⟨o,ho,hd⟩=>by obtain⟨sl,q⟩:=up c o ho (λvs z=>by rw[hd]at z;cases z);exact⟨_,q,hd⟩
 refine⟨I.ok,I.os,I.bare,I.base.flown (λb o e hb hx=>cov b o e (I.notStk e hb) hx) hs st up I.frameData,?_,λx c e=>?_,I.free,I.freeC,λp hp=>?_,hok.kept st,I.len⟩
 ·obtain⟨m,hn,hl⟩:=I.loc;refine⟨m,up.ns hn,λi x v e1 e2 e3=>?_⟩;obtain⟨u,r,l⟩:=hl i x v e1 e2 e3;refine⟨u,r,?_⟩;rcases l with l | ⟨k,c,e,z⟩
  ·exact .inl l
  ·exact .inr ⟨k,c,e,cellK c _ z⟩
 ·obtain⟨v,z⟩:=I.cell x c e;exact⟨v,cellK c v z⟩
 ·obtain⟨e,n,ne,nf,d⟩:=I.pin p hp;obtain⟨o',q⟩:=pc p hp;have q1:=hs _ _ q;rw[e]at q1;cases q1;exact⟨st _ _ q,n,ne,nf,d⟩
def z8j(K:PySem.W.Frag)(cv:Value)(C':Addr)(E:St->XK)(tb:(St->Value->Hp->Prop)->TS):TS:=λD σ H=>
 tb (λσ' C H'=>∃b,PySem.W.exmOne K C cv=some b/\E σ' (if b then .ref C' else C) none H') D σ H
theorem z4u{X:Cx}{body:List Stmt}{c x:Str}{np np' cpos rpos hpos pos cp:Pos}{j j2:Nat}{msg:Str}{mp:Pos}{tb:(St->Value->Hp->Prop)->TS}{cv:Value}{C':Addr}{bmB:List Value}{B newId initId:String}{E:St->XK}
  (hst:X.stack=X.env::X.outer) (hfr:X.env.frame=some X.env.locals) (hex:X.ex=[]) (hgl:Gl X c) (hm:X.mg c=some cv)
  (FB:ExcBaseFacts B newId initId bmB) (hg':Gl X x) (hm':X.mg x=some (.ref C')) (hx:PySem.W.excIn X.K C' bmB newId=true) (hR:q8b X E)
  (hb:∀pins E,PSs (X.tryIn pins E) body (tb E)) (hd:(c==("__debug__" : Str))=false) (hd':(x==("__debug__" : Str))=false) :
  PS X (.Try body [.ExceptHandler (some (.Name c np)) none [.Raise (some (.Call (.Name x np') [.Constant (.str msg) j2 mp] [] cpos)) (some (.Constant .none j cp)) rpos] hpos] [] [] pos) (z8j X.K cv C' E tb):=by
 intro pins s σ H D I h;refine wpAny_Try_except ?_;have un:∀{σ1:St} {H1:Hp} {s1:Shared} {E:St->Value->Hp->Prop},Inv (X.tryIn pins E) [] σ1 H1 s1->Inv X pins σ1 H1 s1:=λ{σ1 H1 s1 E} J=>by have q:=J.untry;rw[List.append_nil]at q;exact q
 refine wpAny_mono (hb pins _ [] s σ H D (Inv.tryIn (pins':=[]) (by rw[List.append_nil];exact I)) h) (λf s1 q=>?_) (λe s1 q=>?_)
 ·cases f with
  | next=>obtain⟨σ1,H1,I1,q1⟩:=q;exact wpAny_execs_nil ⟨σ1,H1,un I1,q1⟩
  | brk=>obtain⟨σ1,H1,I1,q1⟩:=q;exact⟨σ1,H1,un I1,q1⟩
  | cont=>obtain⟨σ1,H1,I1,q1⟩:=q;exact⟨σ1,H1,un I1,q1⟩
  | ret u=>obtain⟨v,σ1,H1,I1,r1,q1⟩:=q;exact⟨v,σ1,H1,un I1,r1,q1⟩
 ·obtain⟨ea,C,σ1,H1,B0,rfl,I1,F,cov,pc,b,hE,hsuite⟩:=q;obtain⟨a0,fl⟩:=F.fly;have fl':Heap.FlyingW B0 (X.env::X.outer) ea C a0 s1.heap:=by rw[←hst];exact fl
  refine wpAny_mono ((q2x _ _).any (wpAny_looks_onW (Q:=λ_ s'=>∃h4,s' = {s1 with heap:=h4} /\ Heap.HeldW B0 (X.env::X.outer) ea C a0 X.env.locals h4/\s1.heap.UpToSlots h4) (E:=λ_ _=>False) (by rw[←hst];exact I1.ok.frames) hfr fl' λh4 held up4=>⟨h4,rfl,held,up4⟩)) (λ_ s' ⟨⟨h4,e4,held,up4⟩,st4⟩=>?_) (λ_ _ q=>q.1.elim);subst e4;refine wpAny_mono ((q1z _ _).any (wpAny_landsW (Q:=λ_ s'=>∃h5,s' = {s1 with heap:=h5} /\ Heap.FlyingW B0 (X.env::X.outer) ea C a0 h5/\h4.UpToSlots h5) (E:=λ_ _=>False) held λh5 fl5 up5=>⟨h5,rfl,fl5,up5⟩)) (λ_ s' ⟨⟨h5,e5,fl5,up5⟩,st5⟩=>?_) (λ_ _ q=>q.1.elim);subst e5;have up:=up4.trans up5;have I5:Inv X pins σ1 H1 {s1 with heap:=h5}:=I1.flown (t':=s1.toks) F cov pc fl5.1 up;have J5:Inv (X.inExc ea) pins σ1 H1 {s1 with heap:=h5}:=I5.inExc;obtain⟨oe,ws,hoe,hoec,hoed,hoe0⟩:=fl5.first
  refine wpAny_handleBy_cons (codeAny_handlers_test ?_) (by intro q;cases q);refine q3e J5 hgl hm ?_ hd;have LT:PySem.W.Looks (model X.prog X.w) h5 (typeOf (.ref ea)) C:=hoec▸(PySem.W.Looks.ld hoe).andThen .now;refine(PySem.W.exm_one (M:=model X.prog X.w) (K:=X.K) (h:=h5) J5.kIn LT hE).here ?_;cases b with
  | false=>
   show wpAny (model X.prog X.w) X.A (handleBy (.ref ea) X.env []) _ _ _;refine wpAny_handleBy_nil ?_;have tr:=fl5.2.2.2;obtain⟨oe',vs',T',oT',ts',he',hcls',hd',h1',_⟩:=tr;unfold PySem.passOn;refine wpAny_bind (wpAny_field he' hd' h1' ?_);rw[if_neg (show ¬((Value.ref T'==Value.none)=true) by simp),hfr];refine wpAny_bind (wpAny_mono ((q1z _ _).any (q3w (s:={s1 with heap:=h5}) (L:=X.env.locals) (Q:=λ_ s'=>∃h9,s' = {s1 with heap:=h9} /\ Heap.HeldW B0 (X.env::X.outer) ea C a0 X.env.locals h9/\h5.UpToSlots h9) (E:=λ_ _=>False) fl5.1 fl5.2.1 fl5.2.2.1 fl5.2.2.2.at λh9 hd9 up9=>⟨h9,rfl,hd9,up9⟩)) (λ_ s' ⟨⟨h9,e9,held9,up9⟩,st9⟩=>?_) (λ_ _ q=>q.1.elim));subst e9;have I9:Inv X pins σ1 H1 {s1 with heap:=h9}:=I1.flown (t':=s1.toks) F cov pc held9.1 (up.trans up9);have hxe:X.xe (.ref ea) {s1 with heap:=h9}:=hR pins σ1 H1 _ ea C a0 B0 I9 (by rw[hst];exact held9) F.bas F.hok (F.ctx.st ((st4.trans st5).trans st9)) (λb o e hb=>cov b o e hb (by rw[hex];intro z;exact nomatch z)) hsuite;exact λΓ p hΓ=>by rw[Sem.wp_throw];exact hxe
  | true=>
  show codeAny _ _ (.handlers (.ref ea) [.ExceptHandler none none [.Raise (some (.Call (.Name x np') [.Constant (.str msg) j2 mp] [] cpos)) (some (.Constant .none j cp)) rpos] hpos] X.env) _ _;refine codeAny_handlers_suite ?_;refine wpAny_mono ((q1z _ _).any (lands_againW (Q:=λ_ s'=>∃h6,s' = {s1 with heap:=h6} /\ Heap.FlyingW B0 (X.env::X.outer) ea C a0 h6/\h5.UpToSlots h6) (E:=λ_ _=>False) fl5 λh6 fl6 up6=>⟨h6,rfl,fl6,up6⟩)) (λ_ s' ⟨⟨h6,e6,fl6,up6⟩,st6⟩=>?_) (λ_ _ q=>q.1.elim);subst e6;have I6:Inv X pins σ1 H1 {s1 with heap:=h6}:=I1.flown (t':=s1.toks) F cov pc fl6.1 (up.trans up6);have J6:Inv (X.inExc ea) pins σ1 H1 {s1 with heap:=h6}:=I6.inExc;obtain⟨m,hcx⟩:=F.ctx;have hcx6:Cx2 h6 m ea:=hcx.st ((st4.trans st5).trans st6);refine wpAny_execs_cons ?_;obtain⟨tl,N,nm,q,bs,hdct,sn,sub,ab,col,dd,k0,k1,k2,k3,k5,mN,hC,hN,hni,T⟩:=(q7x I.mod.kin hm' hx).obj;refine q4E (C:=C') (nm:=nm) (q:=q) (N:=N) (bs:=bs) (bm:=tl) (hdct:=hdct) (sn:=sn) (sub:=sub) (ab:=ab) (col:=col) (dd:=dd) (k0:=k0) (k1:=k1) (k2:=k2) (k3:=k3) (k5:=k5)
   FB (mN:=mN) (T.hasType FB.hasBase) rfl rfl hni (q3e J6 hg' hm' ⟨rfl,?_⟩ hd')
  refine Calls.evalArgs_plain ?_;show wpAny _ _ (spliced ((false,eval (.Constant (.str msg) j2 mp) X.env)::backTo cpos (starEach [] X.env))) _ _ _;refine Calls.spliced_cons (Calls.Constant_str (Calls.spliced_nil ?_));refine⟨rfl,by show 1<=sizeLine;decide,I6.bk _ _ hC,hN.keeps I6.bk,T.keeps I6.bk,⟨m,hcx6⟩,λh3 e2 t hnew he3 keep=>?_⟩;have I7:Inv X pins σ1 H1 {s1 with heap:=h3,toks:=s1.toks+1}:=I6.kept (t':=s1.toks+1) keep;have J7:Inv (X.inExc ea) pins σ1 H1 {s1 with heap:=h3,toks:=s1.toks+1}:=I7.inExc;have hne:h6.get? e2=none:=hnew
  let B:=PySem.W.hideAll h6 (frs X.stack)
  have hB1:∀b o,B.get? b=some o->h6.get? b=some o:=λb o q=>PySem.W.of_hideAll _ q;have hBn:B.get? e2=none:=by
   cases z:B.get? e2 with
   | none=>rfl
   | some o=>have:=hB1 _ _ z;rw[hne]at this;cases this
  have hin:∀env∈X.stack,∀a,env.frame=some a->a∈frs X.stack:=λenv he b hb=>List.mem_filterMap.mpr ⟨env,he,hb⟩;have ff6:h6.FunFrames B X.stack:=PySem.W.funFrames_hide I6.stack hin
  have ff:h3.FunFrames B X.stack:=ff6.of_keeps λb o hb _=>⟨o,keep b o hb,rfl⟩;have hHid:∀b u,H1 b≠none->h6.get? b=some u->B.get? b=some u:=λb u hb q=>PySem.W.hideAll_get _ q λz=>hb (I6.stkFree b z);have hokB:HOk X.prog X.w H1 B:=λa o q=>by
   refine(I6.hok a o q).stay (λb u hc e=>hHid b u ?_ e) (λ_ z=>z) (λ_ _ z=>z) λ_ _ _ _ _ z=>z;rcases hc with z | z
   ·subst z;rw[q];intro z;cases z
   ·rw[z];intro z;cases z
  have basB:∀b o,X.base.get? b=some o->B.get? b=some o:=λb o e=>by refine PySem.W.hideAll_get _ (I6.bk b o e) λz=>?_;have q:X.base.get? b=none:=(I6.stack.mem z).1;rw[q]at e;cases e
  have covB:∀b o,X.s₀.heap.get? b=some o->b∉frs X.stack->b∉X.ex->∃o',B.get? b=some o':=λb o e hb hx=>by obtain⟨o1,e1⟩:=I6.base.there b o e hx;exact⟨o1,PySem.W.hideAll_get _ e1 hb⟩
  have pcB:∀p∈X.pn++pins,∃o',B.get? p.1=some o':=λp hp=>by obtain⟨e,n,ne,nf,d⟩:=I6.pin p hp;exact⟨_,PySem.W.hideAll_get _ e λz=>(List.mem_cons.mp (I6.stkSub _ z)).elim ne nf⟩
  have stB:∀b o,B.get? b=some o->h3.get? b=some o:=λb o q=>keep b o (hB1 b o q);have nt:wpAny (model X.prog X.w) (X.A.mark (some (.ref ea))) (noteFrame (.ref e2) X.env) (λ_ s'=>∃h8,s' = {s1 with heap:=h8,toks:=s1.toks+1} /\ Heap.NotedW B (X.env::X.outer) e2 (.ref C') (.ref t) (rawInt X.env.locals) h3 h8) (λ_ _=>False) {s1 with heap:=h3,toks:=s1.toks+1}:=by
   unfold noteFrame;simp only[hfr];refine wpAny_bind (wpAny_field (x:=.none) he3 rfl rfl ?_);rw[if_neg (by decide)];exact wpAny_entryW (by rw[←hst];exact J7.ok.frames) (by rw[←hst];exact ff) hfr he3 stB hBn rfl (show 1<6 by decide) rfl λh8 hN=>⟨h8,rfl,hN⟩
  show wpAny (model X.prog X.w) (X.A.mark (some (.ref ea))) (noteFrame (.ref e2) X.env) _ _ _;refine wpAny_mono ((q2x _ _).any nt) (λ_ s' ⟨⟨h8,e8,n1,n2,n3,n4⟩,st8⟩=>?_) (λ_ _ q=>q.1.elim);subst e8;have held8:Heap.HeldW B (X.env::X.outer) e2 (.ref C') (.ref t) X.env.locals h8:=⟨n1,hBn,n2,n3⟩;show cameBackBy (model X.prog X.w) X.A X.env X.xe (.ref e2) {s1 with heap:=h8,toks:=s1.toks+1};unfold cameBackBy;rw[hfr];refine wpAny_mono ((z3y _ _).any (q4Z (Q:=λ_ s'=>∃h9,s' = {s1 with heap:=h9,toks:=s1.toks+1} /\ Heap.HeldW B (X.env::X.outer) e2 (.ref C') (.ref t) X.env.locals h9/\h8.UpToSlots h9) (E:=λ_ _=>False) held8.1 held8.2.1 held8.2.2.1 held8.2.2.2 λh9 hd9 up9=>⟨h9,rfl,hd9,up9⟩)) (λ_ s' ⟨⟨h9,e9,held9,up9⟩,st9⟩=>?_) (λ_ _ q=>q.1.elim);subst e9;have up89:h3.UpToSlots h9:=Heap.UpToSlots.trans n4 up9;have I9:Inv X pins σ1 H1 {s1 with heap:=h9,toks:=s1.toks+1}:=I7.flown0 stB hokB covB pcB held9.1 up89;have c3:Cx2 h3 (m+1) e2:=⟨_,he3,.inr ⟨ea,rfl,hcx6.st (.of_keeps keep)⟩⟩;exact hR pins σ1 H1 _ e2 (.ref C') (.ref t) B I9 (by rw[hst];exact held9) basB hokB ⟨m+1,c3.st (st8.trans st9)⟩ (λb o e hb=>covB b o e hb (by rw[hex];intro z;exact nomatch z)) hsuite
end L2
end
noncomputable section
namespace L2
open PySem PySem.W PySem.Spec PySem.Calls PyProof.Rows PySem.Builtin PySem.Builtin.ObjectAttr PySem.Builtin.Getset_descriptor
def q6u(x D:Addr)(h:Heap):Prop:=∃o,h.get? x=some o/\o.cls=.ref D
section
variable {prog:Program} {w:World} {K:Frag} {x D:Addr} {M:Model} {h:Heap}
theorem q6u.ty(p:q6u x D h):Looks M h (typeOf (.ref x)) (.ref D):=by
 obtain⟨o,e,c⟩:=p;exact c▸(Looks.ld e).andThen .now
theorem q9Y{a g:Value}{n:Str}(X:K.In h)(h1:findIn K (.ref D) n=some (some a))(h2:specialIn K a "__get__" = some (some g))(h3:takesIn K a=some true):Looks M h (find (.ref x) (.ref D) n) (.bind g a):=by
 have T:Looks M h (dataDescriptor? (some a) (some g)) (some (g,a)):=(looks_takesIn X h3).andThen .now;exact(looks_findIn X h1).andThen ((show Looks M h (getOf (some a)) (some g)from looks_specialIn X h2).andThen (T.andThen (Looks.tag .now)))
structure ClsK(K:Frag)(D:Addr):Prop where
 ga:findIn K (.ref D) "__getattribute__" = some (some (.builtin "BaseException.__getattribute__"))
 gt:findIn K (.ref D) "__getattr__" = some none
 mb:mroIn K D (.type "BaseException")=some true
 hd:hasDictIn K D=true
 fc:findIn K (.ref D) "__class__" = some (some (.builtin "object.__class__"))
 sg:specialIn K (.builtin "object.__class__") "__get__" = some (some (.builtin "getset_descriptor.__get__"))
 tk:takesIn K (.builtin "object.__class__")=some true
 mo:mroIn K D (.type "object")=some true
variable {A:Around} {E:Value->Shared->Prop} {s:Shared}
theorem z4L{tp:Value}{R:Result->Shared->Prop}(X:K.In s.heap)(p:q6u x D s.heap)(hm:mroIn K D (.type "object")=some true)(q:R (.ok (.ret (.ref D))) s) :
  codeAny (model prog w) A (.call (.builtin "getset_descriptor.__get__") ⟨[.builtin "object.__class__",.ref x,tp],[]⟩) R s:=by
 obtain⟨h0,g0,d0,t0,o0⟩:=s;have T0:=p.ty (M:=model prog w);have T1:=looks_mroIn (M:=model prog w) X hm;refine codeAny_call_builtin KF.slot_gs.plain KF.entry_gs (KF.slot_gs.check _ _ _ _ _ _ _ _ KF.type_class (KF.args_gs _ _ _) ?_);unfold Builtin.«getset_descriptor.__get__»;unfold descrGet;rw[dga_obj];refine wpAny_bind (wpAny_pure ?_);unfold descrGetter;unfold descrCheckInstance;unfold descrNameAndClass;unfold isInstance;simp only[KF.owner_class]
 repeat lk
 refine⟨Code.quiet_builtin _ (by decide +kernel),codeAny_builtin KF.entry_class ?_⟩;unfold Builtin.«object.__class__»;unfold shownTypeOf
 repeat lk
 exact q
theorem z1l{nm:Value}{Q:Unit->Shared->Prop}(C:ClsK K D)(X:K.In s.heap)(p:q6u x D s.heap)(q:Q () s):wpAny (model prog w) A (checkBuiltinCall "BaseException.__getattribute__" ⟨[.ref x,nm],[]⟩) Q E s:=by
 obtain⟨h0,g0,d0,t0,o0⟩:=s;have k1:builtinKind "BaseException.__getattribute__" = some .slot:=by decide +kernel
 have k2:splitId "BaseException.__getattribute__" = some ("BaseException","__getattribute__"):=by decide +kernel
 have T0:=p.ty (M:=model prog w);have T1:=looks_mroIn (M:=model prog w) X C.mb;have ha:=F.args_bexc_ga (.ref x) nm;simp only[checkBuiltinCall,k1,k2];refine wpAny_bind ((show Looks (model prog w) _ (isInstance (.ref x) (.type "BaseException")) true from T0.andThen T1).at ?_)
 repeat (any_goals (first | assumption | wp_step))
theorem z0g{tk:Tok}{Q:Fin->Shared->Prop}(C:ClsK K D)(X:K.In s.heap)(p:q6u x D s.heap)(q:Q (.done (.ret (.ref D))) s):wpAny (model prog w) A (Builtin.«object.__getattribute__» ⟨[.ref x,.str "__class__" tk],[]⟩) Q E s:=by
 obtain⟨h0,g0,d0,t0,o0⟩:=s;have T0:=p.ty (M:=model prog w);have T3:=q9Y (M:=model prog w) (x:=x) X C.fc C.sg C.tk;unfold Builtin.«object.__getattribute__»
 repeat (any_goals (first | assumption | with_reducible refine T0.at ?_ | with_reducible refine T3.at ?_ | wp_step))
 refine z4L X p C.mo ?_
 repeat (any_goals (first | assumption | wp_step))
theorem z1S{Q:Option Value->Shared->Prop}(C:ClsK K D)(X:K.In s.heap)(p:q6u x D s.heap)(q:Q (some (.ref D)) {s with toks:=s.toks+1}):wpAny (model prog w) A (getAttr? (.ref x) "__class__") Q E s:=by
 obtain⟨h0,g0,d0,t0,o0⟩:=s;have T0:=p.ty (M:=model prog w);have T1:=looks_findIn (M:=model prog w) X C.ga;have T2:=looks_findIn (M:=model prog w) X C.gt;have f3:=F.attr_ValueError.ga.bind (.ref x);unfold getAttr?;unfold getAttrBy?;unfold getAttrBy;refine wpAny_bind (wpAny_mkText (wpAny_bind (wpAny_attempt (wpAny_holding (wpAny_bind (T0.at (wpAny_bind (T1.at ?_))))))));dsimp only;have ne:(onTheHeap (Value.ref D)&&Value.builtin "BaseException.__getattribute__" == Value.builtin "object.__getattribute__")=false:=(by rw[show(Value.builtin "BaseException.__getattribute__" == Value.builtin "object.__getattribute__")=false by decide +kernel,Bool.and_false]);rw[if_neg (by rw[ne];exact Bool.false_ne_true)];unfold getAttrByItsOwn;unfold hookBefore;rw[if_pos (show onTheHeap (Value.ref D)=true from rfl)];refine wpAny_bind (T2.at ?_);refine wpAny_bind (wpAny_attempt (wpAny_holding ?_));unfold callGetattribute;rw[if_neg (by decide)]
 repeat (any_goals (first | assumption | wp_step))
 refine codeAny_call_builtin F.attr_ValueError.ga.plain F.entry_bexc_ga (z1l C X p (z0g C X p ?_));exact handed_on rfl (wpAny_pure q)
theorem z4X(C:ClsK K D):KitX K (.ref x) (.ref D) (q6u x D) where
 ty:=λ_ _ _ p=>p.ty
 it:=λM h X _=>by
  obtain⟨cd,e,_⟩:=any_some C.hd;unfold clsIn at e;split at e
  ·rename_i ho;intro A1 Q1 E1 s1 k1 q1;unfold isType;unfold loadHead;exact wpAny_bind (wpAny_loadPart (k1 _ _ (X _ _ ho)) (wpAny_pure q1))
  ·cases e
 ne:=λh tp dd its n sl X e2=>by
  obtain⟨cd,e,_⟩:=any_some C.hd;rw[Bool.eq_false_iff];intro z;have e1:D=tp:=Value.ref.inj (beq_iff_eq.mp z);subst e1;unfold clsIn at e;split at e
  ·rename_i ho;cases(X _ _ ho).symm.trans e2
  ·cases e
 ca:=λX p k=>z1S C X p k
theorem z4f{c:Value}{b:Bool}{Q:Value->Shared->Prop}(C:ClsK K D)(X:K.In s.heap)(p:q6u x D s.heap)(e:kitOne K (.ref D) c=some b)(q:∀tk,Q (.bool b) {s with toks:=tk}):wpAny (model prog w) A (call (.builtin "isinstance") [.ref x,c]) Q E s:=
 kia_one (z4X C) X p e (λz=>nomatch z) q
end
end L2
end
noncomputable section
namespace L2
open PySem PySem.Spec PyProof.Rows
structure Src(P:Program)(w:World)(ia la:Addr)(vs:Array Value)(S:Nat->Heap->Prop):Prop where
 keep:∀k h h',S k h->(∀o,h.get? ia=some o->h'.get? ia=some o)->(∀o,h.get? la=some o->h'.get? la=some o)->S k h'
 there:∀k h,S k h->∃o xs,h.get? ia=some o/\o.data=.fields xs
 step:∀{A:Around} {E:Value->Shared->Prop} {s:Shared} {Q:Value->Shared->Prop} (k:Nat) (x:Value),S k s.heap->vs[k]? = some x->(∀h',S (k+1) h'->Heap.SameBut ia s.heap h'->Q x {s with heap:=h'}) ->
  wpAny (model P w) A (Builtin.SmallTypes.nextOf (.ref ia)) Q E s
 stop:∀{A:Around} {E:Value->Shared->Prop} {s:Shared} {Q:Value->Shared->Prop} (k:Nat),A.handled=none->S k s.heap->vs[k]? = none ->
  (∀h' e,Heap.ExtBut ia s.heap h'->(∃o,h'.get? e=some o/\o.cls=.type "StopIteration")->E (.ref e) {s with heap:=h'})->wpAny (model P w) A (Builtin.SmallTypes.nextOf (.ref ia)) Q E s
section
variable {P:Program} {w:World} {A:Around} {E:Value->Shared->Prop} {s:Shared}
variable {Z U W a b l1 l2:Addr} {k:Nat} {vs1 vs2:Array Value} {S1 S2:Nat->Heap->Prop} {x y c d:Value}
end
end L2
end
noncomputable section
namespace L2
open PySem
inductive DKey where
 | i (n:Int) | s (x:Str) | t (l:List (Sum Int Str))
 deriving DecidableEq
inductive Bi where
 | len | int | list | tuple
 deriving DecidableEq
inductive Mt where
 | bitLength | index | get
 deriving DecidableEq
inductive Tg where
 | one (i:Nat) | many (is:List Nat)
inductive ME where
 | var (i:Nat) | int (i:Int) | bl (b:Bool) | str (x:Str) | non | glb (x:Str)
 | bin (op:Operator) (a b:ME) | neg (a:ME)  | not (a:ME)
 | cmp (op:CmpOp) (a b:ME) | chain (op op':CmpOp) (a b c:ME)
 | and (es:List ME) | or (es:List ME)
 | lst (es:List ME) | tup (es:List ME)
 | ix (a b:ME) | sl (a lo hi:ME)
 | call (f:Nat) (es:List ME)    | bi (f:Bi) (es:List ME) | isi (a:ME) (ts:List Str) | isx (a:ME) (t:Str)
 | comp (elt:ME) (tg:Tg) (it:ME) (fr:List (Option Nat)) | scat (a b:ME) | stf (a lo:ME) | stt (a hi:ME) | stm (a lo hi:ME)
 | fld (i:Nat) (b:Bool) | mth (i m:Nat)
 | fmt (a:ME) | fst (es:List ME)
 | fnd (a b:ME)
 | rng (es:List ME)
structure LamD where
 N:List Str
 np:Nat
 body:ME
 fn:List Str
 bl:List Str
 cl:List Str
inductive DV where
 | non | bl (b:Bool) | int (i:Int) | str (x:Str) | tup (ds:List DV) | lst (ds:List DV) | dct (ks:List DKey) (vs:List DV)
 | exc (c:Str) | fn (x:Str)
 | lam (m:LamD) (ds:List DV)
 | scr (ns:List Int)
inductive Cl where
 | weak | top | strong | fresh | ft
 deriving DecidableEq
inductive Re where
 | ok (d:DV) (c:Cl) | ex (c:Str)
inductive Rs where
 | ok (l:List (DV×Cl)) | ex (c:Str)
inductive Rt where
 | ok (b:Bool) | ex (c:Str)
inductive Sv where
 | no | val (d:DV) | own (d:DV) | ot (d:DV)
 | o2 (d:DV)
 | od (d:DV)
def otD:DV->DV
 | .dct _ ds=>.tup ds
 | d=>d
inductive Ou where
 | v (d:DV) (fr:Bool) | x (c:Str) | t (d:DV)
inductive Out where
 | nx (δ:List Sv) | rt (d:DV) (fr:Bool) | ex (c:Str) (δ:List Sv) | rtt (d:DV)
 | rtm (d s:DV)
inductive MS where
  | set (i:Nat) (own:Bool) (e:ME)
  | app (i:Nat) (e:ME)
   | ret (e:ME)  | iff (c:ME) (a b:List MS) | fo (tg:Tg) (it:ME) (body:List MS) | wh (c:ME) (body:List MS)
  | fau (i:Nat) (e:ME) | msx (i m:Nat) (es:List ME) | mst (j i m:Nat) (es:List ME) | rtm (i:Nat) (e:ME) | rtd (i m:Nat) (x:Str) | mkr (i:Nat) (e:ME) | rdp (j i:Nat)
  | rse (c:Str) (e:ME) | tryc (body:List MS) (c:Str) (ie ic:Nat) | tryr (body:List MS) (c cr msg:Str)
  | frz (i:Nat)
structure FD where
 n:Nat
 np:Nat
 dfl:List DV:=[]
 kn:Option (List Str):=none
 body:List MS
def Re.thn(r:Option Re)(k:DV->Cl->Option Re):Option Re:=match r with
 | none=>none
 | some (.ex c)=>some (.ex c)
 | some (.ok d c)=>k d c
def Rs.thn(r:Option Rs)(k:List (DV×Cl)->Option Re):Option Re:=match r with
 | none=>none
 | some (.ex c)=>some (.ex c)
 | some (.ok l)=>k l
def Re.thnT(r:Option Re)(k:DV->Cl->Option Rt):Option Rt:=match r with
 | none=>none
 | some (.ex c)=>some (.ex c)
 | some (.ok d c)=>k d c
mutual
def DV.immut:DV->Bool
 | .non=>true | .bl _=>true | .int _=>true | .str _=>true | .exc _=>true | .fn _=>true | .scr _=>true
 | .tup ds=>DV.immuts ds
 | .lst _=>false
 | .lam _ _=>false
 | .dct _ vs=>DV.immuts vs
def DV.immuts:List DV->Bool
 | []=>true
 | d::r=>d.immut&&DV.immuts r
end
mutual
def DV.nolam:DV->Bool
 | .lam _ _=>false
 | .tup ds=>DV.nolams ds
 | .lst ds=>DV.nolams ds
 | .dct _ vs=>DV.nolams vs
 | _=>true
def DV.nolams:List DV->Bool
 | []=>true
 | d::r=>d.nolam&&DV.nolams r
end
def stro(d:DV):Cl->Bool
 | .strong=>true | .fresh=>true | .ft=>true | _=>d.immut
def stros(l:List (DV×Cl)):Bool:=l.all λp=>stro p.1 p.2
def Cl.item:Cl->Cl
 | .weak=>.weak | _=>.strong
def Cl.anew:Cl->Cl->Cl
 | .weak,_=>.weak | _,.weak=>.weak | _,_=>.fresh
def Cl.notF:Cl->Cl
 | .fresh=>.strong | c=>c
def mostLen:Nat:=1000000
mutual
def deq:DV->DV->Bool
 | .non,.non=>true
 | .bl a,.bl b=>a==b
 | .bl a,.int j=>(if a then 1 else 0)==j
 | .int i,.bl b=>i==(if b then 1 else 0)
 | .int i,.int j=>i==j
 | .str a,.str b=>decide (a=b)
 | .tup a,.tup b=>deqs a b
 | .lst a,.lst b=>deqs a b
 | _,_=>false
def deqs:List DV->List DV->Bool
 | [],[]=>true
 | a::r,b::s=>deq a b&&deqs r s
 | _,_=>false
end
mutual
def DV.plain:Nat->DV->Bool
 | _,.non=>true | _,.bl _=>true | _,.int _=>true
 | _,.str x=>x.cps.all (· < 0x110000)
 | 0,_=>false
 | n+1,.tup ds=>DV.plains n ds | n+1,.lst ds=>DV.plains n ds
 | _,_=>false
def DV.plains:Nat->List DV->Bool
 | _,[]=>true
 | n,d::r=>d.plain n&&DV.plains n r
end
def q2h:DV->Option Bool
 | .non=>some false
 | .bl b=>some b
 | .int i=>some (i != 0)
 | .str x=>some (x.cps.size != 0)
 | .tup ds=>some (!ds.isEmpty)
 | .lst ds=>some (!ds.isEmpty)
 | _=>none
def q3G(n:Nat)(i:Int):Option Nat:=if 0<=i then(if i<n then some i.toNat else none)else if -(n:Int)<=i then some (i+n).toNat else none
def atD(ds:List DV)(i:Int):Option DV:=(q3G ds.length i).bind λj=>ds[j]?
def ixD(a b:DV):Option DV:=match a,b with
 | .scr ns,.int i=>((q3G ns.length i).bind λj=>ns[j]?).map DV.int
 | .lst ds,.int i=>atD ds i
 | .tup ds,.int i=>atD ds i
 | .str z,.int i=>(q3G z.cps.size i).bind λj=>(z.cps[j]?).map λc=>.str ⟨#[c]⟩
 | _,_=>none
def slIx(n d:Nat):Option Int->Nat
 | none=>d
 | some v=>if v<0 then(v+(n:Int)).toNat else min v.toNat n
def cutD(ds:List DV)(lo hi:Option Int):List DV:=(ds.drop (slIx ds.length 0 lo)).take (slIx ds.length ds.length hi - slIx ds.length 0 lo)
def slD(a:DV)(lo hi:Option Int):Option DV:=match a with
 | .scr ns=>some (.lst (cutD (ns.map DV.int) lo hi))
 | .lst ds=>some (.lst (cutD ds lo hi))
 | .tup ds=>if slIx ds.length 0 lo=0/\slIx ds.length ds.length hi=ds.length then none else some (.tup (cutD ds lo hi))
 | _=>none
def slCl(a:DV)(c:Cl):Cl:=match a with
 | .scr _=>.fresh
 | .lst _=>Cl.anew c c
 | _=>c.item
def q5N(i j:Int):Bool:=(decide (-(2^64)<i)&&decide (i<2^64))||(decide (-(2^64)<j)&&decide (j<2^64))||(decide (i.natAbs<2^2000)&&decide (j.natAbs<2^2000))
def binD(op:Operator)(a b:DV)(ca cb:Cl):Option Re:=match op,a,b with
 | .Add,.int i,.int j=>some (.ok (.int (i+j)) .strong)
 | .Sub,.int i,.int j=>some (.ok (.int (i - j)) .strong)
 | .Mult,.int i,.int j=>if q5N i j then some (.ok (.int (i*j)) .strong)else none
 | .Mod,.int i,.int j=>if 0<j then some (.ok (.int (i%j)) .strong)else if j≠0 then some (.ok (.int (i.fmod j)) .strong)else none
 | .FloorDiv,.int i,.int j=>if 0<j/\j<2^200 then some (.ok (.int (i/j)) .strong)else none
 | .LShift,.int i,.int j=>if 0<=j/\j<=1000000/\i.natAbs<2^64 then some (.ok (.int (i*2^j.toNat)) .strong)else none
 | .BitOr,.int i,.int j=>some (.ok (.int (Builtin.bitOr i j)) .strong)
 | .Add,.lst x,.lst y=>if x.length+y.length<=mostLen then some (.ok (.lst (x++y)) (Cl.anew ca cb))else none
 | .Add,.tup x,.tup y=>if x.length+y.length<=mostLen/\x≠[]then some (.ok (.tup (x++y)) (Cl.anew ca cb).notF)else none
 | .Mult,.lst x,.int k=>if x.length*k.toNat<=mostLen /\ -(2^63)<=k/\k<2^63 then some (.ok (.lst (List.replicate k.toNat x).flatten) (Cl.anew ca ca))else none
 | _,_,_=>none
def isN:DV->Bool
 | .non=>true
 | _=>false
def inS(x y:Str):Option Bool:=match y.cps.toList with
 | [c]=>some (decide (c∈x.cps.toList))
 | _=>none
def q3x(c:Nat)(l:List Nat):Int:=if l.idxOf c<l.length then(l.idxOf c:Nat)else -1
def strB:DV->Bool
 | .str _=>true
 | _=>false
def fndD(x y:DV):Option DV:=match x,y with
 | .str x,.str y=>(match y.cps.toList with | [c]=>some (.int (q3x c x.cps.toList)) | _=>none)
 | _,_=>none
def cutS(z:Str)(i j:Nat):Str:=⟨((z.cps.toList.drop i).take (j - i)).toArray⟩
def stfD(x y:DV):Option DV:=match x,y with
 | .str z,.int i=>if 0<=i/\i<=(z.length:Int)then some (.str (cutS z i.toNat z.length))else none
 | _,_=>none
def sttD(x y:DV):Option DV:=match x,y with
 | .str z,.int i=>if 0<=i/\i<=(z.length:Int)then some (.str (cutS z 0 i.toNat))else none
 | _,_=>none
def q1l(n:Nat)(v:Int):Int:=max 0 (min (if v<0 then v+n else v) n)
def stmD(x y w:DV):Option DV:=match x,y,w with
 | .str z,.int i,.int v=>if 0<=i/\i<=q1l z.length v then some (.str (cutS z i.toNat (q1l z.length v).toNat))else none
 | _,_,_=>none
def catS(x y:DV):Option DV:=match x,y with
 | .str i,.str j=>if i.length+j.length<=mostLen then some (.str (i++j))else none
 | _,_=>none
def cmpD(op:CmpOp)(a b:DV):Option Bool:=match op,a,b with
 | .Lt,.int i,.int j=>some (decide (i<j))
 | .LtE,.int i,.int j=>some (decide (i<=j))
 | .Gt,.int i,.int j=>some (decide (j<i))
 | .Eq,a,b=>if a.plain 60&&b.plain 60 then some (deq a b)else none
 | .NotEq,a,b=>if a.plain 60&&b.plain 60 then some (!deq a b)else none
 | .Is,a,.non=>some (isN a)
 | .IsNot,a,.non=>some (!isN a)
 | .In,a,.lst ds=>if a.plain 60&&DV.plains 60 ds then some (ds.any λd=>deq d a)else none
 | .NotIn,a,.lst ds=>if a.plain 60&&DV.plains 60 ds then some (!ds.any λd=>deq d a)else none
 | .In,a,.tup ds=>if a.plain 60&&DV.plains 60 ds then some (ds.any λd=>deq d a)else none
 | .NotIn,a,.tup ds=>if a.plain 60&&DV.plains 60 ds then some (!ds.any λd=>deq d a)else none
 | .In,.str y,.str x=>inS x y
 | .NotIn,.str y,.str x=>(inS x y).map λb=>!b
 | _,_,_=>none
def dk(σ:List Int)(k:Int):List Int:=if k∈σ then σ else σ++[k]
def lenD:List (DV×Cl)->Option Re
 | [(.lst ds,_)]=>some (.ok (.int ds.length) .strong)
 | [(.tup ds,_)]=>some (.ok (.int ds.length) .strong)
 | [(.scr ns,_)]=>some (.ok (.int ns.length) .strong)
 | [(.str z,_)]=>some (.ok (.int z.length) .strong)
 | _=>none
def ltT(p q:Int×Int×Int):Bool:=decide (p.1<q.1)||(p.1==q.1&&(decide (p.2.1<q.2.1)||(p.2.1==q.2.1&&decide (p.2.2<q.2.2))))
def q7o:List (Int×Int×Int)->Bool
 | []=>true
 | p::r=>match r with
  | []=>true
  | q::_=>ltT p q&&q7o r
def dnum(x:Str):Option Int:=match x.cps.toList with
 | [a]=>if 48<=a/\a<=57 then some ((a - 48:Nat):Int)else none
 | [a,b]=>if 48<=a/\a<=57/\48<=b/\b<=57 then some (((a - 48)*10+(b - 48):Nat):Int)else none
 | _=>none
def intD:List (DV×Cl)->Option Re
 | [(.int i,_)]=>some (.ok (.int i) .strong)
 | [(.bl b,_)]=>some (.ok (.int (if b then 1 else 0)) .strong)
 | [(.str x,_)]=>(dnum x).map λn=>.ok (.int n) .strong
 | _=>none
def q9C:List (DV×Cl)->Option Re
 | [(.scr ns,_)]=>some (.ok (.lst (ns.map DV.int)) .fresh)
 | [(.lst ds,c)]=>some (.ok (.lst ds) (Cl.anew c c))
 | [(.tup ds,c)]=>some (.ok (.lst ds) (Cl.anew c c))
 | _=>none
def q6H:List (DV×Cl)->Option Re
 | [(.lst ds,c)]=>some (.ok (.tup ds) c.item)
 | [(.tup ds,c)]=>some (.ok (.tup ds) c)
 | _=>none
def biD(f:Bi)(l:List (DV×Cl)):Option Re:=match f with
 | .len=>lenD l
 | .int=>intD l
 | .list=>q9C l
 | .tuple=>q6H l
def biOk:Bi->Bool
 | .len=>true | .int=>true | .list=>true | .tuple=>true
structure Gs where
 dcs:List (Str×List (Str×Option DV)):=[]
 con:List (Str×DV)
 cls:List (Str×List Str)
 dfl:List (Nat×List DV):=[]
 kws:List (Nat×List Str):=[]
 hun:Bool:=false
 fnl:List Str:=[]
 bll:List Str:=[]
 cll:List Str:=[]
 rdc:Int:=-1
 mtx:Bool:=false
 prs:Nat->List DV->Option Ou:=λ_ _=>none
def q1b(G:Gs)(c c':Str):Bool:=c==c'||((G.cls.lookup c).getD []).contains c'
def fmtD:DV->Option Str
 | .int i=>if i.natAbs<2^64 then some (Str.ofString (toString i))else none
 | .str x=>some x
 | _=>none
def fstG(acc:Str):List (DV×Cl)->Option Str
 | []=>some acc
 | (.str x,_)::r=>if acc.length+x.length<=mostLen then fstG (acc++x) r else none
 | _=>none
def isxD(G:Gs)(d:DV)(t:Str):Option Bool:=match d with
 | .exc c=>if(G.cls.lookup c).isSome then some (q1b G c t)else none
 | _=>none
def tyOf:DV->List Str
 | .non=>["NoneType"]
 | .bl _=>["bool","int"]
 | .int _=>["int"]
 | .str _=>["str"]
 | .tup _=>["tuple"]
 | .lst _=>["list"]
 | .dct _ _=>["dict"]
 | _=>[]
def q2C:List Str:=["int","bool","str","list","tuple","dict"]
def isiD(G:Gs)(d:DV)(ts:List Str):Option Bool:=match d with
 | .scr _=>none
 | .exc _=>none
 | .fn _=>none
 | .lam _ _=>none
 | d=>match ts with
  | [t]=>if q2C.contains t then some ((tyOf d).contains t)else none
  | _=>none
def upTo(lo:Int)(n:Nat):List DV:=(List.range n).map λ(i:Nat)=>DV.int (lo+i)
def q3L(i:Int):Bool:=decide (-(2^62)<=i)&&decide (i<2^62)
def rngD(l:List (DV×Cl)):Option (List DV):=match l with
 | [(.int j,_)]=>if q3L j&&decide (j<=mostLen)then some (upTo 0 j.toNat)else none
 | _=>none
def seqD:DV->Option (List DV)
 | .scr ns=>some (ns.map DV.int)
 | .lst ds=>some ds
 | .tup ds=>some ds
 | .str x=>some (x.cps.toList.map λc=>.str ⟨#[c]⟩)
 | _=>none
def q5m(δ:List Sv):List Nat->List DV->Option (List Sv)
 | [],[]=>some δ
 | i::is,d::ds=>q5m (δ.set i (.val d)) is ds
 | _,_=>none
def Tg.bind(tg:Tg)(d:DV)(δ:List Sv):Option (List Sv):=match tg with
 | .one i=>some (δ.set i (.val d))
 | .many is=>match d with
  | .tup ds=>q5m δ is ds
  | _=>none
def Sv.plain:Sv->Sv
 | .ot _=>.no
 | .o2 _=>.no
 | s=>s
def q1U(fr:List (Option Nat))(δ:List Sv):List Sv:=fr.map λo=>match o with
 | some i=>(δ.getD i .no).plain
 | none=>.no
inductive Rc where
 | skip | item (d:DV)
def q3Z(g:DV->Option Rc):List DV->Option (List DV)
 | []=>some []
 | d::r=>match g d with
  | none=>none
  | some .skip=>q3Z g r
  | some (.item x)=>match q3Z g r with
   | none=>none
   | some xs=>some (x::xs)
def q5y(r:Option (List DV)):Option Re:=match r with
 | none=>none
 | some xs=>some (.ok (.lst xs) .fresh)
def Rc.of(r:Option Re):Option Rc:=match r with
 | some (.ok d c)=>if stro d c then some (.item d)else none
 | _=>none
inductive Ri where
 | ok (ds:List DV) (c:Cl) | ex (c:Str)
def Ri.thn(r:Option Ri)(k:List DV->Cl->Option Re):Option Re:=match r with
 | none=>none
 | some (.ex c)=>some (.ex c)
 | some (.ok ds c)=>k ds c
def Re.thnI(r:Option Re)(k:DV->Cl->Option Ri):Option Ri:=match r with
 | none=>none
 | some (.ex c)=>some (.ex c)
 | some (.ok d c)=>k d c
def z3G(d:DV)(c:Cl):Option Ri:=(seqD d).map λds=>.ok ds c
def imL:DV->Bool
 | .lst ds=>DV.immuts ds
 | _=>false
def q3s(F:Nat->List DV->Option Ou)(f:Nat)(l:List (DV×Cl)):Option Re:=match F f (l.map (·.1))with
 | none=>none
 | some (.x c)=>some (.ex c)
 | some (.t (.dct _ ds))=>some (.ok (.tup ds) .strong)
 | some (.t d)=>some (.ok d (if l.all λp=>p.2 == .strong||p.2 == .fresh then(match d with | .lst _=>.fresh | _=>.ft)else .weak))
 | some (.v d fr)=>some (.ok d (if l.all λp=>p.2 == .strong||p.2 == .fresh then(if fr then .fresh else .strong)else if fr&&imL d then .fresh else .weak))
def q6B:Nat:=1001
def stmG(x l:DV)(r:Option Re):Option Re:=match l,r with
 | .int i,some (.ok h _)=>(stmD x (.int i) h).map λd=>.ok d .strong
 | _,_=>none
def rdD(C a dx:Nat)(t:Str)(k:Int):DV:=.tup [.int C,.int a,.int dx,.str t,.int k]
def fldD(G:Gs)(b:Bool):DV->Option DV
 | .tup [.int c,_,_,.str t,.int k]=>if c=G.rdc/\0<=c then some (if b then .int k else .str t)else none
 | _=>none
def iI:DV->Option Int | .int i=>some i | _=>none
def sS:DV->Option Str | .str i=>some i | _=>none
def rd5:List DV->Option (DV×DV×DV×DV×DV) | [a,b,c,d,e]=>some (a,b,c,d,e) | _=>none
def tT:DV->Option (List DV) | .tup l=>some l | _=>none
def rdK(d:DV):Option (Int×Int×Int×Str×Int):=(tT d).bind λl=>(rd5 l).bind λq=>(iI q.1).bind λc=>(iI q.2.1).bind λa=>(iI q.2.2.1).bind λx=>(sS q.2.2.2.1).bind λt=>(iI q.2.2.2.2).bind λk=>some (c,a,x,t,k)
def rdB(G:Gs)(s:DV):Bool:=match rdK s with
 | some q=>decide (q.1=G.rdc)&&decide (0<=q.2.1)&&decide (0<=q.2.2.1)&&decide (0<=q.1)
 | none=>false
def eqRd(s s':DV):Bool:=match rdK s with
 | some q=>decide (rdK s'=some q)
 | none=>false
def q4D(s s':DV):Bool:=match rdK s with
 | some q=>(match rdK s' with
  | some q'=>decide (q.1=q'.1)&&decide (q.2.1=q'.2.1)&&decide (q.2.2.1=q'.2.2.1)&&decide (q.2.2.2.1=q'.2.2.2.1)
  | none=>false)
 | none=>false
inductive Rm where
 | ok (d s:DV) | ex (c:Str)
def Rm.of(o:Option Ou):Option Rm:=match o with
 | some (.v (.tup [r,s]) _)=>some (.ok r s)
 | some (.x c)=>some (.ex c)
 | _=>none
def andD(x:DV)(c:Cl)(r:Option Re):Option Re:=match q2h x with
 | none=>none
 | some true=>r
 | some false=>some (.ok x c)
def orD(x:DV)(c:Cl)(r:Option Re):Option Re:=match q2h x with
 | none=>none
 | some true=>some (.ok x c)
 | some false=>r
def tstD(r:Option Re):Option Rt:=Re.thnT r λx _=>(q2h x).map Rt.ok
def q2R(r:Option Re):Option Ri:=Re.thnI r λx c=>z3G x c
mutual
def evE(G:Gs)(F:Nat->List DV->Option Ou):ME->List Sv->Option Re
 | .var i,δ=>match δ[i]? with
  | some (.val d)=>some (.ok d .strong)
  | some (.own d)=>some (.ok d .top)
  | some (.ot d)=>some (.ok (otD d) .weak)
  | some (.o2 d)=>some (.ok d .weak)
  | _=>none
 | .int i,_=>some (.ok (.int i) .strong)
 | .bl i,_=>some (.ok (.bl i) .strong)
 | .str i,_=>some (.ok (.str i) .strong)
 | .non,_=>some (.ok .non .strong)
 | .glb x,_=>(G.con.lookup x).map λd=>.ok d .strong
 | .bin op a b,δ=>Re.thn (evE G F a δ) λx cx=>Re.thn (evE G F b δ) λy cy=>binD op x y cx cy
 | .neg a,δ=>Re.thn (evE G F a δ) λx _=>match x with | .int i=>some (.ok (.int (-i)) .strong) | _=>none
 | .not a,δ=>Re.thn (evE G F a δ) λx _=>(q2h x).map λk=>.ok (.bl (!k)) .strong
 | .cmp op a b,δ=>Re.thn (evE G F a δ) λx _=>Re.thn (evE G F b δ) λy _=>(cmpD op x y).map λk=>.ok (.bl k) .strong
 | .chain op op' a b c,δ=>Re.thn (evE G F a δ) λx _=>Re.thn (evE G F b δ) λy _=>match cmpD op x y with
  | none=>none
  | some false=>some (.ok (.bl false) .strong)
  | some true=>Re.thn (evE G F c δ) λz _=>(cmpD op' y z).map λk=>.ok (.bl k) .strong
 | .and es,δ=>q2v G F es δ
 | .or es,δ=>evOr G F es δ
 | .lst es,δ=>Rs.thn (evEs G F es δ) λl=>if l.length<=mostLen then some (.ok (.lst (l.map (·.1))) (if stros l then .fresh else .weak))else none
 | .tup es,δ=>Rs.thn (evEs G F es δ) λl=>if l.length<=mostLen then some (.ok (.tup (l.map (·.1))) (if stros l then .strong else .weak))else none
 | .ix a b,δ=>Re.thn (evE G F a δ) λx cx=>Re.thn (evE G F b δ) λy _=>(ixD x y).map λd=>.ok d cx.item
 | .sl a lo hi,δ=>Re.thn (evE G F a δ) λx cx=>Re.thn (evE G F lo δ) λl _=>match l with
  | .int l=>Re.thn (evE G F hi δ) λh _=>(match h with
   | .int h=>(slD x (some l) (some h)).map λd=>.ok d (slCl x cx)
   | _=>none)
  | _=>none
 | .call f es,δ=>Rs.thn (evEs G F es δ) λl=>q3s F f l
 | .bi f es,δ=>if biOk f then Rs.thn (evEs G F es δ) λl=>biD f l else none
 | .isi a ts,δ=>Re.thn (evE G F a δ) λx _=>(isiD G x ts).map λk=>.ok (.bl k) .strong
 | .isx a t,δ=>Re.thn (evE G F a δ) λx _=>(isxD G x t).map λk=>.ok (.bl k) .strong
 | .comp elt tg it fr,δ=>Ri.thn (q2R (evE G F it δ)) λds c=>if c=.weak\/mostLen<ds.length then none else q5y (q3Z (λd=>(tg.bind d (q1U fr δ)).bind λδ'=>Rc.of (evE G F elt δ')) ds)
 | .scat a b,δ=>Re.thn (evE G F a δ) λx _=>Re.thn (evE G F b δ) λy _=>(catS x y).map λd=>.ok d .strong
 | .stf a lo,δ=>Re.thn (evE G F a δ) λx _=>Re.thn (evE G F lo δ) λl _=>(stfD x l).map λd=>.ok d .strong
 | .stt a hi,δ=>Re.thn (evE G F a δ) λx _=>Re.thn (evE G F hi δ) λl _=>(sttD x l).map λd=>.ok d .strong
 | .stm a lo hi,δ=>Re.thn (evE G F a δ) λx _=>Re.thn (evE G F lo δ) λl _=>stmG x l (evE G F hi δ)
 | .fld i b,δ=>match δ[i]? with
  | some (.od s)=>(fldD G b s).map λd=>.ok d .strong
  | _=>none
 | .mth i m,δ=>match δ[i]? with
  | some (.od s)=>if G.mtx=true/\rdB G s=true then(match Rm.of (F m [s])with
   | some (.ok d s')=>if eqRd s s' then some (.ok d .strong)else none
   | _=>none)else none
  | _=>none
 | .fnd a b,δ=>Re.thn (evE G F a δ) λx _=>if strB x then Re.thn (evE G F b δ) λy _=>(fndD x y).map λd=>.ok d .strong else none
 | .fmt a,δ=>Re.thn (evE G F a δ) λd _=>(fmtD d).map λx=>.ok (.str x) .strong
 | .fst es,δ=>match evEs G F es δ with
  | some (.ok l)=>(fstG Str.empty l).map λx=>.ok (.str x) .strong
  | _=>none
 | .rng es,δ=>Rs.thn (evEs G F es δ) λl=>(rngD l).map λds=>.ok (.lst ds) .fresh
def evEs(G:Gs)(F:Nat->List DV->Option Ou):List ME->List Sv->Option Rs
 | [],_=>some (.ok [])
 | e::es,δ=>match evE G F e δ with
  | none=>none
  | some (.ex c)=>some (.ex c)
  | some (.ok d c)=>match evEs G F es δ with
   | none=>none
   | some (.ex c)=>some (.ex c)
   | some (.ok l)=>some (.ok ((d,c)::l))
def q2v(G:Gs)(F:Nat->List DV->Option Ou):List ME->List Sv->Option Re
 | [],_=>none
 | e::es,δ=>if es.isEmpty then evE G F e δ else Re.thn (evE G F e δ) λx c=>andD x c (q2v G F es δ)
def evOr(G:Gs)(F:Nat->List DV->Option Ou):List ME->List Sv->Option Re
 | [],_=>none
 | e::es,δ=>if es.isEmpty then evE G F e δ else Re.thn (evE G F e δ) λx c=>orD x c (evOr G F es δ)
end
def q3g:Nat:=1000
def Re.thnS(δ:List Sv)(r:Option Re)(k:DV->Cl->Option Out):Option Out:=match r with
 | none=>none
 | some (.ex c)=>some (.ex c δ)
 | some (.ok d c)=>k d c
def Rt.thnS(δ:List Sv)(r:Option Rt)(k:Bool->Option Out):Option Out:=match r with
 | none=>none
 | some (.ex c)=>some (.ex c δ)
 | some (.ok b)=>k b
def Ri.thnS(δ:List Sv)(r:Option Ri)(k:List DV->Cl->Option Out):Option Out:=match r with
 | none=>none
 | some (.ex c)=>some (.ex c δ)
 | some (.ok ds c)=>k ds c
def q1m(tg:Tg)(body:List Sv->Option Out):List DV->List Sv->Option Out
 | [],δ=>some (.nx δ)
 | d::r,δ=>match tg.bind d δ with
  | none=>none
  | some δ1=>match body δ1 with
   | some (.nx δ2)=>q1m tg body r δ2
   | o=>o
def q1c(test:List Sv->Option Rt)(body:List Sv->Option Out):Nat->List Sv->Option Out
 | 0,_=>none
 | n+1,δ=>match test δ with
  | none=>none
  | some (.ex c)=>some (.ex c δ)
  | some (.ok false)=>some (.nx δ)
  | some (.ok true)=>match body δ with
   | some (.nx δ2)=>q1c test body n δ2
   | o=>o
def frD:DV->Cl->Bool
 | .lst _,.fresh=>true | .lst _,.top=>true
 | _,_=>false
def noOt(i:Nat)(δ:List Sv):Bool:=(List.range δ.length).all λj=>j==i||(match δ[j]? with | some (.ot _)=>false | some (.o2 _)=>false | some (.od _)=>false | _=>true)
def q4J(i:Nat)(δ:List Sv)(d:DV)(c:Cl):Option Out:=match c with
 | .fresh=>some (.nx (δ.set i (.own d)))
 | .ft=>if noOt i δ then some (.nx (δ.set i (.ot d)))else none
 | _=>none
def retD(d:DV)(c:Cl):Out:=match c with
 | .ft=>.rtt d
 | _=>.rt d (frD d c)
def tryD(G:Gs)(c:Str)(ie ic:Nat)(r:Option Out):Option Out:=match r with
 | some (.ex c' δ')=>if(G.cls.lookup c').isSome/\q1b G c' c/\ie<δ'.length/\ie≠ic then some (.nx ((δ'.set ic (.val (.exc c'))).set ie .no))else none
 | o=>o
def z1R(G:Gs)(c cr:Str)(r:Option Out):Option Out:=match r with
 | some (.ex c' δ')=>if(G.cls.lookup c').isSome/\(G.cls.lookup cr).isSome then some (.ex (if q1b G c' c then cr else c') δ')else none
 | o=>o
def noS(δ:List Sv):List Sv:=δ.map λ_=>.no
def rdIx:Nat:=1002
def q7i(G:Gs)(F:Nat->List DV->Option Ou)(i m:Nat)(δ:List Sv)(l:Option Rs)(k:DV->DV->Option Out):Option Out:=match δ[i]? with
 | some (.od s)=>if G.mtx=true/\rdB G s=true then(match l with
  | some (.ok l)=>if stros l then(match Rm.of (F m (s::l.map (·.1)))with
   | some (.ok d s')=>k d s'
   | some (.ex c)=>some (.ex c (noS δ))
   | none=>none)else none
  | _=>none)else none
 | _=>none
mutual
def evS(G:Gs)(F:Nat->List DV->Option Ou)(fu:Nat):MS->List Sv->Option Out
 | .set i own e,δ=>Re.thnS δ (evE G F e δ) λd c=>if own then q4J i δ d c else(if stro d c then some (.nx (δ.set i (.val d)))else none)
 | .app i e,δ=>match δ[i]? with
  | some (.own (.lst ds))=>Re.thnS δ (evE G F e δ) λd c=>if stro d c/\ds.length<mostLen then some (.nx (δ.set i (.own (.lst (ds++[d])))))else none
  | _=>none
 | .ret e,δ=>Re.thnS δ (evE G F e δ) λd c=>some (retD d c)
 | .iff c a b,δ=>Rt.thnS δ (tstD (evE G F c δ)) λk=>if k then evSs G F fu a δ else evSs G F fu b δ
 | .fo tg it body,δ=>Ri.thnS δ (q2R (evE G F it δ)) λds c=>if c=.strong\/c=.fresh then q1m tg (λδ'=>evSs G F fu body δ') ds δ else none
 | .wh c body,δ=>q1c (λδ'=>tstD (evE G F c δ')) (λδ'=>evSs G F fu body δ') fu δ
 | .fau i e,δ=>match δ[i]? with
  | some (.od (.tup [c,a,x,t,.int k]))=>(match fldD G true (.tup [c,a,x,t,.int k])with
   | some _=>Re.thnS δ (evE G F e δ) λd _=>(match d with
    | .int j=>some (.nx (δ.set i (.od (.tup [c,a,x,t,.int (k+j)]))))
    | _=>none)
   | none=>none)
  | _=>none
 | .msx i m es,δ=>q7i G F i m δ (evEs G F es δ) λ_ s=>some (.nx (δ.set i (.od s)))
 | .mst j i m es,δ=>q7i G F i m δ (evEs G F es δ) λd s=>if j≠i then some (.nx ((δ.set i (.od s)).set j (.val d)))else none
 | .rtm i e,δ=>match δ[i]? with
  | some (.od s)=>(match evE G F e δ with
   | some (.ok d c)=>if stro d c then some (.rtm d s)else none
   | _=>none)
  | _=>none
 | .rtd i m x,δ=>q7i G F i m δ (some (.ok [])) λd s=>some (.rtm (.tup [.str x,d]) s)
 | .mkr i e,δ=>if 0<=G.rdc/\G.mtx=false then(match evE G F e δ with
  | some (.ok (.str t) _)=>if noOt i δ=true/\(Rm.of (F rdIx [.str t,.int 0])).isSome=true then some (.nx (δ.set i (.od (.tup [.int G.rdc,.non,.non,.str t,.int 0]))))else none
  | _=>none)else none
 | .rdp j i,δ=>match δ[i]? with
  | some (.od (.tup [.int c,.non,.non,.str t,.int k]))=>if c=G.rdc/\G.mtx=false/\0<=G.rdc then(match Rm.of (F rdIx [.str t,.int k])with
   | some (.ok d (.int k'))=>if j≠i then some (.nx ((δ.set i (.od (.tup [.int c,.non,.non,.str t,.int k']))).set j (.val d)))else none
   | some (.ex c)=>some (.ex c (noS δ))
   | _=>none)else none
  | _=>none
 | .rse c e,δ=>if(G.cls.lookup c).isSome then Re.thnS δ (evE G F e δ) λ_ _=>some (.ex c δ)else none
 | .tryc body c ie ic,δ=>tryD G c ie ic (evSs G F fu body δ)
 | .tryr body c cr _,δ=>if(G.cls.lookup cr).isSome then z1R G c cr (evSs G F fu body δ)else none
 | .frz i,δ=>match δ[i]? with
  | some (.own d)=>some (.nx (δ.set i (.val d)))
  | _=>some (.nx δ)
def evSs(G:Gs)(F:Nat->List DV->Option Ou)(fu:Nat):List MS->List Sv->Option Out
 | [],δ=>some (.nx δ)
 | s::r,δ=>match evS G F fu s δ with
  | some (.nx δ')=>evSs G F fu r δ'
  | o=>o
end
def q0l(n:Nat)(ds:List DV):List Sv:=ds.map Sv.val++List.replicate (n - ds.length) .no
def Ou.of(o:Option Out):Option Ou:=match o with
 | some (.nx _)=>some (.v .non false)
 | some (.rt d fr)=>some (.v d fr)
 | some (.rtt d)=>some (.t d)
 | some (.ex c _)=>some (.x c)
 | some (.rtm _ _)=>none
 | none=>none
def Ou.ofM(s0:DV)(o:Option Out):Option Ou:=match o with
 | some (.nx (.od s::_))=>if q4D s0 s then some (.v (.tup [.non,s]) false)else none
 | some (.rtm d s)=>if q4D s0 s then some (.v (.tup [d,s]) false)else none
 | some (.ex c _)=>some (.x c)
 | _=>none
def q6R:Nat->DV->List DV->Option (DV×List DV)
 | 0,_,_=>none
 | k+1,d,l=>match d with
  | .tup [.str s,x]=>if decide (s = "end")&&d.plain 60&&DV.plains 59 l then(match l with
   | []=>some (d,[])
   | y::l'=>some (y,l'))else none
  | .tup [.str s,a,b,c,e]=>if decide (s ≠ "end")&&(s.cps.all (· < 0x110000))then(match q6R k c l with
   | none=>none
   | some (n,l1)=>match q6R k e l1 with
    | none=>none
    | some (y,l2)=>some (.tup [.str "ask",a,b,n,y],l2))else none
  | _=>none
def z7w(k:Nat)(f:Nat)(ds:List DV):Option Ou:=match ds with
 | [d,.lst l]=>if f=q3g then(q6R k d l).map (λr=>.v r.1 false)else none
 | _=>none
def xR(G:Gs)(k:Nat)(f:Nat)(ds:List DV):Option Ou:=if f=rdIx then G.prs k ds else z7w k f ds
def lamR(ev:ME->List Sv->Option Re)(ds:List DV):Option Ou:=match ds with
 | .lam m cs::args=>if args.length=m.np/\args.length+cs.length=m.N.length/\DV.nolams args=true/\DV.nolams cs=true then(match ev m.body ((args++cs).map Sv.val)with
  | some (.ok d .strong)=>if d.nolam then some (.v d false)else none
  | _=>none)else none
 | _=>none
def run(G:Gs)(T:List FD)(fu:Nat):Nat->Nat->List DV->Option Ou
 | 0,_,_=>none
 | k+1,f,ds=>match T[f]? with
  | none=>if f=q6B then lamR (evE G (run G T fu k)) ds else xR G (k+1) f ds
  | some fd=>if ds.length=fd.np then Ou.of (evSs G (run G T fu k) fu fd.body (q0l fd.n ds))else none
def runM(G:Gs)(T:List FD)(fu:Nat):Nat->Nat->List DV->Option Ou
 | 0,_,_=>none
 | k+1,m,ds=>match T[m]?,ds with
  | some fd,s::r=>if ds.length=fd.np then Ou.ofM s (evSs G (runM G T fu k) fu fd.body (.od s::(r.map Sv.val++List.replicate (fd.n - ds.length) .no)))else none
  | _,_=>none
end L2
end
noncomputable section
namespace L2
open PySem
section
variable {G:Gs} {F:Nat->List DV->Option Ou} {fu:Nat} {δ:List Sv}
theorem q0Z{d:DV}{c:Cl}{k:DV->Cl->Option Re}:Re.thn (some (.ok d c)) k=k d c:=rfl
theorem q2A{l:List (DV×Cl)}{k:List (DV×Cl)->Option Re}:Rs.thn (some (.ok l)) k=k l:=rfl
theorem z7n{m:MS}{r:List MS}{δ':List Sv}(h:evS G F fu m δ=some (.nx δ')):evSs G F fu (m::r) δ=evSs G F fu r δ':=by
 rw[show evSs G F fu (m::r) δ=(match evS G F fu m δ with | some (.nx δ')=>evSs G F fu r δ' | o=>o)from rfl,h]
theorem z7h{m:MS}{r:List MS}{d:DV}{fr:Bool}(h:evS G F fu m δ=some (.rt d fr)):evSs G F fu (m::r) δ=some (.rt d fr):=by
 rw[show evSs G F fu (m::r) δ=(match evS G F fu m δ with | some (.nx δ')=>evSs G F fu r δ' | o=>o)from rfl,h]
theorem q0x{T:List FD}{k f:Nat}{ds:List DV}{fd:FD}(h:T[f]? = some fd)(hl:ds.length=fd.np):run G T fu (k+1) f ds=Ou.of (evSs G (run G T fu k) fu fd.body (q0l fd.n ds)):=by
 show(match T[f]? with | none=>if f=q6B then lamR (evE G (run G T fu k)) ds else xR G (k+1) f ds | some fd=>if ds.length=fd.np then Ou.of (evSs G (run G T fu k) fu fd.body (q0l fd.n ds))else none)=_;rw[h];exact if_pos hl
end
end L2
namespace L2
open PySem
end L2
namespace L2
open PySem
section
variable {G:Gs} {F:Nat->List DV->Option Ou} {fu:Nat} {δ δ':List Sv} {m:MS} {r a b body:List MS} {o:Option Out} {c it:ME} {d:DV} {fr:Bool} {tg:Tg} {ds:List DV} {cl:Cl}
theorem q0N(h:evSs G F fu r δ=some (.rt d fr)):Ou.of (evSs G F fu r δ)=some (.v d fr):=by rw[h];rfl
theorem q0p(h:evS G F fu m δ=some (.nx δ'))(h2:evSs G F fu r δ'=o):evSs G F fu (m::r) δ=o:=(z7n h).trans h2
theorem q0H(h:evS G F fu m δ=some (.rt d fr)):evSs G F fu (m::r) δ=some (.rt d fr):=z7h h
theorem z3w{bb:Bool}(hc:tstD (evE G F c δ)=some (.ok bb)):evS G F fu (.iff c a b) δ=if bb then evSs G F fu a δ else evSs G F fu b δ:=by
 show Rt.thnS δ (tstD (evE G F c δ)) (λk=>if k then evSs G F fu a δ else evSs G F fu b δ)=_;rw[hc];rfl
theorem q7N(hc:tstD (evE G F c δ)=some (.ok true))(h:evSs G F fu a δ=some (.nx δ'))(h2:evSs G F fu r δ'=o):evSs G F fu (.iff c a b::r) δ=o:=q0p ((z3w hc).trans h) h2
theorem z5X(hc:tstD (evE G F c δ)=some (.ok false))(h:evSs G F fu b δ=some (.nx δ'))(h2:evSs G F fu r δ'=o):evSs G F fu (.iff c a b::r) δ=o:=q0p ((z3w hc).trans h) h2
theorem q1i(hc:tstD (evE G F c δ)=some (.ok true))(h:evSs G F fu a δ=some (.rt d fr)):evSs G F fu (.iff c a b::r) δ=some (.rt d fr):=q0H ((z3w hc).trans h)
theorem q0k(hc:tstD (evE G F c δ)=some (.ok false))(h2:evSs G F fu r δ=o):evSs G F fu (.iff c a []::r) δ=o:=z5X hc rfl h2
theorem z0m(hw:q2R (evE G F it δ)=some (.ok ds cl))(hc:cl=.strong\/cl=.fresh)(h:q1m tg (λδ'=>evSs G F fu body δ') ds δ=some (.nx δ'))(h2:evSs G F fu r δ'=o):evSs G F fu (.fo tg it body::r) δ=o:=by
 refine q0p ?_ h2;show Ri.thnS δ (q2R (evE G F it δ)) (λds c=>if c=.strong\/c=.fresh then q1m tg (λδ'=>evSs G F fu body δ') ds δ else none)=_;rw[hw];show(if cl=.strong\/cl=.fresh then q1m tg (λδ'=>evSs G F fu body δ') ds δ else none)=_;rw[if_pos hc];exact h
theorem q0q{i:Nat}{e:ME}(h:evE G F e δ=some (.ok d cl))(hs:stro d cl=true):evS G F fu (.set i false e) δ=some (.nx (δ.set i (.val d))):=by
 show Re.thnS δ (evE G F e δ) (λd c=>if false then q4J i δ d c else(if stro d c then some (.nx (δ.set i (.val d)))else none))=_;rw[h];show(if stro d cl then some (Out.nx (δ.set i (.val d)))else none)=_;rw[if_pos hs]
theorem z6E{i:Nat}{e:ME}(h:evE G F e δ=some (.ok d .fresh)):evS G F fu (.set i true e) δ=some (.nx (δ.set i (.own d))):=by
 show Re.thnS δ (evE G F e δ) (λd c=>if true then q4J i δ d c else(if stro d c then some (.nx (δ.set i (.val d)))else none))=_;rw[h];rfl
theorem q0J{e:ME}(h:evE G F e δ=some (.ok d cl))(hc:cl ≠ .ft:=by first | decide | (intro z;cases z)):evS G F fu (.ret e) δ=some (.rt d (frD d cl)):=by
 show Re.thnS δ (evE G F e δ) (λd c=>some (retD d c))=_;rw[h];show some (retD d cl)=_;cases cl<;>first | rfl | exact absurd rfl hc
theorem q0g{f:Nat}{es:List ME}{l:List (DV×Cl)}(ha:evEs G F es δ=some (.ok l))(hs:(l.all λp=>p.2 == .strong||p.2 == .fresh)=true)(h:F f (l.map (·.1))=some (.v d fr)):evE G F (.call f es) δ=some (.ok d (if fr then .fresh else .strong)):=by
 show Rs.thn (evEs G F es δ) (λl=>q3s F f l)=_;rw[ha];show q3s F f l=_;unfold q3s;rw[h,hs];rfl
theorem z1Y{f:Nat}{es:List ME}{l:List (DV×Cl)}{ds:List DV}(ha:evEs G F es δ=some (.ok l))(h:F f (l.map (·.1))=some (.v (.lst ds) true))(hf:DV.immuts ds=true):evE G F (.call f es) δ=some (.ok (.lst ds) .fresh):=by
 show Rs.thn (evEs G F es δ) (λl=>q3s F f l)=_;rw[ha];show q3s F f l=_;unfold q3s;rw[h];show some (Re.ok (.lst ds) (if(l.all λp=>p.2 == .strong||p.2 == .fresh)then .fresh else if DV.immuts ds then .fresh else .weak))=_;rw[hf];cases(l.all λp=>p.2 == .strong||p.2 == .fresh)<;>rfl
theorem q0f{e:ME}{x:Bool}(h:evE G F e δ=some (.ok (.bl x) cl)):tstD (evE G F e δ)=some (.ok x):=by rw[h];rfl
theorem q2z{e:ME}{x:Bool}(h:evE G F e δ=some (.ok (.bl x) cl)):evE G F (.not e) δ=some (.ok (.bl (!x)) .strong):=by
 show Re.thn (evE G F e δ) (λx _=>(q2h x).map λk=>.ok (.bl (!k)) .strong)=_;rw[h];rfl
end
end L2
namespace L2
open PySem
section
variable {G:Gs} {F:Nat->List DV->Option Ou} {fu:Nat} {δ δ':List Sv} {a b:ME} {x y:DV} {cx cy:Cl}
theorem q3T{op:Operator}{r:Option Re}(ha:evE G F a δ=some (.ok x cx))(hb:evE G F b δ=some (.ok y cy))(h:binD op x y cx cy=r):evE G F (.bin op a b) δ=r:=by
 show Re.thn (evE G F a δ) (λx cx=>Re.thn (evE G F b δ) λy cy=>binD op x y cx cy)=_;rw[ha,q0Z,hb,q0Z,h]
theorem q1o{op:CmpOp}{t:Bool}(ha:evE G F a δ=some (.ok x cx))(hb:evE G F b δ=some (.ok y cy))(h:cmpD op x y=some t):evE G F (.cmp op a b) δ=some (.ok (.bl t) .strong):=by
 show Re.thn (evE G F a δ) (λx _=>Re.thn (evE G F b δ) λy _=>(cmpD op x y).map λk=>.ok (.bl k) .strong)=_;rw[ha,q0Z,hb,q0Z,h];rfl
theorem q0B{d:DV}(ha:evE G F a δ=some (.ok x cx))(hb:evE G F b δ=some (.ok y cy))(h:ixD x y=some d):evE G F (.ix a b) δ=some (.ok d cx.item):=by
 show Re.thn (evE G F a δ) (λx cx=>Re.thn (evE G F b δ) λy _=>(ixD x y).map λd=>.ok d cx.item)=_;rw[ha,q0Z,hb,q0Z,h];rfl
theorem z1m{t:Bool}(ha:evE G F a δ=some (.ok (.bl false) cx)):evE G F (.and [a,b]) δ=some (.ok (.bl false) cx):=by
 show Re.thn (evE G F a δ) (λx c=>andD x c (evE G F b δ))=_;rw[ha];rfl
theorem q4g{o:Option Re}(ha:evE G F a δ=some (.ok (.bl true) cx))(hb:evE G F b δ=o):evE G F (.and [a,b]) δ=o:=by
 show Re.thn (evE G F a δ) (λx c=>andD x c (evE G F b δ))=_;rw[ha];exact hb
theorem q3H{o:Option Re}(ha:evE G F a δ=some (.ok (.bl false) cx))(hb:evE G F b δ=o):evE G F (.or [a,b]) δ=o:=by
 show Re.thn (evE G F a δ) (λx c=>orD x c (evE G F b δ))=_;rw[ha];exact hb
theorem q6T(ha:evE G F a δ=some (.ok (.bl true) cx)):evE G F (.or [a,b]) δ=some (.ok (.bl true) cx):=by
 show Re.thn (evE G F a δ) (λx c=>orD x c (evE G F b δ))=_;rw[ha];rfl
theorem q0e:evEs G F [] δ=some (.ok []):=rfl
theorem q0a{es:List ME}{l:List (DV×Cl)}(ha:evE G F a δ=some (.ok x cx))(h:evEs G F es δ=some (.ok l)):evEs G F (a::es) δ=some (.ok ((x,cx)::l)):=by
 unfold evEs;rw[ha,h]
end
end L2
namespace L2
open PySem
section
variable {G:Gs} {F:Nat->List DV->Option Ou} {fu:Nat} {δ δ':List Sv} {a b c e:ME} {x y d:DV} {cx cy cl:Cl} {i:Nat} {ds:List DV}
theorem z7F(h0:δ[i]? = some (.own (.lst ds)))(h:evE G F e δ=some (.ok d cl))(hs:stro d cl=true)(hl:ds.length<mostLen):evS G F fu (.app i e) δ=some (.nx (δ.set i (.own (.lst (ds++[d]))))):=by
 unfold evS;rw[h0];show Re.thnS δ (evE G F e δ) (λd c=>if stro d c/\ds.length<mostLen then some (.nx (δ.set i (.own (.lst (ds++[d])))))else none)=_;rw[h];exact if_pos ⟨hs,hl⟩
theorem z0h{test:List Sv->Option Rt}{body:List Sv->Option Out}{n:Nat}(h:test δ=some (.ok false)):q1c test body (n+1) δ=some (.nx δ):=by
 unfold q1c;rw[h]
theorem z3p{test:List Sv->Option Rt}{body:List Sv->Option Out}{n:Nat}{o:Option Out}(h:test δ=some (.ok true))(hb:body δ=some (.nx δ'))(hr:q1c test body n δ'=o):q1c test body (n+1) δ=o:=by
 unfold q1c;rw[h,hb];exact hr
theorem z8I{body r:List MS}{o:Option Out}(h:q1c (λδ'=>tstD (evE G F c δ')) (λδ'=>evSs G F fu body δ') fu δ=some (.nx δ'))(h2:evSs G F fu r δ'=o):evSs G F fu (.wh c body::r) δ=o:=q0p h h2
end
end L2
namespace L2
open PySem
section
variable {G:Gs} {F:Nat->List DV->Option Ou} {fu:Nat} {δ δ':List Sv} {a b c e:ME} {x y d:DV} {cx cy cl:Cl} {i:Nat} {ds:List DV}
theorem q4N{I:Nat->List Sv->Prop}{body:List Sv->Option Out}:∀(n:Nat) (lo:Int) {δ:List Sv},(∀j<n,∀δ,I j δ->∃δ2,body (δ.set i (.val (.int (lo+j))))=some (.nx δ2)/\I (j+1) δ2)->I 0 δ->∃δ',q1m (.one i) body (upTo lo n) δ=some (.nx δ')/\I n δ'
 | 0,_,δ,_,i0=>⟨δ,rfl,i0⟩
 | n+1,lo,δ,h,i0=>by
  have e:upTo lo (n+1)=.int lo::upTo (lo+1) n:=by
   unfold upTo;rw[List.range_succ_eq_map,List.map_cons,List.map_map]
   congr 1
   ·congr 1;omega
   ·apply List.map_congr_left;intro a _;show DV.int _=DV.int _
    congr 1
    push_cast
    omega
  obtain⟨δ2,h0,i1⟩:=h 0 (by omega) δ i0;rw[show lo+((0:Nat):Int)=lo by omega]at h0;obtain⟨δ',h1,i2⟩:=q4N (I:=λj=>I (j+1)) n (lo+1) (δ:=δ2) (λj hj δ q=>by
   obtain⟨δ3,q1,q2⟩:=h (j+1) (by omega) δ q;refine⟨δ3,?_,q2⟩;rw[show lo+1+((j:Nat):Int)=lo+((j+1:Nat):Int) by push_cast;omega];exact q1) i1
  refine⟨δ',?_,i2⟩;rw[e];show(match body (δ.set i (.val (.int lo)))with | some (.nx δ2)=>q1m (.one i) body (upTo (lo+1) n) δ2 | o=>o)=_;rw[h0];exact h1
theorem z5n{l:List Int}{j:Nat}(h:j<l.length):ixD (.lst (l.map DV.int)) (.int j)=some (.int l[j]):=by
 have hh:(j:Int)<((l.map DV.int).length:Int):=by rw[List.length_map];exact_mod_cast h
 simp only[ixD,atD,q3G,if_pos (Int.natCast_nonneg j),if_pos hh,Option.bind_some,Int.toNat_natCast,List.getElem?_map,List.getElem?_eq_getElem h,Option.map_some]
theorem q8I{l:List Int}{i:Int}(h0:0<=i)(h:i<l.length):∃v,ixD (.lst (l.map DV.int)) (.int i)=some (.int v):=by
 obtain⟨j,rfl⟩:=Int.eq_ofNat_of_zero_le h0;exact⟨_,z5n (by omega)⟩
end
end L2
namespace L2
open PySem
section
variable {G:Gs} {F:Nat->List DV->Option Ou} {fu:Nat} {δ δ':List Sv} {r body:List MS} {it:ME} {cl:Cl} {ds:List DV} {tg:Tg} {o:Option Out}
end
end L2
namespace L2
open PySem
section
variable {G:Gs} {F:Nat->List DV->Option Ou} {fu:Nat} {δ δ':List Sv} {a b:ME} {i j:Int} {cx cy:Cl}
theorem q0d:evE G F (.int i) δ=some (.ok (.int i) .strong):=rfl
theorem q0b{n:Nat}{d:DV}(h:δ[n]? = some (.val d)):evE G F (.var n) δ=some (.ok d .strong):=by unfold evE;rw[h]
theorem q3R(ha:evE G F a δ=some (.ok (.int i) cx))(hb:evE G F b δ=some (.ok (.int j) cy)):evE G F (.bin .Add a b) δ=some (.ok (.int (i+j)) .strong):=q3T ha hb rfl
theorem q4d(ha:evE G F a δ=some (.ok (.int i) cx))(hb:evE G F b δ=some (.ok (.int j) cy)):evE G F (.bin .Sub a b) δ=some (.ok (.int (i - j)) .strong):=q3T ha hb rfl
theorem z1N(ha:evE G F a δ=some (.ok (.int i) cx))(hb:evE G F b δ=some (.ok (.int j) cy))(h:q5N i j=true):evE G F (.bin .Mult a b) δ=some (.ok (.int (i*j)) .strong):=q3T ha hb (if_pos h)
theorem q2F(ha:evE G F a δ=some (.ok (.int i) cx))(hb:evE G F b δ=some (.ok (.int j) cy))(h:0<j):evE G F (.bin .Mod a b) δ=some (.ok (.int (i%j)) .strong):=q3T ha hb (if_pos h)
theorem q8m(ha:evE G F a δ=some (.ok (.int i) cx))(hb:evE G F b δ=some (.ok (.int j) cy))(h:0<j/\j<1073741824):evE G F (.bin .FloorDiv a b) δ=some (.ok (.int (i/j)) .strong):=q3T ha hb (if_pos ⟨h.1,Int.lt_trans h.2 (by decide)⟩)
theorem b_eq(ha:evE G F a δ=some (.ok (.int i) cx))(hb:evE G F b δ=some (.ok (.int j) cy)):evE G F (.cmp .Eq a b) δ=some (.ok (.bl (i==j)) .strong):=q1o ha hb rfl
theorem b_lt(ha:evE G F a δ=some (.ok (.int i) cx))(hb:evE G F b δ=some (.ok (.int j) cy)):evE G F (.cmp .Lt a b) δ=some (.ok (.bl (decide (i<j))) .strong):=q1o ha hb rfl
theorem b_gt(ha:evE G F a δ=some (.ok (.int i) cx))(hb:evE G F b δ=some (.ok (.int j) cy)):evE G F (.cmp .Gt a b) δ=some (.ok (.bl (decide (j<i))) .strong):=q1o ha hb rfl
end
end L2
namespace L2
open PySem
section
variable {G:Gs} {F:Nat->List DV->Option Ou} {fu:Nat} {δ δ':List Sv} {es:List ME} {l:List (DV×Cl)}
theorem q0r{x:Str}:evE G F (.str x) δ=some (.ok (.str x) .strong):=rfl
theorem q5p(h:evEs G F es δ=some (.ok l))(hl:l.length<=mostLen)(hs:stros l=true):evE G F (.tup es) δ=some (.ok (.tup (l.map (·.1))) .strong):=by
 show Rs.thn (evEs G F es δ) (λl=>if l.length<=mostLen then some (.ok (.tup (l.map (·.1))) (if stros l then .strong else .weak))else none)=_;rw[h,q2A,if_pos hl,hs];rfl
end
end L2
namespace L2
open PySem
end L2
namespace L2
open PySem
def rmAt(C a dx:Nat)(t:Str):Rm->Rm
 | .ok d (.int k')=>.ok d (rdD C a dx t k')
 | o=>o
def startM(n:Nat)(s:DV)(r:List DV):List Sv:=.od s::(r.map Sv.val++List.replicate (n - (r.length+1)) .no)
theorem q6O{G:Gs}{T:List FD}{fu k m:Nat}{d:FD}{s:DV}{ds:List DV}(h:T[m]? = some d):runM G T fu (k+1) m (s::ds)=if(s::ds).length=d.np then Ou.ofM s (evSs G (runM G T fu k) fu d.body (startM d.n s ds))else none:=by
 show(match T[m]?,s::ds with
  | some fd,s::r=>if(s::ds).length=fd.np then Ou.ofM s (evSs G (runM G T fu k) fu fd.body (Sv.od s::(r.map Sv.val++List.replicate (fd.n - (s::ds).length) Sv.no)))else none
  | _,_=>none)=_
 rw[h];rfl
section
variable {G:Gs} {F:Nat->List DV->Option Ou} {fu:Nat} {δ:List Sv} {i m C a dx:Nat} {z:Str} {j:Int} {d:DV} {fr:Bool} {es:List ME} {l:List (DV×Cl)} {c:Cl}
theorem q7O{k k':Int}:q4D (rdD C a dx z k) (rdD C a dx z k')=true:=by
 show(decide ((C:Int)=C)&&decide ((a:Int)=a)&&decide ((dx:Int)=dx)&&decide (z=z))=true;simp
theorem q9o(hc:G.rdc=C):rdB G (rdD C a dx z j)=true:=by
 show(decide ((C:Int)=G.rdc)&&decide (0<=(a:Int))&&decide (0<=(dx:Int))&&decide (0<=(C:Int)))=true;rw[hc];simp
theorem q5w(hc:G.rdc=C)(b:Bool):fldD G b (rdD C a dx z j)=some (if b then .int j else .str z):=by
 show(if(C:Int)=G.rdc/\0<=(C:Int)then some (if b then DV.int j else .str z)else none)=_;rw[if_pos ⟨hc.symm,by omega⟩]
theorem q9m(hc:G.rdc=C)(h:δ[i]? = some (.od (rdD C a dx z j))):evE G F (.fld i false) δ=some (.ok (.str z) .strong):=by
 unfold evE;rw[h];show(fldD G false (rdD C a dx z j)).map _=_;rw[q5w hc];rfl
theorem q6U(hc:G.rdc=C)(h:δ[i]? = some (.od (rdD C a dx z j))):evE G F (.fld i true) δ=some (.ok (.int j) .strong):=by
 unfold evE;rw[h];show(fldD G true (rdD C a dx z j)).map _=_;rw[q5w hc];rfl
theorem z2C(hc:G.rdc=C)(hm:G.mtx=true)(h:δ[i]? = some (.od (rdD C a dx z j)))(hF:F m [rdD C a dx z j]=some (.v (.tup [d,rdD C a dx z j]) fr)):evE G F (.mth i m) δ=some (.ok d .strong):=by
 unfold evE;rw[h];show(if G.mtx=true/\rdB G (rdD C a dx z j)=true then(match Rm.of (F m [rdD C a dx z j])with
   | some (.ok d s')=>if eqRd (rdD C a dx z j) s' then some (Re.ok d .strong)else none
   | _=>none)else none)=_
 rw[if_pos ⟨hm,q9o hc⟩,hF];show(if eqRd (rdD C a dx z j) (rdD C a dx z j)=true then some (Re.ok d .strong)else none)=_;rw[if_pos (show eqRd (rdD C a dx z j) (rdD C a dx z j)=true from decide_eq_true (rfl:rdK (rdD C a dx z j)=some (_,_,_,_,_)))]
theorem ev_stm{x lo hi:ME}{n:Nat}{v:Int}{c1 c2 c3:Cl}(ha:evE G F x δ=some (.ok (.str z) c1))(hl:evE G F lo δ=some (.ok (.int (n:Int)) c2))(hh:evE G F hi δ=some (.ok (.int v) c3))(h:(n:Int)<=q1l z.length v):evE G F (.stm x lo hi) δ=some (.ok (.str (cutS z n (q1l z.length v).toNat)) .strong):=by
 unfold evE;rw[ha,hl,hh];show((if 0<=(n:Int)/\(n:Int)<=q1l z.length v then some (DV.str (cutS z (n:Int).toNat (q1l z.length v).toNat))else none).map λd=>Re.ok d .strong)=_;rw[if_pos ⟨by omega,h⟩];rfl
theorem z5u{e:ME}{x:Int}(hc:G.rdc=C)(h:δ[i]? = some (.od (rdD C a dx z j)))(he:evE G F e δ=some (.ok (.int x) c)):evS G F fu (.fau i e) δ=some (.nx (δ.set i (.od (rdD C a dx z (j+x))))):=by
 unfold evS;rw[h];show(match fldD G true (rdD C a dx z j)with
   | some _=>Re.thnS δ (evE G F e δ) λd _=>(match d with
    | .int y=>some (Out.nx (δ.set i (.od (rdD C a dx z (j+y)))))
    | _=>none)
   | none=>none)=_
 rw[q5w hc,he];rfl
theorem q3n(hc:G.rdc=C)(hm:G.mtx=true)(h:δ[i]? = some (.od (rdD C a dx z j)))(hs:stros l=true){k:DV->DV->Option Out}{r:Rm}(hF:Rm.of (F m (rdD C a dx z j::l.map (·.1)))=some r):q7i G F i m δ (some (.ok l)) k=(match(generalizing:=false) r with | .ok d s'=>k d s' | .ex c=>some (.ex c (noS δ))):=by
 unfold q7i;rw[h];show(if G.mtx=true/\rdB G (rdD C a dx z j)=true then(if stros l=true then(match Rm.of (F m (rdD C a dx z j::l.map (·.1)))with
   | some (.ok d s')=>k d s'
   | some (.ex c)=>some (.ex c (noS δ))
   | none=>none)else none)else none)=_
 rw[if_pos ⟨hm,q9o hc⟩,if_pos hs,hF];cases r<;>rfl
theorem q6b{s':DV}(hc:G.rdc=C)(hm:G.mtx=true)(h:δ[i]? = some (.od (rdD C a dx z j)))(he:evEs G F es δ=some (.ok l))(hs:stros l=true)(hF:F m (rdD C a dx z j::l.map (·.1))=some (.v (.tup [d,s']) fr)):evS G F fu (.msx i m es) δ=some (.nx (δ.set i (.od s'))):=by
 unfold evS;rw[he,q3n hc hm h hs (r:=.ok d s') (by rw[hF];rfl)]
theorem q4u{cc:Str}(hc:G.rdc=C)(hm:G.mtx=true)(h:δ[i]? = some (.od (rdD C a dx z j)))(he:evEs G F es δ=some (.ok l))(hs:stros l=true)(hF:F m (rdD C a dx z j::l.map (·.1))=some (.x cc)):evS G F fu (.msx i m es) δ=some (.ex cc (noS δ)):=by
 unfold evS;rw[he,q3n hc hm h hs (r:=.ex cc) (by rw[hF];rfl)]
theorem q3Y{s':DV}{n:Nat}(hn:n≠i)(hc:G.rdc=C)(hm:G.mtx=true)(h:δ[i]? = some (.od (rdD C a dx z j)))(he:evEs G F es δ=some (.ok l))(hs:stros l=true)(hF:F m (rdD C a dx z j::l.map (·.1))=some (.v (.tup [d,s']) fr)):evS G F fu (.mst n i m es) δ=some (.nx ((δ.set i (.od s')).set n (.val d))):=by
 unfold evS;rw[he,q3n hc hm h hs (r:=.ok d s') (by rw[hF];rfl)];exact if_pos hn
theorem q3c{cc:Str}{n:Nat}(hc:G.rdc=C)(hm:G.mtx=true)(h:δ[i]? = some (.od (rdD C a dx z j)))(he:evEs G F es δ=some (.ok l))(hs:stros l=true)(hF:F m (rdD C a dx z j::l.map (·.1))=some (.x cc)):evS G F fu (.mst n i m es) δ=some (.ex cc (noS δ)):=by
 unfold evS;rw[he,q3n hc hm h hs (r:=.ex cc) (by rw[hF];rfl)]
theorem z6I{s':DV}{x:Str}(hc:G.rdc=C)(hm:G.mtx=true)(h:δ[i]? = some (.od (rdD C a dx z j)))(hF:F m [rdD C a dx z j]=some (.v (.tup [d,s']) fr)):evS G F fu (.rtd i m x) δ=some (.rtm (.tup [.str x,d]) s'):=by
 unfold evS;rw[q3n (l:=[]) hc hm h rfl (r:=.ok d s') (by show Rm.of (F m [rdD C a dx z j])=_;rw[hF];rfl)]
theorem q4a{s':DV}{e:ME}(h:δ[i]? = some (.od s'))(he:evE G F e δ=some (.ok d c))(hs:stro d c=true):evS G F fu (.rtm i e) δ=some (.rtm d s'):=by
 unfold evS;rw[h,he];exact if_pos hs
theorem q2S{ms:MS}{r:List MS}{s':DV}(h:evS G F fu ms δ=some (.rtm d s')):evSs G F fu (ms::r) δ=some (.rtm d s'):=by
 show(match evS G F fu ms δ with | some (.nx δ')=>evSs G F fu r δ' | o=>o)=_;rw[h]
theorem z2K{cd:ME}{x y r:List MS}{s':DV}(h:tstD (evE G F cd δ)=some (.ok true))(ha:evSs G F fu x δ=some (.rtm d s')):evSs G F fu (.iff cd x y::r) δ=some (.rtm d s'):=by
 refine q2S ?_;show Rt.thnS δ (tstD (evE G F cd δ)) (λk=>if k then evSs G F fu x δ else evSs G F fu y δ)=_;rw[h];exact ha
theorem q2j{r:List MS}{k':Int}(h:evSs G F fu r δ=some (.rtm d (rdD C a dx z k'))):Ou.ofM (rdD C a dx z j) (evSs G F fu r δ)=some (.v (.tup [d,rdD C a dx z k']) false):=by
 rw[h];exact if_pos q7O
theorem z5T{r:List MS}{k':Int}{δ':List Sv}(h:evSs G F fu r δ=some (.nx (.od (rdD C a dx z k')::δ'))):Ou.ofM (rdD C a dx z j) (evSs G F fu r δ)=some (.v (.tup [.non,rdD C a dx z k']) false):=by
 rw[h];exact if_pos q7O
theorem z7d{e:ME}{t:Str}{cc:Cl}(h1:0<=G.rdc)(h2:G.mtx=false)(he:evE G F e δ=some (.ok (.str t) cc))(hn:noOt i δ=true)(hF:(Rm.of (F rdIx [.str t,.int 0])).isSome=true):evS G F fu (.mkr i e) δ=some (.nx (δ.set i (.od (.tup [.int G.rdc,.non,.non,.str t,.int 0])))):=by
 unfold evS;rw[if_pos ⟨h1,h2⟩,he];exact if_pos ⟨hn,hF⟩
theorem z2I{n:Nat}{t:Str}{k k':Int}{r:DV}(hn:n≠i)(h1:0<=G.rdc)(h2:G.mtx=false)(h:δ[i]? = some (.od (.tup [.int G.rdc,.non,.non,.str t,.int k])))(hF:F rdIx [.str t,.int k]=some (.v (.tup [r,.int k']) fr)):evS G F fu (.rdp n i) δ=some (.nx ((δ.set i (.od (.tup [.int G.rdc,.non,.non,.str t,.int k']))).set n (.val r))):=by
 unfold evS;rw[h];show(if G.rdc=G.rdc/\G.mtx=false/\0<=G.rdc then(match Rm.of (F rdIx [.str t,.int k])with
   | some (.ok d (.int k'))=>if n≠i then some (Out.nx ((δ.set i (.od (.tup [.int G.rdc,.non,.non,.str t,.int k']))).set n (.val d)))else none
   | some (.ex c)=>some (.ex c (noS δ))
   | _=>none)else none)=_
 rw[if_pos ⟨rfl,h2,h1⟩,hF];exact if_pos hn
theorem z4x{n:Nat}{t:Str}{k:Int}{cc:Str}(h1:0<=G.rdc)(h2:G.mtx=false)(h:δ[i]? = some (.od (.tup [.int G.rdc,.non,.non,.str t,.int k])))(hF:F rdIx [.str t,.int k]=some (.x cc)):evS G F fu (.rdp n i) δ=some (.ex cc (noS δ)):=by
 unfold evS;rw[h];show(if G.rdc=G.rdc/\G.mtx=false/\0<=G.rdc then(match Rm.of (F rdIx [.str t,.int k])with
   | some (.ok d (.int k'))=>if n≠i then some (Out.nx ((δ.set i (.od (.tup [.int G.rdc,.non,.non,.str t,.int k']))).set n (.val d)))else none
   | some (.ex c)=>some (.ex c (noS δ))
   | _=>none)else none)=_
 rw[if_pos ⟨rfl,h2,h1⟩,hF];rfl
theorem z4z{t:Str}{k:Int}(h1:0<=G.rdc)(h:δ[i]? = some (.od (.tup [.int G.rdc,.non,.non,.str t,.int k]))):evE G F (.fld i true) δ=some (.ok (.int k) .strong):=by
 unfold evE;rw[h];show((if G.rdc=G.rdc/\0<=G.rdc then some (if true then DV.int k else .str t)else none).map _)=_;rw[if_pos ⟨rfl,h1⟩];rfl
theorem q1O{r:List MS}{s0:DV}{cc:Str}{δ':List Sv}(h:evSs G F fu r δ=some (.ex cc δ')):Ou.ofM s0 (evSs G F fu r δ)=some (.x cc):=by rw[h];rfl
end
end L2
end
noncomputable section
namespace L2
open PySem
def Rise(xs:Array Nat):Prop:=∀(i k x y:Nat),i<k->xs[i]? = some x->xs[k]? = some y->x<y
structure Tab(t:SetTable)(b:Bool):Prop where
 rise:Rise t.place
 dum:t.dummies = #[]
 led:t.led=b
end L2
end
noncomputable section
namespace L2
open PySem PySem.Spec PyProof.Rows
def fm(val:Nat->Int)(i:Nat):List Int:=((List.range i).map val).foldl dk []
section
variable {prog:Program} {w:World} {A:Around} {R:Result->Shared->Prop} {I:Addr} {fp wr:List Addr} {G:Array GenState->Array GenState->Prop} {n:Nat} {P:Nat->Value->Prop} {St:Nat->Shared->Prop}
end
section
variable {prog:Program} {w:World} {A:Around} {E:Value->Shared->Prop} {s:Shared}
end
end L2
end
noncomputable section
namespace L2
open PySem PySem.Spec PySem.Calls PyProof.Rows PySem.W
theorem q5L:∀{ps:List (Int×Int×Int)} {i:Nat},q7o ps=true->i+1<ps.length->ltT (ps.getD (i+1) (0,0,0)) (ps.getD i (0,0,0))=false
 | [],_,_,h=>by simp at h
 | [_],_,_,h=>by simp at h
 | p::q::r,i,hr,h=>by
  have hr':(ltT p q&&q7o (q::r))=true:=hr;rw[Bool.and_eq_true]at hr';cases i with
  | zero=>
   show ltT q p=false;have:=hr'.1;unfold ltT at this ⊢;simp only[Bool.or_eq_true,decide_eq_true_iff,Bool.and_eq_true,beq_iff_eq]at this;simp only[Bool.or_eq_false_iff,decide_eq_false_iff_not,Bool.and_eq_false_iff,beq_eq_false_iff_ne];omega
  | succ i=>exact q5L (ps:=q::r) hr'.2 (by simpa using h)
section
variable {prog:Program} {w:World} {A:Around} {E:Value->Shared->Prop} {s:Shared}
end
section
variable {X:Cx}
end
end L2
end
noncomputable section
namespace L2
open PySem
structure Sg where
 N:List Str
 sc:List (Str×NameKind)
 fn:List Str
 bl:List Str
 cl:List Str
 top:Bool
 lp:Bool
def z0r:List Str:=["ValueError"]
def q0I:Expr->Option Str | .Name x _=>some x | _=>none
def q1L:Expr->Option Const | .Constant c _ _=>some c | _=>none
def z1e:Expr->Option (Expr×Operator×Expr) | .BinOp a o b _=>some (a,o,b) | _=>none
def asUn:Expr->Option (UnaryOp×Expr) | .UnaryOp o a _=>some (o,a) | _=>none
def z1r:Expr->Option (Expr×List CmpOp×List Expr) | .Compare a o b _=>some (a,o,b) | _=>none
def q7P:Expr->Option (BoolOp×List Expr) | .BoolOp o es _=>some (o,es) | _=>none
def q8M:Expr->Option (List Expr) | .List es _=>some es | _=>none
def q4P:Expr->Option (List Expr) | .Tuple es _ _=>some es | _=>none
def q6I:Expr->Option (Expr×Expr) | .Subscript a b _=>some (a,b) | _=>none
def q3B:Expr->Option (Option Expr×Option Expr×Option Expr) | .Slice a b c _=>some (a,b,c) | _=>none
def q1M:Expr->Option (Expr×List Expr×List Keyword×Pos) | .Call f as ks p=>some (f,as,ks,p) | _=>none
def q3p:Expr->Option (Expr×Str×Pos) | .Attribute a n p=>some (a,n,p) | _=>none
def q9i:Expr->Option (Expr×List Comprehension×Scope) | .ListComp e gs sc _=>some (e,gs,sc) | _=>none
def q9V:Expr->Option (List Expr) | .JoinedStr es _=>some es | _=>none
def z3W:Expr->Option Expr | .FormattedValue v c none _=>if c = -1 then some v else none | _=>none
def q0s:Expr->Bool | .Starred _ _=>true | _=>false
def q9z:Expr->Bool | .Slice _ _ _ _=>true | _=>false
def q3h:Expr->Bool | .Set _ _ _=>true | _=>false
def q5s:Expr->Bool | .ListComp _ _ _ _=>true | .SetComp _ _ _ _=>true | .DictComp _ _ _ _ _=>true | _=>false
theorem q0n{e:Expr}{x:Str}(h:q0I e=some x):∃p,e=.Name x p:=by
 cases e<;>simp[q0I]at h;subst h;exact⟨_,rfl⟩
theorem q1G{e:Expr}{x:Const}(h:q1L e=some x):∃k p,e=.Constant x k p:=by
 cases e<;>simp[q1L]at h;subst h;exact⟨_,_,rfl⟩
theorem q4i{e a b:Expr}{o:Operator}(h:z1e e=some (a,o,b)):∃p,e=.BinOp a o b p:=by
 cases e<;>simp[z1e]at h;obtain⟨rfl,rfl,rfl⟩:=h;exact⟨_,rfl⟩
theorem q5S{e a:Expr}{o:UnaryOp}(h:asUn e=some (o,a)):∃p,e=.UnaryOp o a p:=by
 cases e<;>simp[asUn]at h;obtain⟨rfl,rfl⟩:=h;exact⟨_,rfl⟩
theorem q4l{e a:Expr}{os:List CmpOp}{bs:List Expr}(h:z1r e=some (a,os,bs)):∃p,e=.Compare a os bs p:=by
 cases e<;>simp[z1r]at h;obtain⟨rfl,rfl,rfl⟩:=h;exact⟨_,rfl⟩
theorem q3m{e:Expr}{o:BoolOp}{es:List Expr}(h:q7P e=some (o,es)):∃p,e=.BoolOp o es p:=by
 cases e<;>simp[q7P]at h;obtain⟨rfl,rfl⟩:=h;exact⟨_,rfl⟩
theorem q6D{e:Expr}{es:List Expr}(h:q8M e=some es):∃p,e=.List es p:=by
 cases e<;>simp[q8M]at h;subst h;exact⟨_,rfl⟩
theorem q4k{e:Expr}{es:List Expr}(h:q4P e=some es):∃k p,e=.Tuple es k p:=by
 cases e<;>simp[q4P]at h;subst h;exact⟨_,_,rfl⟩
theorem q1w{e a b:Expr}(h:q6I e=some (a,b)):∃p,e=.Subscript a b p:=by
 cases e<;>simp[q6I]at h;obtain⟨rfl,rfl⟩:=h;exact⟨_,rfl⟩
theorem q6q{e:Expr}{es:List Expr}(h:q9V e=some es):∃p,e=.JoinedStr es p:=by
 cases e<;>simp[q9V]at h;subst h;exact⟨_,rfl⟩
theorem q8e{e v:Expr}(h:z3W e=some v):∃p,e=.FormattedValue v (-1) none p:=by
 unfold z3W at h;split at h
 ·split at h
  ·rename_i q;subst q;cases h;exact⟨_,rfl⟩
  ·cases h
 ·cases h
theorem q2K{e:Expr}{a b c:Option Expr}(h:q3B e=some (a,b,c)):∃p,e=.Slice a b c p:=by
 cases e<;>simp[q3B]at h;obtain⟨rfl,rfl,rfl⟩:=h;exact⟨_,rfl⟩
theorem q0E{e f:Expr}{as:List Expr}{ks:List Keyword}{p:Pos}(h:q1M e=some (f,as,ks,p)):e=.Call f as ks p:=by
 cases e<;>simp[q1M]at h;obtain⟨rfl,rfl,rfl,rfl⟩:=h;rfl
theorem q1K{e a:Expr}{n:Str}{p:Pos}(h:q3p e=some (a,n,p)):e=.Attribute a n p:=by
 cases e<;>simp[q3p]at h;obtain⟨rfl,rfl,rfl⟩:=h;rfl
theorem q9U{e x:Expr}{gs:List Comprehension}{sc:Scope}(h:q9i e=some (x,gs,sc)):∃p,e=.ListComp x gs sc p:=by
 cases e<;>simp[q9i]at h;obtain⟨rfl,rfl,rfl⟩:=h;exact⟨_,rfl⟩
def visB(sg:Sg)(x:Str):Bool:=sg.sc.lookup x==some .local||sg.sc.lookup x==some .cell||sg.sc.lookup x==some .free
def gloB(sg:Sg)(x:Str):Bool:=sg.sc.lookup x==some .globalImplicit
def locB(sg:Sg)(x:Str):Bool:=sg.sc.lookup x==some .local||sg.sc.lookup x==some .cell
def q2Y(sg:Sg)(i:Nat)(x:Str):Bool:=sg.N[i]? == some x&&visB sg x&&x != "__debug__" && x != "__classdict__"
def bltB(sg:Sg)(x:Str)(f:Expr):Bool:=q0I f==some x&&gloB sg x&&sg.bl.contains x
def z5K:Bi->Str
 | .len=>"len" | .int=>"int" | .list=>"list" | .tuple=>"tuple"
structure CParts where
 elt:Expr
 tg:Expr
 it:Expr
 ifs:List Expr
 sc:Scope
def q6l(e:Expr):Option CParts:=match q9i e with
 | some (elt,[⟨tg,it,ifs,a⟩],sc)=>if a=0 then some ⟨elt,tg,it,ifs,sc⟩else none
 | _=>none
theorem q6n{e:Expr}{c:CParts}(h:q6l e=some c):∃p,e=.ListComp c.elt [⟨c.tg,c.it,c.ifs,0⟩] c.sc p:=by
 unfold q6l at h;split at h
 ·rename_i elt tg it ifs a sc q;split at h
  ·rename_i ha;cases h;subst ha;exact q9U q
  ·cases h
 ·cases h
def q4M(sg:Sg)(tn:List Str)(fr:List (Option Nat)):List Str:=tn++(fr.drop tn.length).map λo=>match o with | some i=>sg.N.getD i "" | none=>""
def z4W:Tg->Expr->Option (List Str)
 | .one _,e=>(q0I e).map λx=>[x]
 | .many is,e=>match q4P e with
  | some es=>if es.length=is.length then es.mapM q0I else none
  | none=>none
def tgOk(sg:Sg):Tg->Expr->Bool
 | .one i,e=>match q0I e with
  | some x=>sg.N[i]? == some x&&locB sg x
  | none=>false
 | .many is,e=>match q4P e with
  | some es=>es.length==is.length&&2<=es.length&&(is.zip es).all λp=>match q0I p.2 with
   | some x=>sg.N[p.1]? == some x&&locB sg x
   | none=>false
  | none=>false
def q4R:List Str->Bool
 | []=>true
 | x::r=>!r.contains x&&q4R r
def q3F:Tg->List Nat
 | .one i=>[i]
 | .many is=>is
def q3O(sg:Sg)(N':List Str)(fr:List (Option Nat))(sc:Scope)(tg:Tg):Bool:=(q3F tg).all (λi=>fr[i]? == some none) &&
 sc.kind == .function&&q4R N'&&q4R (sc.names.map (·.1))&&fr.length==N'.length &&
 (fr.zip N').all (λp=>match p.1 with | some i=>sg.N[i]? == some p.2&&sc.names.contains (p.2,.free) | none=>true) &&
 sc.names.all λy=>if y.2 == .free then sg.sc.lookup y.1==some .cell||sg.sc.lookup y.1==some .free else true
def z9g(p:Arguments):Option (List Str):=match p with
 | ⟨[],[a],none,[],[],none,[]⟩=>if(["way","entry","word"]:List Str).contains a.arg then some [a.arg]else none
 | ⟨[],[a,b],none,[],[],none,[]⟩=>if a.arg==("r" : Str)&&b.arg==("c" : Str)then some [a.arg,b.arg]else none
 | _=>none
def q9S:ME->Bool
 | .comp _ _ _ _=>true
 | _=>false
def isZp:ME->Bool
 | _=>false
def rdN:List Str:=["sign","at_digit","take","take_digit","take_plan","take_side","take_cards"]
def q6t(sg:Sg)(i m:Nat)(e:Expr):Option (List Expr):=match q1M e with
 | some (ef,es,[],pos)=>(match q3p ef with
  | some (o,n,apos)=>(match q0I o with
   | some x=>if q2Y sg i x&&rdN[m]? == some n&&apos.endLine==pos.line&&decide (es.length<20)then some es else none
   | none=>none)
  | none=>none)
 | _=>none
mutual
def corE(sg:Sg)(w:Bool):ME->Expr->Bool
 | .var i,e=>match q0I e with | some x=>q2Y sg i x | none=>false
 | .int i,e=>q1L e==some (.int i)
 | .bl i,e=>q1L e==some (.bool i)
 | .str x,e=>q1L e==some (.str x)&&decide (x.length<=1000)
 | .non,e=>q1L e==some .none
 | .glb x,e=>q0I e==some x&&gloB sg x&&x != "__debug__"
 | .bin op a b,e=>match z1e e with | some (ea,o,eb)=>o==op&&corE sg false a ea&&corE sg false b eb | none=>false
 | .neg a,e=>match asUn e with | some (o,ea)=>o == .USub&&corE sg false a ea | none=>false
 | .not a,e=>match asUn e with | some (o,ea)=>o == .Not&&corE sg false a ea | none=>false
 | .cmp op a b,e=>match z1r e with | some (ea,[o],[eb])=>o==op&&corE sg false a ea&&corE sg false b eb && !q3h eb | _=>false
 | .chain op op' a b c,e=>match z1r e with | some (ea,[o,o'],[eb,ec])=>o==op&&o'==op'&&corE sg false a ea&&corE sg false b eb&&corE sg false c ec && !q3h ec | _=>false
 | .and ms,e=>match q7P e with | some (o,es)=>o == .And&&q0V sg ms es | none=>false
 | .or ms,e=>match q7P e with | some (o,es)=>o == .Or&&q0V sg ms es | none=>false
 | .lst ms,e=>match q8M e with | some es=>q0V sg ms es | none=>false
 | .tup ms,e=>match q4P e with | some es=>q0V sg ms es | none=>false
 | .ix a b,e=>match q6I e with | some (ea,eb)=>corE sg false a ea&&corE sg false b eb && !q9z eb | none=>false
 | .sl a lo hi,e=>match q6I e with
  | some (ea,es)=>(match q3B es with | some (some el,some eh,none)=>corE sg false a ea&&corE sg false lo el&&corE sg false hi eh | _=>false)
  | none=>false
 | .stf a lo,e=>match q6I e with
  | some (ea,es)=>(match q3B es with | some (some el,none,none)=>corE sg false a ea&&corE sg false lo el | _=>false)
  | none=>false
 | .stt a hi,e=>match q6I e with
  | some (ea,es)=>(match q3B es with | some (none,some eh,none)=>corE sg false a ea&&corE sg false hi eh | _=>false)
  | none=>false
 | .stm a lo hi,e=>match q6I e with
  | some (ea,es)=>(match q3B es with | some (some el,some eh,none)=>corE sg false a ea&&corE sg false lo el&&corE sg false hi eh | _=>false)
  | none=>false
 | .fld i b,e=>match q3p e with
  | some (o,n,_)=>n==(if b then "place" else "text" : Str)&&(match q0I o with | some x=>q2Y sg i x | none=>false)
  | none=>false
 | .mth i m,e=>match q6t sg i m e with | some []=>true | _=>false
 | .scat a b,e=>match z1e e with | some (ea,o,eb)=>o == .Add&&corE sg false a ea&&corE sg false b eb | none=>false
 | .call f ms,e=>match q1M e with
  | some (ef,es,[],_)=>(match q0I ef with | some x=>sg.fn[f]? == some x&&gloB sg x&&x != "__debug__" | none=>false) && !es.isEmpty&&q0V sg ms es
  | _=>false
 | .bi f ms,e=>match q1M e with
  | some (ef,es,[],_)=>bltB sg (z5K f) ef && !es.isEmpty&&(match f with
   | _=>q0V sg ms es)
  | _=>false
 | .isi a ts,e=>match q1M e with
  | some (ef,[ea,et],[],_)=>bltB sg "isinstance" ef&&corE sg false a ea && !q0s ea && !q0s et&&(match ts with
   | [t]=>q0I et==some t&&gloB sg t&&sg.bl.contains t&&q2C.contains t
   | _=>false)
  | _=>false
 | .isx a t,e=>match q1M e with
  | some (ef,[ea,et],[],_)=>bltB sg "isinstance" ef&&corE sg false a ea && !q0s ea && !q0s et&&q0I et==some t&&gloB sg t&&((sg.cl.contains t&&t != "__debug__")||(sg.bl.contains t&&z0r.contains t))
  | _=>false
 | .comp elt tg it fr,e=>match q6l e with
  | some c=>c.ifs.isEmpty&&(corE sg true it c.it&&(!isZp it||(q4P c.tg).isSome)) && !q3h c.it&&(match z4W tg c.tg with
   | some tn=>q3O sg (q4M sg tn fr) fr c.sc tg&&tgOk ⟨q4M sg tn fr,c.sc.names,sg.fn,sg.bl,sg.cl,false,false⟩ tg c.tg&&corE ⟨q4M sg tn fr,c.sc.names,sg.fn,sg.bl,sg.cl,false,false⟩ false elt c.elt
   | none=>false)
  | none=>false
 | .fnd a b,e=>match q1M e with
  | some (ef,[eb],[],pos)=>(match q3p ef with
   | some (ea,n,apos)=>n == "find" && corE sg false a ea&&((q0I ea).isSome||(q1L ea).isSome)&&apos.endLine==pos.line&&corE sg false b eb && !q0s eb
   | none=>false)
  | _=>false
 | .fmt a,e=>match z3W e with | some v=>corE sg false a v | none=>false
 | .fst ms,e=>match q9V e with | some es=>decide (2<=es.length)&&q0V sg ms es | none=>false
 | .rng ms,e=>w&&(match q1M e with
  | some (ef,es,[],_)=>bltB sg "range" ef&&q0V sg ms es&&decide (es.length<=1)
  | _=>false)
def q0V(sg:Sg):List ME->List Expr->Bool
 | [],[]=>true
 | m::ms,e::es=>corE sg false m e && !q0s e&&q0V sg ms es
 | _,_=>false
end
def q3t:ExceptHandler->Option (Option Expr×Option Str×List Stmt) | .ExceptHandler t n b _=>some (t,n,b)
def q3E:Str:="_law_hung"
def hunB(sg:Sg)(i:Nat)(v:Expr):Option Expr:=match q1M v with
 | some (ef,[ea,eo],[],_)=>(match q0I ef,q0I eo with
  | some f,some x=>if f==q3E&&gloB sg f&&q2Y sg i x && !q0s ea then some ea else none
  | _,_=>none)
 | _=>none
mutual
def corS(sg:Sg):MS->Stmt->Bool
 | .set i _ e,s=>match s with
  | .Assign [t] v pos=>(match t with
   | .Name x pt=>sg.N[i]? == some x&&locB sg x&&corE sg false e v&&(!q5s v||q9S e)
   | _=>false)
  | _=>false
 | .app i e,s=>match s with
  | .Expr v _=>(match q1M v with
   | some (ef,[ea],[],pos)=>(match q3p ef with
    | some (o,n,apos)=>n == "append" && (match q0I o with | some x=>q2Y sg i x | none=>false)&&corE sg false e ea && !q0s ea&&apos.endLine==pos.line
    | none=>false)
   | _=>false)
  | _=>false
 | .ret e,s=>match s with
  | .Return (some v) _=>corE sg false e v
  | _=>false
 | .iff c a b,s=>match s with
  | .If ec ea eb _=>corE sg false c ec&&q2w sg a ea&&q2w sg b eb
  | _=>false
 | .fo tg it body,s=>match s with
  | .For t i b [] _=>sg.lp&&tgOk sg tg t&&(corE sg true it i&&(!isZp it||(q4P t).isSome)) && !q3h i&&q2w sg body b
  | _=>false
 | .wh c body,s=>match s with
  | .While t b [] _=>sg.lp&&corE sg false c t&&q2w sg body b
  | _=>false
 | .fau i e,s=>match s with
  | .AugAssign t o v _=>o == .Add&&(match q3p t with
   | some (ob,n,_)=>n == "place" && (match q0I ob with | some x=>q2Y sg i x | none=>false)
   | none=>false)&&corE sg false e v
  | _=>false
 | .msx i m es,s=>match s with
  | .Expr v _=>(match q6t sg i m v with | some as=>q0V sg es as | none=>false) && !q5s v
  | _=>false
 | .mst j i m es,s=>match s with
  | .Assign [t] v _=>(match t with
   | .Name x _=>sg.N[j]? == some x&&locB sg x
   | _=>false)&&(match q6t sg i m v with | some as=>q0V sg es as | none=>false) && !q5s v
  | _=>false
 | .rtm _ e,s=>match s with
  | .Return (some v) _=>corE sg false e v
  | _=>false
 | .rtd i m x,s=>match s with
  | .Return (some v) _=>(match q4P v with
   | some [a,b]=>corE sg false (.str x) a && !q0s a&&(match q6t sg i m b with | some []=>true | _=>false)
   | _=>false)
  | _=>false
 | .mkr i e,s=>match s with
  | .Assign [t] v _=>(match t with
   | .Name x _=>sg.N[i]? == some x&&locB sg x
   | _=>false)&&(match q1M v with
   | some (ef,[ea],[],_)=>q0I ef==some "Reader" && gloB sg "Reader" && corE sg false e ea && !q0s ea
   | _=>false)
  | _=>false
 | .rdp j i,s=>match s with
  | .Assign [t] v _=>(match t with
   | .Name x _=>sg.N[j]? == some x&&locB sg x
   | _=>false)&&(match q6t sg i 4 v with | some []=>true | _=>false)
  | _=>false
 | .rse c e,s=>match s with
  | .Raise (some v) none _=>(match q1M v with
   | some (ef,[ea],[],_)=>sg.top&&q0I ef==some c&&gloB sg c&&c != "__debug__" && corE sg false e ea && !q0s ea
   | _=>false)
  | _=>false
 | .tryc body c ie ic,s=>match s with
  | .Try b [h] [] [] _=>sg.top&&q2w ⟨sg.N,sg.sc,sg.fn,sg.bl,sg.cl,false,false⟩ body b&&(match q3t h with
   | some (some t,some n,[.Assign [t2] v2 _])=>q0I t==some c&&gloB sg c&&c != "__debug__" && sg.cl.contains c&&sg.N[ie]? == some n&&sg.sc.lookup n==some .local&&n != "__debug__" && n != "__classdict__" &&
     q0I v2==some n&&(match q0I t2 with | some x=>sg.N[ic]? == some x&&locB sg x | none=>false)&&ie != ic
   | _=>false)
  | _=>false
 | .tryr body c cr msg,s=>match s with
  | .Try b [h] [] [] _=>sg.top&&q2w ⟨sg.N,sg.sc,sg.fn,sg.bl,sg.cl,false,false⟩ body b&&(match q3t h with
   | some (some t,none,[.Raise (some v) (some k) _])=>(match q1M v with
    | some (ef,[ea],[],_)=>q0I t==some c&&gloB sg c&&c != "__debug__" && sg.cl.contains c&&q0I ef==some cr&&gloB sg cr&&cr != "__debug__" && q1L ea==some (.str msg)&&q1L k==some .none
    | _=>false)
   | _=>false)
  | _=>false
 | .frz _,_=>false
def q2w(sg:Sg):List MS->List Stmt->Bool
 | [],[]=>true
 | .frz _::ms,ss=>q2w sg ms ss
 | m::ms,s::ss=>corS sg m s&&q2w sg ms ss
 | _,_=>false
end
end L2
end
noncomputable section
namespace L2
open PySem PySem.Spec PyProof.Rows
def q9y(H:Hp)(q:Str)(params:Arguments)(body:Expr)(scope:Scope)(cl:List (Str×Addr))(f:Addr):Prop:=
 ∃c' oc u vs t pm ctv,H f=some (.frz (PySem.W.kla_obj "<lambda>" q params body scope cl pm c' ctv) (.own f))/\H c'=some (.frz oc u)/\oc.data=.fields vs/\vs[1]? = some (.str q t)
theorem q9y.mono{H H':Hp}{q:Str}{params:Arguments}{body:Expr}{scope:Scope}{cl:List (Str×Addr)}{f:Addr}(e:Same H H')(h:q9y H q params body scope cl f):q9y H' q params body scope cl f:=by
 obtain⟨c',oc,u,vs,t,pm,ctv,e1,e2,r⟩:=h;exact⟨c',oc,u,vs,t,pm,ctv,e _ _ e1,e _ _ e2,r⟩
structure LamScope(N ps:List Str)(sc:Scope)(cl:List (Str×Addr))(l:List Addr):Prop where
 kind:sc.kind=.function
 co:sc.isCoroutine=false
 gen:sc.isGenerator=false
 nd:N.Nodup
 pre:N.take ps.length=ps
 par:∀x∈ps,sc.names.lookup x=some .local
 nocell:∀y∈sc.names,y.2 ≠ .cell
 fre:∀i x,ps.length<=i->N[i]? = some x->sc.names.lookup x=some .free
 has:∀x,sc.names.lookup x=some .free->∃c,cl.lookup x=some c
 inj:∀x y c,cl.lookup x=some c->cl.lookup y=some c->x=y
 mem:∀x c,cl.lookup x=some c->c∈l
def q9r(H:Hp)(N:List Str)(np:Nat)(cl:List (Str×Addr))(l:List Addr)(ws:List V):Prop:=N.length=np+ws.length/\(∀c∈l,∃o v,H c=some (.frz o (.own c))/\o.data=.cell v) /\
 ∀(i:Nat) x v,N[np+i]? = some x->ws[i]? = some v->∃c o u,cl.lookup x=some c/\H c=some (.frz o (.own c))/\o.data=.cell (some u)/\RelV v u
theorem q9r.mono{H H':Hp}{N:List Str}{np:Nat}{cl:List (Str×Addr)}{l:List Addr}{ws:List V}(e:Same H H')(h:q9r H N np cl l ws):q9r H' N np cl l ws:=
 ⟨h.1,λc hc=>by obtain⟨o,v,e1,e2⟩:=h.2.1 c hc;exact⟨o,v,e _ _ e1,e2⟩,λi x v h1 h2=>by obtain⟨c,o,u,e1,e2,r⟩:=h.2.2 i x v h1 h2;exact⟨c,o,u,e1,e _ _ e2,r⟩⟩
def z2A(m:LamD)(params:Arguments)(body:Expr)(scope:Scope):Bool:=z9g params==some (m.N.take m.np)&&corE ⟨m.N,scope.names,m.fn,m.bl,m.cl,false,false⟩ false m.body body
end L2
end
noncomputable section
namespace L2
open PySem PySem.Spec PyProof.Rows
structure Dm where
 K:PySem.W.Frag
 mg:Str->Option Value
abbrev Cx.D(X:Cx):Dm:=⟨X.K,X.mg⟩
def SqS(K:PySem.W.Frag)(H:Hp)(a:Addr)(xs:List V):Prop:=(∃o,H a=some (.frz o (.lst xs))) \/
 ∃(o:Obj) (its:Array Value) (n:Nat),K.lookup a=some o/\o.cls=.type "list" /\ o.dict=none/\o.data=.seq its n/\its.size<=sizeLine/\Vals xs its.toList
theorem SqS.sq{K:PySem.W.Frag}{H:Hp}{a:Addr}{xs:List V}(h:SqS K H a xs):SqL K H a xs:=by
 rcases h with h | h
 ·exact .inl (.inr h)
 ·exact .inr h
theorem SqS.of{K:PySem.W.Frag}{H:Hp}{a:Addr}{xs:List V}(hO:Only H)(h:SqL K H a xs):SqS K H a xs:=by
 rcases h with(h | h) | h
 ·rcases hO a with z | z
  ·rw[h]at z;cases z
  ·rcases z with⟨o,ys,z⟩ | ⟨q,z⟩<;>(rw[h]at z;cases z)
 ·exact .inl h
 ·exact .inr h
theorem Same.sqs{K:PySem.W.Frag}{H H':Hp}{a:Addr}{xs:List V}(e:Same H H')(h:SqS K H a xs):SqS K H' a xs:=by
 rcases h with⟨o,h⟩ | h
 ·exact .inl ⟨o,e _ _ h⟩
 ·exact .inr h
def dKey:Key->DKey
 | .inl i=>.i i
 | .inr x=>.s x
def mutO:HO->Bool
 | .lst _=>true
 | .dK _=>true
 | .dT _=>true
 | .ins _ _ _=>true
 | _=>false
mutual
def Rep(D:Dm)(H:Hp):DV->V->Prop
 | .non,v=>v=.non
 | .bl b,v=>v=.bl b
 | .int i,v=>v=.int i
 | .str x,v=>v=.str x/\x.length<=sizeLine
 | .tup ds,v=>∃a xs,v=.ref a/\SqT D.K H a xs/\RepL D H ds xs
 | .lst ds,v=>∃a xs,v=.ref a/\H a=some (.lst xs)/\RepL D H ds xs
 | .dct ks vs,v=>(∃a o kvs,v=.ref a/\H a=some (.frz o (.dK kvs))/\kvs.map (λp=>dKey p.1)=ks/\RepL D H vs (kvs.map (·.2)))\/∃a o kvs,v=.ref a/\H a=some (.frz o (.dT kvs))/\kvs.map (λp=>DKey.t p.1)=ks/\RepL D H vs (kvs.map (·.2))
 | .exc c,v=>∃a C,v=.ref a/\D.mg c=some C/\H a=some (excO a C)
 | .fn x,v=>∃f,v=.ref f/\D.mg x=some (.ref f)
 | .lam m cs,v=>∃f pr bd sc q cl l ws,v=.ref f/\q9y H q pr bd sc cl f/\z2A m pr bd sc=true/\LamScope m.N (m.N.take m.np) sc cl l/\RepL D H cs ws/\q9r H m.N m.np cl l ws
 | .scr ns,v=>∃a,v=.ref a/\SqS D.K H a (ns.map V.int)
def RepL(D:Dm)(H:Hp):List DV->List V->Prop
 | [],xs=>xs=[]
 | d::ds,xs=>∃v vs,xs=v::vs/\Rep D H d v/\RepL D H ds vs
end
theorem Same.tseq{K:PySem.W.Frag}{H H':Hp}{a:Addr}{xs:List V}(e:Same H H')(h:SqT K H a xs):SqT K H' a xs:=by
 rcases h with(h | ⟨o,h⟩) | h
 ·exact .inl (.inl (e _ _ h))
 ·exact .inl (.inr ⟨o,e _ _ h⟩)
 ·exact .inr h
mutual
theorem Rep.mono{D:Dm}{H H':Hp}(e:Same H H'):∀{d:DV} {v:V},Rep D H d v->Rep D H' d v
 | .non,_,h=>by unfold Rep at h ⊢;exact h
 | .bl _,_,h=>by unfold Rep at h ⊢;exact h
 | .int _,_,h=>by unfold Rep at h ⊢;exact h
 | .str _,_,h=>by unfold Rep at h ⊢;exact h
 | .tup ds,_,h=>by unfold Rep at h ⊢;obtain⟨a,xs,e1,e2,e3⟩:=h;exact⟨a,xs,e1,e.tseq e2,RepL.mono e e3⟩
 | .lst ds,_,h=>by unfold Rep at h ⊢;obtain⟨a,xs,e1,e2,e3⟩:=h;exact⟨a,xs,e1,e _ _ e2,RepL.mono e e3⟩
 | .dct _ _,_,h=>by
  unfold Rep at h ⊢;rcases h with⟨a,o,kvs,e1,e2,e3,e4⟩ | ⟨a,o,kvs,e1,e2,e3,e4⟩
  ·exact .inl ⟨a,o,kvs,e1,e _ _ e2,e3,RepL.mono e e4⟩
  ·exact .inr ⟨a,o,kvs,e1,e _ _ e2,e3,RepL.mono e e4⟩
 | .exc C,_,h=>by unfold Rep at h ⊢;obtain⟨a,C,e1,e2,e3⟩:=h;exact⟨a,C,e1,e2,e _ _ e3⟩
 | .fn _,_,h=>by unfold Rep at h ⊢;exact h
 | .lam m cs,_,h=>by unfold Rep at h ⊢;obtain⟨f,pr,bd,sc,q,cl,l,ws,e1,e2,e3,e4,e5,e6⟩:=h;exact⟨f,pr,bd,sc,q,cl,l,ws,e1,e2.mono e,e3,e4,RepL.mono e e5,e6.mono e⟩
 | .scr _,_,h=>by unfold Rep at h ⊢;obtain⟨a,e1,e2⟩:=h;exact⟨a,e1,e.sqs e2⟩
theorem RepL.mono{D:Dm}{H H':Hp}(e:Same H H'):∀{ds:List DV} {xs:List V},RepL D H ds xs->RepL D H' ds xs
 | [],_,h=>by unfold RepL at h ⊢;exact h
 | d::ds,_,h=>by unfold RepL at h ⊢;obtain⟨v,vs,e1,e2,e3⟩:=h;exact⟨v,vs,e1,Rep.mono e e2,RepL.mono e e3⟩
end
section
variable {D:Dm} {H H':Hp} {v:V} {xs ys:List V} {ds es:List DV} {d:DV}
theorem q0U{i:Int}:Rep D H (.int i) v↔v=.int i:=by unfold Rep;exact Iff.rfl
theorem q4y{i:Bool}:Rep D H (.bl i) v↔v=.bl i:=by unfold Rep;exact Iff.rfl
theorem q0R{i:Str}:Rep D H (.str i) v↔(v=.str i/\i.length<=sizeLine):=by unfold Rep;exact Iff.rfl
theorem q2Z:Rep D H .non v↔v=.non:=by unfold Rep;exact Iff.rfl
theorem q0L:Rep D H (.tup ds) v↔∃a xs,v=.ref a/\SqT D.K H a xs/\RepL D H ds xs:=by unfold Rep;exact Iff.rfl
theorem q0G:Rep D H (.lst ds) v↔∃a xs,v=.ref a/\H a=some (.lst xs)/\RepL D H ds xs:=by unfold Rep;exact Iff.rfl
theorem q6N{c:Str}:Rep D H (.exc c) v↔∃a C,v=.ref a/\D.mg c=some C/\H a=some (excO a C):=by unfold Rep;exact Iff.rfl
theorem z4e{m:LamD}{cs:List DV}:Rep D H (.lam m cs) v↔∃f pr bd sc q cl l ws,v=.ref f/\q9y H q pr bd sc cl f/\z2A m pr bd sc=true/\LamScope m.N (m.N.take m.np) sc cl l/\RepL D H cs ws/\q9r H m.N m.np cl l ws:=by unfold Rep;exact Iff.rfl
theorem z5o{x:Str}:Rep D H (.fn x) v↔∃f,v=.ref f/\D.mg x=some (.ref f):=by unfold Rep;exact Iff.rfl
theorem q1X{ns:List Int}:Rep D H (.scr ns) v↔∃a,v=.ref a/\SqS D.K H a (ns.map V.int):=by unfold Rep;exact Iff.rfl
theorem q4V{ks:List DKey}{vs:List DV}:Rep D H (.dct ks vs) v↔((∃a o kvs,v=.ref a/\H a=some (.frz o (.dK kvs))/\kvs.map (λp=>dKey p.1)=ks/\RepL D H vs (kvs.map (·.2)))\/∃a o kvs,v=.ref a/\H a=some (.frz o (.dT kvs))/\kvs.map (λp=>DKey.t p.1)=ks/\RepL D H vs (kvs.map (·.2))):=by unfold Rep;exact Iff.rfl
theorem q0K:RepL D H [] xs↔xs=[]:=by unfold RepL;exact Iff.rfl
theorem q0t:RepL D H (d::ds) xs↔∃v vs,xs=v::vs/\Rep D H d v/\RepL D H ds vs:=by
 constructor
 ·intro h;unfold RepL at h;exact h
 ·intro h;unfold RepL;exact h
end
theorem RepL.length{D:Dm}{H:Hp}:∀{ds:List DV} {xs:List V},RepL D H ds xs->xs.length=ds.length
 | [],_,h=>by rw[q0K.mp h];rfl
 | d::ds,_,h=>by obtain⟨v,vs,e1,_,e3⟩:=q0t.mp h;rw[e1,List.length_cons,List.length_cons,RepL.length e3]
theorem RepL.get{D:Dm}{H:Hp}:∀{ds:List DV} {xs:List V} {i:Nat} {d:DV},RepL D H ds xs->ds[i]? = some d->∃v,xs[i]? = some v/\Rep D H d v
 | [],_,_,_,_,e=>by simp at e
 | d::ds,_,i,d',h,e=>by
  obtain⟨v,vs,e1,e2,e3⟩:=q0t.mp h;subst e1;cases i with
  | zero=>simp at e;subst e;exact⟨v,rfl,e2⟩
  | succ i=>simpa using RepL.get (i:=i) e3 (by simpa using e)
theorem RepL.append{D:Dm}{H:Hp}:∀{ds es:List DV} {xs ys:List V},RepL D H ds xs->RepL D H es ys->RepL D H (ds++es) (xs++ys)
 | [],_,_,_,h,h'=>by rw[q0K.mp h];exact h'
 | d::ds,_,_,_,h,h'=>by obtain⟨v,vs,e1,e2,e3⟩:=q0t.mp h;subst e1;exact q0t.mpr ⟨v,_,rfl,e2,RepL.append e3 h'⟩
theorem RepL.one{D:Dm}{H:Hp}{d:DV}{v:V}(h:Rep D H d v):RepL D H [d] [v]:=q0t.mpr ⟨v,[],rfl,h,q0K.mpr rfl⟩
theorem RepL.take{D:Dm}{H:Hp}:∀{ds:List DV} {xs:List V} (n:Nat),RepL D H ds xs->RepL D H (ds.take n) (xs.take n)
 | _,_,0,_=>q0K.mpr rfl
 | [],_,n+1,h=>by rw[q0K.mp h];exact q0K.mpr rfl
 | d::ds,_,n+1,h=>by obtain⟨v,vs,e1,e2,e3⟩:=q0t.mp h;subst e1;exact q0t.mpr ⟨v,_,rfl,e2,RepL.take n e3⟩
theorem RepL.drop{D:Dm}{H:Hp}:∀{ds:List DV} {xs:List V} (n:Nat),RepL D H ds xs->RepL D H (ds.drop n) (xs.drop n)
 | _,_,0,h=>h
 | [],_,n+1,h=>by rw[q0K.mp h];exact q0K.mpr rfl
 | d::ds,_,n+1,h=>by obtain⟨v,vs,e1,e2,e3⟩:=q0t.mp h;subst e1;exact RepL.drop n e3
theorem RepL.rep{D:Dm}{H:Hp}{ds:List DV}{xs:List V}(h:RepL D H ds xs):∀k:Nat,RepL D H (List.replicate k ds).flatten (List.replicate k xs).flatten
 | 0=>q0K.mpr rfl
 | k+1=>by rw[List.replicate_succ,List.replicate_succ,List.flatten_cons,List.flatten_cons];exact h.append (RepL.rep h k)
theorem q2d{D:Dm}{H:Hp}:∀(ns:List Int),RepL D H (ns.map DV.int) (ns.map V.int)
 | []=>q0K.mpr rfl
 | n::ns=>q0t.mpr ⟨_,_,rfl,q0U.mpr rfl,q2d ns⟩
def wo(O:List Addr)(H:Hp):Hp:=λb=>if b∈O then none else H b
theorem z2Y{O:List Addr}{H:Hp}{b:Addr}(h:b∈O):wo O H b=none:=if_pos h
theorem q0m{O:List Addr}{H:Hp}{b:Addr}(h:b∉O):wo O H b=H b:=if_neg h
theorem q0M{O:List Addr}{H:Hp}{b:Addr}{o:HO}(h:wo O H b=some o):b∉O/\H b=some o:=by
 by_cases hb:b∈O
 ·rw[z2Y hb]at h;cases h
 ·rw[q0m hb]at h;exact⟨hb,h⟩
theorem Same.wo{O:List Addr}{H H':Hp}(e:Same H H'):Same (wo O H) (wo O H'):=λb o h=>by
 obtain⟨hb,h⟩:=q0M h;rw[q0m hb];exact e b o h
theorem q1B{O:List Addr}{H:Hp}:Same (L2.wo O H) H:=λb o h=>(q0M h).2
theorem q0Q{O O':List Addr}{H:Hp}(h:∀b∈O',b∈O):Same (L2.wo O H) (L2.wo O' H):=λb o e=>by
 obtain⟨hb,e⟩:=q0M e;rw[q0m λz=>hb (h b z)];exact e
theorem q0w{H:Hp}{p:Addr}{o:HO}(h:H p=none):Same H (upd H p o):=λb u q=>by rw[q0j (q0u q h)];exact q
structure Hid(O W:List Addr)(H0 H:Hp):Prop where
 ot:∀a∈O++W,H0 a≠none
 same:Same H0 H
 wl:∀a∈W,∃o,H0 a=some o/\mutO o=true
 dj:∀a∈W,a∉O
 om:∀a∈O,∃o,H0 a=some o/\mutO o=true
def Hdn(O:List Addr)(H:Hp):Prop:=∀a∈O,∃o,H a=some o/\mutO o=true
theorem Hdn.ne{O:List Addr}{H:Hp}(h:Hdn O H):∀a∈O,H a≠none:=λa ha q=>by obtain⟨o,e,_⟩:=h a ha;rw[q]at e;cases e
theorem Hid.omS{O W:List Addr}{H0 H H':Hp}(h:Hid O W H0 H)(e:Same H0 H'):Hdn O H':=λa ha=>by obtain⟨o,q,m⟩:=h.om a ha;exact⟨o,e _ _ q,m⟩
theorem Hid.omW{O W:List Addr}{H0 H:Hp}{p:Addr}{x:HO}(h:Hid O W H0 H)(hp:p∈W):Hdn O (upd H0 p x):=λa ha=>by
 obtain⟨o,q,m⟩:=h.om a ha;exact⟨o,by rw[q0j λz=>h.dj p hp (by rw[←z];exact ha)];exact q,m⟩
theorem Hid.hdO{O W:List Addr}{H0 H:Hp}(h:Hid O W H0 H):Hdn O H:=h.omS h.same
theorem Hid.hdA{O W:List Addr}{H0 H:Hp}(h:Hid O W H0 H):Hdn (O++W) H:=λa ha=>by
 rcases List.mem_append.mp ha with z | z
 ·exact h.hdO a z
 ·obtain⟨o,q,m⟩:=h.wl a z;exact⟨o,h.same _ _ q,m⟩
theorem Hid.mono{O W:List Addr}{H0 H H':Hp}(h:Hid O W H0 H)(e:Same H H'):Hid O W H0 H':=⟨h.ot,h.same.trans e,h.wl,h.dj,h.om⟩
theorem Hid.newOut{O W:List Addr}{H0 H:Hp}(h:Hid O W H0 H){p:Addr}(hp:H p=none):p∉O++W:=λz=>h.ot p z (h.same.free hp)
mutual
theorem Rep.immut{D:Dm}{O W:List Addr}{H:Hp}(hw:∀a∈W,∃o,H a=some o/\mutO o=true):∀{d:DV} {v:V},d.immut=true->Rep D (L2.wo O H) d v->Rep D (L2.wo (O++W) H) d v
 | .non,_,_,h=>by unfold Rep at h ⊢;exact h
 | .bl _,_,_,h=>by unfold Rep at h ⊢;exact h
 | .int _,_,_,h=>by unfold Rep at h ⊢;exact h
 | .str _,_,_,h=>by unfold Rep at h ⊢;exact h
 | .tup ds,_,m,h=>by
  unfold Rep at h ⊢;obtain⟨a,xs,e1,e2,e3⟩:=h;have m':DV.immuts ds=true:=by unfold DV.immut at m;exact m
  refine⟨a,xs,e1,?_,RepL.immut hw m' e3⟩;rcases e2 with(h | ⟨o,h⟩) | h
  ·obtain⟨ha,h⟩:=q0M h;refine .inl (.inl ?_);rw[q0m λz=>?_]
   ·exact h
   ·rcases List.mem_append.mp z with z | z
    ·exact ha z
    ·obtain⟨ys,q,m⟩:=hw a z;rw[h]at q;cases q;cases m
  ·obtain⟨ha,h⟩:=q0M h;refine .inl (.inr ⟨o,?_⟩);rw[q0m λz=>?_]
   ·exact h
   ·rcases List.mem_append.mp z with z | z
    ·exact ha z
    ·obtain⟨ys,q,m⟩:=hw a z;rw[h]at q;cases q;cases m
  ·exact .inr h
 | .lst ds,_,m,_=>by unfold DV.immut at m;cases m
 | .dct ks vs,_,m,h=>by
  have m':DV.immuts vs=true:=by unfold DV.immut at m;exact m
  have ou:∀{a:Addr} {o:Obj} {u:HO},L2.wo O H a=some (.frz o u)->L2.wo (O++W) H a=some (.frz o u):=λ{a o u} e=>by
   obtain⟨ha,h⟩:=q0M e;rw[q0m λz=>?_]
   ·exact h
   ·rcases List.mem_append.mp z with z | z
    ·exact ha z
    ·obtain⟨ys,q,m⟩:=hw a z;rw[h]at q;cases q;cases m
  rcases q4V.mp h with⟨a,o,kvs,e1,e2,e3,e4⟩ | ⟨a,o,kvs,e1,e2,e3,e4⟩
  ·exact q4V.mpr (.inl ⟨a,o,kvs,e1,ou e2,e3,RepL.immut hw m' e4⟩)
  ·exact q4V.mpr (.inr ⟨a,o,kvs,e1,ou e2,e3,RepL.immut hw m' e4⟩)
 | .exc C,_,_,h=>by
  unfold Rep at h ⊢;obtain⟨a,C,e1,e2,e3⟩:=h;obtain⟨ha,h⟩:=q0M e3;refine⟨a,C,e1,e2,?_⟩;rw[q0m λz=>?_]
  ·exact h
  ·rcases List.mem_append.mp z with z | z
   ·exact ha z
   ·obtain⟨ys,q,m⟩:=hw a z;rw[h]at q;cases q;cases m
 | .fn _,_,_,h=>by unfold Rep at h ⊢;exact h
 | .lam _ _,_,m,_=>by unfold DV.immut at m;cases m
 | .scr ns,_,_,h=>by
  unfold Rep at h ⊢;obtain⟨a,e1,e2⟩:=h;refine⟨a,e1,?_⟩;rcases e2 with⟨o,h⟩ | h
  ·obtain⟨ha,h⟩:=q0M h;refine .inl ⟨o,?_⟩;rw[q0m λz=>?_]
   ·exact h
   ·rcases List.mem_append.mp z with z | z
    ·exact ha z
    ·obtain⟨ys,q,m⟩:=hw a z;rw[h]at q;cases q;cases m
  ·exact .inr h
theorem RepL.immut{D:Dm}{O W:List Addr}{H:Hp}(hw:∀a∈W,∃o,H a=some o/\mutO o=true):∀{ds:List DV} {xs:List V},DV.immuts ds=true->RepL D (L2.wo O H) ds xs->RepL D (L2.wo (O++W) H) ds xs
 | [],_,_,h=>by unfold RepL at h ⊢;exact h
 | d::ds,_,m,h=>by unfold RepL at h ⊢;obtain⟨v,vs,e1,e2,e3⟩:=h;unfold DV.immuts at m;rw[Bool.and_eq_true]at m;exact⟨v,vs,e1,Rep.immut hw m.1 e2,RepL.immut hw m.2 e3⟩
end
def RepT(D:Dm)(W:List Addr)(Ht H:Hp)(d:DV)(v:V):Prop:=match d with
 | .lst ds=>∃a xs,v=.ref a/\a∈W/\Ht a=some (.lst xs)/\RepL D H ds xs
 | d=>Rep D H d v
theorem RepT.mono{D:Dm}{W:List Addr}{Ht Ht' H H':Hp}{d:DV}{v:V}(et:Same Ht Ht')(e:Same H H')(h:RepT D W Ht H d v):RepT D W Ht' H' d v:=by
 cases d with
 | lst ds=>obtain⟨a,xs,e1,e0,e2,e3⟩:=h;exact⟨a,xs,e1,e0,et _ _ e2,e3.mono e⟩
 | non=>exact Rep.mono (D:=D) (d:=.non) (v:=v) e h
 | bl b=>exact Rep.mono (D:=D) (d:=.bl b) (v:=v) e h
 | int b=>exact Rep.mono (D:=D) (d:=.int b) (v:=v) e h
 | str b=>exact Rep.mono (D:=D) (d:=.str b) (v:=v) e h
 | tup b=>exact Rep.mono (D:=D) (d:=.tup b) (v:=v) e h
 | dct b c=>exact Rep.mono (D:=D) (d:=.dct b c) (v:=v) e h
 | exc b=>exact Rep.mono (D:=D) (d:=.exc b) (v:=v) e h
 | fn b=>exact Rep.mono (D:=D) (d:=.fn b) (v:=v) e h
 | lam b c=>exact Rep.mono (D:=D) (d:=.lam b c) (v:=v) e h
 | scr b=>exact Rep.mono (D:=D) (d:=.scr b) (v:=v) e h
theorem RepT.rep{D:Dm}{W:List Addr}{Ht H:Hp}{d:DV}{v:V}(e:Same H Ht)(h:RepT D W Ht H d v):Rep D Ht d v:=by
 cases d with
 | lst ds=>obtain⟨a,xs,e1,e0,e2,e3⟩:=h;exact q0G.mpr ⟨a,xs,e1,e2,e3.mono e⟩
 | non=>exact Rep.mono (D:=D) (d:=.non) (v:=v) e h
 | bl b=>exact Rep.mono (D:=D) (d:=.bl b) (v:=v) e h
 | int b=>exact Rep.mono (D:=D) (d:=.int b) (v:=v) e h
 | str b=>exact Rep.mono (D:=D) (d:=.str b) (v:=v) e h
 | tup b=>exact Rep.mono (D:=D) (d:=.tup b) (v:=v) e h
 | dct b c=>exact Rep.mono (D:=D) (d:=.dct b c) (v:=v) e h
 | exc b=>exact Rep.mono (D:=D) (d:=.exc b) (v:=v) e h
 | fn b=>exact Rep.mono (D:=D) (d:=.fn b) (v:=v) e h
 | lam b c=>exact Rep.mono (D:=D) (d:=.lam b c) (v:=v) e h
 | scr b=>exact Rep.mono (D:=D) (d:=.scr b) (v:=v) e h
def Got(D:Dm)(O W:List Addr)(H0 H:Hp)(d:DV)(c:Cl)(v:V):Prop:=match c with
 | .weak=>Rep D (L2.wo O H) d v
 | .top=>RepT D W (L2.wo O H) (L2.wo (O++W) H) d v
 | .strong=>Rep D (L2.wo (O++W) H) d v
 | .fresh=>∃p xs ds,v=.ref p/\d=.lst ds/\H0 p=none/\H p=some (.lst xs)/\RepL D (L2.wo (p::(O++W)) H) ds xs
 | .ft=>∃t ts p xs ds es,v=.ref t/\d=.tup (.lst ds::es)/\SqT D.K (L2.wo (O++W) H) t (.ref p::ts)/\H0 p=none/\H p=some (.lst xs)/\RepL D (L2.wo (p::(O++W)) H) ds xs/\RepL D (L2.wo (p::(O++W)) H) es ts
section
variable {D:Dm} {O W:List Addr} {H0 H H':Hp} {d:DV} {ds:List DV} {c:Cl} {v:V}
theorem q6p:∀b∈O,b∈O++W:=λ_ h=>List.mem_append_left _ h
theorem Got.mono(h:Got D O W H0 H d c v)(e:Same H H'):Got D O W H0 H' d c v:=by
 cases c with
 | weak=>exact Rep.mono e.wo h
 | top=>exact RepT.mono e.wo e.wo h
 | strong=>exact Rep.mono e.wo h
 | fresh=>
  obtain⟨p,xs,ds,e1,e2,e3,e4,e5⟩:=h;exact⟨p,xs,ds,e1,e2,e3,e _ _ e4,e5.mono e.wo⟩
 | ft=>
  obtain⟨t,ts,p,xs,ds,es,e1,e2,e0,e3,e4,e5,e6⟩:=h;exact⟨t,ts,p,xs,ds,es,e1,e2,e.wo.tseq e0,e3,e _ _ e4,e5.mono e.wo,e6.mono e.wo⟩
theorem Got.since{H1:Hp}(h:Got D O W H1 H d c v)(e:Same H0 H1):Got D O W H0 H d c v:=by
 cases c with
 | weak=>exact h
 | top=>exact h
 | strong=>exact h
 | fresh=>
  obtain⟨p,xs,ds,e1,e2,e3,e4,e5⟩:=h;exact⟨p,xs,ds,e1,e2,e.free e3,e4,e5⟩
 | ft=>
  obtain⟨t,ts,p,xs,ds,es,e1,e2,e0,e3,e4,e5,e6⟩:=h;exact⟨t,ts,p,xs,ds,es,e1,e2,e0,e.free e3,e4,e5,e6⟩
theorem Got.ft(h:Got D O W H0 H d .ft v)(hd:Hid O W H0 H):Rep D (L2.wo (O++W) H) d v:=by
 obtain⟨t,ts,p,xs,ds,es,e1,e2,e0,e3,e4,e5,e6⟩:=h;have hp:p∉O++W:=λz=>hd.ot p z e3
 have up:Same (L2.wo (p::(O++W)) H) (L2.wo (O++W) H):=q0Q λb hb=>List.mem_cons_of_mem _ hb;rw[e2];exact q0L.mpr ⟨t,_,e1,e0,q0t.mpr ⟨_,_,rfl,q0G.mpr ⟨p,xs,rfl,by rw[q0m hp];exact e4,e5.mono up⟩,e6.mono up⟩⟩
theorem Got.strong(h:Got D O W H0 H d .fresh v)(hd:Hid O W H0 H):Rep D (L2.wo (O++W) H) d v:=by
 obtain⟨p,xs,ds,e1,e2,e3,e4,e5⟩:=h;have hp:p∉O++W:=λz=>hd.ot p z e3
 rw[e2];exact q0G.mpr ⟨p,xs,e1,by rw[q0m hp];exact e4,e5.mono (q0Q λb hb=>List.mem_cons_of_mem _ hb)⟩
theorem Got.weak(h:Got D O W H0 H d c v)(hd:Hid O W H0 H):Rep D (L2.wo O H) d v:=by
 cases c with
 | weak=>exact h
 | top=>exact RepT.rep (q0Q q6p) h
 | strong=>exact Rep.mono (q0Q q6p) h
 | fresh=>exact Rep.mono (q0Q q6p) (h.strong hd)
 | ft=>exact Rep.mono (q0Q q6p) (h.ft hd)
theorem Got.all(h:Got D O W H0 H d c v)(hd:Hid O W H0 H):Rep D H d v:=Rep.mono q1B (h.weak hd)
theorem Got.stro(h:Got D O W H0 H d c v)(hd:Hid O W H0 H)(hs:L2.stro d c=true):Rep D (L2.wo (O++W) H) d v:=by
 cases c with
 | strong=>exact h
 | fresh=>exact h.strong hd
 | ft=>exact h.ft hd
 | weak=>exact Rep.immut (λa ha=>by obtain⟨xs,e,m⟩:=hd.wl a ha;exact⟨xs,hd.same _ _ e,m⟩) hs (h.weak hd)
 | top=>exact Rep.immut (λa ha=>by obtain⟨xs,e,m⟩:=hd.wl a ha;exact⟨xs,hd.same _ _ e,m⟩) hs (h.weak hd)
theorem Got.items(h:Got D O W H0 H (.lst ds) c v)(hd:Hid O W H0 H)(hc:c ≠ .weak):∃a xs,v=.ref a/\H a=some (.lst xs)/\RepL D (L2.wo (O++W) H) ds xs:=by
 cases c with
 | weak=>exact absurd rfl hc
 | top=>
  obtain⟨a,xs,e1,e0,e2,e3⟩:=h;exact⟨a,xs,e1,q1B _ _ e2,e3⟩
 | strong=>
  obtain⟨a,xs,e1,e2,e3⟩:=q0G.mp h;exact⟨a,xs,e1,q1B _ _ e2,e3⟩
 | fresh=>
  obtain⟨a,xs,e1,e2,e3⟩:=q0G.mp (h.strong hd);exact⟨a,xs,e1,q1B _ _ e2,e3⟩
 | ft=>
  obtain⟨a,xs,e1,e2,e3⟩:=q0G.mp (h.ft hd);exact⟨a,xs,e1,q1B _ _ e2,e3⟩
theorem Got.itemsT(h:Got D O W H0 H (.tup ds) c v)(hd:Hid O W H0 H)(hc:c ≠ .weak):∃a xs,v=.ref a/\SqT D.K H a xs/\RepL D (L2.wo (O++W) H) ds xs:=by
 cases c with
 | weak=>exact absurd rfl hc
 | top=>
  obtain⟨a,xs,e1,e2,e3⟩:=q0L.mp (show Rep D (L2.wo (O++W) H) (.tup ds) v from h);exact⟨a,xs,e1,q1B.tseq e2,e3⟩
 | strong=>
  obtain⟨a,xs,e1,e2,e3⟩:=q0L.mp h;exact⟨a,xs,e1,q1B.tseq e2,e3⟩
 | fresh=>
  obtain⟨p,xs,ds,e1,e2,e3,e4,e5⟩:=h;cases e2
 | ft=>
  obtain⟨a,xs,e1,e2,e3⟩:=q0L.mp (h.ft hd);exact⟨a,xs,e1,q1B.tseq e2,e3⟩
theorem Got.lst(h:Got D O W H0 H (.lst ds) c v)(hd:Hid O W H0 H):∃a xs,v=.ref a/\H a=some (.lst xs)/\RepL D (L2.wo O H) ds xs:=by
 obtain⟨a,xs,e1,e2,e3⟩:=q0G.mp (h.weak hd);exact⟨a,xs,e1,q1B _ _ e2,e3⟩
theorem Got.tup(h:Got D O W H0 H (.tup ds) c v)(hd:Hid O W H0 H):∃a xs,v=.ref a/\SqT D.K H a xs/\RepL D (L2.wo O H) ds xs:=by
 obtain⟨a,xs,e1,e2,e3⟩:=q0L.mp (h.weak hd);exact⟨a,xs,e1,q1B.tseq e2,e3⟩
def q1V(O W:List Addr):Cl->List Addr
 | .weak=>O
 | _=>O++W
theorem Got.lstC(h:Got D O W H0 H (.lst ds) c v)(hd:Hid O W H0 H):∃a xs,v=.ref a/\H a=some (.lst xs)/\RepL D (L2.wo (q1V O W c) H) ds xs:=by
 cases c with
 | weak=>exact h.lst hd
 | top=>exact h.items hd (by intro z;cases z)
 | strong=>exact h.items hd (by intro z;cases z)
 | fresh=>exact h.items hd (by intro z;cases z)
 | ft=>exact h.items hd (by intro z;cases z)
theorem Got.tupC(h:Got D O W H0 H (.tup ds) c v)(hd:Hid O W H0 H):∃a xs,v=.ref a/\SqT D.K H a xs/\RepL D (L2.wo (q1V O W c) H) ds xs:=by
 cases c with
 | weak=>exact h.tup hd
 | top=>exact h.itemsT hd (by intro z;cases z)
 | strong=>exact h.itemsT hd (by intro z;cases z)
 | fresh=>exact h.itemsT hd (by intro z;cases z)
 | ft=>exact h.itemsT hd (by intro z;cases z)
theorem Got.item(h:Rep D (L2.wo (q1V O W c) H) d v):Got D O W H0 H d c.item v:=by
 cases c<;>exact h
theorem q0T{i:Int}(hc:c ≠ .fresh:=by intro z;cases z)(hc':c ≠ .ft:=by intro z;cases z):Got D O W H0 H (.int i) c (.int i):=by
 have q:∀H,Rep D H (.int i) (.int i):=λH=>q0U.mpr rfl;cases c with
 | fresh=>exact absurd rfl hc
 | ft=>exact absurd rfl hc'
 | weak=>exact q (L2.wo O H)
 | strong=>exact q (L2.wo (O++W) H)
 | top=>exact q (L2.wo (O++W) H)
theorem q4b{i:Bool}:Got D O W H0 H (.bl i) .strong (.bl i):=(q4y.mpr rfl:Rep D (L2.wo (O++W) H) (.bl i) (.bl i))
theorem z3N:Got D O W H0 H .non .strong .non:=(q2Z.mpr rfl:Rep D (L2.wo (O++W) H) .non .non)
theorem Got.int{i:Int}(h:Got D O W H0 H (.int i) c v)(hd:Hid O W H0 H):v=.int i:=q0U.mp (h.weak hd)
theorem Got.bl{i:Bool}(h:Got D O W H0 H (.bl i) c v)(hd:Hid O W H0 H):v=.bl i:=q4y.mp (h.weak hd)
theorem Got.str{x:Str}(h:Got D O W H0 H (.str x) c v)(hd:Hid O W H0 H):v=.str x/\x.length<=sizeLine:=q0R.mp (h.weak hd)
theorem q2s{p:Addr}{xs:List V}(hd:Hid O W H0 H)(hp:H p=none)(r:RepL D (L2.wo (O++W) H) ds xs):Got D O W H0 (upd H p (.lst xs)) (.lst ds) .fresh (.ref p):=by
 refine⟨p,xs,ds,rfl,rfl,hd.same.free hp,q0v,r.mono λb o e=>?_⟩;obtain⟨hb,e⟩:=q0M e;have hbp:b≠p:=q0u e hp;rw[q0m (by intro z;rcases List.mem_cons.mp z with z | z;exact hbp z;exact hb z),q0j hbp];exact e
theorem q5K{p:Addr}{xs:List V}(hd:Hid O W H0 H)(hp:H p=none)(r:RepL D (L2.wo O H) ds xs):Got D O W H0 (upd H p (.lst xs)) (.lst ds) .weak (.ref p):=by
 have hpo:p∉O:=λz=>hd.newOut hp (List.mem_append_left _ z);exact q0G.mpr ⟨p,xs,rfl,by rw[q0m hpo];exact q0v,r.mono (q0w hp).wo⟩
theorem q4m{p:Addr}{xs:List V}(hd:Hid O W H0 H)(hp:H p=none)(r:RepL D (L2.wo (q1V O W c) H) ds xs):Got D O W H0 (upd H p (.lst xs)) (.lst ds) (Cl.anew c c) (.ref p):=by
 cases c with
 | weak=>exact q5K hd hp r
 | top=>exact q2s hd hp r
 | strong=>exact q2s hd hp r
 | fresh=>exact q2s hd hp r
 | ft=>exact q2s hd hp r
theorem q3N{p:Addr}{xs:List V}(hd:Hid O W H0 H)(hp:H p=none)(r:RepL D (L2.wo (O++W) H) ds xs):Got D O W H0 (upd H p (.tup xs)) (.tup ds) .strong (.ref p):=
 q0L.mpr ⟨p,xs,rfl,SqT.of (by rw[q0m (hd.newOut hp)];exact q0v),r.mono (q0w hp).wo⟩
theorem q5E{p:Addr}{xs:List V}(hd:Hid O W H0 H)(hp:H p=none)(r:RepL D (L2.wo O H) ds xs):Got D O W H0 (upd H p (.tup xs)) (.tup ds) .weak (.ref p):=
 q0L.mpr ⟨p,xs,rfl,SqT.of (by rw[q0m λz=>hd.newOut hp (List.mem_append_left _ z)];exact q0v),r.mono (q0w hp).wo⟩
theorem q7H{p:Addr}{xs:List V}(hd:Hid O W H0 H)(hp:H p=none)(r:RepL D (L2.wo (q1V O W c) H) ds xs):Got D O W H0 (upd H p (.tup xs)) (.tup ds) c.item (.ref p):=by
 cases c with
 | weak=>exact q5E hd hp r
 | top=>exact q3N hd hp r
 | strong=>exact q3N hd hp r
 | fresh=>exact q3N hd hp r
 | ft=>exact q3N hd hp r
end
inductive GotL (D:Dm) (O W:List Addr) (H0 H:Hp):List (DV×Cl)->List V->Prop where
 | nil:GotL D O W H0 H [] []
 | cons {d:DV} {c:Cl} {v:V} {l:List (DV×Cl)} {vs:List V}:Got D O W H0 H d c v->GotL D O W H0 H l vs->GotL D O W H0 H ((d,c)::l) (v::vs)
section
variable {D:Dm} {O W:List Addr} {H0 H H':Hp}
theorem GotL.repL{l:List (DV×Cl)}{vs:List V}(h:GotL D O W H0 H l vs)(hd:Hid O W H0 H):RepL D (L2.wo O H) (l.map (·.1)) vs:=by
 induction h with
 | nil=>exact q0K.mpr rfl
 | cons h _ ih=>exact q0t.mpr ⟨_,_,rfl,h.weak hd,ih⟩
theorem GotL.stros{l:List (DV×Cl)}{vs:List V}(h:GotL D O W H0 H l vs)(hd:Hid O W H0 H)(hs:L2.stros l=true):RepL D (L2.wo (O++W) H) (l.map (·.1)) vs:=by
 induction h with
 | nil=>exact q0K.mpr rfl
 | cons h _ ih=>
  unfold L2.stros at hs;rw[List.all_cons,Bool.and_eq_true]at hs;exact q0t.mpr ⟨_,_,rfl,h.stro hd hs.1,ih hs.2⟩
theorem GotL.length{l:List (DV×Cl)}{vs:List V}(h:GotL D O W H0 H l vs):vs.length=l.length:=by
 induction h with
 | nil=>rfl
 | cons _ _ ih=>rw[List.length_cons,List.length_cons,ih]
theorem GotL.strong{l:List (DV×Cl)}{vs:List V}(h:GotL D O W H0 H l vs)(hd:Hid O W H0 H)(hs:(l.all λp=>p.2 == .strong||p.2 == .fresh)=true):RepL D (L2.wo (O++W) H) (l.map (·.1)) vs:=by
 refine h.stros hd ?_;unfold L2.stros;rw[List.all_eq_true]at hs ⊢;intro p hp;have:=hs p hp;unfold L2.stro;cases e:p.2<;>rw[e]at this<;>first | rfl | cases this
theorem GotL.one{d:DV}{c:Cl}{vs:List V}(h:GotL D O W H0 H [(d,c)] vs):∃v,vs=[v]/\Got D O W H0 H d c v:=by
 cases h with
 | cons h t=>cases t;exact⟨_,rfl,h⟩
end
def O2At(H:Hp)(W:List Addr)(p:Addr)(L:List (Addr×List Int)):Prop:=p∈W/\H p=some (.lst (L.map λq=>.ref q.1))/\(∀q∈L,q.1∈W/\H q.1=some (.lst (q.2.map V.int)))/\(p::L.map (·.1)).Nodup
def o2D(L:List (Addr×List Int)):DV:=.lst (L.map λq=>.lst (q.2.map DV.int))
theorem O2At.mono{H H':Hp}{W:List Addr}{p:Addr}{L:List (Addr×List Int)}(h:O2At H W p L)(e:Same H H'):O2At H' W p L:=⟨h.1,e _ _ h.2.1,λq hq=>⟨(h.2.2.1 q hq).1,e _ _ (h.2.2.1 q hq).2⟩,h.2.2.2⟩
theorem O2At.sub{H:Hp}{W W':List Addr}{p:Addr}{L:List (Addr×List Int)}(h:O2At H W p L)(e:∀a∈p::L.map (·.1),a∈W->a∈W'):O2At H W' p L:=
 ⟨e _ (List.mem_cons_self ..) h.1,h.2.1,λq hq=>⟨e _ (List.mem_cons_of_mem _ (List.mem_map.mpr ⟨q,hq,rfl⟩)) (h.2.2.1 q hq).1,(h.2.2.1 q hq).2⟩,h.2.2.2⟩
theorem O2At.dom{H:Hp}{W:List Addr}{p a:Addr}{L:List (Addr×List Int)}(h:O2At H W p L)(ha:a∈p::L.map (·.1)):a∈W/\∃xs,H a=some (.lst xs):=by
 rcases List.mem_cons.mp ha with z | z
 ·rw[z];exact⟨h.1,_,h.2.1⟩
 ·obtain⟨q,hq,rfl⟩:=List.mem_map.mp z;exact⟨(h.2.2.1 q hq).1,_,(h.2.2.1 q hq).2⟩
theorem O2At.write{H:Hp}{W:List Addr}{p a:Addr}{o:HO}{L:List (Addr×List Int)}(h:O2At H W p L)(ha:a∉p::L.map (·.1)):O2At (upd H a o) W p L:=
 ⟨h.1,by rw[q0j λz=>ha (by rw[←z];exact List.mem_cons_self ..)];exact h.2.1,λq hq=>⟨(h.2.2.1 q hq).1,by rw[q0j λz=>ha (by rw[←z];exact List.mem_cons_of_mem _ (List.mem_map.mpr ⟨q,hq,rfl⟩))];exact(h.2.2.1 q hq).2⟩,h.2.2.2⟩
def odD(L:List (Int×Int)):DV:=.dct (L.map λp=>.i p.1) (L.map λp=>.int p.2)
def odK(L:List (Int×Int)):List (Key×V):=L.map λp=>(.inl p.1,.int p.2)
def oeD(L:List ((Int×Int)×Int)):DV:=.dct (L.map λp=>.t [.inl p.1.1,.inl p.1.2]) (L.map λp=>.int p.2)
def oeK(L:List ((Int×Int)×Int)):List (List Key×V):=L.map λp=>([.inl p.1.1,.inl p.1.2],.int p.2)
def dicO:HO->Bool
 | .dK _=>true
 | .dT _=>true
 | .ins _ _ _=>true
 | _=>false
def rdO(C dx:Addr)(t:Str)(k:Int):HO:=.ins C dx [("text",.str t),("place",.int k)]
def RdOk(d:DV)(a:Addr)(o:HO):Prop:=∃(C dx:Nat) (qa qx:DV) (t:Str) (k:Int),d=.tup [.int (C:Int),qa,qx,.str t,.int k]/\(qa=.non\/qa=.int (a:Int))/\(qx=.non\/qx=.int (dx:Int))/\t.length<=sizeLine/\o=rdO C dx t k
def OdOk(d:DV)(a:Addr)(o:HO):Prop:=(∃L,d=odD L/\o=.dK (odK L))\/(∃L,d=.tup [oeD L]/\o=.dT (oeK L))\/RdOk d a o
theorem OdOk.dic{d:DV}{a:Addr}{o:HO}(h:OdOk d a o):dicO o=true:=by rcases h with⟨L,_,e⟩ | ⟨L,_,e⟩ | ⟨_,_,_,_,_,_,_,_,_,_,e⟩<;>rw[e]<;>rfl
theorem OdOk.mut{d:DV}{a:Addr}{o:HO}(h:OdOk d a o):mutO o=true:=by rcases h with⟨L,_,e⟩ | ⟨L,_,e⟩ | ⟨_,_,_,_,_,_,_,_,_,_,e⟩<;>rw[e]<;>rfl
def OdAt(H:Hp)(σ:St)(δ:List Sv)(W:List Addr):Prop:=∀(i:Nat) d,δ[i]? = some (.od d)->(∃a o,OdOk d a o/\σ[i]? = some (some (.ref a))/\a∈W/\H a=some o)/\∀(j:Nat) d',δ[j]? = some (.od d')->j=i
theorem OdAt.step{H H':Hp}{σ σ':St}{δ δ':List Sv}{W W':List Addr}(h:OdAt H σ δ W)(hδ:∀(j:Nat) d,δ'[j]? = some (.od d)->δ[j]? = some (.od d)/\σ'[j]? = σ[j]?)(hW:∀a∈W,(∃o,H a=some o/\dicO o=true)->a∈W')(hH:∀a o,a∈W->H a=some o->dicO o=true->H' a=some o):OdAt H' σ' δ' W':=λi d q=>by
 obtain⟨q1,q2⟩:=hδ i d q;obtain⟨⟨a,L,e0,e1,e2,e3⟩,u⟩:=h i d q1;exact⟨⟨a,L,e0,by rw[q2];exact e1,hW a e2 ⟨_,e3,e0.dic⟩,hH a _ e2 e3 e0.dic⟩,λj d' z=>u j d' (hδ j d' z).1⟩
theorem q6E{σ:St}{δ:List Sv}{i:Nat}{X:Sv}(x:Option V)(hX:∀d,X ≠ .od d):∀(j:Nat) d,(δ.set i X)[j]? = some (.od d)->δ[j]? = some (.od d)/\(σ.set i x)[j]? = σ[j]?:=λj d h=>by
 have hj:j≠i:=λz=>by
  subst z;have hl:j<δ.length:=by have:=(List.getElem?_eq_some_iff.mp h).1;rw[List.length_set]at this;exact this
  rw[List.getElem?_set_self hl]at h;exact hX d (Option.some.inj h)
 rw[List.getElem?_set_ne (Ne.symm hj)]at h ⊢;exact⟨h,rfl⟩
theorem q9d{σ:St}{δ:List Sv}{i:Nat}{X:Sv}(hX:∀d,X ≠ .od d):∀(j:Nat) d,(δ.set i X)[j]? = some (.od d)->δ[j]? = some (.od d)/\σ[j]? = σ[j]?:=λj d h=>⟨(q6E (σ:=σ) none hX j d h).1,rfl⟩
def itD:Option Addr×List Int->DV
 | (none,ns)=>.int (ns.headD 0)
 | (some _,ns)=>.lst (ns.map DV.int)
def itV:Option Addr×List Int->V
 | (none,ns)=>.int (ns.headD 0)
 | (some p,_)=>.ref p
def ItAt(H:Hp)(M:List (Option Addr×List Int)):Prop:=∀p ns,(some p,ns)∈M->H p=some (.lst (ns.map V.int))
def OtV(D:Dm)(Hs H:Hp)(d:DV)(ts:List V)(L:List Addr):Prop:=(∃p xs ds es us,d=.tup (.lst ds::es)/\ts=.ref p::us/\L=[p]/\H p=some (.lst xs)/\RepL D Hs ds xs/\RepL D Hs es us)\/∃M,d=.dct [] (M.map itD)/\ts=M.map itV/\L=M.filterMap (·.1)/\L.Nodup/\ItAt H M
def OtL(σ:St)(δ:List Sv)(H:Hp)(W L:List Addr):Prop:=∀p∈L,p∈W/\(∃xs,H p=some (.lst xs))/\∀(j:Nat) d',δ[j]? = some (.own d')->σ[j]? ≠ some (some (.ref p))
theorem OtV.mono{D:Dm}{Hs Hs' H H':Hp}{d:DV}{ts:List V}{L:List Addr}(h:OtV D Hs H d ts L)(e:Same Hs Hs')(f:∀p∈L,∀xs,H p=some (.lst xs)->H' p=some (.lst xs)):OtV D Hs' H' d ts L:=by
 rcases h with⟨p,xs,ds,es,us,e0,e1,e2,e3,e4,e5⟩ | ⟨M,e0,e1,e2,e3,e4⟩
 ·exact .inl ⟨p,xs,ds,es,us,e0,e1,e2,f p (by rw[e2];exact List.mem_singleton.mpr rfl) _ e3,e4.mono e,e5.mono e⟩
 ·exact .inr ⟨M,e0,e1,e2,e3,λp ns hm=>f p (by rw[e2];exact List.mem_filterMap.mpr ⟨_,hm,rfl⟩) _ (e4 p ns hm)⟩
structure RSt(D:Dm)(H:Hp)(σ:St)(δ:List Sv)(O W:List Addr):Prop where
 val:∀(i:Nat) d,δ[i]? = some (.val d)->∃v,σ[i]? = some (some v)/\Rep D (L2.wo (O++W) H) d v
 own:∀(i:Nat) d,δ[i]? = some (.own d)->∃a xs ds,d=.lst ds/\σ[i]? = some (some (.ref a))/\a∈W/\H a=some (.lst xs)/\RepL D (L2.wo (O++W) H) ds xs
 inj:∀(i j:Nat) a d d',δ[i]? = some (.own d)->δ[j]? = some (.own d')->σ[i]? = some (some (.ref a))->σ[j]? = some (some (.ref a))->i=j
 ot:∃P:Nat->List Addr,(∀(i:Nat) d,δ[i]? = some (.ot d)->∃t ts,σ[i]? = some (some (.ref t))/\SqT D.K (L2.wo (O++W) H) t ts/\OtV D (L2.wo (O++W) H) H d ts (P i)/\OtL σ δ H W (P i))/\∀(i j:Nat) d d',δ[i]? = some (.ot d)->δ[j]? = some (.ot d')->i≠j->∀p∈P i,p∉P j
 o2:∀(i:Nat) d,δ[i]? = some (.o2 d)->(∃p L,d=o2D L/\σ[i]? = some (some (.ref p))/\O2At H W p L/\∀(j:Nat) d' a,δ[j]? = some (.own d')->σ[j]? = some (some (.ref a))->a∉p::L.map (·.1))/\(∀(j:Nat) d',δ[j]? = some (.o2 d')->j=i)/\∀(j:Nat) d',δ[j]? ≠ some (.ot d')
 od:OdAt H σ δ W
 len:σ.length=δ.length
 hid:Hid O W H H
theorem RSt.noot{D:Dm}{H:Hp}{σ:St}{δ:List Sv}{O W:List Addr}(h:∀(i:Nat) d,δ[i]? ≠ some (.ot d)):∃P:Nat->List Addr,(∀(i:Nat) d,δ[i]? = some (.ot d)->∃t ts,σ[i]? = some (some (.ref t))/\SqT D.K (L2.wo (O++W) H) t ts/\OtV D (L2.wo (O++W) H) H d ts (P i)/\OtL σ δ H W (P i))/\∀(i j:Nat) d d',δ[i]? = some (.ot d)->δ[j]? = some (.ot d')->i≠j->∀p∈P i,p∉P j:=⟨λ_=>[],λi d q=>absurd q (h i d),λi j d d' q=>absurd q (h i d)⟩
theorem Hid.later{O W:List Addr}{H H':Hp}(h:Hid O W H H)(e:Same H H'):Hid O W H' H':=⟨λa ha q=>h.ot a ha (e.free q),Same.refl _,λa ha=>by obtain⟨xs,q,m⟩:=h.wl a ha;exact⟨xs,e _ _ q,m⟩,h.dj,h.omS e⟩
theorem RSt.mono{D:Dm}{H H':Hp}{σ:St}{δ:List Sv}{O W:List Addr}(R:RSt D H σ δ O W)(e:Same H H'):RSt D H' σ δ O W where
 val:=λi d h=>by obtain⟨v,e1,e2⟩:=R.val i d h;exact⟨v,e1,e2.mono e.wo⟩
 own:=λi ds h=>by obtain⟨a,xs,ds,e0,e1,e2,e3,e4⟩:=R.own i ds h;exact⟨a,xs,ds,e0,e1,e2,e _ _ e3,e4.mono e.wo⟩
 inj:=R.inj
 ot:=by obtain⟨P,f,u⟩:=R.ot;refine⟨P,λi d h=>?_,u⟩;obtain⟨t,ts,e1,e2,e3,e4⟩:=f i d h;exact⟨t,ts,e1,e.wo.tseq e2,e3.mono e.wo λp _ xs q=>e _ _ q,λp hp=>⟨(e4 p hp).1,(e4 p hp).2.1.imp λxs q=>e _ _ q,(e4 p hp).2.2⟩⟩
 o2:=λi d h=>by obtain⟨⟨p,L,e0,e1,e2,e3⟩,u,n⟩:=R.o2 i d h;exact⟨⟨p,L,e0,e1,e2.mono e,e3⟩,u,n⟩
 od:=R.od.step (λj d h=>⟨h,rfl⟩) (λ_ h _=>h) (λa kvs _ h _=>e _ _ h)
 len:=R.len
 hid:=R.hid.later e
def Post(D:Dm)(E:St->XK)(σ:St)(O W:List Addr)(H0 H:Hp)(Q:VK):Re->Prop
 | .ok d c=>∀v H',Same H H'->Got D O W H0 H' d c v->Q v H'
 | .ex c=>∀H' C,D.mg c=some C->Same H H'->E σ C none H'
def dE(D:Dm)(E:St->XK)(δ:List Sv)(r:Re):TE:=λσ H Q=>∃O W,RSt D H σ δ O W/\Post D E σ O W H H Q r
def z8c(D:Dm)(E:St->XK)(σ:St)(O W:List Addr)(H0 H:Hp)(Q:List V->Hp->Prop):Rs->Prop
 | .ok l=>∀vs H',Same H H'->GotL D O W H0 H' l vs->Q vs H'
 | .ex c=>∀H' C,D.mg c=some C->Same H H'->E σ C none H'
def dA(D:Dm)(E:St->XK)(δ:List Sv)(r:Rs):TA:=λσ H Q=>∃O W,RSt D H σ δ O W/\z8c D E σ O W H H Q r
def z1T(D:Dm)(E:St->XK)(σ:St)(H:Hp)(Q:Bool->Hp->Prop):Rt->Prop
 | .ok b=>∀H',Same H H'->Q b H'
 | .ex c=>∀H' C,D.mg c=some C->Same H H'->E σ C none H'
def dT(D:Dm)(E:St->XK)(δ:List Sv)(r:Rt):TT:=λσ H Q=>∃O W,RSt D H σ δ O W/\z1T D E σ H Q r
theorem Post.step{D:Dm}{E:St->XK}{σ:St}{O W:List Addr}{H0 H H1:Hp}{Q:VK}{r:Re}(h:Post D E σ O W H0 H Q r)(e:Same H H1):Post D E σ O W H0 H1 Q r:=by
 cases r with
 | ok d c=>exact λv H' s g=>h v H' (e.trans s) g
 | ex c=>exact λH' C m s=>h H' C m (e.trans s)
theorem Post.later{D:Dm}{E:St->XK}{σ:St}{O W:List Addr}{H0 H H1:Hp}{Q:VK}{r:Re}(h:Post D E σ O W H0 H Q r)(e:Same H H1)(e0:Same H0 H1):Post D E σ O W H1 H1 Q r:=by
 cases r with
 | ok d c=>exact λv H' s g=>h v H' (e.trans s) (g.since e0)
 | ex c=>exact λH' C m s=>h H' C m (e.trans s)
theorem GotL.since{D:Dm}{O W:List Addr}{H0 H1 H:Hp}{l:List (DV×Cl)}{vs:List V}(h:GotL D O W H1 H l vs)(e:Same H0 H1):GotL D O W H0 H l vs:=by
 induction h with
 | nil=>exact .nil
 | cons g _ ih=>exact .cons (g.since e) ih
theorem z1T.later{D:Dm}{E:St->XK}{σ:St}{H H1:Hp}{Q:Bool->Hp->Prop}{r:Rt}(h:z1T D E σ H Q r)(e:Same H H1):z1T D E σ H1 Q r:=by
 cases r with
 | ok b=>exact λH' s=>h H' (e.trans s)
 | ex c=>exact λH' C m s=>h H' C m (e.trans s)
theorem PE.weak{X:Cx}{e:Expr}{t t':TE}(h:PE X e t)(k:∀σ H Q,t' σ H Q->t σ H Q):PE X e t':=λpins s σ H Q I q=>h pins s σ H Q I (k σ H Q q)
theorem PT.weak{X:Cx}{e:Expr}{t t':TT}(h:PT X e t)(k:∀σ H Q,t' σ H Q->t σ H Q):PT X e t':=λpins s σ H Q I q=>h pins s σ H Q I (k σ H Q q)
theorem PW.weak{X:Cx}{e:Expr}{t t':TT}(h:PW X e t)(k:∀σ H Q,t' σ H Q->t σ H Q):PW X e t':=λwhole pins s σ H Q I q=>h whole pins s σ H Q I (k σ H Q q)
theorem PA.weak{X:Cx}{e:List Expr}{t t':TA}(h:PA X e t)(k:∀σ H Q,t' σ H Q->t σ H Q):PA X e t':=λpos pins s σ H Q I q=>h pos pins s σ H Q I (k σ H Q q)
theorem PS.weak{X:Cx}{e:Stmt}{t t':TS}(h:PS X e t)(k:∀D σ H,t' D σ H->t D σ H):PS X e t':=λpins s σ H D I q=>h pins s σ H D I (k D σ H q)
theorem PSs.weak{X:Cx}{e:List Stmt}{t t':TS}(h:PSs X e t)(k:∀D σ H,t' D σ H->t D σ H):PSs X e t':=λpins s σ H D I q=>h pins s σ H D I (k D σ H q)
theorem q5M{X:Cx}{e:Expr}:PW X e (λ_ _ _=>False):=λ_ _ _ _ _ _ _ h=>h.elim
theorem q1Z{X:Cx}{e:Expr}:PE X e (λ_ _ _=>False):=λ_ _ _ _ _ _ h=>h.elim
theorem z3A{X:Cx}{e:List Expr}:PA X e (λ_ _ _=>False):=λ_ _ _ _ _ _ _ h=>h.elim
end L2
end
noncomputable section
namespace L2
open PySem PySem.Spec PyProof.Rows
theorem q1P{n:Nat}(h:n<=mostLen):n<=sizeLine:=Nat.le_trans h (by decide)
section
variable {X:Cx} {E:St->XK} {δ:List Sv} {a b c e:Expr} {es:List Expr}
theorem z2x{r:V->Hp->VK->Prop}{k:DV->Cl->Option Re}{ra:Option Re}{re:Re}(hop:∀ta,PE X a ta->PE X e (tUn r ta))(ha:∀q,ra=some q->PE X a (dE X.D E δ q))(h:Re.thn ra k=some re)
  (hr:∀O W H0 H x Q dx cx σ,k dx cx=some re->Hid O W H0 H->Got X.D O W H0 H dx cx x->Post X.D E σ O W H0 H Q re->r x H Q):PE X e (dE X.D E δ re):=by
 cases hra:ra with
 | none=>rw[hra]at h;cases h
 | some q=>
  rw[hra]at h;have A:=ha q hra;cases q with
  | ex c=>
   cases h;exact(hop _ A).weak λσ H Q ⟨O,W,R,p⟩=>⟨O,W,R,p⟩
  | ok dx cx=>
   have h':k dx cx=some re:=h;exact(hop _ A).weak λσ H Q ⟨O,W,R,p⟩=>⟨O,W,R,λx H1 s1 g1=>hr O W H H1 x Q dx cx σ h' (R.hid.mono s1) g1 (p.step s1)⟩
theorem q7M{r:R2}{k:DV->Cl->DV->Cl->Option Re}{ra rb:Option Re}{re:Re}(ha:∀q,ra=some q->PE X a (dE X.D E δ q))(hb:∀q,rb=some q->PE X b (dE X.D E δ q))
  (h:(Re.thn ra λx cx=>Re.thn rb λy cy=>k x cx y cy)=some re)
  (hr:∀O W H0 H x y Q dx cx dy cy σ,k dx cx dy cy=some re->Hid O W H0 H->Got X.D O W H0 H dx cx x->Got X.D O W H0 H dy cy y->Post X.D E σ O W H0 H Q re->r x y H Q) :
  ∃ta tb,PE X a ta/\PE X b tb/\∀σ H Q,dE X.D E δ re σ H Q->tOp r ta tb σ H Q:=by
 cases hra:ra with
 | none=>rw[hra]at h;cases h
 | some q=>
  rw[hra]at h;have A:=ha q hra;cases q with
  | ex c=>
   cases h;exact⟨_,_,A,q1Z,λσ H Q ⟨O,W,R,p⟩=>⟨O,W,R,p⟩⟩
  | ok dx cx=>
   have h':(Re.thn rb λy cy=>k dx cx y cy)=some re:=h;cases hrb:rb with
   | none=>rw[hrb]at h';cases h'
   | some q=>
    rw[hrb]at h';have B:=hb q hrb;cases q with
    | ex c=>
     cases h';exact⟨_,_,A,B,λσ H Q ⟨O,W,R,p⟩=>⟨O,W,R,λx H1 s1 g1=>⟨O,W,R.mono s1,λH' C m s=>p H' C m (s1.trans s)⟩⟩⟩
    | ok dy cy=>
     have h2:k dx cx dy cy=some re:=h';exact⟨_,_,A,B,λσ H Q ⟨O,W,R,p⟩=>⟨O,W,R,λx H1 s1 g1=>⟨O,W,R.mono s1,λy H2 s2 g2=>
      hr O W H H2 x y Q dx cx dy cy σ h2 ((R.hid.mono s1).mono s2) (g1.mono s2) (g2.since s1) (p.step (s1.trans s2))⟩⟩⟩
theorem q7C{r:R2}{k:DV->Cl->DV->Cl->Option Re}{ra rb:Option Re}{re:Re}(hop:∀ta tb,PE X a ta->PE X b tb->PE X e (tOp r ta tb))(ha:∀q,ra=some q->PE X a (dE X.D E δ q))(hb:∀q,rb=some q->PE X b (dE X.D E δ q))
  (h:(Re.thn ra λx cx=>Re.thn rb λy cy=>k x cx y cy)=some re)
  (hr:∀O W H0 H x y Q dx cx dy cy σ,k dx cx dy cy=some re->Hid O W H0 H->Got X.D O W H0 H dx cx x->Got X.D O W H0 H dy cy y->Post X.D E σ O W H0 H Q re->r x y H Q):PE X e (dE X.D E δ re):=by
 obtain⟨ta,tb,A,B,q⟩:=q7M ha hb h hr;exact(hop _ _ A B).weak q
theorem q4j{r:List V->Hp->VK->Prop}{k:List (DV×Cl)->Option Re}{ra:Option Rs}{re:Re}(hop:∀t,PA X es t->PE X e (tCB r t))(ha:∀q,ra=some q->PA X es (dA X.D E δ q))(h:Rs.thn ra k=some re)
  (hr:∀O W H0 H vs Q l σ,k l=some re->Hid O W H0 H->GotL X.D O W H0 H l vs->Post X.D E σ O W H0 H Q re->r vs H Q):PE X e (dE X.D E δ re):=by
 cases hra:ra with
 | none=>rw[hra]at h;cases h
 | some q=>
  rw[hra]at h;have A:=ha q hra;cases q with
  | ex c=>
   cases h;exact(hop _ A).weak λσ H Q ⟨O,W,R,p⟩=>⟨O,W,R,p⟩
  | ok l=>
   have h':k l=some re:=h;exact(hop _ A).weak λσ H Q ⟨O,W,R,p⟩=>⟨O,W,R,λvs H1 s1 g1=>hr O W H H1 vs Q l σ h' (R.hid.mono s1) g1 (p.step s1)⟩
end
theorem q6V{D:Dm}{H:Hp}:∀{L:List (Addr×List Int)},(∀q∈L,H q.1=some (.lst (q.2.map V.int)))->RepL D H (L.map λq=>.lst (q.2.map DV.int)) (L.map λq=>.ref q.1)
 | [],_=>q0K.mpr rfl
 | q::L,h=>q0t.mpr ⟨_,_,rfl,q0G.mpr ⟨q.1,_,rfl,h q (List.mem_cons_self ..),q2d _⟩,q6V λq' hq=>h q' (List.mem_cons_of_mem _ hq)⟩
theorem q5C{D:Dm}{H:Hp}:∀{M:List (Option Addr×List Int)},ItAt H M->RepL D H (M.map itD) (M.map itV)
 | [],_=>q0K.mpr rfl
 | (none,ns)::M,h=>q0t.mpr ⟨_,_,rfl,q0U.mpr rfl,q5C λp ns hm=>h p ns (List.mem_cons_of_mem _ hm)⟩
 | (some q,ns)::M,h=>q0t.mpr ⟨_,_,rfl,q0G.mpr ⟨q,_,rfl,h q ns (List.mem_cons_self ..),q2d _⟩,q5C λp ns hm=>h p ns (List.mem_cons_of_mem _ hm)⟩
section
variable {X:Cx} {E:St->XK} {δ:List Sv} {pos:Pos}
theorem z3M{i:Nat}{x:Str}{r:Re}(hN:X.N[i]? = some x)(hv:Vis X.env.scope x)(hd:(x==("__debug__" : Str))=false)(hcd:(x==("__classdict__" : Str))=false)
  (h:(match δ[i]? with | some (.val d)=>some (Re.ok d .strong) | some (.own d)=>some (.ok d .top) | some (.ot d)=>some (.ok (otD d) .weak) | some (.o2 d)=>some (.ok d .weak) | _=>none)=some r):PE X (.Name x pos) (dE X.D E δ r):=
 (q2u hN hv hd hcd).weak λσ H Q ⟨O,W,R,p⟩=>by
  split at h
  ·rename_i d q;cases h;obtain⟨v,e1,e2⟩:=R.val i d q;exact⟨v,e1,p v H (Same.refl H) e2⟩
  ·rename_i d q;cases h;obtain⟨a,xs,ds,e0,e1,e2,e3,e4⟩:=R.own i d q;subst e0;refine⟨.ref a,e1,p _ H (Same.refl H) ⟨a,xs,rfl,e2,?_,e4⟩⟩;rw[q0m (R.hid.dj a e2)];exact e3
  ·rename_i d q;cases h;obtain⟨P,f,_⟩:=R.ot;obtain⟨t,ts,e1,e2,e3,e4⟩:=f i d q;have up:Same (L2.wo (O++W) H) (L2.wo O H):=q0Q q6p;refine⟨.ref t,e1,p _ H (Same.refl H) ?_⟩;rcases e3 with⟨p1,xs,ds,es,us,f0,f1,f2,f3,f4,f5⟩ | ⟨M,f0,f1,f2,f3,f4⟩
   ·rw[f2]at e4;subst f0 f1;exact(q0L.mpr ⟨t,_,rfl,up.tseq e2,q0t.mpr ⟨_,_,rfl,q0G.mpr ⟨p1,xs,rfl,by rw[q0m (R.hid.dj p1 (e4 p1 (List.mem_singleton.mpr rfl)).1)];exact f3,f4.mono up⟩,f5.mono up⟩⟩:Rep X.D (L2.wo O H) (.tup (.lst ds::es)) (.ref t))
   ·rw[f2]at e4;subst f0 f1;exact(q0L.mpr ⟨t,_,rfl,up.tseq e2,q5C λp ns hm=>by rw[q0m (R.hid.dj p (e4 p (List.mem_filterMap.mpr ⟨_,hm,rfl⟩)).1)];exact f4 p ns hm⟩:Rep X.D (L2.wo O H) (.tup (M.map itD)) (.ref t))
  ·rename_i d q;cases h;obtain⟨⟨a,L,e0,e1,e2,_⟩,_,_⟩:=R.o2 i d q;subst e0;refine⟨.ref a,e1,p _ H (Same.refl H) (q0G.mpr ⟨a,_,rfl,by rw[q0m (R.hid.dj a e2.1)];exact e2.2.1,?_⟩:Rep X.D (L2.wo O H) (o2D L) (.ref a))⟩;exact q6V λq hq=>by rw[q0m (R.hid.dj q.1 (e2.2.2.1 q hq).1)];exact(e2.2.2.1 q hq).2
  ·cases h
theorem z3Y{i:Int}{j:Nat}:PE X (.Constant (.int i) j pos) (dE X.D E δ (.ok (.int i) .strong)):=z2r.weak λσ H Q ⟨O,W,R,p⟩=>p _ H (Same.refl H) q0T
theorem z5s{i:Bool}{j:Nat}:PE X (.Constant (.bool i) j pos) (dE X.D E δ (.ok (.bl i) .strong)):=z7I.weak λσ H Q ⟨O,W,R,p⟩=>p _ H (Same.refl H) q4b
theorem z3J{i:Str}{j:Nat}(h:i.length<=sizeLine):PE X (.Constant (.str i) j pos) (dE X.D E δ (.ok (.str i) .strong)):=z7b.weak λσ H Q ⟨O,W,R,p⟩=>p _ H (Same.refl H) (q0R.mpr ⟨rfl,h⟩:Rep X.D (L2.wo (O++W) H) (.str i) (.str i))
theorem z3o{j:Nat}:PE X (.Constant .none j pos) (dE X.D E δ (.ok .non .strong)):=z6Z.weak λσ H Q ⟨O,W,R,p⟩=>p _ H (Same.refl H) z3N
end
section
variable {X:Cx} {E:St->XK} {δ:List Sv} {a b c e:Expr} {pos:Pos} {ra rb:Option Re} {re:Re}
theorem q9L{O W:List Addr}{H0 H:Hp}{C:Int->Int->Prop}{g:Int->Int->V}{x y:V}{Q:VK}{i j:Int}{ca cb:Cl}{D:Dm}(hd:Hid O W H0 H)(gx:Got D O W H0 H (.int i) ca x)(gy:Got D O W H0 H (.int j) cb y)(hc:C i j)(q:Q (g i j) H):rI C g x y H Q:=
 ⟨i,j,gx.int hd,gy.int hd,hc,q⟩
theorem z0l{O W:List Addr}{H0 H:Hp}{g:Int->Int->V}{x y:V}{Q:VK}{i j:Int}{ca cb:Cl}{D:Dm}(hd:Hid O W H0 H)(gx:Got D O W H0 H (.int i) ca x)(gy:Got D O W H0 H (.int j) cb y)(q:Q (g i j) H):rI0 g x y H Q:=
 ⟨i,j,gx.int hd,gy.int hd,q⟩
theorem z0f{ca cb:Cl}(h:ca ≠ .weak)(h':cb ≠ .weak):Cl.anew ca cb=.fresh:=by
 cases ca<;>cases cb<;>first | rfl | exact absurd rfl h | exact absurd rfl h'
def z1d(i j:Int):Prop:=CMul i j\/(i.natAbs<2^2000/\j.natAbs<2^2000)
theorem q9N{i:Int}{n:Nat}(h:i.natAbs<2^n):Builtin.Int.intBits i<=n:=by
 unfold Builtin.Int.intBits;by_cases hi:i=0
 ·subst hi;exact Nat.zero_le n
 ·rw[if_neg (by simpa using hi)];have:i.natAbs≠0:=λz=>hi (Int.natAbs_eq_zero.mp z)
  exact(Nat.log2_lt this).mpr h
theorem z1d.ok{i j:Int}(h:z1d i j):IntMulOk i j:=by
 rcases h with h | ⟨h1,h2⟩
 ·exact h.ok
 ·unfold IntMulOk;have b1:=q9N h1;have b2:=q9N h2;have:Builtin.Int.intTooBig ((Builtin.Int.intBits i:Int)+(Builtin.Int.intBits j:Int))=false:=by
   unfold Builtin.Int.intTooBig;rw[decide_eq_false];have:((bitsLine:Nat):Int)=134217728:=by decide
   omega
  rw[this,Bool.and_false];exact Bool.false_ne_true
theorem z3C:OpR X (binaryOp .Mult) (rI z1d λi j=>.int (i*j)):=opI λ_ _ _ _ _ _ _ hc q=>mul_int q hc.ok
theorem z1V:OpR X (binaryOp .FloorDiv) (rI (λ_ j=>0<j/\j<2^200) λi j=>.int (i/j)):=opI λi j _ _ _ _ _ hc q=>by
 have h1:(0:Int)<j:=hc.1;have h2:j.natAbs<2^200:=by have:=hc.2;omega
 refine floordiv_int (by omega) (by rw[Int.fdiv_eq_ediv_of_nonneg i (by omega)];exact q) (.inl (PyProof.noPylong_of_log2 ?_));exact Nat.lt_of_lt_of_le ((Nat.log2_lt (by omega)).mpr h2) (by decide)
def binR(X:Cx):Operator->R2
 | .Add=>λx y H Q=>rI0 (λi j=>.int (i+j)) x y H Q\/rCat x y H Q\/z6V X.K x y H Q
 | .Sub=>rI0 λi j=>.int (i - j)
 | .Mult=>λx y H Q=>rI z1d (λi j=>.int (i*j)) x y H Q\/rRep x y H Q
 | .Mod=>λx y H Q=>rI (λ_ j=>0<j) (λi j=>.int (i%j)) x y H Q\/rI (λ_ j=>j≠0) (λi j=>.int (i.fmod j)) x y H Q
 | .FloorDiv=>rI (λ_ j=>0<j/\j<2^200) λi j=>.int (i/j)
 | .LShift=>rI CPow λi j=>.int (i*2^j.toNat)
 | .BitOr=>rI0 λi j=>.int (Builtin.bitOr i j)
 | _=>λ_ _ _ _=>False
theorem z7l{op:Operator}:OpR X (binaryOp op) (binR X op):=by
 cases op with
 | Add=>exact z6z.or (z6B.or z4C)
 | Sub=>exact z5i
 | Mult=>exact z3C.or z7f
 | Mod=>exact z7A.or z4J
 | FloorDiv=>exact z1V
 | LShift=>exact z7j
 | RShift=>exact λ_ _ _ _ _ _ _ _ _ _ _ _ h=>h.elim
 | BitAnd=>exact λ_ _ _ _ _ _ _ _ _ _ _ _ h=>h.elim
 | BitOr=>exact z8h
 | BitXor=>exact λ_ _ _ _ _ _ _ _ _ _ _ _ h=>h.elim
 | MatMult=>exact λ_ _ _ _ _ _ _ _ _ _ _ _ h=>h.elim
 | Div=>exact λ_ _ _ _ _ _ _ _ _ _ _ _ h=>h.elim
 | Pow=>exact λ_ _ _ _ _ _ _ _ _ _ _ _ h=>h.elim
theorem z5C{O W:List Addr}{H0 H:Hp}{op:Operator}{x y:V}{dx dy:DV}{cx cy:Cl}{Q:VK}{σ:St}(h:binD op dx dy cx cy=some re)(hd:Hid O W H0 H)(gx:Got X.D O W H0 H dx cx x)(gy:Got X.D O W H0 H dy cy y)
  (p:Post X.D E σ O W H0 H Q re):binR X op x y H Q:=by
 unfold binD at h;split at h
 ·cases h;exact .inl (z0l hd gx gy (p _ H (Same.refl H) q0T))
 ·cases h;exact z0l hd gx gy (p _ H (Same.refl H) q0T)
 ·split at h
  ·rename_i m;cases h;refine .inl (q9L hd gx gy ?_ (p _ H (Same.refl H) q0T));unfold q5N at m;simp only[Bool.or_eq_true,Bool.and_eq_true,decide_eq_true_eq]at m;exact m
  ·cases h
 ·split at h
  ·rename_i m;cases h;exact .inl (q9L hd gx gy m (p _ H (Same.refl H) q0T))
  ·split at h
   ·rename_i m;cases h;exact .inr (q9L hd gx gy m (p _ H (Same.refl H) q0T))
   ·cases h
 ·split at h
  ·rename_i m;cases h;exact q9L hd gx gy m (p _ H (Same.refl H) q0T)
  ·cases h
 ·split at h
  ·rename_i m;cases h;exact q9L hd gx gy m (p _ H (Same.refl H) q0T)
  ·cases h
 ·cases h;exact z0l hd gx gy (p _ H (Same.refl H) q0T)
 ·rename_i xs ys;split at h
  ·rename_i m;cases h;by_cases hw:cx ≠ .weak/\cy ≠ .weak
   ·obtain⟨l1,v1,e1,k1,r1⟩:=gx.items hd hw.1;obtain⟨l2,v2,e2,k2,r2⟩:=gy.items hd hw.2;refine .inr (.inl ⟨l1,l2,v1,v2,e1,e2,k1,k2,by rw[r1.length,r2.length];exact q1P m,λq hq=>p _ _ (q0w hq) ?_⟩);rw[z0f hw.1 hw.2];exact q2s hd hq (r1.append r2)
   ·obtain⟨l1,v1,e1,k1,r1⟩:=gx.lst hd;obtain⟨l2,v2,e2,k2,r2⟩:=gy.lst hd;refine .inr (.inl ⟨l1,l2,v1,v2,e1,e2,k1,k2,by rw[r1.length,r2.length];exact q1P m,λq hq=>p _ _ (q0w hq) ?_⟩);have:Cl.anew cx cy=.weak:=(by cases cx<;>cases cy<;>first | rfl | exact absurd ⟨(by intro z;cases z),(by intro z;cases z)⟩ hw);rw[this];exact q5K hd hq (r1.append r2)
  ·cases h
 ·rename_i xs ys;split at h
  ·rename_i m;cases h;by_cases hw:cx ≠ .weak/\cy ≠ .weak
   ·obtain⟨l1,v1,e1,k1,r1⟩:=gx.itemsT hd hw.1;obtain⟨l2,v2,e2,k2,r2⟩:=gy.itemsT hd hw.2;have cl:(Cl.anew cx cy).notF=.strong:=by rw[z0f hw.1 hw.2];rfl
    rw[cl]at p;refine .inr (.inr ⟨l1,l2,v1,v2,e1,e2,k1,k2,λz=>m.2 (by have:=r1.length;rw[z]at this;exact List.length_eq_zero_iff.mp this.symm),by rw[r1.length,r2.length];exact q1P m.1,λz=>?_,λ_ q hq=>p _ _ (q0w hq) (q3N hd hq (r1.append r2))⟩);refine p _ _ (Same.refl _) ?_;have z2:ys=[]:=by have:=r2.length;rw[z]at this;exact List.length_eq_zero_iff.mp this.symm
    subst z2;rw[List.append_nil];cases cx with
    | weak=>exact absurd rfl hw.1
    | top=>rw[←e1];exact gx
    | strong=>rw[←e1];exact gx
    | fresh=>obtain⟨_,_,_,_,q,_⟩:=gx;cases q
    | ft=>rw[←e1];exact gx.ft hd
   ·obtain⟨l1,v1,e1,k1,r1⟩:=gx.tup hd;obtain⟨l2,v2,e2,k2,r2⟩:=gy.tup hd;have cl:(Cl.anew cx cy).notF=.weak:=(by cases cx<;>cases cy<;>first | rfl | exact absurd ⟨(by intro z;cases z),(by intro z;cases z)⟩ hw);rw[cl]at p;refine .inr (.inr ⟨l1,l2,v1,v2,e1,e2,k1,k2,λz=>m.2 (by have:=r1.length;rw[z]at this;exact List.length_eq_zero_iff.mp this.symm),by rw[r1.length,r2.length];exact q1P m.1,λz=>?_,λ_ q hq=>p _ _ (q0w hq) (q5E hd hq (r1.append r2))⟩);refine p _ _ (Same.refl _) ?_;have z2:ys=[]:=by have:=r2.length;rw[z]at this;exact List.length_eq_zero_iff.mp this.symm
    subst z2;rw[List.append_nil,←e1];exact gx.weak hd
  ·cases h
 ·rename_i xs k;split at h
  ·rename_i m;cases h;obtain⟨l1,v1,e1,k1,r1⟩:=gx.lstC hd;refine .inr ⟨l1,k,v1,e1,gy.int hd,k1,m.2.1,m.2.2,by rw[r1.length];exact q1P m.1,λq hq=>p _ _ (q0w hq) (q4m hd hq (r1.rep _))⟩
  ·cases h
 ·cases h
theorem z4y{op:Operator}(ha:∀q,ra=some q->PE X a (dE X.D E δ q))(hb:∀q,rb=some q->PE X b (dE X.D E δ q))(h:(Re.thn ra λx cx=>Re.thn rb λy cy=>binD op x y cx cy)=some re):PE X (.BinOp a op b pos) (dE X.D E δ re):=
 q7C (λ_ _=>z5I z7l) ha hb h λO W H0 H x y Q dx cx dy cy σ k hd gx gy p=>z5C k hd gx gy p
theorem z2Z(ha:∀q,ra=some q->PE X a (dE X.D E δ q))(h:(Re.thn ra λx _=>match x with | .int i=>some (.ok (.int (-i)) .strong) | _=>none)=some re):PE X (.UnaryOp .USub a pos) (dE X.D E δ re):=
 z2x (λ_=>z8q z5g) ha h λO W H0 H x Q dx cx σ k hd gx p=>by
  split at k
  ·cases k;exact⟨_,gx.int hd,p _ H (Same.refl H) q0T⟩
  ·cases k
theorem z6W{ds:List DV}{i:Int}:atD ds i=L2.atI ds i:=rfl
theorem RepL.atI{D:Dm}{H:Hp}{ds:List DV}{xs:List V}{i:Int}{d:DV}(h:RepL D H ds xs)(e:atD ds i=some d):∃v,L2.atI xs i=some v/\Rep D H d v:=by
 rw[z6W]at e;unfold L2.atI at e ⊢;rw[h.length];cases q:ixN ds.length i with
 | none=>rw[q]at e;cases e
 | some j=>
  rw[q]at e;exact h.get e
theorem z9b{O W:List Addr}{H0 H:Hp}{x y:V}{dx dy:DV}{cx cy:Cl}{Q:VK}{σ:St}(h:((ixD dx dy).map λd=>Re.ok d cx.item)=some re)(hd:Hid O W H0 H)(gx:Got X.D O W H0 H dx cx x)(gy:Got X.D O W H0 H dy cy y)
  (p:Post X.D E σ O W H0 H Q re):rIx X.K x y H Q:=by
 obtain⟨d,h1,h2⟩:=Option.map_eq_some_iff.mp h;cases h2;unfold ixD at h1;split at h1
 ·rename_i ns i;obtain⟨a,e1,e2⟩:=q1X.mp (gx.all hd);obtain⟨n,h3,h4⟩:=Option.map_eq_some_iff.mp h1;cases h4;have q:L2.atI (ns.map V.int) i=some (.int n):=by
   unfold L2.atI;rw[List.length_map];have h3':((ixN ns.length i).bind λj=>ns[j]?)=some n:=h3;cases z:ixN ns.length i with
   | none=>rw[z]at h3';cases h3'
   | some j=>
    rw[z]at h3';have h5:ns[j]? = some n:=h3';show(ns.map V.int)[j]? = _;rw[List.getElem?_map,h5];rfl
  refine .inl ⟨a,_,i,_,e1,gy.int hd,e2.sq,q,p _ H (Same.refl H) ?_⟩;cases cx<;>exact q0T
 ·obtain⟨a,xs,e1,e2,e3⟩:=gx.lstC hd;obtain⟨v,q1,q2⟩:=e3.atI h1;exact .inl ⟨a,xs,_,v,e1,gy.int hd,SqL.of e2,q1,p _ H (Same.refl H) (Got.item q2)⟩
 ·obtain⟨a,xs,e1,e2,e3⟩:=gx.tupC hd;obtain⟨v,q1,q2⟩:=e3.atI h1;exact .inr (.inl ⟨a,xs,_,v,e1,gy.int hd,e2,q1,p _ H (Same.refl H) (Got.item q2)⟩)
 ·rename_i z i;obtain⟨e1,e2⟩:=gx.str hd;cases q:q3G z.cps.size i with
  | none=>rw[q]at h1;cases h1
  | some j=>
   rw[q]at h1;obtain⟨ch,h3,h4⟩:=Option.map_eq_some_iff.mp (show((z.cps[j]?).map λc=>DV.str ⟨#[c]⟩)=some d from h1);cases h4;refine .inr (.inr ⟨z,i,ch,e1,gy.int hd,e2,?_,p _ H (Same.refl H) ?_⟩)
   ·unfold L2.atI;have:ixN z.cps.toList.length i=some j:=by rw[Array.length_toList];exact q
    rw[this];show z.cps.toList[j]? = some ch;rw[Array.getElem?_toList];exact h3
   ·have one:Rep X.D (L2.wo (O++W) H) (.str ⟨#[ch]⟩) (.str ⟨#[ch]⟩):=q0R.mpr ⟨rfl,by show(1:Nat)<=sizeLine;decide⟩;have one':Rep X.D (L2.wo O H) (.str ⟨#[ch]⟩) (.str ⟨#[ch]⟩):=q0R.mpr ⟨rfl,by show(1:Nat)<=sizeLine;decide⟩;cases cx<;>first | exact one | exact one'
 ·cases h1
theorem z6F(ha:∀q,ra=some q->PE X a (dE X.D E δ q))(hb:∀q,rb=some q->PE X b (dE X.D E δ q))(hs:q9z b=false)(h:(Re.thn ra λx cx=>Re.thn rb λy _=>(ixD x y).map λd=>.ok d cx.item)=some re):PE X (.Subscript a b pos) (dE X.D E δ re):=
 q7C (λ_ _ h1 h2=>z8A z7t h1 h2 (by cases b<;>first | (intro _ _;rfl) | cases hs)) ha hb h λO W H0 H x y Q dx cx dy cy σ k hd gx gy p=>z9b k hd gx gy p
theorem q5I(n d:Nat)(o:Option Int):slIx n d o=HT.sIx n d o:=by cases o<;>rfl
theorem RepL.cut{D:Dm}{H:Hp}{ds:List DV}{xs:List V}(h:RepL D H ds xs)(lo hi:Option Int):RepL D H (cutD ds lo hi) (cutV xs lo hi):=by
 unfold cutD cutV;rw[q5I,q5I,←h.length];exact(h.drop _).take _
theorem z8r{O W:List Addr}{H0 H:Hp}{x:V}{dx:DV}{cx:Cl}{Q:VK}{σ:St}{lo hi:Option Int}(h:((slD dx lo hi).map λd=>Re.ok d (slCl dx cx))=some re)(hd:Hid O W H0 H)(gx:Got X.D O W H0 H dx cx x)
  (p:Post X.D E σ O W H0 H Q re):rSlL X.K x lo hi H Q\/rSlT X.K x lo hi H Q:=by
 obtain⟨d,h1,h2⟩:=Option.map_eq_some_iff.mp h;cases h2;unfold slD at h1;split at h1
 ·rename_i ns;cases h1;obtain⟨a,e1,e2⟩:=q1X.mp (gx.all hd);exact .inl ⟨a,_,e1,e2.sq,λq hq=>p _ _ (q0w hq) (q2s hd hq ((q2d ns).cut lo hi))⟩
 ·cases h1;obtain⟨a,xs,e1,e2,e3⟩:=gx.lstC hd;exact .inl ⟨a,xs,e1,SqL.of e2,λq hq=>p _ _ (q0w hq) (q4m hd hq (e3.cut lo hi))⟩
 ·rename_i ds;split at h1
  ·cases h1
  ·rename_i m;cases h1;obtain⟨a,xs,e1,e2,e3⟩:=gx.tupC hd;refine .inr ⟨a,xs,e1,e2,?_,λq hq=>p _ _ (q0w hq) (q7H hd hq (e3.cut lo hi))⟩;rw[q5I,q5I,←e3.length]at m;exact m
 ·cases h1
theorem q7D:SlR X (λx lo hi H Q=>rSlL X.K x lo hi H Q\/rSlT X.K x lo hi H Q):=z5a.or z5U
theorem q4F{i:Int}{cl:Cl}(h:PE X b (dE X.D E δ (.ok (.int i) cl))):PO X (some b) (λσ H Q=>∃O W,RSt X.D H σ δ O W/\∀H',Same H H'->Q (some i) H'):=λpins s σ H Q I ⟨O,W,R,p⟩=>
 q8Q h pins s σ H Q I ⟨O,W,R,λv H' s1 g=>⟨i,g.int (R.hid.mono s1),p H' s1⟩⟩
theorem q9Q{c:Str}(h:PE X b (dE X.D E δ (.ex c))):PO X (some b) (λσ H Q=>∃O W,RSt X.D H σ δ O W/\Post X.D E σ O W H H (λ_ _=>False) (.ex c)):=λpins s σ H Q I ⟨O,W,R,p⟩=>
 q8Q h pins s σ H Q I ⟨O,W,R,p⟩
theorem q1Q{o:Option Expr}:PO X o (λ_ _ _=>False):=λ_ _ _ _ _ _ h=>h.elim
theorem z6S{p2:Pos}{rc:Option Re}(ha:∀q,ra=some q->PE X a (dE X.D E δ q))(hb:∀q,rb=some q->PE X b (dE X.D E δ q))(hc:∀q,rc=some q->PE X c (dE X.D E δ q))(h:(Re.thn ra λx cx=>Re.thn rb λl _=>match l with
  | .int l=>Re.thn rc λu _=>(match u with
   | .int u=>(slD x (some l) (some u)).map λd=>.ok d (slCl x cx) | _=>none) | _=>none)=some re):PE X (.Subscript a (.Slice (some b) (some c) none p2) pos) (dE X.D E δ re):=by
 cases hra:ra with
 | none=>rw[hra]at h;cases h
 | some q=>
  rw[hra]at h;have A:=ha q hra;cases q with
  | ex c=>cases h;exact(q1h q7D A q1Q q1Q).weak λσ H Q ⟨O,W,R,p⟩=>⟨O,W,R,p⟩
  | ok dx cx=>
   cases hrb:rb with
   | none=>rw[hrb]at h;cases h
   | some q=>
    rw[hrb]at h;have B:=hb q hrb;cases q with
    | ex c=>cases h;exact(q1h q7D A (q9Q B) q1Q).weak λσ H Q ⟨O,W,R,p⟩=>⟨O,W,R,λx H1 s1 g1=>⟨O,W,R.mono s1,λH' C m s=>p H' C m (s1.trans s)⟩⟩
    | ok dy cy=>
     have h':(match(generalizing:=false) dy with | .int l=>Re.thn rc λu _=>(match u with | .int u=>(slD dx (some l) (some u)).map λd=>Re.ok d (slCl dx cx) | _=>none) | _=>none)=some re:=h;split at h'
     ·rename_i l;cases hrc:rc with
      | none=>rw[hrc]at h';cases h'
      | some q=>
       rw[hrc]at h';have C:=hc q hrc;cases q with
       | ex c'=>
        cases h';exact(q1h q7D A (q4F B) (q9Q C)).weak λσ H Q ⟨O,W,R,p⟩=>⟨O,W,R,λx H1 s1 g1=>⟨O,W,R.mono s1,λH2 s2=>⟨O,W,(R.mono s1).mono s2,λH' C m s=>p H' C m (s1.trans (s2.trans s))⟩⟩⟩
       | ok dz cz=>
        have h2:(match(generalizing:=false) dz with | .int u=>(slD dx (some l) (some u)).map λd=>Re.ok d (slCl dx cx) | _=>none)=some re:=h';split at h2
        ·rename_i u;exact(q1h q7D A (q4F B) (q4F C)).weak λσ H Q ⟨O,W,R,p⟩=>⟨O,W,R,λx H1 s1 g1=>⟨O,W,R.mono s1,λH2 s2=>⟨O,W,(R.mono s1).mono s2,λH3 s3=>z8r h2 (((R.hid.mono s1).mono s2).mono s3) ((g1.mono s2).mono s3) (p.step (s1.trans (s2.trans s3)))⟩⟩⟩
        ·cases h2
     ·cases h'
end
end L2
end
noncomputable section
namespace L2
open PySem PySem.Spec PyProof.Rows
section
variable {X:Cx}
theorem q5F{y:Str}{c:Nat}(h:y.cps.toList=[c]):y=⟨#[c]⟩:=by
 obtain⟨⟨l⟩⟩:=y;simp only at h;rw[h]
theorem z4r(x:Str)(c:Nat):(match Builtin.Str.occurrences x ⟨#[c]⟩ 0 x.length 1 with | i::_=>(i:Int) | []=>-1)=q3x c x.cps.toList:=by
 unfold q3x;have at1:∀i,StrLaws.At x ⟨#[c]⟩ x.length i↔x.cps.toList[i]? = some c:=λi=>StrLaws.subAt_one x c i
 rcases StrLaws.occ_head x ⟨#[c]⟩ 1 (Nat.le_refl 1)with⟨e,hn⟩ | ⟨i,r,e,ha,hm⟩
 ·rw[e];have:c∉x.cps.toList:=λz=>by
   obtain⟨i,hi,q⟩:=List.getElem_of_mem z;exact hn i ((at1 i).mpr (by rw[List.getElem?_eq_getElem hi,q]))
  rw[List.idxOf_eq_length this,if_neg (Nat.lt_irrefl _)]
 ·rw[e];have hi:=(at1 i).mp ha;have hl:=(List.getElem?_eq_some_iff.mp hi).1;have q:x.cps.toList.idxOf c=i:=by
   have hmem:c∈x.cps.toList:=List.mem_of_getElem? hi;have hlt:=List.idxOf_lt_length_of_mem hmem;have hg:x.cps.toList[x.cps.toList.idxOf c]? = some c:=by rw[List.getElem?_eq_getElem hlt,List.getElem_idxOf hlt]
   rcases Nat.lt_trichotomy (x.cps.toList.idxOf c) i with z | z | z
   ·exact absurd ((at1 _).mpr hg) (hm _ z)
   ·exact z
   ·exfalso;have:=List.not_of_lt_findIdx (p:=(· == c)) (xs:=x.cps.toList) (i:=i) (by unfold List.idxOf at z;exact z);rw[List.getElem?_eq_getElem hl]at hi;have hi':=Option.some.inj hi;rw[hi']at this;simp at this
  rw[q,if_pos hl]
theorem z4N:MtR X "str.find" (λx xs H Q=>∃(y z:Str) (c:Nat),x=.str y/\xs=[.str z]/\z.cps.toList=[c]/\Q (.int (q3x c y.cps.toList)) H):=by
 intro pins s σ H x xs v us Q I rx rv h;obtain⟨y,z,c,rfl,rfl,hz,q⟩:=h;obtain⟨t,rfl⟩:=(show ∃t,v=Value.str y t from rx);obtain⟨u,rfl,r1⟩:=q6F rv;obtain⟨t',rfl⟩:=r1;rw[q5F hz];have g:Gives (Builtin.«str.find» ⟨[.str y t,.str ⟨#[c]⟩ t'],[]⟩) (.int (match Builtin.Str.occurrences y ⟨#[c]⟩ 0 y.length 1 with | i::_=>(i:Int) | []=>-1)):=gives_str_find y ⟨#[c]⟩ t t';rw[z4r]at g;exact call_gives F.slot_str_find (typeIs_str _ _ _) F.entry_str_find (F.args_str_find_2 _ _) g ⟨.int _,H,I.tok _,⟨_,rfl⟩,q⟩
theorem q8p:∀a,a<10->PySem.intText? ⟨#[48+a]⟩=some (a:Int):=by decide +kernel
theorem q7f:∀a,a<10->∀b,b<10->PySem.intText? ⟨#[48+a,48+b]⟩=some ((a*10+b:Nat):Int):=by decide +kernel
theorem q8W{x:Str}{n:Int}(h:dnum x=some n):PySem.intText? x=some n/\x.length<=640:=by
 obtain⟨⟨l⟩⟩:=x;unfold dnum at h;simp only at h;split at h
 ·rename_i a;split at h
  ·rename_i hh;cases h;have:=q8p (a - 48) (by omega);rw[show 48+(a - 48)=a by omega]at this;exact⟨this,by show 1<=640;decide⟩
  ·cases h
 ·rename_i a b;split at h
  ·rename_i hh;cases h;have:=q7f (a - 48) (by omega) (b - 48) (by omega);rw[show 48+(a - 48)=a by omega,show 48+(b - 48)=b by omega]at this;exact⟨this,by show 2<=640;decide⟩
  ·cases h
 ·cases h
theorem q6h:q2Q X (.type "int") (λxs H Q=>∃(y:Str) (n:Int),xs=[.str y]/\dnum y=some n/\Q (.int n) H):=by
 intro pins s σ H xs us Q I r h;obtain⟨y,n,rfl,hn,q⟩:=h;obtain⟨u,rfl,r1⟩:=q6F r;obtain⟨t,rfl⟩:=r1;obtain⟨h1,h2⟩:=q8W hn;exact PySem.W.KIN.call_text h1 h2 ⟨.int _,H,I.tok _,⟨_,rfl⟩,q⟩
def Its(x:Str):It:=⟨λi _=>i<x.cps.size,λi H v H'=>H'=H/\∃c,x.cps[i]? = some c/\v=.str ⟨#[c]⟩,λi _=>x.cps.size<=i⟩
theorem q8A{P:Program}{w:World}{K:PySem.W.Frag}{tg:Expr}(it:Addr)(x:Str)(t:Tok):Turn P w K tg (Its x) [it] it (λi h=>h.IsStrIter it "str_ascii_iterator" x t i) where
 mem:=by simp
 obj:=λi h st b hb=>by
  have e:b=it:=by simpa using hb
  subst e;obtain⟨o,e,c,d⟩:=st;exact⟨o,e,λv z=>by rw[d]at z;cases z⟩
 keep:=λi h h' st k=>by obtain⟨o,e,r⟩:=st;exact⟨o,k it (by simp) o e,r⟩
 item:=by
  intro X hP hw hK hc i pins s σ H E I hf st hg;subst hP hw hK;obtain⟨f0,f1,f2,f3,f4,f5⟩:=hf it (by simp);have hi:i<x.cps.size:=hg;refine wpAny_pyNext_ascii_item st (c:=x.cps[i]) (by simp[hi]) λh' st' sb=>?_
  have I1:Inv X pins σ H {s with heap:=h',toks:=s.toks+1}:=I.turned (λb o hb e=>(sb.2 b hb).trans e) f0 f1 f3 f4 f5;obtain⟨o,e,c,d⟩:=id st';exact⟨_,rfl,q9I (s:={s with heap:=h',toks:=s.toks+1}) e c d (by decide) ⟨.str ⟨#[x.cps[i]]⟩,H,I1,⟨_,rfl⟩,⟨rfl,_,by simp[hi],rfl⟩,st',λb hb=>(hf b hb).1⟩⟩
 done:=by
  intro X hP hw hK hc i pins s σ H E I hf st hg;subst hP hw hK;obtain⟨f0,f1,f2,f3,f4,f5⟩:=hf it (by simp);have hi:x.cps.size<=i:=hg;exact wpAny_pyNext_ascii_end (I.ok.hd hc) st (by simp[hi]) λh' eb=>⟨rfl,I.turned (t':=s.toks) (λb o hb e=>eb b o hb e) f0 f1 f3 f4 f5⟩
 self:=λ_ _ _ _ _ st h=>wpAny_pyIter_striter_ascii st h
theorem q9l{P:Program}{w:World}{K:PySem.W.Frag}{tg:Expr}(it:Addr)(x:Str)(t:Tok):Turn P w K tg (Its x) [it] it (λi h=>h.IsStrIter it "str_iterator" x t i) where
 mem:=by simp
 obj:=λi h st b hb=>by
  have e:b=it:=by simpa using hb
  subst e;obtain⟨o,e,c,d⟩:=st;exact⟨o,e,λv z=>by rw[d]at z;cases z⟩
 keep:=λi h h' st k=>by obtain⟨o,e,r⟩:=st;exact⟨o,k it (by simp) o e,r⟩
 item:=by
  intro X hP hw hK hc i pins s σ H E I hf st hg;subst hP hw hK;obtain⟨f0,f1,f2,f3,f4,f5⟩:=hf it (by simp);have hi:i<x.cps.size:=hg;refine wpAny_pyNext_wide_item st (c:=x.cps[i]) (by simp[hi]) λh' st' sb=>?_
  have I1:Inv X pins σ H {s with heap:=h',toks:=s.toks+1}:=I.turned (λb o hb e=>(sb.2 b hb).trans e) f0 f1 f3 f4 f5;obtain⟨o,e,c,d⟩:=id st';exact⟨_,rfl,q9I (s:={s with heap:=h',toks:=s.toks+1}) e c d (by decide) ⟨.str ⟨#[x.cps[i]]⟩,H,I1,⟨_,rfl⟩,⟨rfl,_,by simp[hi],rfl⟩,st',λb hb=>(hf b hb).1⟩⟩
 done:=by
  intro X hP hw hK hc i pins s σ H E I hf st hg;subst hP hw hK;obtain⟨f0,f1,f2,f3,f4,f5⟩:=hf it (by simp);have hi:x.cps.size<=i:=hg;exact wpAny_pyNext_wide_end (I.ok.hd hc) st (by simp[hi]) λh' eb=>⟨rfl,I.turned (t':=s.toks) (λb o hb e=>eb b o hb e) f0 f1 f3 f4 f5⟩
 self:=λ_ _ _ _ _ st h=>wpAny_pyIter_striter_wide st h
def iStr(tl:TE):TI:=λσ H R=>tl σ H λv H1=>∃x:Str,v=.str x/\R (Its x) H1
theorem z6a{l tg:Expr}{tl:TE}(hl:PE X l tl):PI X tg l (iStr tl):=by
 intro pins s σ H R I h;refine thn (hl pins s σ H _ I h) λv s1 ⟨x,H1,I1,r1,q1⟩=>?_
 obtain⟨y,e,q⟩:=q1;subst e;obtain⟨t,rfl⟩:=(show ∃t,v=Value.str y t from r1);have fp:∀(o:Obj),∀b∈[s1.heap.objs.size],FpOk X pins H1 b:=λo b hb=>by
  have e:b=s1.heap.objs.size:=by simpa using hb
  subst e;exact I1.fpOk (Nat.le_refl _) (I1.hok.fresh (Nat.le_refl _))
 cases ha:y.cps.all (· < 128)with
 | false=>exact wpAny_pyIter_wide ha ⟨s1.heap.objs.size,[s1.heap.objs.size],_,_,H1,rfl,I1.kept (t':=s1.toks) λb o e=>Heap.get?_push_of_some _ e,q9l _ y t,⟨_,Heap.get?_push_size _ rfl,rfl,rfl⟩,fp default,q⟩
 | true=>exact wpAny_pyIter_ascii ha ⟨s1.heap.objs.size,[s1.heap.objs.size],_,_,H1,rfl,I1.kept (t':=s1.toks) λb o e=>Heap.get?_push_of_some _ e,q8A _ y t,⟨_,Heap.get?_push_size _ rfl,rfl,rfl⟩,fp default,q⟩
end
end L2
end
noncomputable section
namespace L2
open PySem PySem.Spec PyProof.Rows
section
variable {X:Cx} {E:St->XK} {δ:List Sv} {a b:Expr} {pos p2:Pos} {ra rb:Option Re} {re:Re}
theorem z0W{n:Nat}{l:Option Int}(v:Int):Builtin.Str.strSliceIndices l (some v) 1 n=Builtin.Str.strSliceIndices l (some (q1l n v)) 1 n:=by
 unfold Builtin.Str.strSliceIndices;dsimp only;have:max 0 (min (if v<0 then v+(n:Int)else v) n)=max 0 (min (if q1l n v<0 then q1l n v+(n:Int)else q1l n v) n):=by unfold q1l;split<;>split<;>omega
 simp only[show((1:Int)>0)=True by simp,if_true];rw[this]
def hiS(n:Nat):Option Int->Int
 | none=>n
 | some v=>q1l n v
theorem z2g{n:Nat}{lo hi:Option Int}{i j:Nat}(h1:lo.getD 0=(i:Int))(h2:hiS n hi=(j:Int)):Builtin.Str.strSliceIndices lo hi 1 n=Builtin.Str.strSliceIndices (some (i:Int)) (some (j:Int)) 1 n:=by
 have e:Builtin.Str.strSliceIndices lo hi 1 n=Builtin.Str.strSliceIndices lo (some (j:Int)) 1 n:=by
  rw[←h2];cases hi with
  | none=>exact StrLaws.sliceIdx_none_hi _ _
  | some v=>exact z0W v
 rw[e,←h1];cases lo with
 | none=>exact StrLaws.sliceIdx_none_lo _ _
 | some u=>rfl
def rSlS:V->Option Int->Option Int->Hp->VK->Prop:=λx lo hi H Q=>∃(z:Str) (i j:Nat),x=.str z/\z.length<=sizeLine/\lo.getD 0=(i:Int)/\hiS z.length hi=(j:Int)/\i<=j/\j<=z.length/\Q (.str (cutS z i j)) H
theorem q8u{z:Str}{lo hi:Option Int}{i j:Nat}(h1:lo.getD 0=(i:Int))(h2:hiS z.length hi=(j:Int))(hij:i<=j)(hj:j<=z.length):(Builtin.Str.strSliceIndices lo hi 1 z.length).filterMap (z.cps[·]?)=(z.cps.toList.drop i).take (j - i):=by
 rw[z2g h1 h2];exact StrLaws.sliced_plain z hij hj
theorem q5R{z:Str}{i j:Nat}:(cutS z i j).length<=z.length:=by
 show((z.cps.toList.drop i).take (j - i)).toArray.size<=z.cps.size;rw[List.size_toArray,List.length_take,List.length_drop,Array.length_toList];omega
theorem q9x{n:Nat}(h:n<=mostLen):n<=sizeLine:=Nat.le_trans h (by decide)
theorem q3v:SlR X rSlS:=by
 intro pins s σ H x v vl vu lo hi sl Q I rx hs pl pu h;obtain⟨z,i,j,rfl,hz,h1,h2,hij,hj,q⟩:=h;obtain⟨t,rfl⟩:=rx;refine⟨"str",_,F.slot_str_getitem.lookup,typeIs_str s z t,?_⟩;have part:∀{w:Value} {o:Option Int},IsPart w o->∃l:Option (Int×Tok),w=partValue l/\l.map (·.1)=o:=λ{w o} p=>by
  cases p with
  | none=>exact⟨none,rfl,rfl⟩
  | int i t=>exact⟨some (i,t),rfl,rfl⟩
 obtain⟨l,rfl,hl⟩:=part pl;obtain⟨u,rfl,hu⟩:=part pu;refine wpAny_getItem_str_slice (l:=l) (u:=u) (st:=none) hs rfl ?_;have pk:(slicePicked z l u none).filterMap (z.cps[·]?)=(z.cps.toList.drop i).take (j - i):=by unfold slicePicked;rw[hl,hu];exact q8u h1 h2 hij hj
 unfold sliceMade;split
 ·rename_i w;have e:cutS z i j=z:=by
   simp only[Bool.and_eq_true,beq_iff_eq]at w;have w2:=w.2;have:(slicePicked z l u none).length=j - i:=by unfold slicePicked;rw[hl,hu];have e:=z2g (n:=z.length) h1 h2;show(Builtin.Str.strSliceIndices lo hi 1 z.length).length=_;rw[e,StrLaws.strSliceIndices_plain hij hj,List.length_map,List.length_range]
   have i0:i=0:=by omega
   have j0:j=z.length:=by omega
   subst i0;unfold cutS;rw[j0,Nat.sub_zero,List.drop_zero,List.take_of_length_le (by rw[Array.length_toList];exact Nat.le_refl _)]
  rw[e]at q;exact⟨.str z,H,I,⟨t,rfl⟩,q⟩
 ·rw[pk];exact⟨Nat.le_trans q5R hz,.str (cutS z i j),H,I.tok _,⟨_,rfl⟩,q⟩
theorem q4Q{D:Dm}{O W:List Addr}{H0 H:Hp}{z:Str}(h:z.length<=sizeLine):Got D O W H0 H (.str z) .strong (.str z):=(q0R.mpr ⟨rfl,h⟩:Rep D (L2.wo (O++W) H) _ _)
theorem z3c(ha:∀q,ra=some q->PE X a (dE X.D E δ q))(hb:∀q,rb=some q->PE X b (dE X.D E δ q))(h:(Re.thn ra λx _=>Re.thn rb λl _=>(stfD x l).map λd=>.ok d .strong)=some re):PE X (.Subscript a (.Slice (some b) none none p2) pos) (dE X.D E δ re):=by
 cases hra:ra with
 | none=>rw[hra]at h;cases h
 | some q=>
  rw[hra]at h;have A:=ha q hra;cases q with
  | ex c=>cases h;exact(q1h q3v A q1Q q3K).weak λσ H Q ⟨O,W,R,p⟩=>⟨O,W,R,p⟩
  | ok dx cx=>
   cases hrb:rb with
   | none=>rw[hrb]at h;cases h
   | some q=>
    rw[hrb]at h;have B:=hb q hrb;cases q with
    | ex c=>cases h;exact(q1h q3v A (q9Q B) q3K).weak λσ H Q ⟨O,W,R,p⟩=>⟨O,W,R,λx H1 s1 g1=>⟨O,W,R.mono s1,λH' C m s=>p H' C m (s1.trans s)⟩⟩
    | ok dy cy=>
     have h':((stfD dx dy).map λd=>Re.ok d .strong)=some re:=h;obtain⟨d,h1,h2⟩:=Option.map_eq_some_iff.mp h';unfold stfD at h1;split at h1
     ·rename_i z i;split at h1
      ·rename_i m;cases h1;cases h2;refine(q1h q3v A (q4F B) q3K).weak λσ H Q ⟨O,W,R,p⟩=>⟨O,W,R,λx H1 s1 g1=>⟨O,W,R.mono s1,λH2 s2=>?_⟩⟩
       obtain⟨e1,e2⟩:=g1.str (R.hid.mono s1);exact⟨z,i.toNat,z.length,e1,e2,by show i=_;omega,rfl,by omega,Nat.le_refl _,p _ H2 (s1.trans s2) (q4Q (Nat.le_trans q5R e2))⟩
      ·cases h1
     ·cases h1
theorem z3i(ha:∀q,ra=some q->PE X a (dE X.D E δ q))(hb:∀q,rb=some q->PE X b (dE X.D E δ q))(h:(Re.thn ra λx _=>Re.thn rb λl _=>(sttD x l).map λd=>.ok d .strong)=some re):PE X (.Subscript a (.Slice none (some b) none p2) pos) (dE X.D E δ re):=by
 cases hra:ra with
 | none=>rw[hra]at h;cases h
 | some q=>
  rw[hra]at h;have A:=ha q hra;cases q with
  | ex c=>cases h;exact(q1h q3v A q3K q1Q).weak λσ H Q ⟨O,W,R,p⟩=>⟨O,W,R,p⟩
  | ok dx cx=>
   cases hrb:rb with
   | none=>rw[hrb]at h;cases h
   | some q=>
    rw[hrb]at h;have B:=hb q hrb;cases q with
    | ex c=>cases h;exact(q1h q3v A q3K (q9Q B)).weak λσ H Q ⟨O,W,R,p⟩=>⟨O,W,R,λx H1 s1 g1=>⟨O,W,R.mono s1,λH' C m s=>p H' C m (s1.trans s)⟩⟩
    | ok dy cy=>
     have h':((sttD dx dy).map λd=>Re.ok d .strong)=some re:=h;obtain⟨d,h1,h2⟩:=Option.map_eq_some_iff.mp h';unfold sttD at h1;split at h1
     ·rename_i z i;split at h1
      ·rename_i m;cases h1;cases h2;refine(q1h q3v A q3K (q4F B)).weak λσ H Q ⟨O,W,R,p⟩=>⟨O,W,R,λx H1 s1 g1=>⟨O,W,R.mono s1,λH2 s2=>?_⟩⟩
       obtain⟨e1,e2⟩:=g1.str (R.hid.mono s1);exact⟨z,0,i.toNat,e1,e2,rfl,by show q1l z.length i=_;unfold q1l;split<;>omega,Nat.zero_le _,by omega,p _ H2 (s1.trans s2) (q4Q (Nat.le_trans q5R e2))⟩
      ·cases h1
     ·cases h1
theorem z2P{c:Expr}{rc:Option Re}(ha:∀q,ra=some q->PE X a (dE X.D E δ q))(hb:∀q,rb=some q->PE X b (dE X.D E δ q))(hc:∀q,rc=some q->PE X c (dE X.D E δ q))(h:(Re.thn ra λx _=>Re.thn rb λl _=>stmG x l rc)=some re):PE X (.Subscript a (.Slice (some b) (some c) none p2) pos) (dE X.D E δ re):=by
 cases hra:ra with
 | none=>rw[hra]at h;cases h
 | some q=>
  rw[hra]at h;have A:=ha q hra;cases q with
  | ex c=>cases h;exact(q1h q3v A q1Q q1Q).weak λσ H Q ⟨O,W,R,p⟩=>⟨O,W,R,p⟩
  | ok dx cx=>
   cases hrb:rb with
   | none=>rw[hrb]at h;cases h
   | some q=>
    rw[hrb]at h;have B:=hb q hrb;cases q with
    | ex c=>cases h;exact(q1h q3v A (q9Q B) q1Q).weak λσ H Q ⟨O,W,R,p⟩=>⟨O,W,R,λx H1 s1 g1=>⟨O,W,R.mono s1,λH' C m s=>p H' C m (s1.trans s)⟩⟩
    | ok dy cy=>
     have h0:stmG dx dy rc=some re:=h;unfold stmG at h0;split at h0
     ·rename_i i0 dz cz;have Cc:=hc _ rfl;have h':((stmD dx (.int i0) dz).map λd=>Re.ok d .strong)=some re:=h0;obtain⟨d,h1,h2⟩:=Option.map_eq_some_iff.mp h';cases dx with
      | str z=>
       cases dz with
       | int v=>
        have h1:(if 0<=i0/\i0<=q1l z.length v then some (DV.str (cutS z i0.toNat (q1l z.length v).toNat))else none)=some d:=h1;split at h1
        ·rename_i m;cases h1;cases h2;refine(q1h q3v A (q4F B) (q4F Cc)).weak λσ H Q ⟨O,W,R,p⟩=>⟨O,W,R,λx H1 s1 g1=>⟨O,W,R.mono s1,λH2 s2=>⟨O,W,(R.mono s1).mono s2,λH3 s3=>?_⟩⟩⟩
         obtain⟨e1,e2⟩:=g1.str (R.hid.mono s1);have hc0:q1l z.length v<=z.length:=by unfold q1l;split<;>omega
         exact⟨z,i0.toNat,(q1l z.length v).toNat,e1,e2,by show i0=_;omega,by show q1l z.length v=_;omega,by omega,by omega,p _ H3 ((s1.trans s2).trans s3) (q4Q (Nat.le_trans q5R e2))⟩
        ·cases h1
       | _=>cases h1
      | _=>cases h1
     ·cases h0
theorem z1G(ha:∀q,ra=some q->PE X a (dE X.D E δ q))(hb:∀q,rb=some q->PE X b (dE X.D E δ q))(h:(Re.thn ra λx _=>Re.thn rb λy _=>(catS x y).map λd=>.ok d .strong)=some re):PE X (.BinOp a .Add b pos) (dE X.D E δ re):=
 q7C (k:=λx _ y _=>(catS x y).map λd=>.ok d .strong) (λ_ _=>z5I q8y) ha hb h λO W H0 H x y Q dx cx dy cy σ k hd gx gy p=>by
  obtain⟨d,h1,h2⟩:=Option.map_eq_some_iff.mp k;unfold catS at h1;split at h1
  ·rename_i i j;split at h1
   ·rename_i m;cases h1;cases h2;exact⟨i,j,(gx.str hd).1,(gy.str hd).1,q9x m,p _ H (Same.refl H) (q4Q (by rw[strLen_append];exact q9x m))⟩
   ·cases h1
  ·cases h1
end
end L2
end
noncomputable section
namespace L2
open PySem PySem.Spec PyProof.Rows
mutual
def toP:DV->PyData
 | .non=>.none | .bl b=>.bool b | .int i=>.int i | .str x=>.str x
 | .tup ds=>.tuple (toPs ds) | .lst ds=>.list (toPs ds)
 | _=>.none
def toPs:List DV->List PyData
 | []=>[]
 | d::r=>toP d::toPs r
end
mutual
theorem q5Q:∀(n m:Nat) (d e:DV),d.plain n=true->e.plain m=true->PyData.eqv (toP d) (toP e)=deq d e
 | n,m,.non,e,_,h=>by cases e<;>first | (cases m<;>simp[DV.plain]at h;done) | (simp only[toP,PyData.eqv,deq])
 | n,m,.bl _,e,_,h=>by cases e<;>first | (cases m<;>simp[DV.plain]at h;done) | (simp only[toP,PyData.eqv,deq])
 | n,m,.int _,e,_,h=>by cases e<;>first | (cases m<;>simp[DV.plain]at h;done) | (simp only[toP,PyData.eqv,deq])
 | n,m,.str x,e,_,h=>by
  cases e with
  | str y=>simp only[toP,PyData.eqv,deq];rfl
  | non=>simp only[toP,PyData.eqv,deq]
  | bl _=>simp only[toP,PyData.eqv,deq]
  | int _=>simp only[toP,PyData.eqv,deq]
  | tup _=>simp only[toP,PyData.eqv,deq]
  | lst _=>simp only[toP,PyData.eqv,deq]
  | dct _ _=>cases m<;>simp[DV.plain]at h
  | exc _=>cases m<;>simp[DV.plain]at h
  | fn _=>cases m<;>simp[DV.plain]at h
  | lam _ _=>cases m<;>simp[DV.plain]at h
  | scr _=>cases m<;>simp[DV.plain]at h
 | 0,_,.tup _,_,h,_=>by simp[DV.plain]at h
 | 0,_,.lst _,_,h,_=>by simp[DV.plain]at h
 | n+1,m,.tup ds,e,h,h'=>by
  cases e with
  | tup es=>
   cases m with
   | zero=>simp[DV.plain]at h'
   | succ m=>
    simp only[toP,PyData.eqv,deq];exact q5z n m ds es (by simpa[DV.plain]using h) (by simpa[DV.plain]using h')
  | non=>simp only[toP,PyData.eqv,deq]
  | bl _=>simp only[toP,PyData.eqv,deq]
  | int _=>simp only[toP,PyData.eqv,deq]
  | str _=>simp only[toP,PyData.eqv,deq]
  | lst _=>simp only[toP,PyData.eqv,deq]
  | dct _ _=>cases m<;>simp[DV.plain]at h'
  | exc _=>cases m<;>simp[DV.plain]at h'
  | fn _=>cases m<;>simp[DV.plain]at h'
  | lam _ _=>cases m<;>simp[DV.plain]at h'
  | scr _=>cases m<;>simp[DV.plain]at h'
 | n+1,m,.lst ds,e,h,h'=>by
  cases e with
  | lst es=>
   cases m with
   | zero=>simp[DV.plain]at h'
   | succ m=>
    simp only[toP,PyData.eqv,deq];exact q5z n m ds es (by simpa[DV.plain]using h) (by simpa[DV.plain]using h')
  | non=>simp only[toP,PyData.eqv,deq]
  | bl _=>simp only[toP,PyData.eqv,deq]
  | int _=>simp only[toP,PyData.eqv,deq]
  | str _=>simp only[toP,PyData.eqv,deq]
  | tup _=>simp only[toP,PyData.eqv,deq]
  | dct _ _=>cases m<;>simp[DV.plain]at h'
  | exc _=>cases m<;>simp[DV.plain]at h'
  | fn _=>cases m<;>simp[DV.plain]at h'
  | lam _ _=>cases m<;>simp[DV.plain]at h'
  | scr _=>cases m<;>simp[DV.plain]at h'
 | n,_,.dct _ _,_,h,_=>by cases n<;>simp[DV.plain]at h
 | n,_,.exc _,_,h,_=>by cases n<;>simp[DV.plain]at h
 | n,_,.fn _,_,h,_=>by cases n<;>simp[DV.plain]at h
 | n,_,.lam _ _,_,h,_=>by cases n<;>simp[DV.plain]at h
 | n,_,.scr _,_,h,_=>by cases n<;>simp[DV.plain]at h
theorem q5z:∀(n m:Nat) (ds es:List DV),DV.plains n ds=true->DV.plains m es=true->PyData.eqvAll (toPs ds) (toPs es)=deqs ds es
 | _,_,[],[],_,_=>by simp only[toPs,PyData.eqvAll,deqs]
 | _,_,[],_::_,_,_=>by simp only[toPs,PyData.eqvAll,deqs]
 | _,_,_::_,[],_,_=>by simp only[toPs,PyData.eqvAll,deqs]
 | n,m,d::ds,e::es,h,h'=>by simp only[DV.plains,Bool.and_eq_true]at h h';simp only[toPs,PyData.eqvAll,deqs,q5Q n m d e h.1 h'.1,q5z n m ds es h.2 h'.2]
end
mutual
theorem q3P:∀(n:Nat) (d:DV),d.plain n=true->(toP d).canLay0=true/\(toP d).depth<=n
 | n,.non,_=>by simp[toP,PyData.canLay0,PyData.depth]
 | n,.bl _,_=>by simp[toP,PyData.canLay0,PyData.depth]
 | n,.int _,_=>by simp[toP,PyData.canLay0,PyData.depth]
 | n,.str x,h=>by
  have h':(x.cps.all (· < 0x110000))=true:=by cases n<;>simpa[DV.plain]using h
  simp only[toP,PyData.canLay0,PyData.depth];exact⟨h',Nat.zero_le _⟩
 | 0,.tup _,h=>by simp[DV.plain]at h
 | 0,.lst _,h=>by simp[DV.plain]at h
 | n+1,.tup ds,h=>by have q:=q2r n ds (by simpa[DV.plain]using h);simp only[toP,PyData.canLay0,PyData.depth,q.1,true_and];have:=q.2;omega
 | n+1,.lst ds,h=>by have q:=q2r n ds (by simpa[DV.plain]using h);simp only[toP,PyData.canLay0,PyData.depth,q.1,true_and];have:=q.2;omega
 | n,.dct _ _,h=>by cases n<;>simp[DV.plain]at h
 | n,.exc _,h=>by cases n<;>simp[DV.plain]at h
 | n,.fn _,h=>by cases n<;>simp[DV.plain]at h
 | n,.lam _ _,h=>by cases n<;>simp[DV.plain]at h
 | n,.scr _,h=>by cases n<;>simp[DV.plain]at h
theorem q2r:∀(n:Nat) (ds:List DV),DV.plains n ds=true->PyData.canLayAll0 (toPs ds)=true/\PyData.depthAll (toPs ds)<=n
 | _,[],_=>by simp[toPs,PyData.canLayAll0,PyData.depthAll]
 | n,d::ds,h=>by simp only[DV.plains,Bool.and_eq_true]at h;have q:=q3P n d h.1;have q':=q2r n ds h.2;simp only[toPs,PyData.canLayAll0,PyData.depthAll,q.1,q'.1,Bool.and_self,true_and];have a:=q.2;have b:=q'.2;omega
end
section
variable {X:Cx} {pins:List (Addr×Obj)} {σ:St} {H:Hp} {s:Shared}
mutual
theorem q1g(I:Inv X pins σ H s):∀(n:Nat) {d:DV} {v:V} {u:Value},d.plain n=true->Rep X.D H d v->RelV v u->∃as,Reads s.heap u (toP d) as
 | _,.non,_,_,_,h,r=>by rw[q2Z.mp h]at r;cases r;exact⟨_,Reads.none⟩
 | _,.bl b,_,_,_,h,r=>by rw[q4y.mp h]at r;cases r;exact⟨_,Reads.bool b⟩
 | _,.int i,_,_,_,h,r=>by rw[q0U.mp h]at r;obtain⟨t,rfl⟩:=r;exact⟨_,Reads.int i t⟩
 | _,.str x,_,_,_,h,r=>by rw[(q0R.mp h).1]at r;obtain⟨t,rfl⟩:=r;exact⟨_,Reads.str x t⟩
 | 0,.tup _,_,_,p,_,_=>by simp[DV.plain]at p
 | 0,.lst _,_,_,p,_,_=>by simp[DV.plain]at p
 | n+1,.tup ds,_,_,p,h,r=>by obtain⟨a,xs,e1,e2,e3⟩:=q0L.mp h;rw[e1]at r;cases r;obtain⟨its,rv,⟨o,h1,h2,k,h3⟩,_⟩:=I.tuple e2;obtain⟨as,q⟩:=q4G I n (by simpa[DV.plain]using p) e3 rv;rw[toP];exact⟨as,Reads.tuple h1 h2 h3 (by simpa using q)⟩
 | n+1,.lst ds,_,_,p,h,r=>by obtain⟨a,xs,e1,e2,e3⟩:=q0G.mp h;rw[e1]at r;cases r;obtain⟨_,its,k,rv,_,h1⟩:=I.lstM e2;obtain⟨as,q⟩:=q4G I n (by simpa[DV.plain]using p) e3 rv;rw[toP];exact⟨_,Reads.list h1 rfl rfl (by simpa using q)⟩
 | n,.dct _ _,_,_,h,_,_=>by cases n<;>simp[DV.plain]at h
 | n,.exc _,_,_,h,_,_=>by cases n<;>simp[DV.plain]at h
 | n,.fn _,_,_,h,_,_=>by cases n<;>simp[DV.plain]at h
 | n,.lam _ _,_,_,h,_,_=>by cases n<;>simp[DV.plain]at h
 | n,.scr _,_,_,h,_,_=>by cases n<;>simp[DV.plain]at h
theorem q4G(I:Inv X pins σ H s):∀(n:Nat) {ds:List DV} {vs:List V} {us:List Value},DV.plains n ds=true->RepL X.D H ds vs->Vals vs us->∃as,ReadsAll s.heap us (toPs ds) as
 | _,[],_,_,_,h,r=>by rw[q0K.mp h]at r;cases r;exact⟨_,ReadsAll.nil⟩
 | n,d::ds,_,_,p,h,r=>by
  simp only[DV.plains,Bool.and_eq_true]at p;obtain⟨v,vs,e1,e2,e3⟩:=q0t.mp h;subst e1;cases r with
  | cons r1 r2=>
   obtain⟨as,q⟩:=q1g I n p.1 e2 r1;obtain⟨bs,q'⟩:=q4G I n p.2 e3 r2;rw[toPs];exact⟨_,ReadsAll.cons q q'⟩
end
theorem q3j{d:DV}(h:d.plain 60=true):SeqAt.shaped (toP d)=true:=by
 have q:=q3P 60 d h;unfold SeqAt.shaped;rw[q.1,Bool.true_and];exact decide_eq_true (Nat.le_trans q.2 (by decide))
theorem q4U{d:DV}(h:d.plain 60=true):∀(ds:List DV),DV.plains 60 ds=true->((toPs ds).any λy=>PyData.eqv y (toP d))=ds.any λx=>deq x d
 | [],_=>rfl
 | e::ds,p=>by simp only[DV.plains,Bool.and_eq_true]at p;rw[toPs,List.any_cons,List.any_cons,q5Q 60 60 e d p.1 h,q4U h ds p.2]
end
section
variable {X:Cx} {E:St->XK} {δ:List Sv} {a b c e:Expr} {pos:Pos} {ra rb rc:Option Re} {re:Re}
def cmpR(X:Cx)(op:CmpOp):R2:=λx y H Q=>∃dx dy k,cmpD op dx dy=some k/\Rep X.D H dx x/\Rep X.D H dy y/\Q (.bl k) H
theorem z2n{D:Dm}{H:Hp}{d:DV}{v:V}(r:Rep D H d v):decide (v=.non)=isN d:=by
 cases d with
 | non=>rw[q2Z.mp r];rfl
 | bl _=>rw[q4y.mp r];rfl
 | int _=>rw[q0U.mp r];rfl
 | str _=>rw[(q0R.mp r).1];rfl
 | tup _=>obtain⟨a,xs,e,_⟩:=q0L.mp r;rw[e];rfl
 | lst _=>obtain⟨a,xs,e,_⟩:=q0G.mp r;rw[e];rfl
 | exc _=>obtain⟨a,C,e,_⟩:=q6N.mp r;rw[e];rfl
 | fn _=>obtain⟨a,e,_⟩:=z5o.mp r;rw[e];rfl
 | lam _ _=>obtain⟨a,_,_,_,_,_,_,_,e,_⟩:=z4e.mp r;rw[e];rfl
 | scr _=>obtain⟨a,e,_⟩:=q1X.mp r;rw[e];rfl
 | dct _ _=>rcases q4V.mp r with⟨a,o,kvs,e,_⟩ | ⟨a,o,kvs,e,_⟩<;>rw[e]<;>rfl
theorem q5i{op:CmpOp}(hu:X.A.units+64<cLine):OpR X (compareOp op) (cmpR X op):=by
 intro pins s σ H x y v u Q I rx ry h;obtain⟨dx,dy,k,hk,r1,r2,q⟩:=h;have fin:∀{k':Bool},k'=k->EP X pins σ Q (.bool k') s:=λ{k'} e=>⟨.bl k',H,I,rfl,by rw[e];exact q⟩
 unfold cmpD at hk;split at hk
 ·cases hk;exact z8K pins s σ H x y v u Q I rx ry ⟨_,_,q0U.mp r1,q0U.mp r2,q⟩
 ·cases hk;exact z8k pins s σ H x y v u Q I rx ry ⟨_,_,q0U.mp r1,q0U.mp r2,q⟩
 ·cases hk;exact z8C pins s σ H x y v u Q I rx ry ⟨_,_,q0U.mp r1,q0U.mp r2,q⟩
 ·split at hk
  ·rename_i p;rw[Bool.and_eq_true]at p;cases hk;obtain⟨as,q1⟩:=q1g I 60 p.1 r1 rx;obtain⟨bs,q2⟩:=q1g I 60 p.2 r2 ry;exact eq_dataH q1 q2 (q3j p.1) (q3j p.2) hu (fin (q5Q 60 60 _ _ p.1 p.2))
  ·cases hk
 ·split at hk
  ·rename_i p;rw[Bool.and_eq_true]at p;cases hk;obtain⟨as,q1⟩:=q1g I 60 p.1 r1 rx;obtain⟨bs,q2⟩:=q1g I 60 p.2 r2 ry;exact ne_dataH q1 q2 (q3j p.1) (q3j p.2) hu (fin (by rw[q5Q 60 60 _ _ p.1 p.2]))
  ·cases hk
 ·cases hk;exact z7o pins s σ H x y v u Q I rx ry ⟨q2Z.mp r2,by rw[z2n r1];exact q⟩
 ·cases hk;exact z4l pins s σ H x y v u Q I rx ry ⟨q2Z.mp r2,by rw[z2n r1];exact q⟩
 ·rename_i ds;split at hk
  ·rename_i p;rw[Bool.and_eq_true]at p;cases hk;obtain⟨as,q1⟩:=q1g I 60 p.1 r1 rx;obtain⟨bs,q2⟩:=q1g I 61 (d:=.lst ds) (by simpa[DV.plain]using p.2) r2 ry;rw[toP]at q2;have l1:=q3P 60 _ p.1;have l2:=q2r 60 ds p.2;have l3:=l1.2;exact SeqAt.in_list_reads q2 q1 l2.1 l1.1 (by omega) (fin (q4U p.1 ds p.2))
  ·cases hk
 ·rename_i ds;split at hk
  ·rename_i p;rw[Bool.and_eq_true]at p;cases hk;obtain⟨as,q1⟩:=q1g I 60 p.1 r1 rx;obtain⟨bs,q2⟩:=q1g I 61 (d:=.lst ds) (by simpa[DV.plain]using p.2) r2 ry;rw[toP]at q2;have l1:=q3P 60 _ p.1;have l2:=q2r 60 ds p.2;have l3:=l1.2;exact SeqAt.notIn_list_reads q2 q1 l2.1 l1.1 (by omega) (fin (by rw[q4U p.1 ds p.2]))
  ·cases hk
 ·rename_i ds;split at hk
  ·rename_i p;rw[Bool.and_eq_true]at p;cases hk;obtain⟨as,q1⟩:=q1g I 60 p.1 r1 rx;obtain⟨bs,q2⟩:=q1g I 61 (d:=.tup ds) (by simpa[DV.plain]using p.2) r2 ry;rw[toP]at q2;have l1:=q3P 60 _ p.1;have l2:=q2r 60 ds p.2;have l3:=l1.2;exact SeqAt.in_tuple_reads q2 q1 l2.1 l1.1 (by omega) (fin (q4U p.1 ds p.2))
  ·cases hk
 ·rename_i ds;split at hk
  ·rename_i p;rw[Bool.and_eq_true]at p;cases hk;obtain⟨as,q1⟩:=q1g I 60 p.1 r1 rx;obtain⟨bs,q2⟩:=q1g I 61 (d:=.tup ds) (by simpa[DV.plain]using p.2) r2 ry;rw[toP]at q2;have l1:=q3P 60 _ p.1;have l2:=q2r 60 ds p.2;have l3:=l1.2;exact SeqAt.notIn_tuple_reads q2 q1 l2.1 l1.1 (by omega) (fin (by rw[q4U p.1 ds p.2]))
  ·cases hk
 ·rename_i yy xx;unfold inS at hk;split at hk
  ·rename_i c hc;cases hk;have e1:=(q0R.mp r1).1;have e2:=(q0R.mp r2).1;subst e1 e2;obtain⟨t,rfl⟩:=(show ∃t,v=Value.str yy t from rx);obtain⟨t',rfl⟩:=(show ∃t,u=Value.str xx t from ry);have:=q5F hc;subst this;exact PySem.P.in_str (fin (StrLaws.found_one xx c))
  ·cases hk
 ·rename_i yy xx;unfold inS at hk;split at hk
  ·rename_i c hc;cases hk;have e1:=(q0R.mp r1).1;have e2:=(q0R.mp r2).1;subst e1 e2;obtain⟨t,rfl⟩:=(show ∃t,v=Value.str yy t from rx);obtain⟨t',rfl⟩:=(show ∃t,u=Value.str xx t from ry);have:=q5F hc;subst this;exact PySem.P.notIn_str (fin (by rw[StrLaws.found_one xx c]))
  ·cases hk
 ·cases hk
theorem q4A{op:CmpOp}{b:Expr}(h:q3h b=false):behindInMarks op b=false:=by
 cases b<;>first | rfl | cases h
theorem z4M{op:CmpOp}(hu:X.A.units+64<cLine)(ha:∀q,ra=some q->PE X a (dE X.D E δ q))(hb:∀q,rb=some q->PE X b (dE X.D E δ q))(hs:q3h b=false)
  (h:(Re.thn ra λx _=>Re.thn rb λy _=>(cmpD op x y).map λk=>.ok (.bl k) .strong)=some re):PE X (.Compare a [op] [b] pos) (dE X.D E δ re):=
 q7C (λ_ _ h1 h2=>z2U (q5i hu) h1 h2 (q4A hs)) ha hb h λO W H0 H x y Q dx cx dy cy σ k hd gx gy p=>by obtain⟨k',e1,e2⟩:=Option.map_eq_some_iff.mp k;cases e2;exact⟨dx,dy,k',e1,gx.all hd,gy.all hd,p _ H (Same.refl H) q4b⟩
theorem q8P{op:CmpOp}(ha:∀q,ra=some q->PE X a (dE X.D E δ q))(hb:∀q,rb=some q->PE X b (dE X.D E δ q))
  (h:(Re.thn ra λx _=>Re.thn rb λy _=>(cmpD op x y).map λk=>.ok (.bl k) .strong)=some re):∃ta tb,PE X a ta/\PE X b tb/\∀σ H Q,dE X.D E δ re σ H Q->tOp (cmpR X op) ta tb σ H Q:=
 q7M ha hb h λO W H0 H x y Q dx cx dy cy σ k hd gx gy p=>by obtain⟨k',e1,e2⟩:=Option.map_eq_some_iff.mp k;cases e2;exact⟨dx,dy,k',e1,gx.all hd,gy.all hd,p _ H (Same.refl H) q4b⟩
theorem z2e{r:Rt}{σ:St}{H:Hp}{Q:Bool->Hp->Prop}(hb:∀d c,re=.ok d c->∃k,d=.bl k)(h:tstD (some re)=some r)(q:dT X.D E δ r σ H Q):dE X.D E δ re σ H (λx H'=>∃k,x=.bl k/\Q k H'):=by
 obtain⟨O,W,R,p⟩:=q;cases re with
 | ex c=>cases h;exact⟨O,W,R,p⟩
 | ok d c=>
  obtain⟨k,rfl⟩:=hb d c rfl;cases h;exact⟨O,W,R,λv H' s g=>⟨k,g.bl (R.hid.mono s),p H' s⟩⟩
theorem z6n{op:CmpOp}(h:(Re.thn ra λx _=>Re.thn rb λy _=>(cmpD op x y).map λk=>.ok (.bl k) .strong)=some re):∀d c,re=.ok d c->∃k,d=.bl k:=by
 intro d c e;subst e;cases ra with
 | none=>cases h
 | some q=>
  cases q with
  | ex c=>cases h
  | ok d c=>
   cases rb with
   | none=>cases h
   | some q=>
    cases q with
    | ex c=>cases h
    | ok d' c'=>
     obtain⟨k,_,e⟩:=Option.map_eq_some_iff.mp (show((cmpD op d d').map λk=>Re.ok (.bl k) .strong)=_ from h);cases e;exact⟨k,rfl⟩
theorem z1L{op:CmpOp}{r:Rt}(hu:X.A.units+64<cLine)(ha:∀q,ra=some q->PE X a (dE X.D E δ q))(hb:∀q,rb=some q->PE X b (dE X.D E δ q))(hs:q3h b=false)
  (h:tstD (Re.thn ra λx _=>Re.thn rb λy _=>(cmpD op x y).map λk=>.ok (.bl k) .strong)=some r):PT X (.Compare a [op] [b] pos) (dT X.D E δ r):=by
 cases q:(Re.thn ra λx _=>Re.thn rb λy _=>(cmpD op x y).map λk=>Re.ok (.bl k) .strong)with
 | none=>rw[q]at h;cases h
 | some re=>
  rw[q]at h;obtain⟨ta,tb,A,B,w⟩:=q8P ha hb q;exact(z4S (q5i hu) A B (q4A hs)).weak λσ H Q z=>w σ H _ (z2e (z6n q) h z)
theorem q3W{op op':CmpOp}{b c:Expr}(h:q3h c=false):lastMarks [op,op'] [b,c]=false:=by
 show behindInMarks op' c=false;exact q4A h
theorem q4t{op op':CmpOp}(ha:∀q,ra=some q->PE X a (dE X.D E δ q))(hb:∀q,rb=some q->PE X b (dE X.D E δ q))(hc:∀q,rc=some q->PE X c (dE X.D E δ q))
  (h:(Re.thn ra λx _=>Re.thn rb λy _=>match cmpD op x y with
   | none=>none
   | some false=>some (.ok (.bl false) .strong)
   | some true=>Re.thn rc λz _=>(cmpD op' y z).map λk=>.ok (.bl k) .strong)=some re):∃ta tb tc,PE X a ta/\PE X b tb/\PE X c tc/\(∀σ H Q,dE X.D E δ re σ H Q->z0D (cmpR X op) (cmpR X op') ta tb tc σ H Q)/\∀d cl,re=.ok d cl->∃k,d=.bl k:=by
 cases hra:ra with
 | none=>rw[hra]at h;cases h
 | some q=>
  rw[hra]at h;have A:=ha q hra;cases q with
  | ex c=>cases h;exact⟨_,_,_,A,q1Z,q1Z,λσ H Q ⟨O,W,R,p⟩=>⟨O,W,R,p⟩,λd cl z=>nomatch z⟩
  | ok dx cx=>
   cases hrb:rb with
   | none=>rw[hrb]at h;cases h
   | some q=>
    rw[hrb]at h;have B:=hb q hrb;cases q with
    | ex c=>cases h;exact⟨_,_,_,A,B,q1Z,λσ H Q ⟨O,W,R,p⟩=>⟨O,W,R,λx H1 s1 g1=>⟨O,W,R.mono s1,λH' C m s=>p H' C m (s1.trans s)⟩⟩,λd cl z=>nomatch z⟩
    | ok dy cy=>
     have h':(match(generalizing:=false) cmpD op dx dy with
      | none=>none
      | some false=>some (Re.ok (.bl false) .strong)
      | some true=>Re.thn rc λz _=>(cmpD op' dy z).map λk=>.ok (.bl k) .strong)=some re:=h
     split at h'
     ·cases h'
     ·rename_i e1;cases h';exact⟨_,_,_,A,B,q1Z,λσ H Q ⟨O,W,R,p⟩=>⟨O,W,R,λx H1 s1 g1=>⟨O,W,R.mono s1,λy H2 s2 g2=>
       ⟨dx,dy,false,e1,(g1.mono s2).all ((R.hid.mono s1).mono s2),g2.all ((R.mono s1).hid.mono s2),false,rfl,by rw[if_neg Bool.false_ne_true];exact p _ _ (s1.trans s2) q4b⟩⟩⟩,λd cl z=>by cases z;exact⟨_,rfl⟩⟩
     ·rename_i e1;cases hrc:rc with
      | none=>rw[hrc]at h';cases h'
      | some q=>
       rw[hrc]at h';have C:=hc q hrc;cases q with
       | ex c'=>
        cases h';exact⟨_,_,_,A,B,C,λσ H Q ⟨O,W,R,p⟩=>⟨O,W,R,λx H1 s1 g1=>⟨O,W,R.mono s1,λy H2 s2 g2=>
         ⟨dx,dy,true,e1,(g1.mono s2).all ((R.hid.mono s1).mono s2),g2.all ((R.mono s1).hid.mono s2),true,rfl,by rw[if_pos rfl];exact⟨O,W,(R.mono s1).mono s2,λH' C m s=>p H' C m (s1.trans (s2.trans s))⟩⟩⟩⟩,λd cl z=>nomatch z⟩
       | ok dz cz=>
        obtain⟨k,e2,e3⟩:=Option.map_eq_some_iff.mp (show((cmpD op' dy dz).map λk=>Re.ok (.bl k) .strong)=some re from h');cases e3;exact⟨_,_,_,A,B,C,λσ H Q ⟨O,W,R,p⟩=>⟨O,W,R,λx H1 s1 g1=>⟨O,W,R.mono s1,λy H2 s2 g2=>
         ⟨dx,dy,true,e1,(g1.mono s2).all ((R.hid.mono s1).mono s2),g2.all ((R.mono s1).hid.mono s2),true,rfl,by
          rw[if_pos rfl];exact⟨O,W,(R.mono s1).mono s2,λz H3 s3 g3=>⟨dy,dz,k,e2,(g2.mono s3).all (((R.mono s1).hid.mono s2).mono s3),g3.all (((R.mono s1).mono s2).hid.mono s3),p _ _ (s1.trans (s2.trans s3)) q4b⟩⟩⟩⟩⟩,λd cl z=>by cases z;exact⟨_,rfl⟩⟩
theorem z0k{op op':CmpOp}(hu:X.A.units+64<cLine)(ha:∀q,ra=some q->PE X a (dE X.D E δ q))(hb:∀q,rb=some q->PE X b (dE X.D E δ q))(hc:∀q,rc=some q->PE X c (dE X.D E δ q))(hs:q3h c=false)
  (h:(Re.thn ra λx _=>Re.thn rb λy _=>match cmpD op x y with
   | none=>none
   | some false=>some (.ok (.bl false) .strong)
   | some true=>Re.thn rc λz _=>(cmpD op' y z).map λk=>.ok (.bl k) .strong)=some re):PE X (.Compare a [op,op'] [b,c] pos) (dE X.D E δ re):=by
 obtain⟨ta,tb,tc,A,B,C,w,_⟩:=q4t ha hb hc h;exact(z1q (q5i hu) (q5i hu) A B C (q3W hs)).weak w
theorem q8C{op op':CmpOp}{r:Rt}(hu:X.A.units+64<cLine)(ha:∀q,ra=some q->PE X a (dE X.D E δ q))(hb:∀q,rb=some q->PE X b (dE X.D E δ q))(hc:∀q,rc=some q->PE X c (dE X.D E δ q))(hs:q3h c=false)
  (h:tstD (Re.thn ra λx _=>Re.thn rb λy _=>match cmpD op x y with
   | none=>none
   | some false=>some (.ok (.bl false) .strong)
   | some true=>Re.thn rc λz _=>(cmpD op' y z).map λk=>.ok (.bl k) .strong)=some r):PT X (.Compare a [op,op'] [b,c] pos) (dT X.D E δ r):=by
 cases q:(Re.thn ra λx _=>Re.thn rb λy _=>match cmpD op x y with
   | none=>none
   | some false=>some (Re.ok (.bl false) .strong)
   | some true=>Re.thn rc λz _=>(cmpD op' y z).map λk=>.ok (.bl k) .strong)with
 | none=>rw[q]at h;cases h
 | some re=>
  rw[q]at h;obtain⟨ta,tb,tc,A,B,C,w,hbl⟩:=q4t ha hb hc q;exact(z1u (q5i hu) (q5i hu) A B C (q3W hs)).weak λσ H Q z=>w σ H _ (z2e hbl h z)
end
section
variable {X:Cx} {E:St->XK} {δ:List Sv} {a b c e:Expr} {es:List Expr} {pos:Pos} {ra:Option Re} {rt ru:Option Rt} {r:Rt} {re:Re}
theorem q5j{D:Dm}{H:Hp}{d:DV}{v:V}{k:Bool}(h:q2h d=some k)(r:Rep D H d v):TruV D.K v H k:=by
 cases d with
 | non=>cases h;rw[q2Z.mp r];rfl
 | bl b=>cases h;rw[q4y.mp r];rfl
 | int i=>cases h;rw[q0U.mp r];rfl
 | str x=>
  cases h;obtain⟨e1,e2⟩:=q0R.mp r;rw[e1];refine⟨e2,?_⟩;show(x.cps.size != 0)=(((x.cps.size:Nat):Int) != 0);cases x.cps.size with
  | zero=>rfl
  | succ n=>simp only[bne,Nat.add_eq_zero_iff];rw[Bool.eq_iff_iff];simp;omega
 | tup ds=>
  cases h;obtain⟨a,xs,e1,e2,e3⟩:=q0L.mp r;rw[e1];refine .inr (.inl ⟨xs,e2,?_⟩);have:=e3.length;cases xs<;>cases ds<;>first | rfl | cases this
 | lst ds=>
  cases h;obtain⟨a,xs,e1,e2,e3⟩:=q0G.mp r;rw[e1];refine .inl ⟨xs,SqL.of e2,?_⟩;have:=e3.length;cases xs<;>cases ds<;>first | rfl | cases this
 | dct _ _=>cases h
 | exc _=>cases h
 | fn _=>cases h
 | lam _ _=>cases h
 | scr _=>cases h
theorem q8H(ha:∀q,ra=some q->PE X e (dE X.D E δ q))(he:∀whole,isTrue e X.env whole=(do let v ←whole;standAt e.pos;holding [v] (truthy v)))(h:tstD ra=some r):PT X e (dT X.D E δ r):=by
 cases hra:ra with
 | none=>rw[hra]at h;cases h
 | some q=>
  rw[hra]at h;have A:=ha q hra;cases q with
  | ex c=>cases h;exact(q7Q A he).weak λσ H Q ⟨O,W,R,p⟩=>⟨O,W,R,p⟩
  | ok d cl=>
   obtain⟨k,e1,e2⟩:=Option.map_eq_some_iff.mp (show(q2h d).map Rt.ok=some r from h);cases e2;exact(q7Q A he).weak λσ H Q ⟨O,W,R,p⟩=>⟨O,W,R,λx H1 s1 g1=>⟨k,q5j e1 (g1.all (R.hid.mono s1)),p H1 s1⟩⟩
theorem z3r{ta:TE}(ha:PE X a ta):PE X (.UnaryOp .Not a pos) (tUn (λx H Q=>∃k,TruV X.K x H k/\Q (.bl (!k)) H) ta):=by
 intro pins s σ H Q I h;refine UnaryOp_ (thn (ha pins s σ H _ I h) λv s1 ⟨x,H1,I1,r1,q1⟩=>?_);obtain⟨k,t,q1⟩:=q1;exact not_of (thn (q7V pins s1 σ H1 x v (λb H'=>b=k/\H'=H1) I1 r1 ⟨k,t,rfl,rfl⟩) λb s2 ⟨H2,I2,e1,e2⟩=>by
  subst e1 e2;exact⟨.bl (!b),H2,I2,rfl,q1⟩)
theorem z3j(ha:∀q,ra=some q->PE X a (dE X.D E δ q))(h:(Re.thn ra λx _=>(q2h x).map λk=>.ok (.bl (!k)) .strong)=some re):PE X (.UnaryOp .Not a pos) (dE X.D E δ re):=
 z2x (λ_=>z3r) ha h λO W H0 H x Q dx cx σ k hd gx p=>by obtain⟨b,e1,e2⟩:=Option.map_eq_some_iff.mp k;cases e2;exact⟨b,q5j e1 (gx.all hd),p _ H (Same.refl H) q4b⟩
theorem q7s{ta tb:TE}(ha:PE X a ta)(hb:PE X (.BoolOp .And (b::es) pos) tb):PE X (.BoolOp .And (a::b::es) pos) (λσ H Q=>ta σ H λx H1=>∃k,TruV X.K x H1 k/\if k=true then tb σ H1 Q else Q x H1):=by
 intro pins s σ H Q I h;refine BoolOp_and (thn (ha pins s σ H _ I h) λv s1 ⟨x,H1,I1,r1,q1⟩=>?_);obtain⟨k,t,q1⟩:=q1;refine thn (q7V pins s1 σ H1 x v (λb H'=>b=k/\H'=H1) I1 r1 ⟨k,t,rfl,rfl⟩) λc s2 ⟨H2,I2,e1,e2⟩=>?_
 subst e1 e2;cases c with
 | true=>exact hb pins s2 σ H2 Q I2 q1
 | false=>exact⟨x,H2,I2,r1,q1⟩
theorem z0b{ta tb:TE}(ha:PE X a ta)(hb:PE X (.BoolOp .Or (b::es) pos) tb):PE X (.BoolOp .Or (a::b::es) pos) (λσ H Q=>ta σ H λx H1=>∃k,TruV X.K x H1 k/\if k=true then Q x H1 else tb σ H1 Q):=by
 intro pins s σ H Q I h;refine BoolOp_or (thn (ha pins s σ H _ I h) λv s1 ⟨x,H1,I1,r1,q1⟩=>?_);obtain⟨k,t,q1⟩:=q1;refine thn (q7V pins s1 σ H1 x v (λb H'=>b=k/\H'=H1) I1 r1 ⟨k,t,rfl,rfl⟩) λc s2 ⟨H2,I2,e1,e2⟩=>?_
 subst e1 e2;cases c with
 | false=>exact hb pins s2 σ H2 Q I2 q1
 | true=>exact⟨x,H2,I2,r1,q1⟩
theorem z4t{rb:Option Re}(ha:∀q,ra=some q->PE X a (dE X.D E δ q))(hb:∀q,rb=some q->PE X (.BoolOp .And (b::es) pos) (dE X.D E δ q))(h:(Re.thn ra λx c=>andD x c rb)=some re):PE X (.BoolOp .And (a::b::es) pos) (dE X.D E δ re):=by
 cases hra:ra with
 | none=>rw[hra]at h;cases h
 | some q=>
  rw[hra]at h;have A:=ha q hra;cases q with
  | ex c=>cases h;exact(q7s A q1Z).weak λσ H Q ⟨O,W,R,p⟩=>⟨O,W,R,p⟩
  | ok d cl=>
   have h':andD d cl rb=some re:=h;unfold andD at h';split at h'
   ·cases h'
   ·rename_i t;exact(q7s A (hb re h')).weak λσ H Q ⟨O,W,R,p⟩=>⟨O,W,R,λx H1 s1 g1=>⟨true,q5j t (g1.all (R.hid.mono s1)),iteT ⟨O,W,R.mono s1,p.later s1 s1⟩⟩⟩
   ·rename_i t;cases h';exact(q7s A q1Z).weak λσ H Q ⟨O,W,R,p⟩=>⟨O,W,R,λx H1 s1 g1=>⟨false,q5j t (g1.all (R.hid.mono s1)),iteF (p _ H1 s1 g1)⟩⟩
theorem z5B{rb:Option Re}(ha:∀q,ra=some q->PE X a (dE X.D E δ q))(hb:∀q,rb=some q->PE X (.BoolOp .Or (b::es) pos) (dE X.D E δ q))(h:(Re.thn ra λx c=>orD x c rb)=some re):PE X (.BoolOp .Or (a::b::es) pos) (dE X.D E δ re):=by
 cases hra:ra with
 | none=>rw[hra]at h;cases h
 | some q=>
  rw[hra]at h;have A:=ha q hra;cases q with
  | ex c=>cases h;exact(z0b A q1Z).weak λσ H Q ⟨O,W,R,p⟩=>⟨O,W,R,p⟩
  | ok d cl=>
   have h':orD d cl rb=some re:=h;unfold orD at h';split at h'
   ·cases h'
   ·rename_i t;cases h';exact(z0b A q1Z).weak λσ H Q ⟨O,W,R,p⟩=>⟨O,W,R,λx H1 s1 g1=>⟨true,q5j t (g1.all (R.hid.mono s1)),iteT (p _ H1 s1 g1)⟩⟩
   ·rename_i t;exact(z0b A (hb re h')).weak λσ H Q ⟨O,W,R,p⟩=>⟨O,W,R,λx H1 s1 g1=>⟨false,q5j t (g1.all (R.hid.mono s1)),iteF ⟨O,W,R.mono s1,p.later s1 s1⟩⟩⟩
theorem q6K{k:DV->Cl->Option Re}(h:tstD (Re.thn ra k)=some r):(ra=none/\False)\/(∃c,ra=some (.ex c)/\r=.ex c)\/∃d c,ra=some (.ok d c)/\tstD (k d c)=some r:=by
 cases hra:ra with
 | none=>rw[hra]at h;cases h
 | some q=>
  rw[hra]at h;cases q with
  | ex c=>cases h;exact .inr (.inl ⟨c,rfl,rfl⟩)
  | ok d c=>exact .inr (.inr ⟨d,c,rfl,h⟩)
theorem z2o{d:DV}{c:Cl}{r:Rt}(h:tstD (some (.ok d c))=some r):∃k,q2h d=some k/\r=.ok k:=by
 obtain⟨k,e1,e2⟩:=Option.map_eq_some_iff.mp (show(q2h d).map Rt.ok=some r from h);exact⟨k,e1,e2.symm⟩
theorem z1H(ha:∀q,tstD ra=some q->PT X a (dT X.D E δ q))(h:tstD (Re.thn ra λx _=>(q2h x).map λk=>.ok (.bl (!k)) .strong)=some r):PT X (.UnaryOp .Not a pos) (dT X.D E δ r):=by
 rcases q6K h with⟨_,z⟩ | ⟨c,e1,e2⟩ | ⟨d,c,e1,e2⟩
 ·exact z.elim
 ·subst e1 e2;exact(z2M (ha (.ex c) rfl)).weak λσ H Q ⟨O,W,R,p⟩=>⟨O,W,R,p⟩
 ·cases t:q2h d with
  | none=>rw[t]at e2;cases e2
  | some k=>
   rw[t]at e2;cases e2;have A:=ha (.ok k) (by rw[e1];show(q2h d).map Rt.ok=_;rw[t];rfl);exact(z2M A).weak λσ H Q ⟨O,W,R,p⟩=>⟨O,W,R,λH1 s1=>p H1 s1⟩
theorem z1o{rb:Option Re}(ha:∀q,tstD ra=some q->PT X a (dT X.D E δ q))(hb:∀q,tstD rb=some q->PW X (.BoolOp .And (b::es) pos) (dT X.D E δ q))(h:tstD (Re.thn ra λx c=>andD x c rb)=some r):PW X (.BoolOp .And (a::b::es) pos) (dT X.D E δ r):=by
 rcases q6K h with⟨_,z⟩ | ⟨c,e1,e2⟩ | ⟨d,c,e1,e2⟩
 ·exact z.elim
 ·subst e1 e2;exact(z0c (ha (.ex c) rfl) q5M).weak λσ H Q ⟨O,W,R,p⟩=>⟨O,W,R,p⟩
 ·unfold andD at e2;cases t:q2h d with
  | none=>rw[t]at e2;cases e2
  | some k=>
   rw[t]at e2;have A:=ha (.ok k) (by rw[e1];show(q2h d).map Rt.ok=_;rw[t];rfl);cases k with
   | true=>exact(z0c A (hb r e2)).weak λσ H Q ⟨O,W,R,p⟩=>⟨O,W,R,λH1 s1=>iteT ⟨O,W,R.mono s1,p.later s1⟩⟩
   | false=>
    obtain⟨k,t',rfl⟩:=z2o e2;rw[t]at t';cases t';exact(z0c A q5M).weak λσ H Q ⟨O,W,R,p⟩=>⟨O,W,R,λH1 s1=>iteF (p H1 s1)⟩
theorem z3t{rb:Option Re}(ha:∀q,tstD ra=some q->PT X a (dT X.D E δ q))(hb:∀q,tstD rb=some q->PW X (.BoolOp .Or (b::es) pos) (dT X.D E δ q))(h:tstD (Re.thn ra λx c=>orD x c rb)=some r):PW X (.BoolOp .Or (a::b::es) pos) (dT X.D E δ r):=by
 rcases q6K h with⟨_,z⟩ | ⟨c,e1,e2⟩ | ⟨d,c,e1,e2⟩
 ·exact z.elim
 ·subst e1 e2;exact(z3P (ha (.ex c) rfl) q5M).weak λσ H Q ⟨O,W,R,p⟩=>⟨O,W,R,p⟩
 ·unfold orD at e2;cases t:q2h d with
  | none=>rw[t]at e2;cases e2
  | some k=>
   rw[t]at e2;have A:=ha (.ok k) (by rw[e1];show(q2h d).map Rt.ok=_;rw[t];rfl);cases k with
   | false=>exact(z3P A (hb r e2)).weak λσ H Q ⟨O,W,R,p⟩=>⟨O,W,R,λH1 s1=>iteF ⟨O,W,R.mono s1,p.later s1⟩⟩
   | true=>
    obtain⟨k,t',rfl⟩:=z2o e2;rw[t]at t';cases t';exact(z3P A q5M).weak λσ H Q ⟨O,W,R,p⟩=>⟨O,W,R,λH1 s1=>iteT (p H1 s1)⟩
theorem q0A{e:Expr}{es:List Expr}{env:Env}(h:q0s e=false):starEach (e::es) env=(false,eval e env)::starEach es env:=by
 cases e<;>first | rfl | cases h
theorem z1O:PA X [] (dA X.D E δ (.ok [])):=q2T.weak λσ H Q ⟨O,W,R,p⟩=>p [] H (Same.refl H) .nil
theorem q9B{rs:Option Rs}{q:Rs}(hs:q0s e=false)(ha:∀q,ra=some q->PE X e (dE X.D E δ q))(hb:∀q,rs=some q->PA X es (dA X.D E δ q))
  (h:(match(generalizing:=false) ra with | none=>none | some (.ex c)=>some (Rs.ex c) | some (.ok d c)=>(match(generalizing:=false) rs with | none=>none | some (.ex c)=>some (.ex c) | some (.ok l)=>some (.ok ((d,c)::l))))=some q):PA X (e::es) (dA X.D E δ q):=by
 cases hra:ra with
 | none=>rw[hra]at h;cases h
 | some z=>
  rw[hra]at h;have A:=ha z hra;cases z with
  | ex c=>cases h;exact(q1u A z3A (q0A hs)).weak λσ H Q ⟨O,W,R,p⟩=>⟨O,W,R,p⟩
  | ok d cl=>
   cases hrs:rs with
   | none=>rw[hrs]at h;cases h
   | some y=>
    rw[hrs]at h;have B:=hb y hrs;cases y with
    | ex c=>cases h;exact(q1u A B (q0A hs)).weak λσ H Q ⟨O,W,R,p⟩=>⟨O,W,R,λx H1 s1 g1=>⟨O,W,R.mono s1,λH' C m s=>p H' C m (s1.trans s)⟩⟩
    | ok l=>
     cases h;exact(q1u A B (q0A hs)).weak λσ H Q ⟨O,W,R,p⟩=>⟨O,W,R,λx H1 s1 g1=>⟨O,W,R.mono s1,λvs H2 s2 g2=>p _ H2 (s1.trans s2) (.cons (g1.mono s2) (g2.since s1))⟩⟩
theorem z4a{rs:Option Rs}(ha:∀q,rs=some q->PA X es (dA X.D E δ q))(h:(Rs.thn rs λl=>if l.length<=mostLen then some (.ok (.lst (l.map (·.1))) (if stros l then .fresh else .weak))else none)=some re):PE X (.List es pos) (dE X.D E δ re):=
 q4j (r:=λvs H Q=>vs.length<=sizeLine/\∀p,H p=none->Q (.ref p) (upd H p (.lst vs))) (λ_=>z6f) ha h λO W H0 H vs Q l σ k hd g p=>by
  split at k
  ·rename_i m;cases k;refine⟨by rw[g.length];exact q1P m,λq hq=>p _ _ (q0w hq) ?_⟩;by_cases z:stros l=true
   ·rw[if_pos z];exact q2s hd hq (g.stros hd z)
   ·rw[if_neg z];exact q5K hd hq (g.repL hd)
  ·cases k
theorem z4H{rs:Option Rs}{x1:Nat}(ha:∀q,rs=some q->PA X es (dA X.D E δ q))(h:(Rs.thn rs λl=>if l.length<=mostLen then some (.ok (.tup (l.map (·.1))) (if stros l then .strong else .weak))else none)=some re):PE X (.Tuple es x1 pos) (dE X.D E δ re):=
 q4j (r:=λvs H Q=>vs.length<=sizeLine/\∀p,H p=none->Q (.ref p) (upd H p (.tup vs))) (λ_=>z2k) ha h λO W H0 H vs Q l σ k hd g p=>by
  split at k
  ·rename_i m;cases k;refine⟨by rw[g.length];exact q1P m,λq hq=>p _ _ (q0w hq) ?_⟩;by_cases z:stros l=true
   ·rw[if_pos z];exact q3N hd hq (g.stros hd z)
   ·rw[if_neg z];exact q5E hd hq (g.repL hd)
  ·cases k
end
end L2
end
noncomputable section
namespace L2
open PySem PySem.Spec PyProof.Rows
def GotR(D:Dm)(O:List Addr)(H0 H:Hp)(d:DV)(fr:Bool)(v:V):Prop:=match fr with
 | false=>Rep D (L2.wo O H) d v
 | true=>∃p xs ds,v=.ref p/\d=.lst ds/\H0 p=none/\H p=some (.lst xs)/\RepL D (L2.wo (p::O) H) ds xs
def GotF(H H':Hp)(xs:List DV)(v:V):Prop:=∃(p:Addr) (L:List (Addr×List Int)),v=.ref p/\xs=L.map (λq=>.lst (q.2.map DV.int))/\H p=none/\H' p=some (.lst (L.map λq=>.ref q.1))/\(∀q∈L,H q.1=none/\H' q.1=some (.lst (q.2.map V.int)))/\(p::L.map (·.1)).Nodup
theorem GotF.since{H0 H1 H:Hp}{xs:List DV}{v:V}(g:GotF H1 H xs v)(f:∀a,H1 a=none->H0 a=none):GotF H0 H xs v:=by
 obtain⟨p,L,e1,e2,e3,e4,e5,e6⟩:=g;exact⟨p,L,e1,e2,f _ e3,e4,λq hq=>⟨f _ (e5 q hq).1,(e5 q hq).2⟩,e6⟩
theorem GotF.items{D:Dm}{H0 H:Hp}{xs:List DV}{v:V}{Z:List Addr}(g:GotF H0 H xs v)(hz:∀a∈Z,H0 a≠none):∃p vs,v=.ref p/\H0 p=none/\H p=some (.lst vs)/\RepL D (L2.wo (p::Z) H) xs vs:=by
 obtain⟨p,L,e1,e2,e3,e4,e5,e6⟩:=g;refine⟨p,_,e1,e3,e4,?_⟩;rw[e2];refine q6V λq hq=>?_
 rw[q0m λz=>?_]
 ·exact(e5 q hq).2
 ·rcases List.mem_cons.mp z with z | z
  ·exact(List.nodup_cons.mp e6).1 (List.mem_map.mpr ⟨q,hq,z⟩)
  ·exact hz _ z (e5 q hq).1
theorem GotF.fresh{D:Dm}{O W:List Addr}{H0 H1 H:Hp}{xs:List DV}{v:V}(g:GotF H0 H xs v)(hd:Hid O W H0 H1):Got D O W H0 H (.lst xs) .fresh v:=by
 obtain⟨p,vs,e1,e2,e3,e4⟩:=g.items (D:=D) (Z:=O++W) hd.ot;exact⟨p,vs,xs,e1,rfl,e2,e3,e4⟩
theorem SqT.immut{K:PySem.W.Frag}{O W:List Addr}{H:Hp}{t:Addr}{ts:List V}(hw:∀a∈W,∃o,H a=some o/\mutO o=true)(h:SqT K (L2.wo O H) t ts):SqT K (L2.wo (O++W) H) t ts:=by
 have ou:∀{u:HO},mutO u=false->L2.wo O H t=some u->L2.wo (O++W) H t=some u:=λ{u} hu e=>by
  obtain⟨ha,h⟩:=q0M e;rw[q0m λz=>?_]
  ·exact h
  ·rcases List.mem_append.mp z with z | z
   ·exact ha z
   ·obtain⟨ys,q,m⟩:=hw t z;rw[h]at q;cases q;rw[hu]at m;cases m
 rcases h with(h | ⟨o,h⟩) | h
 ·exact .inl (.inl (ou rfl h))
 ·exact .inl (.inr ⟨o,ou rfl h⟩)
 ·exact .inr h
def GotP(D:Dm)(O:List Addr)(H0 H:Hp)(d:DV)(v:V):Prop:=∃t M,v=.ref t/\d=.dct [] (M.map itD)/\SqT D.K (L2.wo O H) t (M.map itV)/\(M.filterMap (·.1)).Nodup/\(∀p∈M.filterMap (·.1),H0 p=none)/\ItAt H M
theorem GotP.since{D:Dm}{O:List Addr}{H0 H1 H:Hp}{d:DV}{v:V}(g:GotP D O H0 H d v)(f:∀a,H0 a=none->H1 a=none):GotP D O H1 H d v:=by
 obtain⟨t,M,e1,e2,e3,e4,e5,e6⟩:=g;exact⟨t,M,e1,e2,e3,e4,λp hp=>f _ (e5 p hp),e6⟩
theorem GotP.rep{D:Dm}{O W:List Addr}{H0 H:Hp}{ks:List DKey}{ds:List DV}{v:V}(g:GotP D O H0 H (.dct ks ds) v)(hw:∀a∈W,∃o,H a=some o/\mutO o=true)(hz:∀a∈O++W,H0 a≠none):Rep D (L2.wo (O++W) H) (.tup ds) v:=by
 obtain⟨t,M,e1,e2,e3,e4,e5,e6⟩:=g;cases e2;exact q0L.mpr ⟨t,_,e1,e3.immut hw,q5C λp ns hm=>by rw[q0m λz=>hz p z (e5 p (List.mem_filterMap.mpr ⟨_,hm,rfl⟩))];exact e6 p ns hm⟩
def GotT(D:Dm)(O:List Addr)(H0 H:Hp)(d:DV)(v:V):Prop:=(∃t ts p xs ds es,v=.ref t/\d=.tup (.lst ds::es)/\SqT D.K (L2.wo O H) t (.ref p::ts)/\H0 p=none/\H p=some (.lst xs)/\RepL D (L2.wo (p::O) H) ds xs/\RepL D (L2.wo (p::O) H) es ts)\/(∃xs,d=.lst xs/\GotF H0 H xs v)\/GotP D O H0 H d v
theorem z6p{D:Dm}{O:List Addr}{H0 H:Hp}{ks:List DKey}{ds:List DV}{v:V}(g:GotT D O H0 H (.dct ks ds) v):GotP D O H0 H (.dct ks ds) v:=by
 rcases g with⟨_,_,_,_,_,_,_,e,_⟩ | ⟨_,e,_⟩ | g
 ·cases e
 ·cases e
 ·exact g
def spF(D:Dm)(n:Nat)(f:List DV->Option Ou):Sp:=λvs H Q E=>∃O ds o,Hdn O H/\ds.length=n/\RepL D (L2.wo O H) ds vs/\f ds=some o /\
 (match o with | .v d fr=>∀v H',Same H H'->GotR D O H H' d fr v->Q v H' | .t d=>∀v H',Same H H'->GotT D O H H' d v->Q v H' | .x c=>∀H' C,D.mg c=some C->Same H H'->E C none H')
def spH(D:Dm)(f:DV->List DV->Option (DV×List DV)):Sp:=λvs H Q _=>∃O p v d ds xs r,vs=[v,.ref p]/\Hdn O H/\p∉O/\H p=some (.lst xs)/\Rep D (L2.wo (O++[p]) H) d v/\RepL D (L2.wo (O++[p]) H) ds xs/\f d ds=some r /\
 ∀v' H' xs',Same (L2.wo [p] H) H'->H' p=some (.lst xs')->Rep D (L2.wo (O++[p]) H') r.1 v'->RepL D (L2.wo (O++[p]) H') r.2 xs'->Q v' H'
section
variable {X:Cx} {E:St->XK} {δ:List Sv} {e:Expr} {es:List Expr} {pos p:Pos} {re:Re} {rs:Option Rs} {k:Nat} {fa:Addr} {fd:FuncData} {ps:List Str} {x:Str}
theorem q9Z{F:Nat->List DV->Option Ou}{f:Nat}{e0:Expr}{Pre:St->Hp->Prop}(hn:∀ds o,F f ds=some o->ds.length=ps.length)(C:∀t,PA X (e::es) t->PE X e0 (λσ H Q=>Pre σ H/\z2L (spF X.D ps.length (F f)) [] E t σ H Q))(pre:∀σ H O W,RSt X.D H σ δ O W->Pre σ H)(ha:∀q,rs=some q->PA X (e::es) (dA X.D E δ q))
  (h:(Rs.thn rs λl=>q3s F f l)=some re):PE X e0 (dE X.D E δ re):=by
 cases hrs:rs with
 | none=>rw[hrs]at h;cases h
 | some q=>
  rw[hrs]at h;have A:=ha q hrs;cases q with
  | ex c=>cases h;exact(C _ A).weak λσ H Q ⟨O,W,R,p⟩=>⟨pre _ _ _ _ R,O,W,R,p⟩
  | ok l=>
   have h':q3s F f l=some re:=h;unfold q3s at h';split at h'
   ·cases h'
   ·rename_i c e1;cases h';refine(C _ A).weak λσ H Q ⟨O,W,R,p⟩=>⟨pre _ _ _ _ R,O,W,R,λvs H1 s1 g1=>?_⟩
    have hd:=R.hid.mono s1;show spF X.D ps.length (F f) (vs++[]) H1 Q (E σ);rw[List.append_nil];exact⟨O,_,_,hd.hdO,hn _ _ e1,g1.repL hd,e1,λH' C m s=>p H' C m (s1.trans s)⟩
   ·rename_i ks ds e1;cases h';refine(C _ A).weak λσ H Q ⟨O,W,R,p⟩=>⟨pre _ _ _ _ R,O,W,R,λvs H1 s1 g1=>?_⟩
    have hd:=R.hid.mono s1;show spF X.D ps.length (F f) (vs++[]) H1 Q (E σ);rw[List.append_nil];refine⟨O,_,_,hd.hdO,hn _ _ e1,g1.repL hd,e1,λv H' s g=>p v H' (s1.trans s) ?_⟩;exact(z6p g).rep (λa ha=>by obtain⟨o,e,m⟩:=hd.wl a ha;exact⟨o,s _ _ (hd.same _ _ e),m⟩) λa ha q=>hd.ot a ha (s1.free q)
   ·rename_i d hne e1;cases h';refine(C _ A).weak λσ H Q ⟨O,W,R,p⟩=>⟨pre _ _ _ _ R,O,W,R,λvs H1 s1 g1=>?_⟩
    have hd:=R.hid.mono s1;show spF X.D ps.length (F f) (vs++[]) H1 Q (E σ);rw[List.append_nil];by_cases z:(l.all λp=>p.2 == .strong||p.2 == .fresh)=true
    ·rw[if_pos z]at p;refine⟨O++W,_,_,hd.hdA,hn _ _ e1,g1.strong hd z,e1,λv H' s g=>p v H' (s1.trans s) ?_⟩;rcases g with⟨t,ts,q,xs,ds,es,f1,f2,f0,f3,f4,f5,f6⟩ | ⟨xs,f1,f2⟩ | ⟨_,_,_,f2,_⟩
     ·subst f2;exact⟨t,ts,q,xs,ds,es,f1,rfl,f0,s1.free f3,f4,f5,f6⟩
     ·subst f1;exact(f2.since λa ha=>s1.free ha).fresh hd
     ·exact absurd f2 (hne _ _)
    ·rw[if_neg z]at p;refine⟨O,_,_,hd.hdO,hn _ _ e1,g1.repL hd,e1,λv H' s g=>p v H' (s1.trans s) ?_⟩;rcases g with⟨t,ts,q,xs,ds,es,f1,f2,f0,f3,f4,f5,f6⟩ | ⟨xs,f1,f2⟩ | ⟨_,_,_,f2,_⟩
     ·have hq:q∉O:=λz=>hd.ot q (List.mem_append_left _ z) (s1.free f3);have up:Same (L2.wo (q::O) H') (L2.wo O H'):=q0Q λb hb=>List.mem_cons_of_mem _ hb;rw[f2];exact q0L.mpr ⟨t,_,f1,f0,q0t.mpr ⟨_,_,rfl,q0G.mpr ⟨q,xs,rfl,by rw[q0m hq];exact f4,f5.mono up⟩,f6.mono up⟩⟩
     ·subst f1;have hO:∀a∈O,H1 a≠none:=λa ha q=>hd.ot a (List.mem_append_left _ ha) (s1.free q)
      obtain⟨q,vs,g1',g2',g3',g4'⟩:=f2.items (D:=X.D) hO;have hq:q∉O:=λz=>hO q z g2'
      exact q0G.mpr ⟨q,vs,g1',by rw[q0m hq];exact g3',g4'.mono (q0Q λb hb=>List.mem_cons_of_mem _ hb)⟩
     ·exact absurd f2 (hne _ _)
   ·rename_i d fr e1;cases h';refine(C _ A).weak λσ H Q ⟨O,W,R,p⟩=>⟨pre _ _ _ _ R,O,W,R,λvs H1 s1 g1=>?_⟩
    have hd:=R.hid.mono s1;show spF X.D ps.length (F f) (vs++[]) H1 Q (E σ);rw[List.append_nil];by_cases z:(l.all λp=>p.2 == .strong||p.2 == .fresh)=true
    ·rw[if_pos z]at p;refine⟨O++W,_,_,hd.hdA,hn _ _ e1,g1.strong hd z,e1,λv H' s g=>p v H' (s1.trans s) ?_⟩;cases fr with
     | false=>exact g
     | true=>
      obtain⟨q,xs,ds,e1,e2,e3,e4,e5⟩:=g;exact⟨q,xs,ds,e1,e2,s1.free e3,e4,e5⟩
    ·rw[if_neg z]at p;refine⟨O,_,_,hd.hdO,hn _ _ e1,g1.repL hd,e1,λv H' s g=>p v H' (s1.trans s) ?_⟩;cases fr with
     | false=>exact g
     | true=>
      obtain⟨q,xs,ds,u1,e2,e3,e4,e5⟩:=g;subst e2;rw[Bool.true_and];cases y:imL (.lst ds)with
      | true=>exact⟨q,xs,ds,u1,rfl,s1.free e3,e4,RepL.immut (O:=q::O) (λa ha=>by obtain⟨o,e,m⟩:=hd.wl a ha;exact⟨o,s _ _ (hd.same _ _ e),m⟩) y e5⟩
      | false=>
       have hq:q∉O:=λz=>hd.ot q (List.mem_append_left _ z) (s1.free e3);exact q0G.mpr ⟨q,xs,u1,by rw[q0m hq];exact e4,e5.mono (q0Q λb hb=>List.mem_cons_of_mem _ hb)⟩
theorem z0T{F:Nat->List DV->Option Ou}{f:Nat}(fo:FnOk X.prog X.w X.K X.mg X.base (CXx X.prog X.w X.base) k fa fd ps (spF X.D ps.length (F f)))(hn:∀ds o,F f ds=some o->ds.length=ps.length)(hr:Room k X.A)(hg:Gl X x)(hm:X.mg x=some (.ref fa))(hk:PySem.W.keepIn X.K (.ref fa)=true)
  (hb:q1s X.K fd ps []) (hx:q2o (CXx X.prog X.w X.base) X E) (ha:∀q,rs=some q->PA X (e::es) (dA X.D E δ q)) (hdb:(x==("__debug__" : Str))=false) (hs:q0s e=false) (hss:es.any q0s=false)
  (h:(Rs.thn rs λl=>q3s F f l)=some re):PE X (.Call (.Name x p) (e::es) [] pos) (dE X.D E δ re):=by
 have plain:∀(es:List Expr),es.any q0s=false->(backTo pos (starEach es X.env)).any (·.1)=false:=by
  intro es
  induction es with
  | nil=>intro _;rfl
  | cons y ys ih=>
   intro q;rw[List.any_cons,Bool.or_eq_false_iff]at q;rw[q0A q.1];show(false||(backTo pos (starEach ys X.env)).any (·.1))=false;rw[ih q.2];rfl
 exact q9Z (Pre:=λ_ _=>True) hn (λt hA=>(z1Q (p:=p) (pos:=pos) fo hr hg hm hk hb .nil hx hA hdb (q0A hs) (plain es hss)).weak λσ H Q h=>h.2) (λ_ _ _ _ _=>trivial) ha h
end
section
variable {X:Cx} {E:St->XK} {δ:List Sv} {e:Expr} {es:List Expr} {pos p:Pos} {re:Re} {rs:Option Rs}
theorem q3I{env:Env}{pos:Pos}:∀(es:List Expr),es.any q0s=false->(backTo pos (starEach es env)).any (·.1)=false
 | [],_=>rfl
 | y::ys,q=>by rw[List.any_cons,Bool.or_eq_false_iff]at q;rw[q0A q.1];show(false||(backTo pos (starEach ys env)).any (·.1))=false;rw[q3I ys q.2];rfl
def biR(X:Cx)(k:List (DV×Cl)->Option Re):List V->Hp->VK->Prop:=λvs H Q=>∃l re O W H0,k l=some re/\Hid O W H0 H/\GotL X.D O W H0 H l vs/\∃d c,re=.ok d c/\∀v H',Same H H'->Got X.D O W H0 H' d c v->Q v H'
theorem z7u{k:List (DV×Cl)->Option Re}{x:Str}{id:String}(hc:q2Q X (.builtin id) (biR X k))(hk:∀l re,k l=some re->∃d c,re=.ok d c)(hg:Gl X x)(hm:X.mg x=none)(hv:bootBuiltins x=some (.builtin id))(hn:x ≠ "__name__")(hdb:(x==("__debug__" : Str))=false)
  (ha:∀q,rs=some q->PA X (e::es) (dA X.D E δ q)) (hs:q0s e=false) (hss:es.any q0s=false) (h:Rs.thn rs k=some re):PE X (.Call (.Name x p) (e::es) [] pos) (dE X.D E δ re):=
 q4j (λ_ hA=>q5P hc hg hm hv hA hn hdb (q0A hs) (q3I es hss)) ha h λO W H0 H vs Q l σ hl hd g p=>by obtain⟨d,c,rfl⟩:=hk l re hl;exact⟨l,_,O,W,H0,hl,hd,g,d,c,rfl,p⟩
theorem q6L{k:List (DV×Cl)->Option Re}{x:Str}{T:String}(hc:q2Q X (.type T) (biR X k))(hk:∀l re,k l=some re->∃d c,re=.ok d c)(hg:Gl X x)(hm:X.mg x=none)(hv:bootBuiltins x=some (.type T))(hn:x ≠ "__name__")(hdb:(x==("__debug__" : Str))=false)
  (ha:∀q,rs=some q->PA X (e::es) (dA X.D E δ q)) (hs:q0s e=false) (hss:es.any q0s=false) (h:Rs.thn rs k=some re):PE X (.Call (.Name x p) (e::es) [] pos) (dE X.D E δ re):=
 q4j (λ_ hA=>q9F hc hg hm hv hA hn hdb (q0A hs) (q3I es hss)) ha h λO W H0 H vs Q l σ hl hd g p=>by obtain⟨d,c,rfl⟩:=hk l re hl;exact⟨l,_,O,W,H0,hl,hd,g,d,c,rfl,p⟩
theorem z4s:∀l re,lenD l=some re->∃d c,re=.ok d c:=λl re h=>by unfold lenD at h;split at h<;>cases h<;>exact⟨_,_,rfl⟩
theorem z3q:∀l re,intD l=some re->∃d c,re=.ok d c:=λl re h=>by
 unfold intD at h;split at h
 ·cases h;exact⟨_,_,rfl⟩
 ·cases h;exact⟨_,_,rfl⟩
 ·obtain⟨n,_,e⟩:=Option.map_eq_some_iff.mp h;exact⟨_,_,e.symm⟩
 ·cases h
theorem z1F:∀l re,q9C l=some re->∃d c,re=.ok d c:=λl re h=>by unfold q9C at h;split at h<;>cases h<;>exact⟨_,_,rfl⟩
theorem z0q:∀l re,q6H l=some re->∃d c,re=.ok d c:=λl re h=>by unfold q6H at h;split at h<;>cases h<;>exact⟨_,_,rfl⟩
theorem z5Y:q2Q X (.builtin "len") (biR X lenD):=by
 intro pins s σ H xs us Q I r h;obtain⟨l,re,O,W,H0,hb,hd,g,d,c,rfl,p⟩:=h;unfold lenD at hb;split at hb
 ·cases hb;obtain⟨v,rfl,gv⟩:=g.one;obtain⟨a,ys,e1,e2,e3⟩:=gv.lst hd;exact q2B pins s σ H _ us Q I r ⟨a,ys,by rw[e1],.inl (SqL.of e2),by rw[e3.length];exact p _ H (Same.refl H) q0T⟩
 ·cases hb;obtain⟨v,rfl,gv⟩:=g.one;obtain⟨a,ys,e1,e2,e3⟩:=gv.tup hd;exact q2B pins s σ H _ us Q I r ⟨a,ys,by rw[e1],.inr e2,by rw[e3.length];exact p _ H (Same.refl H) q0T⟩
 ·cases hb;obtain⟨v,rfl,gv⟩:=g.one;obtain⟨a,e1,e2⟩:=q1X.mp (gv.all hd);exact q2B pins s σ H _ us Q I r ⟨a,_,by rw[e1],.inl e2.sq,by rw[List.length_map];exact p _ H (Same.refl H) q0T⟩
 ·cases hb;obtain⟨v,rfl,gv⟩:=g.one;obtain⟨e1,e2⟩:=gv.str hd;exact q6r pins s σ H _ us Q I r ⟨_,by rw[e1],e2,p _ H (Same.refl H) q0T⟩
 ·cases hb
theorem z6L:q2Q X (.type "int") (biR X intD):=by
 intro pins s σ H xs us Q I r h;obtain⟨l,re,O,W,H0,hb,hd,g,d,c,rfl,p⟩:=h;unfold intD at hb;split at hb
 ·cases hb;obtain⟨v,rfl,gv⟩:=g.one;exact q5Z pins s σ H _ us Q I r (.inl ⟨_,by rw[gv.int hd],p _ H (Same.refl H) q0T⟩)
 ·cases hb;obtain⟨v,rfl,gv⟩:=g.one;exact q5Z pins s σ H _ us Q I r (.inr ⟨_,by rw[gv.bl hd],p _ H (Same.refl H) q0T⟩)
 ·rename_i z cz;obtain⟨n,hn,e⟩:=Option.map_eq_some_iff.mp hb;cases e;obtain⟨v,rfl,gv⟩:=g.one;exact q6h pins s σ H _ us Q I r ⟨z,n,by rw[(gv.str hd).1],hn,p _ H (Same.refl H) q0T⟩
 ·cases hb
theorem z3B:q2Q X (.type "list") (biR X q9C):=by
 intro pins s σ H xs us Q I r h;obtain⟨l,re,O,W,H0,hb,hd,g,d,c,rfl,p⟩:=h;unfold q9C at hb;split at hb
 ·cases hb;obtain⟨v,rfl,gv⟩:=g.one;obtain⟨a,e1,e2⟩:=q1X.mp (gv.all hd);exact q2G pins s σ H _ us Q I r ⟨a,_,by rw[e1],.inl e2.sq,λq hq=>p _ _ (q0w hq) (q2s hd hq (q2d _))⟩
 ·cases hb;obtain⟨v,rfl,gv⟩:=g.one;obtain⟨a,ys,e1,e2,e3⟩:=gv.lstC hd;exact q2G pins s σ H _ us Q I r ⟨a,ys,by rw[e1],.inl (SqL.of e2),λq hq=>p _ _ (q0w hq) (q4m hd hq e3)⟩
 ·cases hb;obtain⟨v,rfl,gv⟩:=g.one;obtain⟨a,ys,e1,e2,e3⟩:=gv.tupC hd;exact q2G pins s σ H _ us Q I r ⟨a,ys,by rw[e1],.inr e2,λq hq=>p _ _ (q0w hq) (q4m hd hq e3)⟩
 ·cases hb
theorem z1K:q2Q X (.type "tuple") (biR X q6H):=by
 intro pins s σ H xs us Q I r h;obtain⟨l,re,O,W,H0,hb,hd,g,d,c,rfl,p⟩:=h;unfold q6H at hb;split at hb
 ·cases hb;obtain⟨v,rfl,gv⟩:=g.one;obtain⟨a,ys,e1,e2,e3⟩:=gv.lstC hd;exact q3u pins s σ H _ us Q I r ⟨a,ys,by rw[e1],.inl ⟨SqL.of e2,λq hq=>p _ _ (q0w hq) (q7H hd hq e3)⟩⟩
 ·cases hb;obtain⟨v,rfl,gv⟩:=g.one;obtain⟨a,ys,e1,e2,e3⟩:=gv.tupC hd;exact q3u pins s σ H _ us Q I r ⟨a,ys,by rw[e1],.inr ⟨e2,p _ _ (Same.refl H) (by rw[←e1];exact gv)⟩⟩
 ·cases hb
end
def tyS:DV->Option String
 | .non=>some "NoneType" | .bl _=>some "bool" | .int _=>some "int" | .str _=>some "str" | .tup _=>some "tuple" | .lst _=>some "list" | .dct _ _=>some "dict"
 | _=>none
def z7p(T t:String):Option Bool:=if(Value.type T==Value.type t)=true then some true else if PySem.W.kitMeta t=true then(fastBuiltinMro T).map (·.contains (.type t))else none
theorem z0s:(["NoneType","bool","int","str","tuple","list","dict"]:List String).all (λT=>(["int","bool","str","list","tuple","dict"]:List String).all λt=>z7p T t==some (T==t||(T == "bool" && t == "int")))=true:=by decide +kernel
theorem q3U{K:PySem.W.Frag}(T t:String)(h1:T∈["NoneType","bool","int","str","tuple","list","dict"])(h2:t∈["int","bool","str","list","tuple","dict"]) :
  PySem.W.kitOne K (.type T) (.type t)=some (T==t||(T == "bool" && t == "int")):=by
 have q:=List.all_eq_true.mp (List.all_eq_true.mp z0s T h1) t h2;exact(show z7p T t=_ from by simpa using q)
section
variable {X:Cx} {E:St->XK} {δ:List Sv} {e e':Expr} {pos p p':Pos} {re:Re} {ra:Option Re}
theorem q9c{pins:List (Addr×Obj)}{σ:St}{H:Hp}{s:Shared}{Q:Value->Shared->Prop}{EE:Value->Shared->Prop}{d:DV}{v:V}{u:Value}{T t:String}(I:Inv X pins σ H s)(r:Rep X.D H d v)(rv:RelV v u)(hT:tyS d=some T)(ht:t∈["int","bool","str","list","tuple","dict"])
  (h:∀tk,Q (.bool (T==t||(T == "bool" && t == "int"))) {s with toks:=tk}):wpAny (model X.prog X.w) X.A (call (.builtin "isinstance") [u,.type t]) Q EE s:=by
 cases d with
 | non=>cases hT;rw[q2Z.mp r]at rv;cases rv;exact PySem.W.kia_one PySem.W.kitx_none I.kIn True.intro (q3U _ _ (by simp) ht) (λz=>nomatch z) h
 | bl b=>cases hT;rw[q4y.mp r]at rv;cases rv;exact PySem.W.kia_one PySem.W.kitx_bool I.kIn True.intro (q3U _ _ (by simp) ht) (λz=>nomatch z) h
 | int b=>cases hT;rw[q0U.mp r]at rv;obtain⟨tk,rfl⟩:=rv;exact PySem.W.kia_one PySem.W.kitx_int I.kIn True.intro (q3U _ _ (by simp) ht) (λz=>nomatch z) h
 | str b=>cases hT;rw[(q0R.mp r).1]at rv;obtain⟨tk,rfl⟩:=rv;exact PySem.W.kia_one PySem.W.kitx_str I.kIn True.intro (q3U _ _ (by simp) ht) (λz=>nomatch z) h
 | tup ds=>
  cases hT;obtain⟨a,xs,e1,e2,e3⟩:=q0L.mp r;rw[e1]at rv;cases rv;obtain⟨its,_,⟨o,h1,h2,_⟩,_⟩:=I.tuple e2;exact PySem.W.kia_one PySem.W.kitx_tuple I.kIn ⟨o,h1,h2⟩ (q3U _ _ (by simp) ht) (λz=>nomatch z) h
 | lst ds=>
  cases hT;obtain⟨a,xs,e1,e2,e3⟩:=q0G.mp r;rw[e1]at rv;cases rv;obtain⟨_,its,n,_,_,h1⟩:=I.lstM e2;exact PySem.W.kia_one PySem.W.kitx_list I.kIn ⟨_,h1,rfl⟩ (q3U _ _ (by simp) ht) (λz=>nomatch z) h
 | dct ks vs=>
  cases hT;rcases q4V.mp r with⟨a,ob,kvs,e1,e2,_⟩ | ⟨a,ob,kvs,e1,e2,_⟩
  ·rw[e1]at rv;cases rv;obtain⟨_,_,_,_,_,⟨o,_,_,h1,h2,_⟩⟩:=(show q1J X.prog X.w H s.heap a (.frz ob (.dK kvs))from I.hok a _ e2);exact PySem.W.kia_one PySem.W.kitx_dict I.kIn ⟨o,h1,h2.1⟩ (q3U _ _ (by simp) ht) (λz=>nomatch z) h
  ·rw[e1]at rv;cases rv;obtain⟨_,_,_,_,_,o,_,_,h1,h2,_⟩:=(show q1J X.prog X.w H s.heap a (.frz ob (.dT kvs))from I.hok a _ e2);exact PySem.W.kia_one PySem.W.kitx_dict I.kIn ⟨o,h1,h2.1⟩ (q3U _ _ (by simp) ht) (λz=>nomatch z) h
 | exc _=>cases hT
 | fn _=>cases hT
 | lam _ _=>cases hT
 | scr _=>cases hT
def rIsi(X:Cx):List V->Hp->VK->Prop:=λxs H Q=>∃d T t x,xs=[x,.ty t]/\Rep X.D H d x/\tyS d=some T/\t∈["int","bool","str","list","tuple","dict"]/\Q (.bl (T==t||(T == "bool" && t == "int"))) H
theorem z1a:q2Q X (.builtin "isinstance") (rIsi X):=by
 intro pins s σ H xs us Q I r h;obtain⟨d,T,t,x,rfl,r1,hT,ht,q⟩:=h;obtain⟨u,w',rfl,ru,rw'⟩:=z6K r;cases rw';exact q9c I r1 ru hT ht λtk=>⟨.bl _,H,I.tok tk,rfl,q⟩
def q5q:Str->Option String:=λx=>(["int","bool","str","list","tuple","dict"]:List String).find? λt=>Str.ofString t==x
theorem z0e{x:Str}{t:String}(h:q5q x=some t):bootBuiltins x=some (.type t)/\t∈["int","bool","str","list","tuple","dict"]/\Str.ofString t=x:=by
 unfold q5q at h;have h1:=List.find?_some h;have h2:=List.mem_of_find?_eq_some h;have h3:Str.ofString t=x:=by simpa using h1
 refine⟨?_,h2,h3⟩;subst h3;simp only[List.mem_cons,List.not_mem_nil,or_false]at h2;rcases h2 with rfl | rfl | rfl | rfl | rfl | rfl
 ·exact boot_int
 ·exact boot_bool
 ·exact boot_str
 ·exact boot_list
 ·exact boot_tuple
 ·exact boot_dict
def q9g:String->List Str
 | "NoneType"=>["NoneType"] | "bool"=>["bool","int"] | "int"=>["int"] | "str"=>["str"] | "tuple"=>["tuple"] | "list"=>["list"] | "dict"=>["dict"]
 | _=>[]
theorem q7r:(["NoneType","bool","int","str","tuple","list","dict"]:List String).all (λT=>(["int","bool","str","list","tuple","dict"]:List String).all λt=>(q9g T).contains (Str.ofString t)==(T==t||(T == "bool" && t == "int")))=true:=by decide +kernel
theorem z5V{d:DV}{x:Str}{t T:String}(h:q5q x=some t)(hT:tyS d=some T):(tyOf d).contains x=(T==t||(T == "bool" && t == "int")):=by
 obtain⟨_,h2,h3⟩:=z0e h;subst h3;have key:∀T∈(["NoneType","bool","int","str","tuple","list","dict"]:List String),(q9g T).contains (Str.ofString t)=(T==t||(T == "bool" && t == "int")):=λT hT=>by have q:=List.all_eq_true.mp (List.all_eq_true.mp q7r T hT) t h2;simpa using q
 cases d<;>cases hT
 ·exact key "NoneType" (by simp)
 ·exact key "bool" (by simp)
 ·exact key "int" (by simp)
 ·exact key "str" (by simp)
 ·exact key "tuple" (by simp)
 ·exact key "list" (by simp)
 ·exact key "dict" (by simp)
theorem z4h{G:Gs}{x:Str}{t:String}(ht:q5q x=some t)(hg:Gl X "isinstance")(hm:X.mg "isinstance" = none)(hgx:Gl X x)(hmx:X.mg x=none)(hnx:x ≠ "__name__")(hdx:(x==("__debug__" : Str))=false)
  (ha:∀q,ra=some q->PE X e (dE X.D E δ q)) (hs:q0s e=false) (h:(Re.thn ra λy _=>(isiD G y [x]).map λk=>.ok (.bl k) .strong)=some re):PE X (.Call (.Name "isinstance" p) [e,.Name x p'] [] pos) (dE X.D E δ re):=by
 obtain⟨b1,b2,b3⟩:=z0e ht;have T:PE X (.Name x p') (tC (.ty t)):=z0F hgx hmx b1 rfl hnx hdx;have C:=λta (hA:PE X e ta)=>q5P (p:=p) (pos:=pos) z1a hg hm boot_isinstance (q1u hA (q1u T q2T) (q0A hs)) (by decide) (by decide) (q0A hs)
 cases hra:ra with
 | none=>rw[hra]at h;cases h
 | some q=>
  rw[hra]at h;have A:=ha q hra;cases q with
  | ex c=>cases h;exact(C _ A).weak λσ H Q ⟨O,W,R,p⟩=>⟨O,W,R,p⟩
  | ok d cl=>
   obtain⟨k,e1,e2⟩:=Option.map_eq_some_iff.mp (show((isiD G d [x]).map λk=>Re.ok (.bl k) .strong)=some re from h);cases e2;have key:∃T,tyS d=some T/\k=(tyOf d).contains x:=by
    unfold isiD at e1;have px:q2C.contains x=true:=by
     rw[←b3];simp only[List.mem_cons,List.not_mem_nil,or_false]at b2;rcases b2 with rfl | rfl | rfl | rfl | rfl | rfl<;>decide +kernel
    cases d<;>first
     | (simp only[px,if_true]at e1;cases e1;exact⟨_,rfl,rfl⟩)
     | cases e1
   obtain⟨T,hT,hk⟩:=key;exact(C _ A).weak λσ H Q ⟨O,W,R,p⟩=>⟨O,W,R,λv H1 s1 g1=>⟨d,T,t,v,rfl,g1.all (R.hid.mono s1),hT,b2,by rw[←z5V ht hT,←hk];exact p _ H1 s1 q4b⟩⟩
end
end L2
end
noncomputable section
namespace L2
open PySem PySem.Spec PyProof.Rows
structure LamAt(X:Cx)(scope:Scope)(c P:Addr):Prop where
 code:X.env.code=.ref c
 hd:∀h:Heap,X.K.In h->PySem.W.CodeHd h c P
 tab:(P,X.env.qual ++ "<lambda>")∈q0Y X.K
 fre:∀y∈scope.names,y.2=NameKind.free->X.env.kindOf y.1=some .cell
section
variable {X:Cx} {pins:List (Addr×Obj)} {σ:St} {H:Hp} {s:Shared} {params:Arguments} {body:Expr} {scope:Scope} {pos:Pos} {c P:Addr} {M:Model} {A:Around} {E:Value->Shared->Prop} {Q:Value->Shared->Prop}
end
end L2
namespace L2
open PySem PySem.Spec PyProof.Rows
structure Cells(l:List Addr)(h:Heap)(H:Hp):Prop where
 none:∀c∈l,H c=none
 cel:∀c∈l,∃o v,h.get? c=some o/\o.data=.cell v
section
variable {P:Program} {w:World} {K:PySem.W.Frag} {mg:Str->Option Value} {base:Heap} {A:Around} {outer:List Env} {s s':Shared} {H:Hp} {l:List Addr} {Q Q':VK} {u:Value}
structure CellsT(l:List Addr)(h:Heap)(H:Hp):Prop where
 at_:∀c∈l,∃o v,H c=some (.frz o (.own c))/\h.get? c=some o/\o.data=.cell v
def ov(l:List Addr)(H H':Hp):Hp:=λb=>if b∈l then H b else H' b
end
end L2
end
noncomputable section
namespace L2
open PySem PySem.Spec PyProof.Rows
def z8T(P:Program)(w:World)(K:PySem.W.Frag)(mg:Str->Option Value)(base:Heap)(fn bl cl:List Str)(k:Nat)(Fl:List DV->Option Ou):Prop:=
 ∀(A:Around) (outer:List Env) (s:Shared) (H:Hp) (us:List Value) (vs:List V) (Q:VK) (E:XK) (O:List Addr) (f:Addr) (m:LamD) (cs ds:List DV) (d:DV),Room k A->Env0 P w K mg base A outer s H->Vals vs us->Hdn O H->m.fn=fn->m.bl=bl->m.cl=cl ->
  Rep ⟨K,mg⟩ (L2.wo O H) (.lam m cs) (.ref f)->RepL ⟨K,mg⟩ (L2.wo O H) ds vs->Fl (.lam m cs::ds)=some (.v d false)->(∀v H',Same H H'->Rep ⟨K,mg⟩ (L2.wo O H') d v->Q v H') ->
  codeAny (model P w) A (.call (.ref f) ⟨us,[]⟩) (CR (CXx P w base) outer P w H s Q E) s
section
variable {X:Cx} {E:St->XK} {δ:List Sv} {e:Expr} {es:List Expr} {pos p:Pos} {rs:Option Rs} {re:Re} {k i:Nat} {x:Str} {fn bl cl:List Str} {m:LamD} {cs:List DV}
end
end L2
end
noncomputable section
namespace L2
open PySem PySem.Spec PyProof.Rows
section
variable {D:Dm} {O l:List Addr} {H:Hp}
theorem q6W{b:Addr}{u:HO}(hl:∀c∈l,∃o,H c=some (.frz o (.own c)))(h:L2.wo O H b=some u)(hu:∀o c,u ≠ .frz o (.own c)):L2.wo O (L2.wo l H) b=some u:=by
 obtain⟨hb,e⟩:=q0M h;rw[q0m hb,q0m λz=>by obtain⟨o,g⟩:=hl b z;rw[e]at g;cases g;exact hu _ _ rfl];exact e
mutual
theorem z7y(hl:∀c∈l,∃o,H c=some (.frz o (.own c))):∀{d:DV} {v:V},d.nolam=true->Rep D (L2.wo O H) d v->Rep D (L2.wo O (L2.wo l H)) d v
 | .non,_,_,h=>by unfold Rep at h ⊢;exact h
 | .bl _,_,_,h=>by unfold Rep at h ⊢;exact h
 | .int _,_,_,h=>by unfold Rep at h ⊢;exact h
 | .str _,_,_,h=>by unfold Rep at h ⊢;exact h
 | .tup ds,_,m,h=>by
  unfold Rep at h ⊢;obtain⟨a,xs,e1,e2,e3⟩:=h;unfold DV.nolam at m;refine⟨a,xs,e1,?_,q4B hl m e3⟩;rcases e2 with(h | ⟨o,h⟩) | h
  ·exact .inl (.inl (q6W hl h (by intro o c z;cases z)))
  ·exact .inl (.inr ⟨o,q6W hl h (by intro o c z;cases z)⟩)
  ·exact .inr h
 | .lst ds,_,m,h=>by unfold Rep at h ⊢;obtain⟨a,xs,e1,e2,e3⟩:=h;unfold DV.nolam at m;exact⟨a,xs,e1,q6W hl e2 (by intro o c z;cases z),q4B hl m e3⟩
 | .dct _ _,_,m,h=>by
  unfold Rep at h ⊢;unfold DV.nolam at m;rcases h with⟨a,ob,kvs,e1,e2,e3,e4⟩ | ⟨a,ob,kvs,e1,e2,e3,e4⟩
  ·exact .inl ⟨a,ob,kvs,e1,q6W hl e2 (by intro o c z;cases z),e3,q4B hl m e4⟩
  ·exact .inr ⟨a,ob,kvs,e1,q6W hl e2 (by intro o c z;cases z),e3,q4B hl m e4⟩
 | .exc C,_,_,h=>by unfold Rep at h ⊢;obtain⟨a,C,e1,e2,e3⟩:=h;exact⟨a,C,e1,e2,q6W hl e3 (by intro o c z;cases z)⟩
 | .fn _,_,_,h=>by unfold Rep at h ⊢;exact h
 | .lam _ _,_,m,_=>by unfold DV.nolam at m;cases m
 | .scr _,_,_,h=>by
  unfold Rep at h ⊢;obtain⟨a,e1,e2⟩:=h;refine⟨a,e1,?_⟩;rcases e2 with⟨o,h⟩ | h
  ·exact .inl ⟨o,q6W hl h (by intro o c z;cases z)⟩
  ·exact .inr h
theorem q4B(hl:∀c∈l,∃o,H c=some (.frz o (.own c))):∀{ds:List DV} {xs:List V},DV.nolams ds=true->RepL D (L2.wo O H) ds xs->RepL D (L2.wo O (L2.wo l H)) ds xs
 | [],_,_,h=>by unfold RepL at h ⊢;exact h
 | d::ds,_,m,h=>by unfold RepL at h ⊢;obtain⟨v,vs,e1,e2,e3⟩:=h;unfold DV.nolams at m;rw[Bool.and_eq_true]at m;exact⟨v,vs,e1,z7y hl m.1 e2,q4B hl m.2 e3⟩
end
end
section
variable {X:Cx} {pins:List (Addr×Obj)} {σ:St} {H:Hp} {s:Shared} {sc:Scope} {N ps:List Str}
structure LamTx(N ps:List Str)(sc:Scope):Prop where
 kind:sc.kind=.function
 co:sc.isCoroutine=false
 gen:sc.isGenerator=false
 nd:N.Nodup
 pre:N.take ps.length=ps
 par:∀x∈ps,sc.names.lookup x=some .local
 nocell:∀y∈sc.names,y.2 ≠ .cell
 fre:∀i x,ps.length<=i->N[i]? = some x->sc.names.lookup x=some .free
end
end L2
end
noncomputable section
namespace L2
open PySem PySem.Spec PyProof.Rows
section
variable {X:Cx} {E:St->XK} {δ:List Sv} {v:Expr} {te:TE} {pos kpos:Pos} {i:Int} {j:Nat}
theorem q2D{O:List Addr}{H:Hp}{p b:Addr}{o u:HO}(hp:H p=some (.dK []))(h:L2.wo O H b=some u)(hu:u ≠ .dK []):L2.wo O (upd H p o) b=some u:=by
 obtain⟨hb,e⟩:=q0M h;rw[q0m hb,q0j (λz=>by rw[z,hp]at e;cases e;exact hu rfl)];exact e
mutual
theorem z5b{D:Dm}{O:List Addr}{H:Hp}{p:Addr}{o:HO}(hp:H p=some (.dK [])):∀{d:DV} {v:V},Rep D (L2.wo O H) d v->Rep D (L2.wo O (upd H p o)) d v
 | .non,_,h=>by unfold Rep at h ⊢;exact h
 | .bl _,_,h=>by unfold Rep at h ⊢;exact h
 | .int _,_,h=>by unfold Rep at h ⊢;exact h
 | .str _,_,h=>by unfold Rep at h ⊢;exact h
 | .tup ds,_,h=>by
  unfold Rep at h ⊢;obtain⟨a,xs,e1,e2,e3⟩:=h;refine⟨a,xs,e1,?_,q2H hp e3⟩;rcases e2 with(h | ⟨o,h⟩) | h
  ·exact .inl (.inl (q2D hp h (by intro z;cases z)))
  ·exact .inl (.inr ⟨o,q2D hp h (by intro z;cases z)⟩)
  ·exact .inr h
 | .lst ds,_,h=>by unfold Rep at h ⊢;obtain⟨a,xs,e1,e2,e3⟩:=h;exact⟨a,xs,e1,q2D hp e2 (by intro z;cases z),q2H hp e3⟩
 | .dct _ _,_,h=>by
  unfold Rep at h ⊢;rcases h with⟨a,ob,kvs,e1,e2,e3,e4⟩ | ⟨a,ob,kvs,e1,e2,e3,e4⟩
  ·exact .inl ⟨a,ob,kvs,e1,q2D hp e2 (by intro z;cases z),e3,q2H hp e4⟩
  ·exact .inr ⟨a,ob,kvs,e1,q2D hp e2 (by intro z;cases z),e3,q2H hp e4⟩
 | .exc C,_,h=>by unfold Rep at h ⊢;obtain⟨a,C,e1,e2,e3⟩:=h;exact⟨a,C,e1,e2,q2D hp e3 (by intro z;cases z)⟩
 | .fn _,_,h=>by unfold Rep at h ⊢;exact h
 | .lam m cs,_,h=>by
  unfold Rep at h ⊢;obtain⟨f,pr,bd,sc,q,cl,l,ws,e1,⟨c',oc,u,vs,t,pm,ctv,f1,f2,f3⟩,e3,e4,e5,g1,g2,g3⟩:=h;refine⟨f,pr,bd,sc,q,cl,l,ws,e1,⟨c',oc,u,vs,t,pm,ctv,q2D hp f1 (by intro z;cases z),q2D hp f2 (by intro z;cases z),f3⟩,e3,e4,q2H hp e5,g1,λc hc=>?_,λi x v h1 h2=>?_⟩
  ·obtain⟨o,v,k1,k2⟩:=g2 c hc;exact⟨o,v,q2D hp k1 (by intro z;cases z),k2⟩
  ·obtain⟨c,o,u,k1,k2,k3⟩:=g3 i x v h1 h2;exact⟨c,o,u,k1,q2D hp k2 (by intro z;cases z),k3⟩
 | .scr _,_,h=>by
  unfold Rep at h ⊢;obtain⟨a,e1,e2⟩:=h;refine⟨a,e1,?_⟩;rcases e2 with⟨o,h⟩ | h
  ·exact .inl ⟨o,q2D hp h (by intro z;cases z)⟩
  ·exact .inr h
theorem q2H{D:Dm}{O:List Addr}{H:Hp}{p:Addr}{o:HO}(hp:H p=some (.dK [])):∀{ds:List DV} {xs:List V},RepL D (L2.wo O H) ds xs->RepL D (L2.wo O (upd H p o)) ds xs
 | [],_,h=>by unfold RepL at h ⊢;exact h
 | d::ds,_,h=>by unfold RepL at h ⊢;obtain⟨v,vs,e1,e2,e3⟩:=h;exact⟨v,vs,e1,z5b hp e2,q2H hp e3⟩
end
end
end L2
end
noncomputable section
namespace L2
open PySem PySem.Spec PyProof.Rows
structure Wk(D:Dm)(J:It)(ds:List DV)(Oc Oi:List Addr)(H1:Hp):Prop where
 go:∀i H,Same (L2.wo Oc H1) (L2.wo Oc H)->i<ds.length->J.go i H
 same:∀i H x H',J.yld i H x H'->Same H H'
 yld:∀i H x H' d O2,Same (L2.wo Oc H1) (L2.wo Oc H)->Same (L2.wo Oi H1) (L2.wo Oi H)->J.yld i H x H'->ds[i]? = some d->(∀a∈O2,H a≠none/\(a∈Oi\/H1 a=none))->Rep D (L2.wo O2 H') d x
 stop:∀H,Same (L2.wo Oc H1) (L2.wo Oc H)->J.stop ds.length H
def hidW(O W:List Addr):Cl->List Addr
 | .top=>O
 | .weak=>O
 | _=>O++W
def z9d(D:Dm)(E:St->XK)(σ:St)(O W:List Addr)(H:Hp)(R:It->Hp->Prop):Ri->Prop
 | .ok ds c=>∀J H',Same H H'->Wk D J ds (hidW O W c) (q1V O W c) H'->R J H'
 | .ex c=>∀H' C,D.mg c=some C->Same H H'->E σ C none H'
def dI(D:Dm)(E:St->XK)(δ:List Sv)(r:Ri):TI:=λσ H R=>∃O W,RSt D H σ δ O W/\z9d D E σ O W H R r
theorem PI.weak{X:Cx}{tg iter:Expr}{t t':TI}(h:PI X tg iter t)(k:∀σ H R,t' σ H R->t σ H R):PI X tg iter t':=λpins s σ H R I q=>h pins s σ H R I (k σ H R q)
theorem z2z{O O2:List Addr}{H1 H:Hp}(s:Same (L2.wo O H1) (L2.wo O H))(h:∀a∈O2,H a≠none/\(a∈O\/H1 a=none)):Same (L2.wo O H1) (L2.wo O2 H):=λb o e=>by
 have q:=s b o e;obtain⟨hb,e⟩:=q0M e;obtain⟨_,q⟩:=q0M q;rw[q0m λz=>?_]
 ·exact q
 ·rcases(h b z).2 with w | w
  ·exact hb w
  ·rw[w]at e;cases e
theorem Wk.list{D:Dm}{ds:List DV}{Oc Oi:List Addr}{H1:Hp}{a:Addr}{xs:List V}(h:SqL D.K (L2.wo Oc H1) a xs)(r:RepL D (L2.wo Oi H1) ds xs):Wk D (Itl D.K a) ds Oc Oi H1 where
 go:=λi H s hi=>⟨xs,xs[i]'(by rw[r.length];exact hi),q1B.seq (s.seq h),List.getElem?_eq_getElem _⟩
 same:=λi H x H' y=>by rw[y.1];exact Same.refl _
 yld:=λi H x H' d O2 s s' y e ho=>by obtain⟨e1,y⟩:=y;subst e1;obtain⟨v,q1,q2⟩:=r.get e;have:=y xs (q1B.seq (s.seq h));rw[q1]at this;cases this;exact q2.mono (z2z s' ho)
 stop:=λH s=>⟨xs,q1B.seq (s.seq h),by rw[r.length];exact Nat.le_refl _⟩
theorem Wk.tup{D:Dm}{ds:List DV}{Oc Oi:List Addr}{H1:Hp}{a:Addr}{xs:List V}(h:SqT D.K (L2.wo Oc H1) a xs)(r:RepL D (L2.wo Oi H1) ds xs):Wk D (Itt D.K a) ds Oc Oi H1 where
 go:=λi H s hi=>⟨xs,xs[i]'(by rw[r.length];exact hi),q1B.tseq (s.tseq h),List.getElem?_eq_getElem _⟩
 same:=λi H x H' y=>by rw[y.1];exact Same.refl _
 yld:=λi H x H' d O2 s s' y e ho=>by obtain⟨e1,y⟩:=y;subst e1;obtain⟨v,q1,q2⟩:=r.get e;have:=y xs (q1B.tseq (s.tseq h));rw[q1]at this;cases this;exact q2.mono (z2z s' ho)
 stop:=λH s=>⟨xs,q1B.tseq (s.tseq h),by rw[r.length];exact Nat.le_refl _⟩
theorem q3i(lo:Int)(n:Nat):(upTo lo n).length=n:=by unfold upTo;rw[List.length_map,List.length_range]
theorem z1W{lo:Int}{n i:Nat}{d:DV}(h:(upTo lo n)[i]? = some d):i<n/\d=.int (lo+i):=by
 have hl:i<n:=by have:=(List.getElem?_eq_some_iff.mp h).1;rw[q3i]at this;exact this
 unfold upTo at h;rw[List.getElem?_map,List.getElem?_range hl]at h;cases h;exact⟨hl,rfl⟩
theorem Wk.range{D:Dm}{Oc Oi:List Addr}{H1:Hp}(lo:Int)(n:Nat):Wk D (Itr lo n) (upTo lo n) Oc Oi H1 where
 go:=λi H s hi=>by rw[q3i]at hi;exact hi
 same:=λi H x H' y=>by rw[y.1];exact Same.refl _
 yld:=λi H x H' d O2 s s' y e ho=>by obtain⟨e1,y⟩:=y;subst e1;obtain⟨_,e2⟩:=z1W e;subst e2;exact q0U.mpr y
 stop:=λH s=>by rw[q3i];exact Nat.le_refl _
theorem Wk.str{D:Dm}{Oc Oi:List Addr}{H1:Hp}(x:Str):Wk D (Its x) (x.cps.toList.map λc=>.str ⟨#[c]⟩) Oc Oi H1 where
 go:=λi H s hi=>by rw[List.length_map]at hi;exact hi
 same:=λi H v H' y=>by rw[y.1];exact Same.refl _
 yld:=λi H v H' d O2 s s' y e ho=>by obtain⟨e1,c,hc,rfl⟩:=y;subst e1;rw[List.getElem?_map,Array.getElem?_toList,hc]at e;cases e;exact q0R.mpr ⟨rfl,by show 1<=sizeLine;decide⟩
 stop:=λH s=>by rw[List.length_map];exact Nat.le_refl _
section
variable {X:Cx} {E:St->XK} {δ:List Sv} {tg e e':Expr} {es:List Expr} {pos p:Pos} {ra rb:Option Re} {rs:Option Rs} {ri:Ri}
theorem Got.walkL{D:Dm}{O W:List Addr}{H0 H:Hp}{ds:List DV}{c:Cl}{v:V}(g:Got D O W H0 H (.lst ds) c v)(hd:Hid O W H0 H):∃a xs,v=.ref a/\SqL D.K (L2.wo (hidW O W c) H) a xs/\RepL D (L2.wo (q1V O W c) H) ds xs:=by
 cases c with
 | weak=>obtain⟨a,xs,e1,e2,e3⟩:=q0G.mp g;exact⟨a,xs,e1,SqL.of e2,e3⟩
 | top=>obtain⟨a,xs,e1,e0,e2,e3⟩:=g;exact⟨a,xs,e1,SqL.of e2,e3⟩
 | strong=>obtain⟨a,xs,e1,e2,e3⟩:=q0G.mp g;exact⟨a,xs,e1,SqL.of e2,e3⟩
 | fresh=>obtain⟨a,xs,e1,e2,e3⟩:=q0G.mp (g.strong hd);exact⟨a,xs,e1,SqL.of e2,e3⟩
 | ft=>obtain⟨a,xs,e1,e2,e3⟩:=q0G.mp (g.ft hd);exact⟨a,xs,e1,SqL.of e2,e3⟩
theorem Got.walkT{D:Dm}{O W:List Addr}{H0 H:Hp}{ds:List DV}{c:Cl}{v:V}(g:Got D O W H0 H (.tup ds) c v)(hd:Hid O W H0 H):∃a xs,v=.ref a/\SqT D.K (L2.wo (hidW O W c) H) a xs/\RepL D (L2.wo (q1V O W c) H) ds xs:=by
 cases c with
 | weak=>exact q0L.mp g
 | top=>
  obtain⟨a,xs,e1,e2,e3⟩:=q0L.mp (show Rep D (L2.wo (O++W) H) (.tup ds) v from g);exact⟨a,xs,e1,(q0Q q6p).tseq e2,e3⟩
 | strong=>exact q0L.mp g
 | fresh=>obtain⟨_,_,_,_,q,_⟩:=g;cases q
 | ft=>exact q0L.mp (g.ft hd)
theorem Got.walkS{D:Dm}{O W:List Addr}{H0 H:Hp}{ns:List Int}{c:Cl}{v:V}(g:Got D O W H0 H (.scr ns) c v)(hd:Hid O W H0 H):∃a,v=.ref a/\SqL D.K (L2.wo (hidW O W c) H) a (ns.map V.int):=by
 cases c with
 | weak=>obtain⟨a,e1,e2⟩:=q1X.mp g;exact⟨a,e1,e2.sq⟩
 | top=>obtain⟨a,e1,e2⟩:=q1X.mp (show Rep D (L2.wo (O++W) H) (.scr ns) v from g);exact⟨a,e1,(q0Q q6p).seq e2.sq⟩
 | strong=>obtain⟨a,e1,e2⟩:=q1X.mp g;exact⟨a,e1,e2.sq⟩
 | fresh=>obtain⟨_,_,_,_,q,_⟩:=g;cases q
 | ft=>obtain⟨a,e1,e2⟩:=q1X.mp (g.ft hd);exact⟨a,e1,e2.sq⟩
theorem q7Y(ha:∀q,ra=some q->PE X e (dE X.D E δ q))(h:q2R ra=some ri):PI X tg e (dI X.D E δ ri):=by
 cases hra:ra with
 | none=>rw[hra]at h;cases h
 | some q=>
  rw[hra]at h;have A:=ha q hra;cases q with
  | ex c=>cases h;exact(q7n A).weak λσ H R' ⟨O,W,R,p⟩=>⟨O,W,R,p⟩
  | ok d c=>
   obtain⟨ds,e1,e2⟩:=Option.map_eq_some_iff.mp (show((seqD d).map λds=>Ri.ok ds c)=some ri from h);cases e2;unfold seqD at e1;split at e1
   ·cases e1;exact(q7n A).weak λσ H R' ⟨O,W,R,p⟩=>⟨O,W,R,λv H1 s1 g1=>by
     obtain⟨a,e1,e2⟩:=g1.walkS (R.hid.mono s1);exact⟨a,e1,⟨_,q1B.seq e2⟩,p _ H1 s1 (.list e2 (q2d _))⟩⟩
   ·cases e1;exact(q7n A).weak λσ H R' ⟨O,W,R,p⟩=>⟨O,W,R,λv H1 s1 g1=>by
     obtain⟨a,xs,e1,e2,e3⟩:=g1.walkL (R.hid.mono s1);exact⟨a,e1,⟨xs,q1B.seq e2⟩,p _ H1 s1 (.list e2 e3)⟩⟩
   ·cases e1;exact(z5P A).weak λσ H R' ⟨O,W,R,p⟩=>⟨O,W,R,λv H1 s1 g1=>by
     obtain⟨a,xs,e1,e2,e3⟩:=g1.walkT (R.hid.mono s1);exact⟨a,e1,⟨xs,q1B.tseq e2⟩,p _ H1 s1 (.tup e2 e3)⟩⟩
   ·cases e1;exact(z6a A).weak λσ H R' ⟨O,W,R,p⟩=>⟨O,W,R,λv H1 s1 g1=>⟨_,(g1.str (R.hid.mono s1)).1,p _ H1 s1 (Wk.str _)⟩⟩
   ·cases e1
theorem q8v{i:Int}(h:q3L i=true) : -(2^62)<=i/\i<2^62:=by
 unfold q3L at h;simpa[Bool.and_eq_true]using h
theorem z1b{o:Option (List DV)}{ri:Ri}(h:q2R (o.map λds=>Re.ok (.lst ds) .fresh)=some ri):∃ds,o=some ds/\ri=.ok ds .fresh:=by
 cases o with
 | none=>cases h
 | some ds=>cases h;exact⟨ds,rfl,rfl⟩
theorem q8z(hg:Gl X "range")(hm:X.mg "range" = none)(ha:∀q,rs=some q->PA X [e] (dA X.D E δ q))(hs:q0s e=false)(h:q2R (Rs.thn rs λl=>(rngD l).map λds=>Re.ok (.lst ds) .fresh)=some ri)(hl:∀l,rs=some (.ok l)->l.length=1) :
  PI X tg (.Call (.Name "range" p) [e] [] pos) (dI X.D E δ ri):=by
 have C:=λt (hA:PA X [e] t)=>q8Z (tg:=tg) (p:=p) (pos:=pos) hg hm hA (q0A hs);cases hrs:rs with
 | none=>rw[hrs]at h;cases h
 | some q=>
  rw[hrs]at h;have A:=ha q hrs;cases q with
  | ex c=>cases h;exact(C _ A).weak λσ H R' ⟨O,W,R,p⟩=>⟨O,W,R,p⟩
  | ok l=>
   have l1:=hl l hrs;obtain⟨ds,e1,e2⟩:=z1b (show q2R ((rngD l).map λds=>Re.ok (.lst ds) .fresh)=some ri from h);cases e2;unfold rngD at e1;split at e1
   ·rename_i j c;split at e1
    ·rename_i m;cases e1;rw[Bool.and_eq_true]at m;have q:=q8v m.1;exact(C _ A).weak λσ H R' ⟨O,W,R,p⟩=>⟨O,W,R,λvs H1 s1 g1=>by
      obtain⟨v,rfl,gv⟩:=g1.one;exact⟨j,by rw[gv.int (R.hid.mono s1)],q.1,q.2,p _ H1 s1 (.range _ _)⟩⟩
    ·cases e1
   ·cases e1
end
def q7T:List Nat->TGs
 | []=>gNil
 | i::is=>z7D (q8i i) (q7T is)
def gT(K:PySem.W.Frag):Tg->TG
 | .one i=>q8i i
 | .many is=>gTup K is.length (q7T is)
theorem RSt.setVal{D:Dm}{H:Hp}{σ:St}{δ:List Sv}{O W:List Addr}{v:V}{d:DV}(R:RSt D H σ δ O W)(r:Rep D (L2.wo (O++W) H) d v)(i:Nat):RSt D H (σ.set i (some v)) (δ.set i (.val d)) O W where
 val:=λj d' h=>by
  by_cases hj:j=i
  ·subst hj;have hl:j<δ.length:=by
    have:=(List.getElem?_eq_some_iff.mp h).1;rw[List.length_set]at this;exact this
   rw[List.getElem?_set_self hl]at h;cases h;exact⟨v,List.getElem?_set_self (by rw[R.len];exact hl),r⟩
  ·rw[List.getElem?_set_ne (Ne.symm hj)]at h ⊢;exact R.val j d' h
 own:=λj ds' h=>by
  by_cases hj:j=i
  ·subst hj;have hl:j<δ.length:=by
    have:=(List.getElem?_eq_some_iff.mp h).1;rw[List.length_set]at this;exact this
   rw[List.getElem?_set_self hl]at h;cases h
  ·rw[List.getElem?_set_ne (Ne.symm hj)]at h ⊢;exact R.own j ds' h
 inj:=λj k a d1 d2 h1 h2 e1 e2=>by
  have ne:∀{j:Nat} {d1:DV},(δ.set i (.val d))[j]? = some (.own d1)->j≠i:=λ{j d1} h1 z=>by
   subst z;have hl:j<δ.length:=by have:=(List.getElem?_eq_some_iff.mp h1).1;rw[List.length_set]at this;exact this
   rw[List.getElem?_set_self hl]at h1;cases h1
  have n1:=ne h1;have n2:=ne h2;rw[List.getElem?_set_ne (Ne.symm n1)]at h1 e1;rw[List.getElem?_set_ne (Ne.symm n2)]at h2 e2;exact R.inj j k a d1 d2 h1 h2 e1 e2
 ot:=by
  have ne:∀{j:Nat} {s:Sv},(∀d,s ≠ .val d)->(δ.set i (.val d))[j]? = some s->j≠i:=λ{j s} hs h1 z=>by
   subst z;have hl:j<δ.length:=by have:=(List.getElem?_eq_some_iff.mp h1).1;rw[List.length_set]at this;exact this
   rw[List.getElem?_set_self hl]at h1;cases h1;exact hs _ rfl
  obtain⟨P,f,u⟩:=R.ot;refine⟨P,λj d' h=>?_,λj k d1 d2 h1 h2=>?_⟩
  ·have nj:=ne (by intro d z;cases z) h;rw[List.getElem?_set_ne (Ne.symm nj)]at h ⊢;obtain⟨t,ts,e1,e2,e3,e4⟩:=f j d' h;refine⟨t,ts,e1,e2,e3,λp hp=>⟨(e4 p hp).1,(e4 p hp).2.1,λk d2 q=>?_⟩⟩;have nk:=ne (by intro d z;cases z) q;rw[List.getElem?_set_ne (Ne.symm nk)]at q ⊢;exact(e4 p hp).2.2 k d2 q
  ·rw[List.getElem?_set_ne (Ne.symm (ne (by intro d z;cases z) h1))]at h1;rw[List.getElem?_set_ne (Ne.symm (ne (by intro d z;cases z) h2))]at h2;exact u j k d1 d2 h1 h2
 o2:=λj d' h=>by
  have ne:∀{j:Nat} {s:Sv},(∀d,s ≠ .val d)->(δ.set i (.val d))[j]? = some s->j≠i:=λ{j s} hs h1 z=>by
   subst z;have hl:j<δ.length:=by have:=(List.getElem?_eq_some_iff.mp h1).1;rw[List.length_set]at this;exact this
   rw[List.getElem?_set_self hl]at h1;cases h1;exact hs _ rfl
  have nj:=ne (by intro d z;cases z) h;rw[List.getElem?_set_ne (Ne.symm nj)]at h ⊢;obtain⟨⟨p,L,e0,e1,e2,e3⟩,u,n⟩:=R.o2 j d' h;refine⟨⟨p,L,e0,e1,e2,λk d2 a q q2=>?_⟩,λk d2 q=>?_,λk d2 q=>?_⟩
  ·have nk:=ne (by intro d z;cases z) q;rw[List.getElem?_set_ne (Ne.symm nk)]at q q2;exact e3 k d2 a q q2
  ·have nk:=ne (by intro d z;cases z) q;rw[List.getElem?_set_ne (Ne.symm nk)]at q;exact u k d2 q
  ·have nk:=ne (by intro d z;cases z) q;rw[List.getElem?_set_ne (Ne.symm nk)]at q;exact n k d2 q
 od:=R.od.step (q6E _ (by intro d z;cases z)) (λ_ h _=>h) (λ_ _ _ h _=>h)
 len:=by rw[List.length_set,List.length_set];exact R.len
 hid:=R.hid
theorem q5W{D:Dm}{H:Hp}{O W:List Addr}{Q:St->Hp->Prop}:∀{is:List Nat} {ds:List DV} {xs:List V} {σ:St} {δ δ':List Sv},RSt D H σ δ O W->RepL D (L2.wo (O++W) H) ds xs->q5m δ is ds=some δ'->(∀σ',RSt D H σ' δ' O W->Q σ' H)->q7T is xs σ H Q
 | [],[],xs,σ,δ,δ',R,r,h,q=>by cases h;exact⟨q0K.mp r,q σ R⟩
 | i::is,d::ds,xs,σ,δ,δ',R,r,h,q=>by obtain⟨v,vs,e1,e2,e3⟩:=q0t.mp r;exact⟨v,vs,e1,q5W (R.setVal e2 i) e3 h q⟩
 | [],_::_,_,_,_,_,_,_,h,_=>by cases h
 | _::_,[],_,_,_,_,_,_,h,_=>by cases h
theorem q2p:∀{is:List Nat} {ds:List DV} {δ δ':List Sv},q5m δ is ds=some δ'->is.length=ds.length/\δ'.length=δ.length
 | [],[],_,_,h=>by cases h;exact⟨rfl,rfl⟩
 | i::is,d::ds,δ,δ',h=>by obtain⟨a,b⟩:=q2p (is:=is) h;exact⟨by rw[List.length_cons,List.length_cons,a],by rw[b,List.length_set]⟩
 | [],_::_,_,_,h=>by cases h
 | _::_,[],_,_,h=>by cases h
theorem q7e{D:Dm}{H:Hp}{O W:List Addr}{Q:St->Hp->Prop}{tg:Tg}{d:DV}{x:V}{σ:St}{δ δ':List Sv}(R:RSt D H σ δ O W)(r:Rep D (L2.wo (O++W) H) d x)(h:tg.bind d δ=some δ')(q:∀σ',RSt D H σ' δ' O W->Q σ' H):gT D.K tg x σ H Q:=by
 cases tg with
 | one i=>cases h;exact q _ (R.setVal r i)
 | many is=>
  unfold Tg.bind at h;dsimp only at h;split at h
  ·rename_i ds;obtain⟨a,xs,e1,e2,e3⟩:=q0L.mp r;exact⟨a,xs,e1,q1B.tseq e2,by rw[e3.length,(q2p h).1],q5W R e3 h q⟩
  ·cases h
theorem RSt.less{D:Dm}{H:Hp}{σ:St}{δ δ':List Sv}{O W:List Addr}(R:RSt D H σ δ' O W)(hl:δ.length=δ'.length)(h:∀(i:Nat) sv,δ[i]? = some sv->sv=.no\/δ'[i]? = some sv):RSt D H σ δ O W where
 val:=λi d e=>by
  rcases h i _ e with z | z
  ·cases z
  ·exact R.val i d z
 own:=λi d e=>by
  rcases h i _ e with z | z
  ·cases z
  ·exact R.own i d z
 inj:=λi j a d d' e e'=>by
  rcases h i _ e with z | z
  ·cases z
  ·rcases h j _ e' with y | y
   ·cases y
   ·exact R.inj i j a d d' z y
 ot:=by
  obtain⟨P,f,u⟩:=R.ot;refine⟨P,λi d e=>?_,λi j d1 d2 h1 h2=>?_⟩
  ·rcases h i _ e with z | z
   ·cases z
   ·obtain⟨t,ts,e1,e2,e3,e4⟩:=f i d z;refine⟨t,ts,e1,e2,e3,λp hp=>⟨(e4 p hp).1,(e4 p hp).2.1,λk d2 q=>?_⟩⟩;rcases h k _ q with y | y
    ·cases y
    ·exact(e4 p hp).2.2 k d2 y
  ·rcases h i _ h1 with z | z
   ·cases z
   ·rcases h j _ h2 with y | y
    ·cases y
    ·exact u i j d1 d2 z y
 o2:=λi d e=>by
  rcases h i _ e with z | z
  ·cases z
  ·obtain⟨⟨p,L,e0,e1,e2,e3⟩,u,n⟩:=R.o2 i d z;refine⟨⟨p,L,e0,e1,e2,λk d2 a q q2=>?_⟩,λk d2 q=>?_,λk d2 q=>?_⟩
   ·rcases h k _ q with y | y
    ·cases y
    ·exact e3 k d2 a y q2
   ·rcases h k _ q with y | y
    ·cases y
    ·exact u k d2 y
   ·rcases h k _ q with y | y
    ·cases y
    ·exact n k d2 y
 od:=R.od.step (λj d e=>by
  rcases h j _ e with z | z
  ·cases z
  ·exact⟨z,rfl⟩) (λ_ h _=>h) (λ_ _ _ h _=>h)
 len:=by rw[hl];exact R.len
 hid:=R.hid
theorem q7u:∀{is:List Nat} {ds:List DV} {δ δ':List Sv},q5m δ is ds=some δ'->(∀i∈is,δ[i]? = some .no\/δ[i]? = none)->∀(i:Nat) sv,δ[i]? = some sv->sv=.no\/δ'[i]? = some sv
 | [],[],_,_,h,_,i,sv,e=>by cases h;exact .inr e
 | j::is,d::ds,δ,δ',h,hn,i,sv,e=>by
  by_cases hij:i∈j::is
  ·rcases hn i hij with z | z
   ·rw[z]at e;cases e;exact .inl rfl
   ·rw[z]at e;cases e
  ·have hne:j≠i:=λz=>hij (by rw[z];exact List.mem_cons_self);have hni:i∉is:=λz=>hij (List.mem_cons_of_mem _ z);have key:∀{is:List Nat} {ds:List DV} {δ δ':List Sv},q5m δ is ds=some δ'->i∉is->δ[i]? = some sv->δ'[i]? = some sv:=by
    intro is
    induction is with
    | nil=>intro ds δ δ' h _ e;cases ds with
     | nil=>cases h;exact e
     | cons _ _=>cases h
    | cons k is ih=>intro ds δ δ' h hi e;cases ds with
     | nil=>cases h
     | cons d ds=>
      refine ih h (λz=>hi (List.mem_cons_of_mem _ z)) ?_;rw[List.getElem?_set_ne (λz=>hi (by rw[z];exact List.mem_cons_self))];exact e
   exact .inr (key h hij e)
 | [],_::_,_,_,h,_,_,_,_=>by cases h
 | _::_,[],_,_,h,_,_,_,_=>by cases h
theorem q6s{tg:Tg}{d:DV}{δ δ':List Sv}(h:tg.bind d δ=some δ')(hn:∀i∈q3F tg,δ[i]? = some .no\/δ[i]? = none):δ.length=δ'.length/\∀(i:Nat) sv,δ[i]? = some sv->sv=.no\/δ'[i]? = some sv:=by
 cases tg with
 | one j=>
  cases h;refine⟨(List.length_set ..).symm,λi sv e=>?_⟩;by_cases hij:i=j
  ·subst hij;rcases hn i (by simp[q3F])with z | z
   ·rw[z]at e;cases e;exact .inl rfl
   ·rw[z]at e;cases e
  ·exact .inr (by rw[List.getElem?_set_ne (Ne.symm hij)];exact e)
 | many is=>
  unfold Tg.bind at h;dsimp only at h;split at h
  ·exact⟨(q2p h).2.symm,q7u h hn⟩
  ·cases h
theorem RSt.inner{D:Dm}{H:Hp}{σ:St}{δ:List Sv}{O W:List Addr}(R:RSt D H σ δ O W)(fr:List (Option Nat))(hnd:∀(j k i:Nat),fr[j]? = some (some i)->fr[k]? = some (some i)->j=k):RSt D H (L2.inner fr σ) (q1U fr δ) O W:=by
 have look:∀(j:Nat) sv,(q1U fr δ)[j]? = some sv->sv ≠ .no->∃i,fr[j]? = some (some i)/\δ[i]? = some sv:=λj sv h hn=>by
  unfold q1U at h;rw[List.getElem?_map]at h;cases q:fr[j]? with
  | none=>rw[q]at h;cases h
  | some o=>
   rw[q]at h;cases o with
   | none=>cases h;exact absurd rfl hn
   | some i=>
    refine⟨i,rfl,?_⟩;have h':(δ.getD i .no).plain=sv:=by simpa using h
    rw[List.getD_eq_getElem?_getD]at h';cases z:δ[i]? with
    | none=>rw[z]at h';exact absurd h'.symm hn
    | some sv'=>
     rw[z]at h';cases sv' with
     | ot d=>exact absurd h'.symm hn
     | o2 d=>exact absurd h'.symm hn
     | od d=>exact congrArg some h'
     | no=>exact congrArg some h'
     | val d=>exact congrArg some h'
     | own d=>exact congrArg some h'
 have sig:∀(j i:Nat) (v:V),fr[j]? = some (some i)->σ[i]? = some (some v)->(L2.inner fr σ)[j]? = some (some v):=λj i v q e=>by unfold L2.inner;rw[List.getElem?_map,q];simp[e]
 have noot:∀(j:Nat) d,(q1U fr δ)[j]? ≠ some (.ot d):=λj d h=>by
  unfold q1U at h;rw[List.getElem?_map]at h;cases q:fr[j]? with
  | none=>rw[q]at h;cases h
  | some o=>
   rw[q]at h;cases o with
   | none=>cases h
   | some i=>
    have h':(δ.getD i .no).plain=.ot d:=by simpa using h
    cases z:δ.getD i .no with
    | ot d2=>rw[z]at h';cases h'
    | o2 d2=>rw[z]at h';cases h'
    | od d2=>rw[z]at h';cases h'
    | no=>rw[z]at h';cases h'
    | val d2=>rw[z]at h';cases h'
    | own d2=>rw[z]at h';cases h'
 have noo2:∀(j:Nat) d,(q1U fr δ)[j]? ≠ some (.o2 d):=λj d h=>by
  unfold q1U at h;rw[List.getElem?_map]at h;cases q:fr[j]? with
  | none=>rw[q]at h;cases h
  | some o=>
   rw[q]at h;cases o with
   | none=>cases h
   | some i=>
    have h':(δ.getD i .no).plain=.o2 d:=by simpa using h
    cases z:δ.getD i .no with
    | ot d2=>rw[z]at h';cases h'
    | o2 d2=>rw[z]at h';cases h'
    | od d2=>rw[z]at h';cases h'
    | no=>rw[z]at h';cases h'
    | val d2=>rw[z]at h';cases h'
    | own d2=>rw[z]at h';cases h'
 refine⟨λj d h=>?_,λj d h=>?_,λj k a d d' h1 h2 e1 e2=>?_,RSt.noot noot,λj d h=>absurd h (noo2 j d),λj d h=>?_,?_,R.hid⟩
 ·obtain⟨i,q1,q2⟩:=look j _ h (by intro z;cases z);obtain⟨v,e1,e2⟩:=R.val i d q2;exact⟨v,sig j i v q1 e1,e2⟩
 ·obtain⟨i,q1,q2⟩:=look j _ h (by intro z;cases z);obtain⟨a,xs,ds,e0,e1,e2⟩:=R.own i d q2;exact⟨a,xs,ds,e0,sig j i _ q1 e1,e2⟩
 ·obtain⟨i,q1,q2⟩:=look j _ h1 (by intro z;cases z);obtain⟨i',q1',q2'⟩:=look k _ h2 (by intro z;cases z);obtain⟨b,xs,ds,_,z1,_⟩:=R.own i d q2;obtain⟨b',xs',ds',_,z1',_⟩:=R.own i' d' q2';have y:=sig j i _ q1 z1;have y':=sig k i' _ q1' z1';rw[e1]at y;rw[e2]at y';cases y;cases y';have:=R.inj i i' a d d' q2 q2' z1 z1';subst this;exact hnd j k i q1 q1'
 ·obtain⟨i,q1,q2⟩:=look j _ h (by intro z;cases z);obtain⟨⟨a,o,e0,e1,e2⟩,u⟩:=R.od i d q2;refine⟨⟨a,o,e0,sig j i _ q1 e1,e2⟩,λk d' z=>?_⟩;obtain⟨i',q1',q2'⟩:=look k _ z (by intro z;cases z);rw[u i' d' q2']at q1';exact hnd k j i q1' q1
 ·unfold L2.inner q1U;rw[List.length_map,List.length_map]
section
variable {X:Cx} {E:St->XK} {δ:List Sv} {iter elt tgE:Expr} {ifs:List Expr} {pos:Pos} {N':List Str} {scope:Scope} {fr:List (Option Nat)} {tg:Tg} {ri:Option Ri} {re:Re}
theorem z1y{D:Dm}{J:It}{ds:List DV}{O W:List Addr}{H H1:Hp}{σ:St}{c:Cl}{g:DV->Option Rc}{xs:List DV}{tc:TT}{te:TE}{δ0:List Sv}{Q:VK}(w:Wk D J ds (hidW O W c) (q1V O W c) H1)(hd0:Hid O W H H)(hc:c ≠ .weak)(R:RSt D H1 σ δ0 O W)
  (hn:∀i∈q3F tg,δ0[i]? = some .no\/δ0[i]? = none) (hz:ds.length<=sizeLine) (hx:q3Z g ds=some xs) (s1:Same H H1)
  (step:∀d rc,d∈ds->g d=some rc->∃δ',tg.bind d δ0=some δ'/\∀σ' H2,Same H1 H2->RSt D H2 σ' δ' O W->∀K:Bool->Hp->Prop,(rc=.skip->∀H3,Same H2 H3->K false H3)->(∀x,rc=.item x->∀H3,Same H2 H3->K true H3)->tc σ' H2 K)
  (stepE:∀d x,d∈ds->g d=some (.item x)->∀δ',tg.bind d δ0=some δ'->∀σ' H2,Same H1 H2->RSt D H2 σ' δ' O W->∀K:VK,(∀v H3,Same H2 H3->Rep D (L2.wo (O++W) H3) x v->K v H3)->te σ' H2 K)
  (fin:∀v H',Same H H'->Got D O W H H' (.lst xs) .fresh v->Q v H') :
  z4Q J (gT D.K tg) tc te (λys H'=>∀p,H' p=none->Q (.ref p) (upd H' p (.lst ys))) σ H1:=by
 have ci:q1V O W c=O++W:=by cases c<;>first | rfl | exact absurd rfl hc
 rw[ci]at w;refine⟨λi n ys σ' H'=>n=ds.length - i/\i<=ds.length/\ys.length<=i/\RSt D H' σ' δ0 O W/\Same H1 H'/\∃done rest,q3Z g (ds.drop i)=some rest/\done++rest=xs/\RepL D (L2.wo (O++W) H') done ys,
  ⟨ds.length,rfl,Nat.zero_le _,Nat.zero_le _,R,Same.refl _,[],xs,hx,rfl,q0K.mpr rfl⟩,?_⟩
 rintro i n ys σ2 H2 ⟨rfl,hi',hy,R2,s2,done,rest,h1,h2,r2⟩
 by_cases hlt:i<ds.length
 ·refine .inr ⟨w.go i H2 s2.wo hlt,Nat.lt_of_le_of_lt hy (Nat.lt_of_lt_of_le hlt hz),λx' H3 y=>?_⟩;have y1:=w.same i H2 x' H3 y;have y3:Rep D (L2.wo (O++W) H3) ds[i] x':=w.yld i H2 x' H3 _ (O++W) s2.wo s2.wo y (List.getElem?_eq_getElem hlt) λa ha=>⟨R2.hid.ot a ha,.inl ha⟩;rw[List.drop_eq_getElem_cons hlt]at h1;have hm:ds[i]∈ds:=List.getElem_mem hlt;unfold q3Z at h1;split at h1
  ·cases h1
  ·rename_i q;obtain⟨δ',b1,b2⟩:=step _ _ hm q;refine q7e (R2.mono y1) y3 b1 λσ3 R3=>?_
   have back:=q6s b1 hn;refine b2 σ3 H3 (s2.trans y1) R3 _ (λ_ H4 s4=>?_) (λx z=>nomatch z);show if false=true then _ else _
   rw[if_neg Bool.false_ne_true];exact⟨ds.length - (i+1),by omega,rfl,hlt,Nat.le_succ_of_le hy,(R3.less back.1 back.2).mono s4,(s2.trans y1).trans s4,done,rest,h1,h2,r2.mono (y1.trans s4).wo⟩
  ·rename_i x q;split at h1
   ·cases h1
   ·rename_i rest' q';cases h1;obtain⟨δ',b1,b2⟩:=step _ _ hm q;refine q7e (R2.mono y1) y3 b1 λσ3 R3=>?_
    have back:=q6s b1 hn;refine b2 σ3 H3 (s2.trans y1) R3 _ (λz=>nomatch z) (λx' z H4 s4=>?_);cases z;show if true=true then _ else _
    rw[if_pos rfl];refine stepE _ x hm q δ' b1 σ3 H4 ((s2.trans y1).trans s4) (R3.mono s4) _ λv H5 s5 rv=>?_
    exact⟨ds.length - (i+1),by omega,rfl,hlt,by rw[List.length_append,List.length_singleton];omega,(R3.less back.1 back.2).mono (s4.trans s5),((s2.trans y1).trans s4).trans s5,done++[x],rest',q',by rw[List.append_assoc];exact h2,
     (r2.mono ((y1.trans s4).trans s5).wo).append (RepL.one rv)⟩
 ·have e:i=ds.length:=by omega
  subst e;rw[List.drop_length]at h1;cases h1;rw[List.append_nil]at h2;subst h2;have s0:=s1.trans s2;refine .inl ⟨w.stop H2 s2.wo,λp hp=>fin _ _ (s0.trans (q0w hp)) ?_⟩;have hd:Hid O W H H2:=hd0.mono s0;exact q2s hd hp r2
abbrev E0s:St->XK:=λ_ _ _ _=>False
theorem PE.any{Y:Cx}{e:Expr}{ι:Sort _}{t:ι->TE}(h:∀k,PE Y e (t k)):PE Y e (λσ H Q=>∃k,t k σ H Q):=λpins s σ H Q I ⟨k,q⟩=>h k pins s σ H Q I q
theorem Rc.of_item{r:Option Re}{x:DV}(h:Rc.of r=some (.item x)):∃c,r=some (.ok x c)/\stro x c=true:=by
 unfold Rc.of at h;split at h
 ·rename_i d c;split at h
  ·rename_i m;cases h;exact⟨c,rfl,m⟩
  ·cases h
 ·cases h
theorem Rc.of_skip{r:Option Re}(h:Rc.of r=some .skip):False:=by
 unfold Rc.of at h;split at h
 ·split at h<;>cases h
 ·cases h
theorem q9k{fr:List (Option Nat)}{δ:List Sv}{i:Nat}(h:fr[i]? = some none):(q1U fr δ)[i]? = some .no:=by
 unfold q1U;rw[List.getElem?_map,h];rfl
def q2c(X:Cx)(E:St->XK)(δ:List Sv)(tgE iter:Expr)(ifs:List Expr)(elt:Expr)(scope:Scope)(N':List Str)(fr:List (Option Nat))(tg:Tg)(re:Re):Prop:=
 ∃(x:St->XK) (wi:TI) (tc:TT) (te:XK->TE),z2c X x/\PI X tgE iter wi/\(∀C cells s₂ H₂ fp x1,PTs (q0z X scope N' C cells s₂ H₂ fp x1) ifs tc)/\(∀C cells s₂ H₂ fp x1,PE (q0z X scope N' C cells s₂ H₂ fp x1) elt (te x1)) /\
  ∀σ H Q,dE X.D E δ re σ H Q->z4T fr wi (gT X.K tg) tc (te (x σ)) σ H Q
theorem q5B{iter:Expr}{env:Env}(hset:q3h iter=false):∀x,foldedSetIterable iter env x=pure x:=by cases iter<;>first | (intro _;rfl) | cases hset
theorem q2c.pe(P:q2c X E δ tgE iter ifs elt scope N' fr tg re)(S:CompScope X.N N' scope X.env.scope fr)(hc:X.calm=true)(hG:∀C cells s₂ H₂ fp x1,PG (q0z X scope N' C cells s₂ H₂ fp x1) tgE (gT X.K tg))(hset:q3h iter=false) :
  PE X (.ListComp elt [⟨tgE,iter,ifs,0⟩] scope pos) (dE X.D E δ re):=by
 obtain⟨x,wi,tc,te,hx,h1,h2,h3,h4⟩:=P;exact(z2T (pos:=pos) S hc hx h1 hG h2 h3 (q5B hset)).weak h4
theorem q4Y{evElt:List Sv->Option Re}(S:CompScope X.N N' scope X.env.scope fr)(hc:X.calm=true)(hnd:∀(j k i:Nat),fr[j]? = some (some i)->fr[k]? = some (some i)->j=k)(hsl:∀i∈q3F tg,fr[i]? = some none)(hi:∀q,ri=some q->PI X tgE iter (dI X.D E δ q))
  (hG:∀C cells s₂ H₂ fp x1,PG (q0z X scope N' C cells s₂ H₂ fp x1) tgE (gT X.K tg)) (he:∀δ' r,evElt δ'=some r->∀C cells s₂ H₂ fp x1,PE (q0z X scope N' C cells s₂ H₂ fp x1) elt (dE X.D E0s δ' r))
  (h:(Ri.thn ri λds c=>if c=.weak\/mostLen<ds.length then none else q5y (q3Z (λd=>(tg.bind d (q1U fr δ)).bind λδ'=>Rc.of (evElt δ')) ds))=some re):q2c X E δ tgE iter [] elt scope N' fr tg re:=by
 cases hri:ri with
 | none=>rw[hri]at h;cases h
 | some q=>
  rw[hri]at h;have A:=hi q hri;refine⟨_,_,_,λ_=>_,q6P,A,(λC cells s₂ H₂ fp x1=>z3X),(λC cells s₂ H₂ fp x1=>PE.any (ι:={p:List Sv×Re // evElt p.1=some p.2}) (t:=λk=>dE X.D E0s k.1.1 k.1.2) λk=>he k.1.1 k.1.2 k.2 C cells s₂ H₂ fp x1),?_⟩;cases q with
  | ex c=>cases h;exact λσ H Q ⟨O,W,R,p⟩=>⟨O,W,R,p⟩
  | ok ds c=>
   have h':(if c=.weak\/mostLen<ds.length then none else q5y (q3Z (λd=>(tg.bind d (q1U fr δ)).bind λδ'=>Rc.of (evElt δ')) ds))=some re:=h;split at h'
   ·cases h'
   ·rename_i m;rw[not_or]at m;unfold q5y at h';split at h'
    ·cases h'
    ·rename_i xs hx;cases h';refine λσ H Q ⟨O,W,R,p⟩=>⟨O,W,R,λJ H1 s1 w=>?_⟩
     refine z1y (tg:=tg) (D:=X.D) w R.hid m.1 ((R.mono s1).inner fr hnd) (λi hi=>.inl (q9k (hsl i hi))) (q1P (by omega)) hx s1 (λd rc hm hg=>?_) (λd x hm hg δ' hb σ' H2 s2 R2 K hK=>?_) p
     ·cases hb:tg.bind d (q1U fr δ)with
      | none=>rw[hb]at hg;cases hg
      | some δ'=>
       rw[hb]at hg;refine⟨δ',rfl,λσ' H2 s2 R2 K k1 k2=>?_⟩;cases rc with
       | skip=>exact(Rc.of_skip hg).elim
       | item x=>exact k2 x rfl H2 (Same.refl _)
     ·rw[hb]at hg;obtain⟨cl,e1,e2⟩:=Rc.of_item hg;exact⟨⟨⟨δ',.ok x cl⟩,e1⟩,O,W,R2,λv H3 s3 g3=>hK v H3 s3 (g3.stro (R2.hid.mono s3) e2)⟩
end
end L2
end
noncomputable section
namespace L2
open PySem PySem.Spec PyProof.Rows
def dEnd(D:Dm)(E:St->XK)(H0:Hp)(O:List Addr)(Dn:Ends):Out->Prop
 | .nx δ=>∀σ H W,RSt D H σ δ O W->(∀a∈W,H0 a=none)->Same H0 H->Dn.nx σ H
 | .rt d fr=>∀v H,Same H0 H->GotR D O H0 H d fr v->Dn.rt v H
 | .rtt d=>∀v H,Same H0 H->GotT D O H0 H d v->Dn.rt v H
 | .ex c δ=>∀σ H W C,D.mg c=some C->RSt D H σ δ O W->(∀a∈W,H0 a=none)->Same H0 H->E σ C none H
 | .rtm d s=>∀v H a o,Same H0 H->OdOk s a o->H a=some o->Rep D (L2.wo (O++[a]) H) d v->Dn.rt v H
def dS(D:Dm)(E:St->XK)(δ:List Sv)(o:Out):TS:=λDn σ H=>∃H0 O W,RSt D H σ δ O W/\(∀a∈W,H0 a=none)/\(∀a∈O,H0 a≠none)/\Same H0 H/\dEnd D E H0 O Dn o
section
variable {X:Cx} {E:St->XK} {δ δ1:List Sv} {st:Stmt} {rest body els:List Stmt} {o:Out} {e c:Expr} {pos pos':Pos} {ra:Option Re} {rt:Option Rt} {i:Nat} {x:Str}
theorem z4k:PSs X [] (dS X.D E δ (.nx δ)):=z0B.weak λDn σ H ⟨H0,O,W,R,fr,fo,sm,k⟩=>k σ H W R fr sm
theorem z1s(h1:PS X st (dS X.D E δ (.nx δ1)))(h2:PSs X rest (dS X.D E δ1 o)):PSs X (st::rest) (dS X.D E δ o):=
 (q2k h1 h2).weak λDn σ H ⟨H0,O,W,R,fr,fo,sm,k⟩=>⟨H0,O,W,R,fr,fo,sm,λσ' H' W' R' fr' sm'=>⟨H0,O,W',R',fr',fo,sm',k⟩⟩
theorem z6g{d:DV}{fr:Bool}(h1:PS X st (dS X.D E δ (.rt d fr))):PSs X (st::rest) (dS X.D E δ (.rt d fr)):=
 (q2k h1 q1A).weak λDn σ H ⟨H0,O,W,R,fr,fo,sm,k⟩=>⟨H0,O,W,R,fr,fo,sm,k⟩
theorem z2Q{d:DV}(h1:PS X st (dS X.D E δ (.rtt d))):PSs X (st::rest) (dS X.D E δ (.rtt d)):=
 (q2k h1 q1A).weak λDn σ H ⟨H0,O,W,R,fr,fo,sm,k⟩=>⟨H0,O,W,R,fr,fo,sm,k⟩
theorem z3F{d s:DV}(h1:PS X st (dS X.D E δ (.rtm d s))):PSs X (st::rest) (dS X.D E δ (.rtm d s)):=
 (q2k h1 q1A).weak λDn σ H ⟨H0,O,W,R,fr,fo,sm,k⟩=>⟨H0,O,W,R,fr,fo,sm,k⟩
theorem z6C{c:Str}{δ':List Sv}(h1:PS X st (dS X.D E δ (.ex c δ'))):PSs X (st::rest) (dS X.D E δ (.ex c δ')):=
 (q2k h1 q1A).weak λDn σ H ⟨H0,O,W,R,fr,fo,sm,k⟩=>⟨H0,O,W,R,fr,fo,sm,k⟩
theorem q8n{D:Dm}{H0 H:Hp}{O W:List Addr}{σ:St}{Dn:Ends}{c:Str}{Q:VK}(R:RSt D H σ δ O W)(fr:∀a∈W,H0 a=none)(sm:Same H0 H)(k:dEnd D E H0 O Dn (.ex c δ)):Post D E σ O W H H Q (.ex c):=
 λH' C m s=>k σ H' W C m (R.mono s) fr (sm.trans s)
theorem z5G(hc:∀q,rt=some q->PT X c (dT X.D E δ q)){ro rp:Option Out}(h1:∀q,ro=some q->PSs X body (dS X.D E δ q))(h2:∀q,rp=some q->PSs X els (dS X.D E δ q))(h:(Rt.thnS δ rt λk=>if k then ro else rp)=some o):PS X (.If c body els pos) (dS X.D E δ o):=by
 cases hrt:rt with
 | none=>rw[hrt]at h;cases h
 | some q=>
  rw[hrt]at h;have C:=hc q hrt;cases q with
  | ex c=>cases h;exact(z4I C q1A q1A).weak λDn σ H ⟨H0,O,W,R,fr,fo,sm,k⟩=>⟨O,W,R,λH' C m s=>k σ H' W C m (R.mono s) fr (sm.trans s)⟩
  | ok b=>
   cases b with
   | true=>
    have h':ro=some o:=h;exact(z4I C (h1 o h') q1A).weak λDn σ H ⟨H0,O,W,R,fr,fo,sm,k⟩=>⟨O,W,R,λH1 s1=>iteT ⟨H0,O,W,R.mono s1,fr,fo,sm.trans s1,k⟩⟩
   | false=>
    have h':rp=some o:=h;exact(z4I C q1A (h2 o h')).weak λDn σ H ⟨H0,O,W,R,fr,fo,sm,k⟩=>⟨O,W,R,λH1 s1=>iteF ⟨H0,O,W,R.mono s1,fr,fo,sm.trans s1,k⟩⟩
theorem z4D(ha:∀q,ra=some q->PE X e (dE X.D E δ q))(h:(Re.thnS δ ra λd c=>some (retD d c))=some o):PS X (.Return (some e) pos) (dS X.D E δ o):=by
 cases hra:ra with
 | none=>rw[hra]at h;cases h
 | some q=>
  rw[hra]at h;have A:=ha q hra;cases q with
  | ex c=>cases h;exact(q5Y A).weak λDn σ H ⟨H0,O,W,R,fr,fo,sm,k⟩=>⟨O,W,R,q8n R fr sm k⟩
  | ok d cl=>
   have h2:some (retD d cl)=some o:=h;cases h2;by_cases hft:cl=.ft
   ·subst hft;refine(q5Y A).weak λDn σ H ⟨H0,O,W,R,fr,fo,sm,k⟩=>⟨O,W,R,λv H1 s1 g=>(k:dEnd X.D E H0 O Dn (.rtt d)) v H1 (sm.trans s1) ?_⟩
    obtain⟨t,ts,p,xs,ds,es,e1,e2,e0,e3,e4,e5,e6⟩:=g;have up:Same (L2.wo (p::(O++W)) H1) (L2.wo (p::O) H1):=q0Q λb hb=>by rcases List.mem_cons.mp hb with z | z;exact List.mem_cons.mpr (.inl z);exact List.mem_cons_of_mem _ (List.mem_append_left _ z)
    exact .inl ⟨t,ts,p,xs,ds,es,e1,e2,(q0Q q6p).tseq e0,sm.free e3,e4,e5.mono up,e6.mono up⟩
   have hrt:retD d cl=.rt d (frD d cl):=by cases cl<;>first | rfl | exact absurd rfl hft
   rw[hrt];refine(q5Y A).weak λDn σ H ⟨H0,O,W,R,fr,fo,sm,k⟩=>⟨O,W,R,λv H1 s1 g=>(k:dEnd X.D E H0 O Dn (.rt d (frD d cl))) v H1 (sm.trans s1) ?_⟩
   have hd:=R.hid.mono s1;cases hf:frD d cl with
   | false=>exact g.weak hd
   | true=>
    unfold frD at hf;split at hf
    ·obtain⟨p,xs,ds,e1,e2,e3,e4,e5⟩:=g;exact⟨p,xs,ds,e1,e2,sm.free e3,e4,e5.mono (q0Q λb hb=>by rcases List.mem_cons.mp hb with z | z;exact List.mem_cons.mpr (.inl z);exact List.mem_cons_of_mem _ (List.mem_append_left _ z))⟩
    ·obtain⟨a,xs,e1,e0,e2,e3⟩:=g;exact⟨a,xs,_,e1,rfl,fr a e0,q1B _ _ e2,e3.mono (q0Q λb hb=>by rcases List.mem_cons.mp hb with z | z;rw[z];exact List.mem_append_right _ e0;exact List.mem_append_left _ z)⟩
    ·cases hf
theorem q1H{v:Expr}{t:Option Expr}{l:Nat}{env:Env}(h:q5s v=false):swapsWith v t l env=pure false:=by
 cases v<;>first | rfl | cases h
theorem q1D{O W:List Addr}{p b:Addr}:b∈O++p::W↔b∈p::(O++W):=by
 simp only[List.mem_append,List.mem_cons];constructor
 ·rintro(h | h | h)
  ·exact .inr (.inl h)
  ·exact .inl h
  ·exact .inr (.inr h)
 ·rintro(h | h | h)
  ·exact .inr (.inl h)
  ·exact .inl h
  ·exact .inr (.inr h)
theorem q0c{α:Type}{l:List α}{i j:Nat}{a b:α}(h:(l.set i a)[j]? = some b)(hn:a≠b):j≠i:=λz=>by
 subst z;have hl:j<l.length:=by have:=(List.getElem?_eq_some_iff.mp h).1;rw[List.length_set]at this;exact this
 rw[List.getElem?_set_self hl]at h;exact hn (Option.some.inj h)
theorem q3o{α:Type}{l:List α}{i:Nat}{a b:α}(h:(l.set i a)[i]? = some b):i<l.length/\a=b:=by
 have hl:i<l.length:=(by have:=(List.getElem?_eq_some_iff.mp h).1;rw[List.length_set]at this;exact this);rw[List.getElem?_set_self hl]at h;exact⟨hl,Option.some.inj h⟩
theorem RSt.alloc{D:Dm}{H H':Hp}{σ:St}{O W:List Addr}{p:Addr}{xs:List V}{ds:List DV}(R:RSt D H σ δ O W)(s:Same H H')(hp:H p=none)(hp':H' p=some (.lst xs))(r:RepL D (L2.wo (p::(O++W)) H') ds xs)(i:Nat) :
  RSt D H' (σ.set i (some (.ref p))) (δ.set i (.own (.lst ds))) O (p::W):=by
 have old:Same (L2.wo (O++W) H) (L2.wo (O++p::W) H'):=λb o e=>by obtain⟨hb,e⟩:=q0M e;have hbp:b≠p:=q0u e hp;rw[q0m (λz=>by rcases List.mem_cons.mp (q1D.mp z)with z | z;exact hbp z;exact hb z)];exact s b o e
 have eqv:Same (L2.wo (p::(O++W)) H') (L2.wo (O++p::W) H'):=q0Q λb hb=>q1D.mp hb;refine⟨λj d h=>?_,λj ds' h=>?_,λj k a d1 d2 h1 h2 e1 e2=>?_,?_,λj d h=>by
   have hj:=q0c h (by intro z;cases z);rw[List.getElem?_set_ne (Ne.symm hj)]at h ⊢;obtain⟨⟨p1,L,e0,e1,e2,e3⟩,u,n⟩:=R.o2 j d h;refine⟨⟨p1,L,e0,e1,(e2.mono s).sub λa _ ha=>List.mem_cons_of_mem _ ha,λk d2 a q q2=>?_⟩,λk d2 q=>?_,λk d2 q=>?_⟩
   ·by_cases hk:k=i
    ·subst hk;obtain⟨_,z⟩:=q3o q2;cases z;intro z;obtain⟨_,ys,w⟩:=e2.dom z;rw[hp]at w;cases w
    ·rw[List.getElem?_set_ne (Ne.symm hk)]at q q2;exact e3 k d2 a q q2
   ·have hk:=q0c q (by intro z;cases z);rw[List.getElem?_set_ne (Ne.symm hk)]at q;exact u k d2 q
   ·have hk:=q0c q (by intro z;cases z);rw[List.getElem?_set_ne (Ne.symm hk)]at q;exact n k d2 q,R.od.step (q6E _ (by intro d z;cases z)) (λ_ h _=>List.mem_cons_of_mem _ h) (λa kvs _ h _=>s _ _ h),by rw[List.length_set,List.length_set];exact R.len,⟨λa ha=>?_,Same.refl _,λa ha=>?_,λa ha=>?_,R.hid.omS s⟩⟩
 ·have hj:=q0c h (by intro z;cases z);rw[List.getElem?_set_ne (Ne.symm hj)]at h ⊢;obtain⟨v,e1,e2⟩:=R.val j d h;exact⟨v,e1,e2.mono old⟩
 ·by_cases hj:j=i
  ·subst hj;obtain⟨hl,e⟩:=q3o h;cases e;exact⟨p,xs,ds,rfl,List.getElem?_set_self (by rw[R.len];exact hl),List.mem_cons_self,hp',r.mono eqv⟩
  ·rw[List.getElem?_set_ne (Ne.symm hj)]at h ⊢;obtain⟨a,ys,ds1,e0,e1,e2,e3,e4⟩:=R.own j ds' h;exact⟨a,ys,ds1,e0,e1,List.mem_cons_of_mem _ e2,s _ _ e3,e4.mono old⟩
 ·have key:∀{j:Nat} {d1:DV},(δ.set i (.own (.lst ds)))[j]? = some (.own d1)->(σ.set i (some (.ref p)))[j]? = some (some (V.ref a))->(j=i/\a=p)\/(j≠i/\δ[j]? = some (.own d1)/\σ[j]? = some (some (V.ref a))/\a≠p):=λ{j d1} h e=>by
   by_cases hj:j=i
   ·subst hj;obtain⟨_,z⟩:=q3o e;cases z;exact .inl ⟨rfl,rfl⟩
   ·rw[List.getElem?_set_ne (Ne.symm hj)]at h e;refine .inr ⟨hj,h,e,λz=>?_⟩;obtain⟨a',ys,ds1,_,q1,_,q3,_⟩:=R.own j d1 h;rw[e]at q1;cases q1;rw[z,hp]at q3;cases q3
  rcases key h1 e1 with⟨z1,z2⟩ | ⟨z1,z2,z3,z4⟩<;>rcases key h2 e2 with⟨y1,y2⟩ | ⟨y1,y2,y3,y4⟩
  ·rw[z1,y1]
  ·exact absurd z2 y4
  ·exact absurd y2 z4
  ·exact R.inj j k a d1 d2 z2 y2 z3 y3
 ·obtain⟨P,f,u⟩:=R.ot;refine⟨P,λj d h=>?_,λj k d1 d2 h1 h2=>?_⟩
  ·have hj:=q0c h (by intro z;cases z);rw[List.getElem?_set_ne (Ne.symm hj)]at h ⊢;obtain⟨t,ts,e1,e2,e3,e4⟩:=f j d h;refine⟨t,ts,e1,old.tseq e2,e3.mono old λp1 _ ys q=>s _ _ q,λp1 hp1=>⟨List.mem_cons_of_mem _ (e4 p1 hp1).1,(e4 p1 hp1).2.1.imp λys q=>s _ _ q,λk d2 q=>?_⟩⟩;by_cases hk:k=i
   ·subst hk;intro z;obtain⟨_,z⟩:=q3o z;obtain⟨ys,y⟩:=(e4 p1 hp1).2.1;cases z;rw[hp]at y;cases y
   ·rw[List.getElem?_set_ne (Ne.symm hk)]at q ⊢;exact(e4 p1 hp1).2.2 k d2 q
  ·rw[List.getElem?_set_ne (Ne.symm (q0c h1 (by intro z;cases z)))]at h1;rw[List.getElem?_set_ne (Ne.symm (q0c h2 (by intro z;cases z)))]at h2;exact u j k d1 d2 h1 h2
 ·rcases List.mem_cons.mp (q1D.mp ha)with z | z
  ·rw[z,hp'];intro q;cases q
  ·intro q;exact R.hid.ot a z (s.free q)
 ·rcases List.mem_cons.mp ha with z | z
  ·exact⟨_,by rw[z];exact hp',rfl⟩
  ·obtain⟨ys,q,m⟩:=R.hid.wl a z;exact⟨ys,s _ _ q,m⟩
 ·rcases List.mem_cons.mp ha with z | z
  ·intro q;exact R.hid.ot p (List.mem_append_left _ (by rw[←z];exact q)) hp
  ·exact R.hid.dj a z
theorem z0p{i:Nat}{δ:List Sv}(h:noOt i δ=true){j:Nat}{d:DV}(q:δ[j]? = some (.ot d)):j=i:=by
 unfold noOt at h;rw[List.all_eq_true]at h;have hj:j<δ.length:=(List.getElem?_eq_some_iff.mp q).1;have:=h j (List.mem_range.mpr hj);rw[q]at this;simpa using this
theorem q9p{i:Nat}{δ:List Sv}(h:noOt i δ=true){j:Nat}{d:DV}(q:δ[j]? = some (.o2 d)):j=i:=by
 unfold noOt at h;rw[List.all_eq_true]at h;have hj:j<δ.length:=(List.getElem?_eq_some_iff.mp q).1;have:=h j (List.mem_range.mpr hj);rw[q]at this;simpa using this
theorem q9H{i:Nat}{δ:List Sv}(h:noOt i δ=true){j:Nat}{d:DV}(q:δ[j]? = some (.od d)):j=i:=by
 unfold noOt at h;rw[List.all_eq_true]at h;have hj:j<δ.length:=(List.getElem?_eq_some_iff.mp q).1;have:=h j (List.mem_range.mpr hj);rw[q]at this;simpa using this
theorem RSt.allocT{D:Dm}{H H':Hp}{σ:St}{O W:List Addr}{t p:Addr}{ts xs:List V}{ds es:List DV}(R:RSt D H σ δ O W)(s:Same H H')(ht:SqT D.K (L2.wo (O++W) H') t (.ref p::ts))(hp:H p=none)(hp':H' p=some (.lst xs))(r:RepL D (L2.wo (p::(O++W)) H') ds xs)(r2:RepL D (L2.wo (p::(O++W)) H') es ts)(i:Nat)(hno:noOt i δ=true) :
  RSt D H' (σ.set i (some (.ref t))) (δ.set i (.ot (.tup (.lst ds::es)))) O (p::W):=by
 have old:Same (L2.wo (O++W) H) (L2.wo (O++p::W) H'):=λb o e=>by obtain⟨hb,e⟩:=q0M e;have hbp:b≠p:=q0u e hp;rw[q0m (λz=>by rcases List.mem_cons.mp (q1D.mp z)with z | z;exact hbp z;exact hb z)];exact s b o e
 have eqv:Same (L2.wo (p::(O++W)) H') (L2.wo (O++p::W) H'):=q0Q λb hb=>q1D.mp hb;have ht':SqT D.K (L2.wo (O++p::W) H') t (.ref p::ts):=by
  have ne:∀{o:HO},L2.wo (O++W) H' t=some o->(∀ys,o ≠ .lst ys)->L2.wo (O++p::W) H' t=some o:=λ{o} e ho=>by
   obtain⟨hb,e⟩:=q0M e;rw[q0m (λz=>by
    rcases List.mem_cons.mp (q1D.mp z)with z | z
    ·rw[z,hp']at e;cases e;exact ho _ rfl
    ·exact hb z)]
   exact e
  rcases ht with(h | ⟨o,h⟩) | h
  ·exact .inl (.inl (ne h (by intro ys z;cases z)))
  ·exact .inl (.inr ⟨o,ne h (by intro ys z;cases z)⟩)
  ·exact .inr h
 refine⟨λj d h=>?_,λj ds' h=>?_,λj k a d1 d2 h1 h2 e1 e2=>?_,?_,λj d h=>absurd (q9p hno (by have hj:=q0c h (by intro z;cases z);rw[List.getElem?_set_ne (Ne.symm hj)]at h;exact h)) (q0c h (by intro z;cases z)),R.od.step (q6E _ (by intro d z;cases z)) (λ_ h _=>List.mem_cons_of_mem _ h) (λa kvs _ h _=>s _ _ h),by rw[List.length_set,List.length_set];exact R.len,⟨λa ha=>?_,Same.refl _,λa ha=>?_,λa ha=>?_,R.hid.omS s⟩⟩
 ·have hj:=q0c h (by intro z;cases z);rw[List.getElem?_set_ne (Ne.symm hj)]at h ⊢;obtain⟨v,e1,e2⟩:=R.val j d h;exact⟨v,e1,e2.mono old⟩
 ·have hj:=q0c h (by intro z;cases z);rw[List.getElem?_set_ne (Ne.symm hj)]at h ⊢;obtain⟨a,ys,ds1,e0,e1,e2,e3,e4⟩:=R.own j ds' h;exact⟨a,ys,ds1,e0,e1,List.mem_cons_of_mem _ e2,s _ _ e3,e4.mono old⟩
 ·have n1:=q0c h1 (by intro z;cases z);have n2:=q0c h2 (by intro z;cases z);rw[List.getElem?_set_ne (Ne.symm n1)]at h1 e1;rw[List.getElem?_set_ne (Ne.symm n2)]at h2 e2;exact R.inj j k a d1 d2 h1 h2 e1 e2
 ·have at':∀{j:Nat} {d:DV},(δ.set i (.ot (.tup (.lst ds::es))))[j]? = some (.ot d)->j=i:=λ{j d} h=>by
   by_cases hj:j=i
   ·exact hj
   ·rw[List.getElem?_set_ne (Ne.symm hj)]at h;exact z0p hno h
  refine⟨λ_=>[p],λj d h=>?_,λj k d1 d2 h1 h2 ne=>absurd ((at' h1).trans (at' h2).symm) ne⟩;have hj:=at' h;subst hj;obtain⟨hl,e⟩:=q3o h;cases e;refine⟨t,_,List.getElem?_set_self (by rw[R.len];exact hl),ht',.inl ⟨p,xs,ds,es,ts,rfl,rfl,rfl,hp',r.mono eqv,r2.mono eqv⟩,λp1 hp1=>?_⟩;rw[List.mem_singleton.mp hp1];refine⟨List.mem_cons_self,⟨xs,hp'⟩,λk d2 q=>?_⟩;have hk:=q0c q (by intro z;cases z);rw[List.getElem?_set_ne (Ne.symm hk)]at q ⊢;intro z;obtain⟨a,ys,ds1,f0,f1,f2,f3,f4⟩:=R.own k d2 q;rw[z]at f1;cases f1;rw[hp]at f3;cases f3
 ·rcases List.mem_cons.mp (q1D.mp ha)with z | z
  ·rw[z,hp'];intro q;cases q
  ·intro q;exact R.hid.ot a z (s.free q)
 ·rcases List.mem_cons.mp ha with z | z
  ·exact⟨_,by rw[z];exact hp',rfl⟩
  ·obtain⟨ys,q,m⟩:=R.hid.wl a z;exact⟨ys,s _ _ q,m⟩
 ·rcases List.mem_cons.mp ha with z | z
  ·intro q;exact R.hid.ot p (List.mem_append_left _ (by rw[←z];exact q)) hp
  ·exact R.hid.dj a z
theorem RSt.write{D:Dm}{H:Hp}{σ:St}{O W:List Addr}{a:Addr}{xs':List V}{ds ds':List DV}(R:RSt D H σ δ O W)(hi:δ[i]? = some (.own (.lst ds)))(ha:σ[i]? = some (some (.ref a)))(r:RepL D (L2.wo (O++W) H) ds' xs') :
  RSt D (upd H a (.lst xs')) σ (δ.set i (.own (.lst ds'))) O W:=by
 obtain⟨a',xs,ds0,e0,e1,e2,e3,e4⟩:=R.own i _ hi;rw[ha]at e1;cases e1;have old:Same (L2.wo (O++W) H) (L2.wo (O++W) (upd H a (.lst xs'))):=λb o e=>by obtain⟨hb,e⟩:=q0M e;rw[q0m hb,q0j λz=>hb (by rw[z];exact List.mem_append_right _ e2)];exact e
 have hl:i<δ.length:=(List.getElem?_eq_some_iff.mp hi).1;refine⟨λj d h=>?_,λj ds'' h=>?_,λj k b d1 d2 h1 h2 q1 q2=>?_,?_,λj d h=>by
   have hj:=q0c h (by intro z;cases z);rw[List.getElem?_set_ne (Ne.symm hj)]at h;obtain⟨⟨p1,L,f0,f1,f2,f3⟩,u,n⟩:=R.o2 j d h;refine⟨⟨p1,L,f0,f1,f2.write (f3 i _ a hi ha),λk d2 b q q2=>?_⟩,λk d2 q=>?_,λk d2 q=>?_⟩
   ·by_cases hk:k=i
    ·subst hk;exact f3 k _ b hi q2
    ·rw[List.getElem?_set_ne (Ne.symm hk)]at q;exact f3 k d2 b q q2
   ·have hk:=q0c q (by intro z;cases z);rw[List.getElem?_set_ne (Ne.symm hk)]at q;exact u k d2 q
   ·have hk:=q0c q (by intro z;cases z);rw[List.getElem?_set_ne (Ne.symm hk)]at q;exact n k d2 q,R.od.step (q9d (by intro d z;cases z)) (λ_ h _=>h) (λb kvs _ h m=>by rw[q0j (λz=>by rw[z,e3]at h;cases h;cases m)];exact h),by rw[List.length_set];exact R.len,⟨λb hb q=>?_,Same.refl _,λb hb=>?_,R.hid.dj,R.hid.omW (by assumption)⟩⟩
 ·have hj:=q0c h (by intro z;cases z);rw[List.getElem?_set_ne (Ne.symm hj)]at h;obtain⟨v,q1,q2⟩:=R.val j d h;exact⟨v,q1,q2.mono old⟩
 ·by_cases hj:j=i
  ·subst hj;obtain⟨_,e⟩:=q3o h;cases e;exact⟨a,xs',ds',rfl,ha,e2,q0v,r.mono old⟩
  ·rw[List.getElem?_set_ne (Ne.symm hj)]at h;obtain⟨b,ys,ds1,q0,q1,q2,q3,q4⟩:=R.own j ds'' h;refine⟨b,ys,ds1,q0,q1,q2,?_,q4.mono old⟩;rw[q0j λz=>hj (R.inj j i a ds'' _ h hi (by rw[←z];exact q1) ha)];exact q3
 ·have key:∀{j:Nat} {d1:DV},(δ.set i (.own (.lst ds')))[j]? = some (.own d1)->∃d0,δ[j]? = some (.own d0):=λ{j d1} h=>by
   by_cases hj:j=i
   ·subst hj;exact⟨_,hi⟩
   ·rw[List.getElem?_set_ne (Ne.symm hj)]at h;exact⟨d1,h⟩
  obtain⟨d1',z1⟩:=key h1;obtain⟨d2',z2⟩:=key h2;exact R.inj j k b d1' d2' z1 z2 q1 q2
 ·obtain⟨P,f,u⟩:=R.ot;refine⟨P,λj d h=>?_,λj k d1 d2 h1 h2=>?_⟩
  ·have hj:=q0c h (by intro z;cases z);rw[List.getElem?_set_ne (Ne.symm hj)]at h;obtain⟨t,ts,f1,f2,f3,f4⟩:=f j d h;have un:∀p1∈P j,∀ys,H p1=some (.lst ys)->upd H a (.lst xs') p1=some (.lst ys):=λp1 hp1 ys q=>by
    rw[q0j λz=>(f4 p1 hp1).2.2 i _ hi (by rw[z];exact ha)];exact q
   refine⟨t,ts,f1,old.tseq f2,f3.mono old un,λp1 hp1=>⟨(f4 p1 hp1).1,(f4 p1 hp1).2.1.imp λys q=>un p1 hp1 ys q,λk d2 q=>?_⟩⟩;by_cases hk:k=i
   ·subst hk;exact(f4 p1 hp1).2.2 k _ hi
   ·rw[List.getElem?_set_ne (Ne.symm hk)]at q;exact(f4 p1 hp1).2.2 k d2 q
  ·rw[List.getElem?_set_ne (Ne.symm (q0c h1 (by intro z;cases z)))]at h1;rw[List.getElem?_set_ne (Ne.symm (q0c h2 (by intro z;cases z)))]at h2;exact u j k d1 d2 h1 h2
 ·by_cases hba:b=a
  ·rw[hba,q0v]at q;cases q
  ·rw[q0j hba]at q;exact R.hid.ot b hb q
 ·by_cases hba:b=a
  ·exact⟨_,by rw[hba];exact q0v,rfl⟩
  ·obtain⟨ys,q,m⟩:=R.hid.wl b hb;exact⟨ys,by rw[q0j hba];exact q,m⟩
theorem q5o{H0 H:Hp}{a:Addr}{o:HO}(h:Same H0 H)(ha:H0 a=none):Same H0 (upd H a o):=λb u e=>by
 rw[q0j (q0u e ha)];exact h b u e
theorem z2E{Dn:Ends}{σ:St}{H H0:Hp}{O W:List Addr}{own:Bool}{d:DV}{cl:Cl}{D:Dm}(h:(if own then q4J i δ d cl else(if stro d cl then some (.nx (δ.set i (.val d)))else none))=some o)
  (R:RSt D H σ δ O W) (fr:∀a∈W,H0 a=none) (sm:Same H0 H) (k:dEnd D E H0 O Dn o):∀v H',Same H H'->Got D O W H H' d cl v->Dn.nx (σ.set i (some v)) H':=λv H1 s1 g=>by
 cases own with
 | true=>
  simp only[if_true]at h;unfold q4J at h;split at h
  ·cases h;obtain⟨p,xs,ds,e1,e2,e3,e4,e5⟩:=g;subst e1 e2;exact k _ H1 (p::W) (R.alloc s1 e3 e4 e5 i) (λa ha=>by
    rcases List.mem_cons.mp ha with z | z
    ·rw[z];exact sm.free e3
    ·exact fr a z) (sm.trans s1)
  ·split at h
   ·rename_i hno;cases h;obtain⟨t,ts,p,xs,ds,es,e1,e2,e0,e3,e4,e5,e6⟩:=g;subst e1 e2;exact k _ H1 (p::W) (R.allocT s1 e0 e3 e4 e5 e6 i hno) (λa ha=>by
     rcases List.mem_cons.mp ha with z | z
     ·rw[z];exact sm.free e3
     ·exact fr a z) (sm.trans s1)
   ·cases h
  ·cases h
 | false=>
  simp only[Bool.false_eq_true,if_false]at h;split at h
  ·rename_i m;cases h;exact k _ H1 W ((R.mono s1).setVal (g.stro (R.hid.mono s1) m) i) fr (sm.trans s1)
  ·cases h
theorem z0M{own:Bool}(hN:X.N.Nodup)(hi:X.N[i]? = some x)(hx:Loc X.env.scope x)(hf:X.fn x=true\/X.env.scope.names.lookup x=some .local)(ha:∀q,ra=some q->PE X e (dE X.D E δ q))(hc:swapsWith e (some (.Name x pos')) pos.line X.env=pure false)
  (h:(Re.thnS δ ra λd c=>if own then q4J i δ d c else(if stro d c then some (.nx (δ.set i (.val d)))else none))=some o):PS X (.Assign [.Name x pos'] e pos) (dS X.D E δ o):=by
 cases hra:ra with
 | none=>rw[hra]at h;cases h
 | some q=>
  rw[hra]at h;have A:=ha q hra;cases q with
  | ex c=>cases h;exact(q4H hN hi hx A hc hf).weak λDn σ H ⟨H0,O,W,R,fr,fo,sm,k⟩=>⟨O,W,R,q8n R fr sm k⟩
  | ok d cl=>exact(q4H hN hi hx A hc hf).weak λDn σ H ⟨H0,O,W,R,fr,fo,sm,k⟩=>⟨O,W,R,z2E h R fr sm k⟩
theorem q7p{own:Bool}{tgE iter elt:Expr}{ifs:List Expr}{scope:Scope}{N':List Str}{fr:List (Option Nat)}{tg:Tg}{re:Re}(S:CompScope X.N N' scope X.env.scope fr)(hc:X.calm=true)(hN:X.N.Nodup)(hi:X.N[i]? = some x)(hx:X.env.scope.names.lookup x=some .local)
  (P:q2c X E δ tgE iter ifs elt scope N' fr tg re) (hG:∀C cells s₂ H₂ fp x1,PG (q0z X scope N' C cells s₂ H₂ fp x1) tgE (gT X.K tg)) (hset:q3h iter=false) {cpos:Pos} (hsw:swapsWith (.ListComp elt [⟨tgE,iter,ifs,0⟩] scope cpos) (some (.Name x pos')) pos.line X.env=pure true)
  (h:(Re.thnS δ (some re) λd c=>if own then q4J i δ d c else(if stro d c then some (.nx (δ.set i (.val d)))else none))=some o):PS X (.Assign [.Name x pos'] (.ListComp elt [⟨tgE,iter,ifs,0⟩] scope cpos) pos) (dS X.D E δ o):=by
 obtain⟨xE,wi,tc,te,hX,h1,h2,h3,h4⟩:=P;refine(q8F S hc hX hN hi hx h1 hG h2 h3 hsw (q5B hset)).weak λDn σ H ⟨H0,O,W,R,fr,fo,sm,k⟩=>?_
 unfold tAsg;refine h4 σ H _ ⟨O,W,R,?_⟩;cases re with
 | ex c=>cases h;exact q8n R fr sm k
 | ok d cl=>exact z2E h R fr sm k
theorem q8f{apos cpos npos:Pos}(hv:PE X (.Name x npos) (tVar i))(he:∀q,ra=some q->PE X e (dE X.D E δ q))(hs:q0s e=false)(hline:(apos.endLine==cpos.line)=true)
  (h:(match δ[i]? with
   | some (.own (.lst ds))=>Re.thnS δ ra λd c=>if stro d c/\ds.length<mostLen then some (.nx (δ.set i (.own (.lst (ds++[d])))))else none
   | _=>none)=some o):PS X (.Expr (.Call (.Attribute (.Name x npos) "append" apos) [e] [] cpos) pos) (dS X.D E δ o):=by
 split at h
 ·rename_i ds hi;have C:=λt (hA:PE X e t)=>q8S (pos:=pos) (z5D PySem.F.plainAttrs_list PySem.F.slot_list_append PySem.F.type_list_append q9j hv (q1u hA q2T (q0A hs)) rfl (by rw[q0A hs];rfl) hline (q0A hs) rfl) rfl
  cases hra:ra with
  | none=>rw[hra]at h;cases h
  | some q=>
   rw[hra]at h;have A:=he q hra;cases q with
   | ex c=>
    cases h;exact(C _ A).weak λDn σ H ⟨H0,O,W,R,fr,fo,sm,k⟩=>by obtain⟨a,xs,ds0,e0,e1,e2,e3,e4⟩:=R.own i _ hi;exact⟨.ref a,e1,.inl ⟨rfl,xs,SqL.of e3⟩,O,W,R,q8n (Q:=λ_ _=>False) R fr sm k⟩
   | ok d cl=>
    have h':(if stro d cl/\ds.length<mostLen then some (Out.nx (δ.set i (.own (.lst (ds++[d])))))else none)=some o:=h;split at h'
    ·rename_i m;cases h';exact(C _ A).weak λDn σ H ⟨H0,O,W,R,fr,fo,sm,k⟩=>by obtain⟨a,xs,ds0,e0,e1,e2,e3,e4⟩:=R.own i _ hi;cases e0;refine⟨.ref a,e1,.inl ⟨rfl,xs,SqL.of e3⟩,O,W,R,λv H1 s1 g=>?_⟩;have R1:=R.mono s1;refine⟨a,xs,v,rfl,rfl,s1 _ _ e3,by rw[e4.length];exact Nat.lt_of_lt_of_le m.2 (by decide),?_⟩;exact k σ _ W (R1.write hi e1 ((e4.mono s1.wo).append (RepL.one (g.stro (R.hid.mono s1) m.1)))) fr (q5o (sm.trans s1) (fr a e2))
    ·cases h'
 ·cases h
theorem RSt.freeze{D:Dm}{H:Hp}{σ:St}{O W:List Addr}{d:DV}(R:RSt D H σ δ O W)(hi:δ[i]? = some (.own d)):∃W',(∀a∈W',a∈W)/\RSt D H σ (δ.set i (.val d)) O W':=by
 obtain⟨a,xs,ds,e0,e1,e2,e3,e4⟩:=R.own i d hi;subst e0;have hl:i<δ.length:=(List.getElem?_eq_some_iff.mp hi).1;have sub:∀b∈O++W.filter (λb=>decide (b≠a)),b∈O++W:=λb hb=>by
  rcases List.mem_append.mp hb with z | z
  ·exact List.mem_append_left _ z
  ·exact List.mem_append_right _ (List.mem_filter.mp z).1
 have hao:a∉O++W.filter (λb=>decide (b≠a)):=λz=>by
  rcases List.mem_append.mp z with z | z
  ·exact R.hid.dj a e2 z
  ·exact absurd rfl (of_decide_eq_true (List.mem_filter.mp z).2)
 refine⟨W.filter λb=>decide (b≠a),λb hb=>(List.mem_filter.mp hb).1,⟨λj d h=>?_,λj ds' h=>?_,λj k b d1 d2 h1 h2 q1 q2=>?_,?_,λj d h=>by
   have hj:=q0c h (by intro z;cases z);rw[List.getElem?_set_ne (Ne.symm hj)]at h;obtain⟨⟨p1,L,f0,f1,f2,f3⟩,u,n⟩:=R.o2 j d h;refine⟨⟨p1,L,f0,f1,f2.sub λb hb hbw=>List.mem_filter.mpr ⟨hbw,decide_eq_true λz=>f3 i _ a hi e1 (by rw[←z];exact hb)⟩,λk d2 b q q2=>?_⟩,λk d2 q=>?_,λk d2 q=>?_⟩
   ·have hk:=q0c q (by intro z;cases z);rw[List.getElem?_set_ne (Ne.symm hk)]at q;exact f3 k d2 b q q2
   ·have hk:=q0c q (by intro z;cases z);rw[List.getElem?_set_ne (Ne.symm hk)]at q;exact u k d2 q
   ·have hk:=q0c q (by intro z;cases z);rw[List.getElem?_set_ne (Ne.symm hk)]at q;exact n k d2 q,R.od.step (q9d (by intro d z;cases z)) (λb hb ⟨kvs,h,m⟩=>List.mem_filter.mpr ⟨hb,decide_eq_true λz=>by rw[z,e3]at h;cases h;cases m⟩) (λ_ _ _ h _=>h),by rw[List.length_set];exact R.len,
  ⟨λb hb=>R.hid.ot b (sub b hb),Same.refl _,λb hb=>R.hid.wl b (List.mem_filter.mp hb).1,λb hb=>R.hid.dj b (List.mem_filter.mp hb).1,R.hid.om⟩⟩⟩
 ·by_cases hj:j=i
  ·subst hj;obtain⟨_,e⟩:=q3o h;cases e;exact⟨.ref a,e1,q0G.mpr ⟨a,xs,rfl,by rw[q0m hao];exact e3,e4.mono (q0Q sub)⟩⟩
  ·rw[List.getElem?_set_ne (Ne.symm hj)]at h;obtain⟨v,q1,q2⟩:=R.val j d h;exact⟨v,q1,q2.mono (q0Q sub)⟩
 ·have hj:=q0c h (by intro z;cases z);rw[List.getElem?_set_ne (Ne.symm hj)]at h;obtain⟨b,ys,ds1,q0,q1,q2,q3,q4⟩:=R.own j ds' h;refine⟨b,ys,ds1,q0,q1,List.mem_filter.mpr ⟨q2,decide_eq_true λz=>hj (R.inj j i a ds' _ h hi (by rw[←z];exact q1) e1)⟩,q3,q4.mono (q0Q sub)⟩
 ·have n1:=q0c h1 (by intro z;cases z);have n2:=q0c h2 (by intro z;cases z);rw[List.getElem?_set_ne (Ne.symm n1)]at h1;rw[List.getElem?_set_ne (Ne.symm n2)]at h2;exact R.inj j k b d1 d2 h1 h2 q1 q2
 ·obtain⟨P,f,u⟩:=R.ot;refine⟨P,λj d h=>?_,λj k d1 d2 h1 h2=>?_⟩
  ·have hj:=q0c h (by intro z;cases z);rw[List.getElem?_set_ne (Ne.symm hj)]at h;obtain⟨t,ts,f1,f2,f3,f4⟩:=f j d h;refine⟨t,ts,f1,(q0Q sub).tseq f2,f3.mono (q0Q sub) λ_ _ _ q=>q,λp1 hp1=>⟨List.mem_filter.mpr ⟨(f4 p1 hp1).1,decide_eq_true λz=>(f4 p1 hp1).2.2 i _ hi (by rw[z];exact e1)⟩,(f4 p1 hp1).2.1,λk d2 q=>?_⟩⟩;have hk:=q0c q (by intro z;cases z);rw[List.getElem?_set_ne (Ne.symm hk)]at q;exact(f4 p1 hp1).2.2 k d2 q
  ·rw[List.getElem?_set_ne (Ne.symm (q0c h1 (by intro z;cases z)))]at h1;rw[List.getElem?_set_ne (Ne.symm (q0c h2 (by intro z;cases z)))]at h2;exact u j k d1 d2 h1 h2
theorem q8j{d:DV}(hi:δ[i]? = some (.own d))(h:PSs X rest (dS X.D E (δ.set i (.val d)) o)):PSs X rest (dS X.D E δ o):=h.weak λDn σ H ⟨H0,O,W,R,fr,fo,sm,k⟩=>by
 obtain⟨W',hs,R'⟩:=R.freeze hi;exact⟨H0,O,W',R',λa ha=>fr a (hs a ha),fo,sm,k⟩
end
end L2
end
noncomputable section
namespace L2
open PySem PySem.Spec PyProof.Rows
theorem PSs.any{X:Cx}{body:List Stmt}{ι:Sort _}{t:ι->TS}(h:∀k,PSs X body (t k)):PSs X body (λD σ H=>∃k,t k D σ H):=λpins s σ H D I ⟨k,q⟩=>h k pins s σ H D I q
theorem PT.any{X:Cx}{e:Expr}{ι:Sort _}{t:ι->TT}(h:∀k,PT X e (t k)):PT X e (λσ H Q=>∃k,t k σ H Q):=λpins s σ H Q I ⟨k,q⟩=>h k pins s σ H Q I q
structure Lp(H0 H1:Hp)(O W:List Addr):Prop where
 out:∀{H:Hp},Same (L2.wo W H1) H->Same H0 H
 outW:∀{a:Addr},L2.wo W H1 a=none->H0 a=none
 in1:∀a∈W,L2.wo W H1 a=none
 in2:∀a∈O,L2.wo W H1 a≠none
 wsame:∀{H:Hp},Same (L2.wo W H1) H->Same (L2.wo (O++W) H1) (L2.wo (O++W) H)
theorem Lp.mk'{H0 H1:Hp}{O W:List Addr}(fr:∀a∈W,H0 a=none)(fo:∀a∈O,H0 a≠none)(sm:Same H0 H1):Lp H0 H1 O W where
 out:=λ{H} s b u e=>s b u (by
  rw[q0m λz=>by rw[fr b z]at e;cases e];exact sm b u e)
 outW:=λ{a} q=>by
  by_cases z:a∈W
  ·exact fr a z
  ·rw[q0m z]at q;exact sm.free q
 in1:=λa ha=>z2Y ha
 in2:=λa ha=>by rw[q0m λz=>fo a ha (fr a z)];intro q;exact fo a ha (sm.free q)
 wsame:=λ{H} s b u e=>by obtain⟨hb,e⟩:=q0M e;rw[q0m hb];exact s b u (by rw[q0m λz=>hb (List.mem_append_right _ z)];exact e)
theorem Lp.gotR{H0 H1:Hp}{O W:List Addr}{D:Dm}{H:Hp}{d:DV}{fr:Bool}{v:V}(L:Lp H0 H1 O W)(g:GotR D O (L2.wo W H1) H d fr v):GotR D O H0 H d fr v:=by
 cases fr with
 | false=>exact g
 | true=>
  obtain⟨p,xs,ds,e1,e2,e3,e4,e5⟩:=g;exact⟨p,xs,ds,e1,e2,L.outW e3,e4,e5⟩
theorem Lp.gotT{H0 H1:Hp}{O W:List Addr}{D:Dm}{H:Hp}{d:DV}{v:V}(L:Lp H0 H1 O W)(g:GotT D O (L2.wo W H1) H d v):GotT D O H0 H d v:=by
 rcases g with⟨t,ts,p,xs,ds,es,e1,e2,e0,e3,e4,e5,e6⟩ | ⟨xs,e1,e2⟩ | g
 ·exact .inl ⟨t,ts,p,xs,ds,es,e1,e2,e0,L.outW e3,e4,e5,e6⟩
 ·exact .inr (.inl ⟨xs,e1,e2.since λa ha=>L.outW ha⟩)
 ·exact .inr (.inr (g.since λa ha=>L.outW ha))
section
variable {X:Cx} {E:St->XK} {δ:List Sv} {tgE iter c:Expr} {body:List Stmt} {o:Out} {pos:Pos} {tg:Tg} {ri:Option Ri} {evB:List Sv->Option Out} {evC:List Sv->Option Rt}
theorem z3g(hp:PassesOwn (model X.prog X.w) X.A X.env X.xe)(hc:X.calm=true)(hi:∀q,ri=some q->PI X tgE iter (dI X.D E δ q))(hG:PG X tgE (gT X.K tg))(hb:∀δ' o,evB δ'=some o->PSs X body (dS X.D E δ' o))(hset:q3h iter=false)
  (h:(Ri.thnS δ ri λds c=>if c=.strong\/c=.fresh then q1m tg evB ds δ else none)=some o):PS X (.For tgE iter body [] pos) (dS X.D E δ o):=by
 have B:PSs X body (λD σ H=>∃k:{p:List Sv×Out // evB p.1=some p.2},dS X.D E k.1.1 k.1.2 D σ H):=PSs.any λk=>hb k.1.1 k.1.2 k.2;cases hri:ri with
 | none=>rw[hri]at h;cases h
 | some q=>
  rw[hri]at h;have A:=hi q hri;cases q with
  | ex c=>cases h;exact(z2l hp hc A hG B (q5B hset)).weak λDn σ H ⟨H0,O,W,R,fr,fo,sm,k⟩=>⟨O,W,R,λH' C m s=>k σ H' W C m (R.mono s) fr (sm.trans s)⟩
  | ok ds c=>
   have h':(if c=.strong\/c=.fresh then q1m tg evB ds δ else none)=some o:=h;split at h'
   ·rename_i m;refine(z2l hp hc A hG B (q5B hset)).weak λDn σ H ⟨H0,O,W,R,fr,fo,sm,k⟩=>⟨O,W,R,λJ H1 s1 w=>?_⟩
    have R1:=R.mono s1;have L:=Lp.mk' fr fo (sm.trans s1);have w:Wk X.D J ds (O++W) (O++W) H1:=(by rcases m with m | m<;>subst m<;>exact w);refine⟨λi n σ H=>n=ds.length - i/\i<=ds.length/\∃δi W',q1m tg evB (ds.drop i) δi=some o/\RSt X.D H σ δi O W'/\(∀a∈W',L2.wo W H1 a=none)/\Same (L2.wo W H1) H,
     ⟨ds.length,rfl,Nat.zero_le _,δ,W,h',R1,L.in1,q1B⟩,?_⟩
    rintro i n σ2 H2 ⟨rfl,hi,δi,W2,hgo,R2,b1,b2⟩
    by_cases hlt:i<ds.length
    ·refine .inr ⟨w.go i H2 (L.wsame b2) hlt,λσ H=>∃δi W',q1m tg evB (ds.drop (i+1)) δi=some o/\RSt X.D H σ δi O W'/\(∀a∈W',L2.wo W H1 a=none)/\Same (L2.wo W H1) H,
      λσ' H' q=>⟨ds.length - (i+1),by omega,rfl,hlt,q⟩,λx H3 y=>?_⟩
     have y1:=w.same i H2 x H3 y;have y3:Rep X.D (L2.wo (O++W2) H3) ds[i] x:=w.yld i H2 x H3 _ (O++W2) (L.wsame b2) (L.wsame b2) y (List.getElem?_eq_getElem hlt) λa ha=>⟨R2.hid.ot a ha,by
      rcases List.mem_append.mp ha with z | z
      ·exact .inl (List.mem_append_left _ z)
      ·have q:=b1 a z;by_cases hw:a∈W
       ·exact .inl (List.mem_append_right _ hw)
       ·rw[q0m hw]at q;exact .inr q⟩
     rw[List.drop_eq_getElem_cons hlt]at hgo;unfold q1m at hgo;split at hgo
     ·cases hgo
     ·rename_i δ1 hb1;refine q7e (R2.mono y1) y3 hb1 λσ3 R3=>?_
      split at hgo
      ·rename_i δ2 hev;exact⟨⟨⟨δ1,.nx δ2⟩,hev⟩,L2.wo W H1,O,W2,R3,b1,L.in2,b2.trans y1,λσ' H' W' R' fr' sm'=>⟨δ2,W',hgo,R',fr',sm'⟩⟩
      ·rename_i hne;refine⟨⟨⟨δ1,o⟩,hgo⟩,L2.wo W H1,O,W2,R3,b1,L.in2,b2.trans y1,?_⟩;cases o with
       | nx δ2=>exact absurd hgo (hne δ2)
       | rt d fr'=>exact λv H' s' g=>k v H' (L.out s') (L.gotR g)
       | rtt d=>exact λv H' s' g=>k v H' (L.out s') (L.gotT g)
       | rtm d s=>exact λv H' a o s'=>k v H' a o (L.out s')
       | ex c' δ'=>exact λσ' H' W' C m R' fr' sm'=>k σ' H' W' C m R' (λa ha=>L.outW (fr' a ha)) (L.out sm')
    ·have e:i=ds.length:=by omega
     subst e;rw[List.drop_length]at hgo;cases hgo;exact .inl ⟨w.stop H2 (L.wsame b2),k σ2 H2 W2 R2 (λa ha=>L.outW (b1 a ha)) (L.out b2)⟩
   ·cases h'
theorem z0P{n:Nat}(hp:PassesOwn (model X.prog X.w) X.A X.env X.xe)(hc:∀δ' r,evC δ'=some r->PT X c (dT X.D E δ' r))(hb:∀δ' o,evB δ'=some o->PSs X body (dS X.D E δ' o))(h:q1c evC evB n δ=some o):PS X (.While c body [] pos) (dS X.D E δ o):=by
 have B:PSs X body (λD σ H=>∃k:{p:List Sv×Out // evB p.1=some p.2},dS X.D E k.1.1 k.1.2 D σ H):=PSs.any λk=>hb k.1.1 k.1.2 k.2;have T:PT X c (λσ H Q=>∃k:{p:List Sv×Rt // evC p.1=some p.2},dT X.D E k.1.1 k.1.2 σ H Q):=PT.any λk=>hc k.1.1 k.1.2 k.2;refine(z1j hp T B).weak λDn σ H ⟨H0,O,W,R,fr,fo,sm,k⟩=>?_;have L:=Lp.mk' fr fo sm;refine⟨λm σ H2=>∃δi W',q1c evC evB m δi=some o/\RSt X.D H2 σ δi O W'/\(∀a∈W',L2.wo W H a=none)/\Same (L2.wo W H) H2,⟨n,δ,W,h,R,L.in1,q1B⟩,?_⟩
 rintro m σ2 H2 ⟨δi,W2,hgo,R2,b1,b2⟩
 cases m with
 | zero=>cases hgo
 | succ m=>
  unfold q1c at hgo;split at hgo
  ·cases hgo
  ·rename_i c' hev;cases hgo;exact⟨⟨⟨δi,.ex c'⟩,hev⟩,O,W2,R2,λH' C m s=>k σ2 H' W2 C m (R2.mono s) (λa ha=>L.outW (b1 a ha)) (L.out (b2.trans s))⟩
  ·rename_i hev;cases hgo;refine⟨⟨⟨δi,.ok false⟩,hev⟩,O,W2,R2,λH' s=>iteF ?_⟩;exact k σ2 H' W2 (R2.mono s) (λa ha=>L.outW (b1 a ha)) (L.out (b2.trans s))
  ·rename_i hev;refine⟨⟨⟨δi,.ok true⟩,hev⟩,O,W2,R2,λH' s=>iteT ?_⟩;refine⟨λσ H2=>∃δi W',q1c evC evB m δi=some o/\RSt X.D H2 σ δi O W'/\(∀a∈W',L2.wo W H a=none)/\Same (L2.wo W H) H2,λσ' H' q=>⟨m,Nat.lt_succ_self m,q⟩,?_⟩;split at hgo
   ·rename_i δ2 hev2;exact⟨⟨⟨δi,.nx δ2⟩,hev2⟩,L2.wo W H,O,W2,R2.mono s,b1,L.in2,b2.trans s,λσ' H' W' R' fr' sm'=>⟨δ2,W',hgo,R',fr',sm'⟩⟩
   ·rename_i hne;refine⟨⟨⟨δi,o⟩,hgo⟩,L2.wo W H,O,W2,R2.mono s,b1,L.in2,b2.trans s,?_⟩;cases o with
    | nx δ2=>exact absurd hgo (hne δ2)
    | rt d fr'=>exact λv H' s' g=>k v H' (L.out s') (L.gotR g)
    | rtt d=>exact λv H' s' g=>k v H' (L.out s') (L.gotT g)
    | rtm d s=>exact λv H' a o s'=>k v H' a o (L.out s')
    | ex c' δ'=>exact λσ' H' W' C m R' fr' sm'=>k σ' H' W' C m R' (λa ha=>L.outW (fr' a ha)) (L.out sm')
end
end L2
end
noncomputable section
namespace L2
open PySem PySem.Spec PyProof.Rows
section
variable {D:Dm} {H H':Hp} {σ:St} {δ:List Sv} {O W:List Addr} {i:Nat}
theorem RSt.growD{p:Addr}{o0:HO}(R:RSt D H σ δ O W)(hp:H p=none)(hm:mutO o0=true):RSt D (upd H p o0) σ δ O (p::W):=by
 have s:Same H (upd H p o0):=q0w hp;have old:Same (L2.wo (O++W) H) (L2.wo (O++(p::W)) (upd H p o0)):=λb o e=>by
  obtain⟨hb,e⟩:=q0M e;rw[q0m λz=>?_]
  ·exact s b o e
  ·rcases List.mem_cons.mp (q1D.mp z)with z | z
   ·rw[z,hp]at e;cases e
   ·exact hb z
 refine⟨λj d h=>?_,λj d h=>?_,R.inj,?_,λj d h=>?_,R.od.step (λj d h=>⟨h,rfl⟩) (λ_ h _=>List.mem_cons_of_mem _ h) (λa _ _ h _=>s _ _ h),R.len,⟨λa ha=>?_,Same.refl _,λa ha=>?_,λa ha=>?_,R.hid.omS s⟩⟩
 ·obtain⟨v,e1,e2⟩:=R.val j d h;exact⟨v,e1,e2.mono old⟩
 ·obtain⟨a,ys,ds1,e0,e1,e2,e3,e4⟩:=R.own j d h;exact⟨a,ys,ds1,e0,e1,List.mem_cons_of_mem _ e2,s _ _ e3,e4.mono old⟩
 ·obtain⟨P,f,u⟩:=R.ot;refine⟨P,λj d h=>?_,u⟩;obtain⟨t,ts,e1,e2,e3,e4⟩:=f j d h;exact⟨t,ts,e1,old.tseq e2,e3.mono old λ_ _ _ q=>s _ _ q,λp hp=>⟨List.mem_cons_of_mem _ (e4 p hp).1,(e4 p hp).2.1.imp λ_ q=>s _ _ q,(e4 p hp).2.2⟩⟩
 ·obtain⟨⟨p1,L,e0,e1,e2,e3⟩,u,n⟩:=R.o2 j d h;exact⟨⟨p1,L,e0,e1,(e2.mono s).sub λa _ ha=>List.mem_cons_of_mem _ ha,e3⟩,u,n⟩
 ·rcases List.mem_cons.mp (q1D.mp ha)with z | z
  ·rw[z,q0v];intro q;cases q
  ·intro q;exact R.hid.ot a z (s.free q)
 ·rcases List.mem_cons.mp ha with z | z
  ·exact⟨_,by rw[z];exact q0v,hm⟩
  ·obtain⟨ys,q,m⟩:=R.hid.wl a z;exact⟨ys,s _ _ q,m⟩
 ·rcases List.mem_cons.mp ha with z | z
  ·intro q;exact R.hid.ot p (List.mem_append_left _ (by rw[←z];exact q)) hp
  ·exact R.hid.dj a z
theorem RSt.setOd{p:Addr}{d0:DV}{o0:HO}(R:RSt D H σ δ O W)(hp:p∈W)(hok:OdOk d0 p o0)(hH:H p=some o0)(hno:noOt i δ=true):RSt D H (σ.set i (some (.ref p))) (δ.set i (.od d0)) O W:=by
 refine⟨λj d h=>?_,λj d h=>?_,λj k a d1 d2 q1 q2 e1 e2=>?_,RSt.noot λj d h=>?_,λj d h=>?_,λj d h=>?_,by rw[List.length_set,List.length_set];exact R.len,R.hid⟩
 ·have hj:=q0c h (by intro z;cases z);rw[List.getElem?_set_ne (Ne.symm hj)]at h ⊢;exact R.val j d h
 ·have hj:=q0c h (by intro z;cases z);rw[List.getElem?_set_ne (Ne.symm hj)]at h ⊢;exact R.own j d h
 ·have n1:=q0c q1 (by intro z;cases z);have n2:=q0c q2 (by intro z;cases z);rw[List.getElem?_set_ne (Ne.symm n1)]at q1 e1;rw[List.getElem?_set_ne (Ne.symm n2)]at q2 e2;exact R.inj j k a d1 d2 q1 q2 e1 e2
 ·have hj:=q0c h (by intro z;cases z);rw[List.getElem?_set_ne (Ne.symm hj)]at h;exact absurd (z0p hno h) hj
 ·have hj:=q0c h (by intro z;cases z);rw[List.getElem?_set_ne (Ne.symm hj)]at h;exact absurd (q9p hno h) hj
 ·have hj:j=i:=by
   by_cases hj:j=i
   ·exact hj
   ·rw[List.getElem?_set_ne (Ne.symm hj)]at h;exact q9H hno h
  subst hj;obtain⟨hl,e⟩:=q3o h;cases e;refine⟨⟨p,o0,hok,List.getElem?_set_self (by rw[R.len];exact hl),hp,hH⟩,λk d' q=>?_⟩;by_cases hk:k=j
  ·exact hk
  ·rw[List.getElem?_set_ne (Ne.symm hk)]at q;exact q9H hno q
theorem RSt.writeOd{p:Addr}{o0 o1:HO}{d d1:DV}(R:RSt D H σ δ O W)(hi:δ[i]? = some (.od d))(ha:σ[i]? = some (some (.ref p)))(hp:p∈W)(hH:H p=some o0)(hdc:dicO o0=true)(hok:OdOk d1 p o1):RSt D (upd H p o1) σ (δ.set i (.od d1)) O W:=by
 have old:Same (L2.wo (O++W) H) (L2.wo (O++W) (upd H p o1)):=λb o e=>by obtain⟨hb,e⟩:=q0M e;rw[q0m hb,q0j λz=>hb (by rw[z];exact List.mem_append_right _ hp)];exact e
 have lne:∀{b:Addr} {ys:List V},H b=some (.lst ys)->b≠p:=λ{b ys} h z=>by rw[z,hH]at h;cases h;cases hdc
 refine⟨λj d h=>?_,λj d h=>?_,λj k a d1 d2 q1 q2 e1 e2=>?_,?_,λj d h=>?_,λj d h=>?_,by rw[List.length_set];exact R.len,⟨λb hb q=>?_,Same.refl _,λb hb=>?_,R.hid.dj,R.hid.omW hp⟩⟩
 ·have hj:=q0c h (by intro z;cases z);rw[List.getElem?_set_ne (Ne.symm hj)]at h;obtain⟨v,q1,q2⟩:=R.val j d h;exact⟨v,q1,q2.mono old⟩
 ·have hj:=q0c h (by intro z;cases z);rw[List.getElem?_set_ne (Ne.symm hj)]at h;obtain⟨b,ys,ds1,q0,q1,q2,q3,q4⟩:=R.own j d h;exact⟨b,ys,ds1,q0,q1,q2,by rw[q0j (lne q3)];exact q3,q4.mono old⟩
 ·have n1:=q0c q1 (by intro z;cases z);have n2:=q0c q2 (by intro z;cases z);rw[List.getElem?_set_ne (Ne.symm n1)]at q1;rw[List.getElem?_set_ne (Ne.symm n2)]at q2;exact R.inj j k a d1 d2 q1 q2 e1 e2
 ·obtain⟨P,f,u⟩:=R.ot;refine⟨P,λj d h=>?_,λj k d1 d2 h1 h2=>?_⟩
  ·have hj:=q0c h (by intro z;cases z);rw[List.getElem?_set_ne (Ne.symm hj)]at h;obtain⟨t,ts,f1,f2,f3,f4⟩:=f j d h;refine⟨t,ts,f1,old.tseq f2,f3.mono old λp1 _ ys q=>by rw[q0j (lne q)];exact q,λp1 hp1=>⟨(f4 p1 hp1).1,(f4 p1 hp1).2.1.imp λys q=>by rw[q0j (lne q)];exact q,λk d2 q=>?_⟩⟩;have hk:=q0c q (by intro z;cases z);rw[List.getElem?_set_ne (Ne.symm hk)]at q;exact(f4 p1 hp1).2.2 k d2 q
  ·rw[List.getElem?_set_ne (Ne.symm (q0c h1 (by intro z;cases z)))]at h1;rw[List.getElem?_set_ne (Ne.symm (q0c h2 (by intro z;cases z)))]at h2;exact u j k d1 d2 h1 h2
 ·have hj:=q0c h (by intro z;cases z);rw[List.getElem?_set_ne (Ne.symm hj)]at h;obtain⟨⟨p1,L1,f0,f1,f2,f3⟩,u,n⟩:=R.o2 j d h;refine⟨⟨p1,L1,f0,f1,f2.write λz=>?_,λk d2 b q q2=>?_⟩,λk d2 q=>?_,λk d2 q=>?_⟩
  ·obtain⟨_,ys,w⟩:=f2.dom z;exact lne w rfl
  ·have hk:=q0c q (by intro z;cases z);rw[List.getElem?_set_ne (Ne.symm hk)]at q;exact f3 k d2 b q q2
  ·have hk:=q0c q (by intro z;cases z);rw[List.getElem?_set_ne (Ne.symm hk)]at q;exact u k d2 q
  ·have hk:=q0c q (by intro z;cases z);rw[List.getElem?_set_ne (Ne.symm hk)]at q;exact n k d2 q
 ·have hj:j=i:=by
   by_cases hj:j=i
   ·exact hj
   ·rw[List.getElem?_set_ne (Ne.symm hj)]at h;exact(R.od i _ hi).2 j _ h
  subst hj;obtain⟨hl,e⟩:=q3o h;cases e;refine⟨⟨p,o1,hok,ha,hp,q0v⟩,λk d' q=>?_⟩;by_cases hk:k=j
  ·exact hk
  ·rw[List.getElem?_set_ne (Ne.symm hk)]at q;exact(R.od j _ hi).2 k _ q
 ·by_cases hba:b=p
  ·rw[hba,q0v]at q;cases q
  ·rw[q0j hba]at q;exact R.hid.ot b hb q
 ·by_cases hba:b=p
  ·exact⟨_,by rw[hba];exact q0v,hok.mut⟩
  ·obtain⟨ys,q,m⟩:=R.hid.wl b hb;exact⟨ys,by rw[q0j hba];exact q,m⟩
end
section
variable {X:Cx} {E:St->XK} {δ:List Sv} {o:Out} {e ek ed ea:Expr} {pos pos' npos spos apos cpos:Pos} {ra rb rc:Option Re} {i:Nat} {x:Str} {re:Re}
end
end L2
end
noncomputable section
namespace L2
open PySem PySem.Spec PyProof.Rows
section
variable {X:Cx} {CX:CXT} {k:Nat} {f:Addr} {fd:FuncData} {ps ks:List Str} {sp:Sp} {E:St->XK} {x:Str} {p pos:Pos} {e:Expr} {es:List Expr} {kws:List Keyword} {t tk:TA} {g:List Value->List Value->List Value} {gV:List V->List V->List V}
end
section
variable {X:Cx} {E:St->XK} {δ:List Sv} {re:Re} {rs:Option Rs}
end
section
variable {X:Cx} {E:St->XK} {δ:List Sv} {e:Expr} {es:List Expr} {pos p:Pos} {re:Re} {rs rs':Option Rs} {k:Nat} {fa:Addr} {fd:FuncData} {ps:List Str} {x:Str}
def q4c{α:Type}(m n:Nat)(us ws:List α):List α:=if us.length+m=n/\ws.length=m then us++ws else[]
theorem z0C{m n:Nat}{vs zs:List V}{us ws:List Value}(r:Vals vs us)(q:Vals zs ws):Vals (q4c m n vs zs) (q4c m n us ws):=by
 unfold q4c;rw[r.length,q.length];split
 ·exact r.append q
 ·exact .nil
end
end L2
end
noncomputable section
namespace L2
open PySem PySem.Spec PyProof.Rows
def z6j(K:PySem.W.Frag)(C:Addr):Prop:=∃B newId initId bmB,ExcBaseFacts B newId initId bmB/\PySem.W.excIn K C bmB newId=true
structure XOne(K:PySem.W.Frag)(mg:Str->Option Value)(G:Gs)(cl:List Str)(c:Str)(C:Addr):Prop where
 mc:mg c=some (.ref C)
 ck:ClsK K C
 rk:z6j K C
 own:∀t∈cl,∀Ct,mg t=some (.ref Ct)->PySem.W.kitOne K (.ref C) (.ref Ct)=some (q1b G c t)/\PySem.W.exmOne K (.ref C) (.ref Ct)=some (q1b G c t)
 blt:PySem.W.kitOne K (.ref C) (.type "ValueError")=some (q1b G c "ValueError")
structure XFacts(K:PySem.W.Frag)(mg:Str->Option Value)(G:Gs)(cl:List Str):Prop where
 one:∀c,(G.cls.lookup c).isSome=true->∃C,XOne K mg G cl c C
 all:∀t∈cl,∃Ct,mg t=some (.ref Ct)
section
variable {X:Cx} {E:St->XK} {δ:List Sv} {e:Expr} {pos p p':Pos} {re:Re} {ra:Option Re} {G:Gs} {cl:List Str} {t:Str} {o:Out}
def rIsx(X:Cx):List V->Hp->VK->Prop:=λxs H Q=>∃(a C:Addr) (y:V) (c:Value) (b:Bool),xs=[.ref a,y]/\H a=some (excO a (.ref C))/\ClsK X.K C/\((∃Ct,y=.ref Ct/\c=.ref Ct)\/∃n,y=.ty n/\c=.type n)/\PySem.W.kitOne X.K (.ref C) c=some b/\Q (.bl b) H
theorem z0U:q2Q X (.builtin "isinstance") (rIsx X):=by
 intro pins s σ H xs us Q I r h;obtain⟨a,C,y,c,b,rfl,ea,ck,hy,hk,q⟩:=h;obtain⟨u,w',rfl,ru,rw'⟩:=z6K r;cases(show u=Value.ref a from ru);obtain⟨⟨oe,vs,h1,h2,_⟩,_⟩:=(show q1J X.prog X.w H s.heap a (excO a (.ref C))from I.hok a _ ea);have hw:w'=c:=by
  rcases hy with⟨Ct,rfl,rfl⟩ | ⟨n,rfl,rfl⟩
  ·exact rw'
  ·exact rw'
 subst hw;exact z4f ck I.kIn ⟨oe,h1,h2⟩ hk λtk=>⟨.bl b,H,I.tok tk,rfl,q⟩
theorem q4o:bootBuiltins "ValueError" = some (.type "ValueError"):=by decide +kernel
theorem z4o(F:XFacts X.K X.mg G cl)(hg:Gl X "isinstance")(hm:X.mg "isinstance" = none)(hgt:Gl X t)(ht:(t∈cl/\(t==("__debug__" : Str))=false)\/(X.mg t=none/\t = "ValueError"))
  (ha:∀q,ra=some q->PE X e (dE X.D E δ q)) (hs:q0s e=false) (h:(Re.thn ra λy _=>(isxD G y t).map λk=>.ok (.bl k) .strong)=some re):PE X (.Call (.Name "isinstance" p) [e,.Name t p'] [] pos) (dE X.D E δ re):=by
 have T:∃(v:V) (c:Value),PE X (.Name t p') (tC v)/\((∃Ct,v=.ref Ct/\c=.ref Ct)\/∃n,v=.ty n/\c=.type n)/\∀c' C,XOne X.K X.mg G cl c' C->PySem.W.kitOne X.K (.ref C) c=some (q1b G c' t):=by
  rcases ht with⟨h1,h2⟩ | ⟨h1,h2⟩
  ·obtain⟨Ct,hC⟩:=F.all t h1;exact⟨.ref Ct,.ref Ct,q8L hgt hC rfl h2,.inl ⟨Ct,rfl,rfl⟩,λc' C x=>(x.own t h1 Ct hC).1⟩
  ·subst h2;exact⟨.ty "ValueError",.type "ValueError",z0F hgt h1 q4o rfl (by decide +kernel) (by decide +kernel),.inr ⟨_,rfl,rfl⟩,λc' C x=>x.blt⟩
 obtain⟨v,c,T,hv,hk⟩:=T;have C:=λta (hA:PE X e ta)=>q5P (p:=p) (pos:=pos) z0U hg hm boot_isinstance (q1u hA (q1u T q2T) (q0A hs)) (by decide) (by decide) (q0A hs)
 cases hra:ra with
 | none=>rw[hra]at h;cases h
 | some q=>
  rw[hra]at h;have A:=ha q hra;cases q with
  | ex c=>cases h;exact(C _ A).weak λσ H Q ⟨O,W,R,p⟩=>⟨O,W,R,p⟩
  | ok d dc=>
   obtain⟨k,e1,e2⟩:=Option.map_eq_some_iff.mp (show((isxD G d t).map λk=>Re.ok (.bl k) .strong)=some re from h);cases e2;unfold isxD at e1;split at e1
   ·rename_i c';split at e1
    ·rename_i hc;cases e1;obtain⟨C0,x⟩:=F.one c' hc;refine(C _ A).weak λσ H Q ⟨O,W,R,p⟩=>⟨O,W,R,λv1 H1 s1 g1=>?_⟩
     obtain⟨a,C1,z1,z2,z3⟩:=q6N.mp (g1.all (R.hid.mono s1));rw[show C1=Value.ref C0 from Option.some.inj (z2.symm.trans x.mc)]at z3;exact⟨a,C0,v,c,_,by rw[z1],z3,x.ck,hv,hk c' C0 x,p _ H1 s1 q4b⟩
    ·cases e1
   ·cases e1
theorem z0i{c:Str}{np cpos:Pos}(F:XFacts X.K X.mg G cl)(hc:X.calm=true)(hg:Gl X c)(hd:(c==("__debug__" : Str))=false)(hR:q4n X E)(ha:∀q,ra=some q->PE X e (dE X.D E δ q))(hs:q0s e=false)
  (h:(if(G.cls.lookup c).isSome then Re.thnS δ ra λ_ _=>some (.ex c δ)else none)=some o):PS X (.Raise (some (.Call (.Name c np) [e] [] cpos)) none pos) (dS X.D E δ o):=by
 split at h
 ·rename_i hc';obtain⟨C,x⟩:=F.one c hc';obtain⟨B,newId,initId,bmB,FB,hx⟩:=x.rk;cases hra:ra with
  | none=>rw[hra]at h;cases h
  | some q=>
   rw[hra]at h;have A:=ha q hra;have P:=z1M (np:=np) (cpos:=cpos) (pos:=pos) FB hc hg x.mc hx hR (q1u A q2T (q0A hs)) hd (q0A hs) rfl;cases q with
   | ex c2=>cases h;exact P.weak λDn σ H ⟨H0,O,W,R,fr,fo,sm,k⟩=>⟨O,W,R,q8n R fr sm k⟩
   | ok d dc=>cases h;exact P.weak λDn σ H ⟨H0,O,W,R,fr,fo,sm,k⟩=>⟨O,W,R,λv H1 s1 g=>⟨by show 1<=sizeLine;decide,k σ H1 W _ x.mc (R.mono s1) fr (sm.trans s1)⟩⟩
 ·cases h
theorem RSt.unset{D:Dm}{H:Hp}{σ:St}{O W:List Addr}(R:RSt D H σ δ O W)(i:Nat):RSt D H (σ.set i none) (δ.set i .no) O W where
 val:=λj d h=>by
  by_cases hj:j=i
  ·subst hj;have hl:j<δ.length:=by
    have:=(List.getElem?_eq_some_iff.mp h).1;rw[List.length_set]at this;exact this
   rw[List.getElem?_set_self hl]at h;cases h
  ·rw[List.getElem?_set_ne (Ne.symm hj)]at h ⊢;exact R.val j d h
 own:=λj d h=>by
  by_cases hj:j=i
  ·subst hj;have hl:j<δ.length:=by
    have:=(List.getElem?_eq_some_iff.mp h).1;rw[List.length_set]at this;exact this
   rw[List.getElem?_set_self hl]at h;cases h
  ·rw[List.getElem?_set_ne (Ne.symm hj)]at h ⊢;exact R.own j d h
 inj:=λj k a d d' h1 h2 h3 h4=>by
  have ne:∀(j:Nat) d,(δ.set i .no)[j]? = some (.own d)->j≠i:=λj d h z=>by
   subst z;have hl:j<δ.length:=by have:=(List.getElem?_eq_some_iff.mp h).1;rw[List.length_set]at this;exact this
   rw[List.getElem?_set_self hl]at h;cases h
  have nj:=ne j d h1;have nk:=ne k d' h2;rw[List.getElem?_set_ne (Ne.symm nj)]at h1 h3;rw[List.getElem?_set_ne (Ne.symm nk)]at h2 h4;exact R.inj j k a d d' h1 h2 h3 h4
 ot:=by
  obtain⟨P,f,u⟩:=R.ot;refine⟨P,λj d h=>?_,λj k d1 d2 h1 h2=>?_⟩
  ·have nj:=q0c h (by intro z;cases z);rw[List.getElem?_set_ne (Ne.symm nj)]at h ⊢;obtain⟨t,ts,e1,e2,e3,e4⟩:=f j d h;refine⟨t,ts,e1,e2,e3,λp hp=>⟨(e4 p hp).1,(e4 p hp).2.1,λk d2 q=>?_⟩⟩;have nk:=q0c q (by intro z;cases z);rw[List.getElem?_set_ne (Ne.symm nk)]at q ⊢;exact(e4 p hp).2.2 k d2 q
  ·rw[List.getElem?_set_ne (Ne.symm (q0c h1 (by intro z;cases z)))]at h1;rw[List.getElem?_set_ne (Ne.symm (q0c h2 (by intro z;cases z)))]at h2;exact u j k d1 d2 h1 h2
 o2:=λj d h=>by
  have nj:=q0c h (by intro z;cases z);rw[List.getElem?_set_ne (Ne.symm nj)]at h ⊢;obtain⟨⟨p,L,e0,e1,e2,e3⟩,u,n⟩:=R.o2 j d h;refine⟨⟨p,L,e0,e1,e2,λk d2 a q q2=>?_⟩,λk d2 q=>?_,λk d2 q=>?_⟩
  ·have nk:=q0c q (by intro z;cases z);rw[List.getElem?_set_ne (Ne.symm nk)]at q q2;exact e3 k d2 a q q2
  ·have nk:=q0c q (by intro z;cases z);rw[List.getElem?_set_ne (Ne.symm nk)]at q;exact u k d2 q
  ·have nk:=q0c q (by intro z;cases z);rw[List.getElem?_set_ne (Ne.symm nk)]at q;exact n k d2 q
 od:=R.od.step (q6E _ (by intro d z;cases z)) (λ_ h _=>h) (λ_ _ _ h _=>h)
 len:=by rw[List.length_set,List.length_set];exact R.len
 hid:=R.hid
theorem z4O{body:List Stmt}{c n x:Str}{np hpos tp vp ap:Pos}{ie ic:Nat}{ob:Option Out}(F:XFacts X.K X.mg G cl)(hst:X.stack=X.env::X.outer)(hfr:X.env.frame=some X.env.locals)(hex:X.ex=[])(hgl:Gl X c)(hc:c∈cl)(hd:(c==("__debug__" : Str))=false)(hN:X.N.Nodup)(hi:X.N[ie]? = some n)(hl:X.env.scope.names.lookup n=some .local)
  (hn1:(n==("__debug__" : Str))=false) (hn2:(n==("__classdict__" : Str))=false) (hi2:X.N[ic]? = some x) (hx:Loc X.env.scope x) (hf:X.fn x=true\/X.env.scope.names.lookup x=some .local)
  (hb:∀pins (E':St->Value->Hp->Prop) q,ob=some q->PSs (X.tryIn pins E') body (dS X.D (λσ C _ H=>E' σ C H) δ q))
  (h:tryD G c ie ic ob=some o) :
  PS X (.Try body [.ExceptHandler (some (.Name c np)) (some n) [.Assign [.Name x tp] (.Name n vp) ap] hpos] [] [] pos) (dS X.D E δ o):=by
 obtain⟨Ct,hCt⟩:=F.all c hc;cases hob:ob with
 | none=>rw[hob]at h;cases h
 | some q=>
  rw[hob]at h;have S:∀ea,PSs (X.inExc ea) [.Assign [.Name x tp] (.Name n vp) ap] (tAsg (tVar ie) (q8i ic)):=λea=>z3R (q4H (X:=X.inExc ea) hN hi2 hx (q2u (X:=X.inExc ea) hi (.inl hl) hn1 hn2) rfl hf)
  refine(z6b (i:=ie) (cv:=.ref Ct) (tb:=λE'=>dS X.D (λσ C _ H=>E' σ C H) δ q) hst hfr hex hgl hCt hN hi hl (λpins E'=>hb pins E' q hob) S hd).weak λDn σ H ⟨H0,O,W,R,fr,fo,sm,k⟩=>⟨H0,O,W,R,fr,fo,sm,?_⟩;cases q with
  | nx δ'=>cases h;exact k
  | rt d f=>cases h;exact k
  | rtt d=>cases h;exact k
  | rtm d s=>cases h;exact k
  | ex c' δ'=>
   have h':(if(G.cls.lookup c').isSome/\q1b G c' c/\ie<δ'.length/\ie≠ic then some (Out.nx ((δ'.set ic (.val (.exc c'))).set ie .no))else none)=some o:=h;split at h'
   ·rename_i hh;cases h';obtain⟨hh1,hh2,hh3,hh4⟩:=hh;obtain⟨C0,xo⟩:=F.one c' hh1;intro σ' H' W' C hm R' fr' sm';rw[show C=Value.ref C0 from Option.some.inj (hm.symm.trans xo.mc)];refine⟨by rw[(xo.own c hc Ct hCt).2,hh2],λea hea=>?_⟩;have hout:ea∉O++W':=R'.hid.newOut hea;have R1:=R'.mono (q0w (o:=excO ea (.ref C0)) hea);have rp:Rep X.D (L2.wo (O++W') (upd H' ea (excO ea (.ref C0)))) (.exc c') (.ref ea):=q6N.mpr ⟨ea,_,rfl,xo.mc,by rw[q0m hout];exact q0v⟩;refine⟨.ref ea,List.getElem?_set_self (by rw[R'.len];exact hh3),?_⟩;refine k _ _ W' ?_ fr' (sm'.trans (q0w hea));have R2:=((R1.setVal rp ie).setVal rp ic).unset ie;rw[show((δ'.set ie (Sv.val (.exc c'))).set ic (Sv.val (.exc c'))).set ie Sv.no=(δ'.set ic (Sv.val (.exc c'))).set ie Sv.no by rw[List.set_comm _ _ hh4,List.set_set]]at R2;exact R2
   ·cases h'
theorem z1i{body:List Stmt}{c cr msg:Str}{np np' hpos cpos rpos mp cp:Pos}{j j2:Nat}{ob:Option Out}(F:XFacts X.K X.mg G cl)(hst:X.stack=X.env::X.outer)(hfr:X.env.frame=some X.env.locals)(hex:X.ex=[])(hR:q8b X E)(hgl:Gl X c)(hc:c∈cl)(hd:(c==("__debug__" : Str))=false)(hgr:Gl X cr)(hdr:(cr==("__debug__" : Str))=false)
  (hb:∀pins (E':St->Value->Hp->Prop) q,ob=some q->PSs (X.tryIn pins E') body (dS X.D (λσ C _ H=>E' σ C H) δ q))
  (hcr:∀c' δ',ob=some (.ex c' δ')->(G.cls.lookup cr).isSome=true)
  (hnb:(G.cls.lookup cr).isSome=true)
  (h:z1R G c cr ob=some o) :
  PS X (.Try body [.ExceptHandler (some (.Name c np)) none [.Raise (some (.Call (.Name cr np') [.Constant (.str msg) j2 mp] [] cpos)) (some (.Constant .none j cp)) rpos] hpos] [] [] pos) (dS X.D E δ o):=by
 obtain⟨Ct,hCt⟩:=F.all c hc;obtain⟨Cr,xr⟩:=F.one cr hnb;obtain⟨B,newId,initId,bmB,FB,hx⟩:=xr.rk;cases hob:ob with
 | none=>rw[hob]at h;cases h
 | some q=>
  rw[hob]at h;refine(z4u (cv:=.ref Ct) (tb:=λE'=>dS X.D (λσ C _ H=>E' σ C H) δ q) hst hfr hex hgl hCt FB hgr xr.mc hx hR (λpins E'=>hb pins E' q hob) hd hdr).weak λDn σ H ⟨H0,O,W,R,fr,fo,sm,k⟩=>⟨H0,O,W,R,fr,fo,sm,?_⟩
  cases q with
  | nx δ'=>cases h;exact k
  | rt d f=>cases h;exact k
  | rtt d=>cases h;exact k
  | rtm d s=>cases h;exact k
  | ex c' δ'=>
   have h':(if(G.cls.lookup c').isSome/\(G.cls.lookup cr).isSome then some (Out.ex (if q1b G c' c then cr else c') δ')else none)=some o:=h;split at h'
   ·rename_i hh;cases h';obtain⟨C0,xo⟩:=F.one c' hh.1;intro σ' H' W' C hm R' fr' sm';have eC:C=Value.ref C0:=Option.some.inj (hm.symm.trans xo.mc);rw[eC];refine⟨q1b G c' c,(xo.own c hc Ct hCt).2,?_⟩;cases hca:q1b G c' c with
    | true=>rw[hca]at k;exact k σ' H' W' _ xr.mc R' fr' sm'
    | false=>rw[hca]at k;exact k σ' H' W' _ xo.mc R' fr' sm'
   ·cases h'
end
end L2
end
noncomputable section
namespace L2
open PySem PySem.Spec PyProof.Rows
def spM(D:Dm)(C:Addr)(f:List DV->Option Ou):Sp:=λvs H Q E=>∃O p dx t k args ds o,vs=.ref p::args/\Hdn O H/\p∉O/\t.length<=sizeLine/\H p=some (rdO C dx t k)/\RepL D (L2.wo (O++[p]) H) ds args/\Rm.of (f (rdD C p dx t k::ds))=some o /\
 (match o with
  | .ok d s=>∀v H' k',s=rdD C p dx t k'->Same (L2.wo [p] H) H'->H' p=some (rdO C dx t k')->Rep D (L2.wo (O++[p]) H') d v->Q v H'
  | .ex c=>∀H' Cv,D.mg c=some Cv->Same (L2.wo [p] H) H'->E Cv none H')
def spI(C:Addr):Sp:=λvs H Q _=>∃p dx t,vs=[.ref p,.str t]/\H p=some (.ins C dx [])/\Q .non (upd H p (rdO C dx t 0))
theorem q7g{C p dx:Nat}{t:Str}{k:Int}{a:Addr}{o:HO}(h:OdOk (rdD C p dx t k) a o):a=p/\o=rdO C dx t k/\t.length<=sizeLine:=by
 rcases h with⟨L,e,_⟩ | ⟨L,e,_⟩ | ⟨C',dx',qa,qx,t',k',e,h1,h2,h3,h4⟩
 ·cases e
 ·cases e
 ·unfold rdD at e;injection e with e
  injection e with e1 e
  injection e with e2 e
  injection e with e3 e
  injection e with e4 e
  injection e with e5 e
  injection e1 with e1
  injection e4 with e4
  injection e5 with e5
  subst e4 e5;have c1:C=C':=by omega
  subst c1;rcases h1 with h1 | h1
  ·rw[h1]at e2;cases e2
  rcases h2 with h2 | h2
  ·rw[h2]at e3;cases e3
  rw[h1]at e2;rw[h2]at e3;injection e2 with e2
  injection e3 with e3
  have c2:p=a:=by omega
  have c3:dx=dx':=by omega
  subst c2 c3;exact⟨rfl,h4,h3⟩
theorem z5W{C p dx:Nat}{t:Str}{k:Int}(h:t.length<=sizeLine):OdOk (rdD C p dx t k) p (rdO C dx t k):=.inr (.inr ⟨C,dx,_,_,t,k,rfl,.inr rfl,.inr rfl,h,rfl⟩)
theorem z1w{d:DV}{i:Int}(h:iI d=some i):d=.int i:=by
 unfold iI at h;split at h<;>cases h;rfl
theorem z8l{d:DV}{i:Str}(h:sS d=some i):d=.str i:=by
 unfold sS at h;split at h<;>cases h;rfl
theorem z9e{d:DV}{i:List DV}(h:tT d=some i):d=.tup i:=by
 unfold tT at h;split at h<;>cases h;rfl
theorem z6l{l:List DV}{a b c d e:DV}(h:rd5 l=some (a,b,c,d,e)):l=[a,b,c,d,e]:=by
 unfold rd5 at h;split at h<;>cases h;rfl
theorem q8d{s:DV}{q:Int×Int×Int×Str×Int}(h:rdK s=some q):s=.tup [.int q.1,.int q.2.1,.int q.2.2.1,.str q.2.2.2.1,.int q.2.2.2.2]:=by
 unfold rdK at h;obtain⟨l,h0,h⟩:=Option.bind_eq_some_iff.mp h;obtain⟨⟨a1,a2,a3,a4,a5⟩,h1,h⟩:=Option.bind_eq_some_iff.mp h;obtain⟨b1,g1,h⟩:=Option.bind_eq_some_iff.mp h;obtain⟨b2,g2,h⟩:=Option.bind_eq_some_iff.mp h;obtain⟨b3,g3,h⟩:=Option.bind_eq_some_iff.mp h;obtain⟨b4,g4,h⟩:=Option.bind_eq_some_iff.mp h;obtain⟨b5,g5,h⟩:=Option.bind_eq_some_iff.mp h;cases h;have g1:a1=_:=z1w g1;have g2:a2=_:=z1w g2;have g3:a3=_:=z1w g3;have g4:a4=_:=z8l g4;have g5:a5=_:=z1w g5;rw[z9e h0,z6l h1,g1,g2,g3,g4,g5]
theorem q9A{C p dx:Nat}{t:Str}{k:Int}{s:DV}(h:q4D (rdD C p dx t k) s=true):∃k',s=rdD C p dx t k':=by
 unfold q4D at h;have e:rdK (rdD C p dx t k)=some ((C:Int),(p:Int),(dx:Int),t,k):=rfl;rw[e]at h;dsimp only at h;split at h
 ·rename_i q hq;rw[q8d hq];simp only[Bool.and_eq_true,decide_eq_true_eq]at h;obtain⟨⟨⟨h1,h2⟩,h3⟩,h4⟩:=h;rw[←h1,←h2,←h3,←h4];exact⟨_,rfl⟩
 ·cases h
theorem z8Z{s s':DV}(h:eqRd s s'=true):s'=s:=by
 unfold eqRd at h;split at h
 ·rename_i q hq;rw[q8d hq,q8d (of_decide_eq_true h)]
 ·cases h
theorem q9R{G:Gs}{s:DV}(h:rdB G s=true):0<=G.rdc:=by
 unfold rdB at h;split at h
 ·simp only[Bool.and_eq_true,decide_eq_true_eq]at h;rw[←h.1.1.1];exact h.2
 ·cases h
theorem q9E{G:Gs}{b:Bool}{s d:DV}(h:fldD G b s=some d):0<=G.rdc:=by
 unfold fldD at h;split at h
 ·split at h
  ·rename_i z;omega
  ·cases h
 ·cases h
theorem z2i{G:Gs}{C:Nat}{s:DV}(hC:G.rdc=C)(h:rdB G s=true):∃p dx t k,s=rdD C p dx t k:=by
 unfold rdB at h;split at h
 ·rename_i q hq;simp only[Bool.and_eq_true,decide_eq_true_eq]at h;obtain⟨⟨⟨h1,h2⟩,h3⟩,h4⟩:=h;rw[hC]at h1;refine⟨q.2.1.toNat,q.2.2.1.toNat,q.2.2.2.1,q.2.2.2.2,?_⟩;unfold rdD;rw[Int.toNat_of_nonneg h2,Int.toNat_of_nonneg h3,←h1];exact q8d hq
 ·cases h
theorem RSt.turnO{D:Dm}{H H':Hp}{σ:St}{δ:List Sv}{O W:List Addr}{i:Nat}{p:Addr}{o0 o1:HO}{d d1:DV}(R:RSt D H σ δ O W)(hi:δ[i]? = some (.od d))(ha:σ[i]? = some (some (.ref p)))(hp:p∈W)(hH:H p=some o0)(hdc:dicO o0=true)(hok:OdOk d1 p o1)(sm:Same (L2.wo [p] H) H')(h1:H' p=some o1):RSt D H' σ (δ.set i (.od d1)) O W:=
 (R.writeOd hi ha hp hH hdc hok).mono λb o e=>by
  by_cases z:b=p
  ·subst z;rw[q0v]at e;rw[h1];exact e
  ·rw[q0j z]at e;exact sm b o (by rw[q0m (by rw[List.mem_singleton];exact z)];exact e)
theorem RSt.forgetO{D:Dm}{H H':Hp}{σ:St}{δ:List Sv}{O W:List Addr}{p:Addr}(R:RSt D H σ δ O W)(hp:p∈W)(sm:Same (L2.wo [p] H) H'):RSt D H' σ (noS δ) O []:=by
 have no:∀(i:Nat) (s:Sv),(noS δ)[i]? = some s->s=.no:=λi s h=>by
  unfold noS at h;rw[List.getElem?_map]at h;cases q:δ[i]? with
  | none=>rw[q]at h;cases h
  | some x=>rw[q]at h;cases h;rfl
 have hO:Hdn O H':=λa ha=>by obtain⟨o,q,m⟩:=R.hid.om a ha;refine⟨o,sm a o ?_,m⟩;rw[q0m (by rw[List.mem_singleton];intro z;exact R.hid.dj p hp (by rw[←z];exact ha))];exact q
 refine⟨λi d h=>(by cases no i _ h),λi d h=>(by cases no i _ h),λi j a d d' h=>(by cases no i _ h),RSt.noot λi d h=>(by cases no i _ h),λi d h=>(by cases no i _ h),λi d h=>(by cases no i _ h),by rw[R.len];unfold noS;rw[List.length_map],⟨λa ha=>hO.ne a (by simpa using ha),Same.refl _,λa ha=>(nomatch ha),λa ha=>(nomatch ha),hO⟩⟩
section
variable {X:Cx} {CX:CXT} {k:Nat} {f C:Addr} {fd:FuncData} {ps:List Str} {sp:Sp} {E:St->XK} {x m:Str} {np p pos apos:Pos} {e o:Expr} {es:List Expr} {ta:TE} {t:TA}
def z2H(C:Addr)(m:Str)(sp:Sp)(E:St->XK)(ta:TE)(t:TA):TE:=λσ H Q=>ta σ H λx H1=>∃a dx fs,x=.ref a/\H1 a=some (.ins C dx fs)/\fs.lookup m=none/\t σ H1 λvs H2=>sp (x::vs) H2 Q (E σ)
theorem q5T:∀{es:List Expr},es.any q0s=false->(backTo pos (starEach es X.env)).any (·.1)=false
 | [],_=>rfl
 | y::ys,q=>by rw[List.any_cons,Bool.or_eq_false_iff]at q;rw[q0A q.1];show(false||(backTo pos (starEach ys X.env)).any (·.1))=false;rw[q5T q.2];rfl
theorem z2f{n:Nat}:∀{es:List Expr},es.any q0s=false->es.length<n->n<=29->methodCallForm (es.length+([]:List Keyword).length) (backTo pos (starEach es X.env)) (backToKw pos (keywordEach [] X.env))=true:=λ{es} h hl hn=>by
 have all:∀{es:List Expr},es.any q0s=false->(backTo pos (starEach es X.env)).all (!·.1)=true:=λ{es} h=>by have:=q5T (X:=X) (pos:=pos) h;rw[List.all_eq_not_any_not];simpa using this
 unfold methodCallForm;rw[all h];show(true&&true&&decide (es.length+0+0<30))=true;simp;omega
theorem z0L{pos apos np:Pos}{x m:Str}{es:List Expr}{env:Env}(hline:(apos.endLine==pos.line)=true)(hf:methodCallForm (es.length+([]:List Keyword).length) (backTo pos (starEach es env)) (backToKw pos (keywordEach [] env))=true):eval (.Call (.Attribute (.Name x np) m apos) es [] pos) env=(do
   let ov ←eval (.Name x np) env
   standAt apos.atName
   let (f,fs1) ←holding [ov] (getMethod ov m (do return(←importBound (.Name x np) env).getD true))
   callWith pos f fs1 (backTo pos (starEach es env)) (backToKw pos (keywordEach [] env))):=by
 have hpos:methodCallPos true (.Name x np) env apos pos=pure pos:=by unfold methodCallPos;simp[hline]
 rw[arm_eval_Call];show(do
  let ov ←eval (.Name x np) env
  standAt apos.atName
  methodCall (.Name x np) m apos pos env ov (es.length+([]:List Keyword).length) (backTo pos (starEach es env)) (backToKw pos (keywordEach [] env)))=_
 congr 1
 funext ov
 congr 1
 funext _
 unfold methodCall;rw[hf,hpos];simp only[pure_bind];rfl
theorem q9O(hline:(apos.endLine==pos.line)=true)(he:PE X (.Name x np) ta)(c:Cls X.K C)(hm:Meth X.K C m f)(F:FnOk X.prog X.w X.K X.mg X.base CX k f fd ps sp)(hr:Room k X.A)(hb:q1s X.K fd ps [])(hx:q2o CX X E) :
  PE X (.Call (.Attribute (.Name x np) m apos) [] [] pos) (z2H C m sp E ta tNil):=by
 intro pins s σ H Q I h;refine PySem.W.methodCall_KW (thn (he pins s σ H _ I h) λu s1 ⟨y,H1,I1,rx,a,dx,fs,ex,ea,l,q⟩=>?_) (z0L hline (z2f (n:=20) (es:=[]) rfl (by decide) (by decide)));subst ex;obtain rfl:u=Value.ref a:=rx;refine q5u I1 ea c hm l ?_;exact PySem.W.callWith_K0 (first:=[.ref a]) I1.kIn hm.kp (q7b (us:=[.ref a]) (vs:=[.ref a]) (dvs:=[]) (ds:=[]) F hr hb .nil hx I1 (.cons rfl .nil) q)
theorem z1f(hline:(apos.endLine==pos.line)=true)(hfew:(e::es).length<20)(he:PE X (.Name x np) ta)(c:Cls X.K C)(hm:Meth X.K C m f)(F:FnOk X.prog X.w X.K X.mg X.base CX k f fd ps sp)(hr:Room k X.A)(hb:q1s X.K fd ps [])(hx:q2o CX X E)(ha:PA X (e::es) t)(hst:(e::es).any q0s=false) :
  PE X (.Call (.Attribute (.Name x np) m apos) (e::es) [] pos) (z2H C m sp E ta t):=by
 intro pins s σ H Q I h;refine PySem.W.methodCall_KW (thn (he pins s σ H _ I h) λu s1 ⟨y,H1,I1,rx,a,dx,fs,ex,ea,l,q⟩=>?_) (z0L hline (z2f (n:=20) hst hfew (by decide)));subst ex;obtain rfl:u=Value.ref a:=rx;refine q5u I1 ea c hm l ?_;rw[List.any_cons,Bool.or_eq_false_iff]at hst;refine PySem.W.callWith_K (first:=[.ref a]) (h₀:=X.base) I.ok.mod.kin hm.kp (thn (ha pos pins s1 σ H1 _ I1 q) λus s2 ⟨vs,H2,I2,r,q2⟩=>⟨I2.kIn,?_⟩) (q0A hst.1) (q5T hst.2);exact q7b (us:=.ref a::us) (vs:=.ref a::vs) (dvs:=[]) (ds:=[]) F hr hb .nil hx I2 (.cons rfl r) (by rw[List.append_nil];exact q2)
end
section
variable {X:Cx} {E:St->XK} {δ:List Sv} {k:Nat} {fa C:Addr} {fd:FuncData} {ps:List Str} {x n:Str} {np pos apos:Pos} {es:List Expr} {f:List DV->Option Ou} {i:Nat} {l:List (DV×Cl)} {o:Rm} {p dx:Nat} {t:Str} {k0:Int}
def z3k(X:Cx)(E:St->XK)(C p dx:Nat)(t:Str)(σ:St)(H:Hp)(O W:List Addr)(Q:VK):Rm->Prop
 | .ok d s=>∀v H' k',s=rdD C p dx t k'->Same (L2.wo [p] H) H'->H' p=some (rdO C dx t k')->Rep X.D (L2.wo (O++W) H') d v->Q v H'
 | .ex c=>∀H' Cv,X.mg c=some Cv->Same (L2.wo [p] H) H'->E σ Cv none H'
theorem z5Z{n:Str}{a b:V}(h1:n ≠ "text")(h2:n ≠ "place"):([("text",a),("place",b)]:List (Str×V)).lookup n=none:=by
 rw[List.lookup_cons,beq_eq_false_iff_ne.mpr h1];dsimp only;rw[List.lookup_cons,beq_eq_false_iff_ne.mpr h2];rfl
theorem z0u{s:DV}{oA:Nat->Nat->Rm}(hv:PE X (.Name x np) (tVar i))(c:Cls X.K C)(hm:Meth X.K C n fa)(n1:n ≠ "text")(n2:n ≠ "place")(hline:(apos.endLine==pos.line)=true)(hfew:es.length<20)(fo:FnOk X.prog X.w X.K X.mg X.base (CXx X.prog X.w X.base) k fa fd ps (spM X.D C f))(hr:Room k X.A)(hb:q1s X.K fd ps [])(hx:q2o (CXx X.prog X.w X.base) X E)
  (hi:δ[i]? = some (.od s)) (ha:PA X es (dA X.D E δ (.ok l))) (hl:es=[]->l=[]) (hst:es.any q0s=false) (hs:stros l=true) (ho:∀a ob,OdOk s a ob->∃dx,ob=rdO C dx t k0/\t.length<=sizeLine/\Rm.of (f (rdD C a dx t k0::l.map (·.1)))=some (oA a dx)) :
  PE X (.Call (.Attribute (.Name x np) n apos) es [] pos) (λσ H Q=>∃O W,RSt X.D H σ δ O W/\∀a dx,σ[i]? = some (some (.ref a))->a∈W->H a=some (rdO C dx t k0)->z3k X E C a dx t σ H O W Q (oA a dx)):=by
 have main:∀{σ:St} {H H1:Hp} {O W:List Addr} {Q:VK} {vs:List V} {a dx:Nat},RSt X.D H σ δ O W->Same H H1->GotL X.D O W H H1 l vs->a∈W->H a=some (rdO C dx t k0)->t.length<=sizeLine->Rm.of (f (rdD C a dx t k0::l.map (·.1)))=some (oA a dx)->z3k X E C a dx t σ H O W Q (oA a dx)->spM X.D C f (.ref a::vs) H1 Q (E σ):=λ{σ H H1 O W Q vs a dx} R sm g e2 e3 r3 ho k=>by
  have hd1:=R.hid.mono sm;have hpO:a∉O:=R.hid.dj a e2;have up:Same (L2.wo (O++W) H1) (L2.wo ((O++W.filter (· ≠ a))++[a]) H1):=q0Q λb hb=>by
   simp only[List.mem_append,List.mem_filter,List.mem_singleton,decide_eq_true_eq,ne_eq]at hb ⊢;rcases hb with(hb | hb) | hb
   ·exact .inl hb
   ·exact .inr hb.1
   ·rw[hb];exact .inr e2
  have dn:∀H2,Same (L2.wo ((O++W.filter (· ≠ a))++[a]) H2) (L2.wo (O++W) H2):=λH2=>q0Q λb hb=>by
   simp only[List.mem_append,List.mem_filter,List.mem_singleton,decide_eq_true_eq,ne_eq]at hb ⊢;rcases hb with hb | hb
   ·exact .inl (.inl hb)
   ·by_cases z:b=a
    ·exact .inr z
    ·exact .inl (.inr ⟨hb,z⟩)
  refine⟨O++W.filter (· ≠ a),a,dx,t,k0,vs,l.map (·.1),oA a dx,rfl,λb hb=>?_,?_,r3,sm _ _ e3,(g.stros hd1 hs).mono up,ho,?_⟩
  ·refine hd1.hdA b ?_;simp only[List.mem_append,List.mem_filter]at hb ⊢;rcases hb with hb | hb
   ·exact .inl hb
   ·exact .inr hb.1
  ·intro z;rcases List.mem_append.mp z with z | z
   ·exact hpO z
   ·have:=(List.mem_filter.mp z).2;simp at this
  ·revert k;cases oA a dx with
   | ok d s=>exact λk v H' k' q1 q2 q3 q4=>k v H' k' q1 (λb o e=>q2 b o (sm.wo b o e)) q3 (q4.mono (dn H'))
   | ex c=>exact λk H' Cv q1 q2=>k H' Cv q1 (λb o e=>q2 b o (sm.wo b o e))
 cases es with
 | nil=>
  have:=hl rfl;subst this;refine(q9O (pos:=pos) (apos:=apos) hline hv c hm fo hr hb hx).weak λσ H Q ⟨O,W,R,k⟩=>?_;obtain⟨⟨a,ob,e0,e1,e2,e3⟩,u⟩:=R.od i _ hi;obtain⟨dx,r1,r2,r3⟩:=ho a ob e0;subst r1;exact⟨.ref a,e1,a,dx,_,rfl,e3,z5Z n1 n2,main R (Same.refl H) .nil e2 e3 r2 r3 (k a dx e1 e2 e3)⟩
 | cons e es=>
  refine(z1f (pos:=pos) (apos:=apos) hline hfew hv c hm fo hr hb hx ha hst).weak λσ H Q ⟨O,W,R,k⟩=>?_;obtain⟨⟨a,ob,e0,e1,e2,e3⟩,u⟩:=R.od i _ hi;obtain⟨dx,r1,r2,r3⟩:=ho a ob e0;subst r1;exact⟨.ref a,e1,a,dx,_,rfl,e3,z5Z n1 n2,O,W,R,λvs H1 s1 g1=>main R s1 g1 e2 e3 r2 r3 (k a dx e1 e2 e3)⟩
end
section
variable {X:Cx} {E:St->XK} {δ:List Sv} {C:Nat} {x:Str} {np pos apos:Pos} {i:Nat} {G:Gs}
theorem z4K{b:Bool}{s d:DV}(hv:PE X (.Name x np) (tVar i))(c:Cls X.K C)(n1:q1p X.K C "text")(n2:q1p X.K C "place")(hC:G.rdc=C)(hi:δ[i]? = some (.od s))(hd:fldD G b s=some d) :
  PE X (.Attribute (.Name x np) (if b then "place" else "text") apos) (dE X.D E δ (.ok d .strong)):=by
 refine(z5m hv rfl).weak λσ H Q ⟨O,W,R,k⟩=>?_;obtain⟨⟨a,ob,e0,e1,e2,e3⟩,u⟩:=R.od i _ hi;unfold fldD at hd;split at hd
 ·rename_i c0 q1 q2 t k0;split at hd
  ·rename_i hc0;cases hd;obtain⟨hc,_⟩:=hc0;rw[hC]at hc;subst hc;rcases e0 with⟨L,e,_⟩ | ⟨L,e,_⟩ | ⟨C',dx',qa,qx,t',k',e,h1,h2,h3,h4⟩
   ·cases e
   ·cases e
   ·injection e with e
    injection e with e1' e
    injection e with e2' e
    injection e with e3' e
    injection e with e4 e
    injection e with e5 e
    injection e1' with e1'
    injection e4 with e4
    injection e5 with e5
    subst e4 e5;have c1:C=C':=by omega
    subst c1;subst h4;cases b with
    | true=>exact⟨.ref a,e1,a,C,dx',_,.int k0,rfl,e3,c,n2,rfl,k _ H (Same.refl H) q0T⟩
    | false=>exact⟨.ref a,e1,a,C,dx',_,.str t,rfl,e3,c,n1,rfl,k _ H (Same.refl H) (q4Q h3)⟩
  ·cases hd
 ·cases hd
end
end L2
end
noncomputable section
namespace L2
open PySem PySem.Spec PyProof.Rows
def KvIs(r:Option DV)(u:Option Value):Prop:=match r with
 | none=>u=none
 | some d=>∃z v,u=some z/\RelV v z/\∀D H,Rep D H d v
def q8l(K:PySem.W.Frag)(w:World)(mg:Str->Option Value)(x:Str)(kvs:List (Str×Option DV)):Prop:=
 ∃a es n,mg x=some (.ref a)/\K.lookup a=some ⟨.type "dict",none,.dict es n,#[]⟩/\PySem.W.KeysLit w.params es.toList/\(a==sysModules)=false/\∀k r,kvs.lookup k=some r->∃u,PySem.W.nsIn K a k=some u/\KvIs r u
def DK(K:PySem.W.Frag)(D:Dm)(G:Gs)(f:Nat)(fd:FuncData)(ps:List Str):Prop:=
 (∀ds,G.dfl.lookup f=some ds->∃us dvs,q1s K fd ps us/\Vals dvs us/\∀H,RepL D H ds dvs)/\∀n,G.kws.lookup f=some n->KBinds K fd ps n (q4c n.length ps.length) (q4c n.length ps.length)
def RdG(G:Gs)(F:Nat->List DV->Option Ou)(X:Cx):Prop:=∃C:Nat,G.rdc=(C:Int)/\Cls X.K C/\q1p X.K C "text" /\ q1p X.K C "place" /\
 (G.mtx=true->∀m n,rdN[m]? = some n->∃k fa fd ps,Room k X.A/\Meth X.K C n fa/\q1s X.K fd ps []/\FnOk X.prog X.w X.K X.mg X.base (CXx X.prog X.w X.base) k fa fd ps (spM X.D C (F m))) /\
 (G.mtx=false->∀t j o,Rm.of (F rdIx [.str t,.int j])=some o->∃k fi fdi psi fa fd ps f,Room (k+1) X.A/\X.mg "Reader" = some (.ref C)/\Mk X.K C fi/\q1s X.K fdi psi []/\FnOk X.prog X.w X.K X.mg X.base (CXx X.prog X.w X.base) k fi fdi psi (spI C)/\Meth X.K C "take_plan" fa/\q1s X.K fd ps []/\FnOk X.prog X.w X.K X.mg X.base (CXx X.prog X.w X.base) k fa fd ps (spM X.D C f) /\
  ∀a dx,Rm.of (f [rdD C a dx t j])=some (rmAt C a dx t o))
structure Good(sg:Sg)(G:Gs)(F:Nat->List DV->Option Ou)(X:Cx)(E:St->XK):Prop where
 N:X.N=sg.N
 nd:X.N.Nodup
 vis:∀x,visB sg x=true->Vis X.env.scope x
 glo:∀x,gloB sg x=true->Gl X x
 loc:∀x,locB sg x=true->Loc X.env.scope x/\(X.fn x=true\/X.env.scope.names.lookup x=some .local)
 lcl:∀x,sg.sc.lookup x=some .local->X.env.scope.names.lookup x=some .local
 cel:∀x,(sg.sc.lookup x=some .cell\/sg.sc.lookup x=some .free)->X.env.scope.names.lookup x=some .cell\/X.env.scope.names.lookup x=some .free
 calm:X.calm=true
 hu:X.A.units+64<cLine
 fns:∀f x,sg.fn[f]? = some x->∃k fa fd ps,Room k X.A/\X.mg x=some (.ref fa)/\PySem.W.keepIn X.K (.ref fa)=true/\q1s X.K fd ps []/\(∀ds o,F f ds=some o->ds.length=ps.length) /\
  FnOk X.prog X.w X.K X.mg X.base (CXx X.prog X.w X.base) k fa fd ps (spF X.D ps.length (F f))/\DK X.K X.D G f fd ps
 blt:∀x∈sg.bl,X.mg x=none
 pas:q2o (CXx X.prog X.w X.base) X E
 con:∀x d,G.con.lookup x=some d->∃u v,X.mg x=some u/\RelV v u/\∀H,Rep X.D H d v
 own:sg.lp=true->PassesOwn (model X.prog X.w) X.A X.env X.xe
 xf:XFacts X.K X.mg G sg.cl
 st:sg.top=true->X.stack=X.env::X.outer/\X.env.frame=some X.env.locals/\X.ex=[]/\q4n X E/\q8b X E
 dcs:∀x kvs,G.dcs.lookup x=some kvs->q8l X.K X.w X.mg x kvs
 hun:G.hun=true->∃k fa fd ps hf,Room k X.A/\X.mg q3E=some (.ref fa)/\PySem.W.keepIn X.K (.ref fa)=true/\q1s X.K fd ps []/\(∀d l,F q3g [d,.lst l]=(hf d l).map λr=>.v r.1 false)/\FnOk X.prog X.w X.K X.mg X.base (CXx X.prog X.w X.base) k fa fd ps (spH X.D hf)
 lms:G.fnl.isEmpty=false->(G.fnl=sg.fn/\G.bll=sg.bl/\G.cll=sg.cl)/\(∃k,Room k X.A/\z8T X.prog X.w X.K X.mg X.base sg.fn sg.bl sg.cl k (F q6B))/\(sg.top=true->∃c P,X.env.code=.ref c/\(∀h:Heap,X.K.In h->PySem.W.CodeHd h c P)/\(P,X.env.qual ++ "<lambda>")∈q0Y X.K)
 rd:0<=G.rdc->RdG G F X
theorem q1N:∀{l:List Str},q4R l=true->l.Nodup
 | [],_=>List.nodup_nil
 | x::r,h=>by unfold q4R at h;rw[Bool.and_eq_true]at h;refine List.nodup_cons.mpr ⟨λz=>?_,q1N h.2⟩;have:=h.1;rw[List.contains_iff_mem.mpr z]at this;cases this
section
variable {sg:Sg} {G:Gs} {F:Nat->List DV->Option Ou} {X:Cx} {E:St->XK} {tg:Tg} {sc:Scope} {N':List Str} {fr:List (Option Nat)}
theorem q3f(g:Good sg G F X E)(h:q3O sg N' fr sc tg=true):CompScope X.N N' sc X.env.scope fr/\(∀(j k i:Nat),fr[j]? = some (some i)->fr[k]? = some (some i)->j=k)/\∀i∈q3F tg,fr[i]? = some none:=by
 unfold q3O at h;simp only[Bool.and_eq_true,List.all_eq_true,beq_iff_eq]at h;obtain⟨⟨⟨⟨⟨⟨h0,h1⟩,h2⟩,h3⟩,h4⟩,h5⟩,h6⟩:=h;have h5':∀(j i:Nat),fr[j]? = some (some i)->∃x,N'[j]? = some x/\sg.N[i]? = some x/\(x,NameKind.free)∈sc.names:=λj i e=>by
  have hj:j<fr.length:=(List.getElem?_eq_some_iff.mp e).1;have hj':j<N'.length:=by rw[←h4];exact hj
  have hz:(some i,N'[j])∈fr.zip N':=(by refine List.mem_of_getElem? (i:=j) ?_;rw[List.getElem?_zip_eq_some];exact⟨e,List.getElem?_eq_getElem hj'⟩);have q:=h5 _ hz;simp only[Bool.and_eq_true,beq_iff_eq,List.contains_iff_mem]at q;exact⟨_,List.getElem?_eq_getElem hj',q.1,q.2⟩
 refine⟨⟨h1,q1N h2,q1N h3,h4,λj i e=>?_,λy hy hk=>?_⟩,λj k i e1 e2=>?_,h0⟩
 ·obtain⟨x,a,b,c⟩:=h5' j i e;exact⟨x,a,by rw[g.N];exact b,c⟩
 ·have q:=h6 y hy;rw[if_pos hk]at q;simp only[Bool.or_eq_true,beq_iff_eq]at q;exact g.cel _ q
 ·obtain⟨x,a,b,_⟩:=h5' j i e1;obtain⟨x',a',b',_⟩:=h5' k i e2;rw[b]at b';cases b';exact q4f (q1N h2) a a'
theorem q9W(g:Good sg G F X E)(h:q3O sg N' fr sc tg=true)(C:Addr)(cells:List (Str×Addr))(s₂:Shared)(H₂:Hp)(fp:List Addr)(x1:XK){E':St->XK}(hp:∀σ C o H,E' σ C o H->x1 C o H):Good ⟨N',sc.names,sg.fn,sg.bl,sg.cl,false,false⟩ G F (q0z X sc N' C cells s₂ H₂ fp x1) E':=by
 obtain⟨S,_,_⟩:=q3f g h;have look:∀x,(q0z X sc N' C cells s₂ H₂ fp x1).env.scope.names.lookup x=(sc.names.lookup x).map λk=>if(k==NameKind.free&&X.env.scope.kind == .function&&X.env.kindOf x==some .cell)=true then NameKind.cell else k:=λx=>q1W
 have one:∀x k,sc.names.lookup x=some k->k ≠ .free->(q0z X sc N' C cells s₂ H₂ fp x1).env.scope.names.lookup x=some k:=λx k e hk=>by rw[look,e,Option.map_some,if_neg];intro z;simp only[Bool.and_eq_true,beq_iff_eq]at z;exact hk z.1.1
 have two:∀x,sc.names.lookup x=some .free->(q0z X sc N' C cells s₂ H₂ fp x1).env.scope.names.lookup x=some .cell\/(q0z X sc N' C cells s₂ H₂ fp x1).env.scope.names.lookup x=some .free:=λx e=>by
  rw[look,e,Option.map_some];split
  ·exact .inl rfl
  ·exact .inr rfl
 refine⟨rfl,S.nd,λx hx=>?_,λx hx=>?_,λx hx=>?_,λx hx=>one x _ hx (by intro z;cases z),λx hx=>?_,g.calm,g.hu,g.fns,g.blt,?_,g.con,(λz=>nomatch z),g.xf,(λz=>nomatch z),g.dcs,g.hun,(λz=>⟨(g.lms z).1,(g.lms z).2.1,λw=>nomatch w⟩),g.rd⟩
 ·unfold visB at hx;simp only[Bool.or_eq_true,beq_iff_eq]at hx;rcases hx with(hx | hx) | hx
  ·exact .inl (one x _ hx (by intro z;cases z))
  ·exact .inr (.inl (one x _ hx (by intro z;cases z)))
  ·exact .inr (two x hx)
 ·unfold gloB at hx;rw[beq_iff_eq]at hx;exact one x _ hx (by intro z;cases z)
 ·unfold locB at hx;simp only[Bool.or_eq_true,beq_iff_eq]at hx;rcases hx with hx | hx
  ·exact⟨.inl (one x _ hx (by intro z;cases z)),.inr (one x _ hx (by intro z;cases z))⟩
  ·exact⟨.inr (one x _ hx (by intro z;cases z)),.inl (by show(sc.names.lookup x==some .cell)=true;rw[hx];rfl)⟩
 ·rcases hx with hx | hx
  ·exact .inl (one x _ hx (by intro z;cases z))
  ·exact two x hx
 ·intro pins σ H s e s' I z;obtain⟨ea,Cc,H',B,e1,e2,e3,e4,e5,e6,q⟩:=z;exact⟨pins,σ,H,s,I.comp0,ea,Cc,H',B,e1,e2,e3,e4,e5,e6,hp _ _ _ _ q⟩
theorem q3Q(g:Good sg G F X E)(h:q3O sg N' fr sc tg=true)(C:Addr)(cells:List (Str×Addr))(s₂:Shared)(H₂:Hp)(fp:List Addr)(x1:XK):Good ⟨N',sc.names,sg.fn,sg.bl,sg.cl,false,false⟩ G F (q0z X sc N' C cells s₂ H₂ fp x1) E0s:=q9W g h C cells s₂ H₂ fp x1 λ_ _ _ _ z=>z.elim
theorem q2X(g:Good sg G F X E){i:Nat}{x:Str}(h:q2Y sg i x=true):X.N[i]? = some x/\Vis X.env.scope x/\(x==("__debug__" : Str))=false/\(x==("__classdict__" : Str))=false:=by
 unfold q2Y at h;simp only[Bool.and_eq_true,beq_iff_eq,bne_iff_ne,ne_eq]at h;obtain⟨⟨⟨h1,h2⟩,h3⟩,h4⟩:=h;exact⟨by rw[g.N];exact h1,g.vis x h2,beq_eq_false_iff_ne.mpr h3,beq_eq_false_iff_ne.mpr h4⟩
theorem q7J(g:Good sg G F X E){x:Str}{f:Expr}(h:bltB sg x f=true):(∃p,f=.Name x p)/\Gl X x/\X.mg x=none:=by
 unfold bltB at h;simp only[Bool.and_eq_true,beq_iff_eq,List.contains_iff_mem]at h;obtain⟨⟨h1,h2⟩,h3⟩:=h;exact⟨q0n h1,g.glo x h2,g.blt x h3⟩
theorem q7w(g:Good sg G F X E)(pins:List (Addr×Obj))(E':St->Value->Hp->Prop):Good ⟨sg.N,sg.sc,sg.fn,sg.bl,sg.cl,false,false⟩ G F (X.tryIn pins E') (λσ C _ H=>E' σ C H):=
 ⟨g.N,g.nd,g.vis,g.glo,g.loc,g.lcl,g.cel,g.calm,g.hu,g.fns,g.blt,q8E,g.con,(λz=>nomatch z),g.xf,(λz=>nomatch z),g.dcs,g.hun,(λz=>⟨(g.lms z).1,(g.lms z).2.1,λw=>nomatch w⟩),g.rd⟩
theorem q6e(g:Good sg G F X E):∀(is:List Nat) (es:List Expr),es.length=is.length->((is.zip es).all λp=>match q0I p.2 with | some x=>sg.N[p.1]? == some x&&locB sg x | none=>false)=true ->
  PGs X es (q7T is)/\(assignEach es X.env).length=is.length/\(assignEach es X.env).findIdx? (·.1)=none
 | [],[],_,_=>⟨z4G,rfl,rfl⟩
 | [],_::_,h,_=>by cases h
 | _::_,[],h,_=>by cases h
 | i::is,e::es,hl,h=>by
  rw[List.zip_cons_cons,List.all_cons,Bool.and_eq_true]at h;obtain⟨h1,h2⟩:=h;obtain⟨A,B,C⟩:=q6e g is es (by simpa using hl) h2;split at h1
  ·rename_i x q;obtain⟨p,rfl⟩:=q0n q;simp only[Bool.and_eq_true,beq_iff_eq]at h1;have l:=g.loc x h1.2;refine⟨z1n (q9t g.nd (by rw[g.N];exact h1.1) l.1 l.2) A rfl,?_,?_⟩
   ·show(assignEach es X.env).length+1=is.length+1;rw[B]
   ·show((false,assign (.Name x p) X.env)::assignEach es X.env).findIdx? (·.1)=none;rw[List.findIdx?_cons,C];rfl
  ·cases h1
theorem z3H(g:Good sg G F X E){tgE:Expr}(h:tgOk sg tg tgE=true):PG X tgE (gT X.K tg):=by
 cases tg with
 | one i=>
  unfold tgOk at h;dsimp only at h;split at h
  ·rename_i x q;obtain⟨p,rfl⟩:=q0n q;simp only[Bool.and_eq_true,beq_iff_eq]at h;have l:=g.loc x h.2;exact q9t g.nd (by rw[g.N];exact h.1) l.1 l.2
  ·cases h
 | many is=>
  unfold tgOk at h;dsimp only at h;split at h
  ·rename_i es q;obtain⟨k,p,rfl⟩:=q4k q;rw[Bool.and_eq_true,Bool.and_eq_true,beq_iff_eq]at h;obtain⟨A,B,C⟩:=q6e g is es h.1.1 h.2;exact z6u g.calm A B C
  ·cases h
end
section
variable (G:Gs) (F:Nat->List DV->Option Ou)
def SE(m:ME):Prop:=∀{sg:Sg} {X:Cx} {E:St->XK} {e:Expr} {δ:List Sv} {r:Re},Good sg G F X E->corE sg false m e=true->evE G F m δ=some r->PE X e (dE X.D E δ r)
def ST(m:ME):Prop:=∀{sg:Sg} {X:Cx} {E:St->XK} {e:Expr} {δ:List Sv} {r:Rt},Good sg G F X E->corE sg false m e=true->tstD (evE G F m δ)=some r->PT X e (dT X.D E δ r)
def SI(m:ME):Prop:=∀{sg:Sg} {X:Cx} {E:St->XK} {e tg:Expr} {δ:List Sv} {r:Ri},Good sg G F X E->corE sg true m e=true->(isZp m=true->(q4P tg).isSome=true)->q2R (evE G F m δ)=some r->PI X tg e (dI X.D E δ r)
def SEs(ms:List ME):Prop:=∀{sg:Sg} {X:Cx} {E:St->XK} {es:List Expr} {δ:List Sv} {r:Rs},Good sg G F X E->q0V sg ms es=true->evEs G F ms δ=some r->PA X es (dA X.D E δ r)
def SAnd(ms:List ME):Prop:=∀{sg:Sg} {X:Cx} {E:St->XK} {es:List Expr} {δ:List Sv} {pos:Pos},Good sg G F X E->q0V sg ms es=true ->
 (∀r,q2v G F ms δ=some r->PE X (.BoolOp .And es pos) (dE X.D E δ r))/\(∀r,tstD (q2v G F ms δ)=some r->PW X (.BoolOp .And es pos) (dT X.D E δ r))
def SOr(ms:List ME):Prop:=∀{sg:Sg} {X:Cx} {E:St->XK} {es:List Expr} {δ:List Sv} {pos:Pos},Good sg G F X E->q0V sg ms es=true ->
 (∀r,evOr G F ms δ=some r->PE X (.BoolOp .Or es pos) (dE X.D E δ r))/\(∀r,tstD (evOr G F ms δ)=some r->PW X (.BoolOp .Or es pos) (dT X.D E δ r))
def S1(m:ME):Prop:=SE G F m/\ST G F m/\SI G F m
end
section
variable {G:Gs} {F:Nat->List DV->Option Ou}
theorem S1.of{m:ME}(h:SE G F m)(hw:∀sg e,corE sg true m e=corE sg false m e)(ht:∀sg e env,corE sg false m e=true->∀whole,isTrue e env whole=(do let v ←whole;standAt e.pos;holding [v] (truthy v))):S1 G F m:=
 ⟨h,λ{sg X E e δ r} g hc q=>q8H (λz hz=>h g hc hz) (ht sg e X.env hc) q,λ{sg X E e tg δ r} g hc _ q=>q7Y (λz hz=>h g (by rw[←hw];exact hc) hz) q⟩
theorem S1.of2{m:ME}(h:SE G F m)(ht:ST G F m)(hw:∀sg e,corE sg true m e=corE sg false m e):S1 G F m:=
 ⟨h,ht,λ{sg X E e tg δ r} g hc _ q=>q7Y (λz hz=>h g (by rw[←hw];exact hc) hz) q⟩
end
end L2
end
noncomputable section
namespace L2
open PySem PySem.Spec PyProof.Rows
def z7C:Expr->Bool
 | .UnaryOp .Not _ _=>false | .BoolOp _ _ _=>false | .IfExp _ _ _ _=>false | .Compare _ _ _ _=>false
 | _=>true
theorem q0i{e:Expr}(h:z7C e=true)(env:Env):∀whole,isTrue e env whole=(do let v ←whole;standAt e.pos;holding [v] (truthy v)):=by
 cases e with
 | UnaryOp o a p=>cases o<;>first | (intro _;rfl) | cases h
 | BoolOp _ _ _=>cases h
 | IfExp _ _ _ _=>cases h
 | Compare _ _ _ _=>cases h
 | _=>intro _;rfl
section
variable {G:Gs} {F:Nat->List DV->Option Ou} {a b c:ME}
theorem z8p{i:Nat}:S1 G F (.var i):=by
 refine .of (λ{sg X E e δ r} g hc h=>?_) (λ_ _=>rfl) (λsg e env hc=>?_)
 ·unfold corE at hc;split at hc
  ·rename_i x q;obtain⟨p,rfl⟩:=q0n q;obtain⟨h1,h2,h3,h4⟩:=q2X g hc;exact z3M h1 h2 h3 h4 (by unfold evE at h;exact h)
  ·cases hc
 ·unfold corE at hc;split at hc
  ·rename_i x q;obtain⟨p,rfl⟩:=q0n q;exact q0i rfl env
  ·cases hc
theorem q5D{m:ME}{k:Const}{d:DV}(hm:∀sg w e,corE sg w m e=true->q1L e=some k)(he:∀δ,evE G F m δ=some (.ok d .strong))(hw:∀sg e,corE sg true m e=corE sg false m e)
  (hp:∀{X:Cx} {E:St->XK} {δ:List Sv} {j:Nat} {pos:Pos} sg e,corE sg false m e=true->PE X (.Constant k j pos) (dE X.D E δ (.ok d .strong))):S1 G F m:=by
 refine .of (λ{sg X E e δ r} g hc h=>?_) hw (λsg e env hc=>?_)
 ·obtain⟨j,p,rfl⟩:=q1G (hm sg false e hc);rw[he]at h;cases h;exact hp sg _ hc
 ·obtain⟨j,p,rfl⟩:=q1G (hm sg false e hc);exact q0i rfl env
theorem z8R{i:Int}:S1 G F (.int i):=q5D (λsg w e h=>by unfold corE at h;exact beq_iff_eq.mp h) (λδ=>by unfold evE;rfl) (λ_ _=>rfl) λ_ _ _=>z3Y
theorem s_bl{i:Bool}:S1 G F (.bl i):=q5D (λsg w e h=>by unfold corE at h;exact beq_iff_eq.mp h) (λδ=>by unfold evE;rfl) (λ_ _=>rfl) λ_ _ _=>z5s
theorem z8H:S1 G F .non:=q5D (λsg w e h=>by unfold corE at h;exact beq_iff_eq.mp h) (λδ=>by unfold evE;rfl) (λ_ _=>rfl) λ_ _ _=>z3o
theorem z8L{i:Str}:S1 G F (.str i):=q5D (λsg w e h=>by unfold corE at h;rw[Bool.and_eq_true]at h;exact beq_iff_eq.mp h.1) (λδ=>by unfold evE;rfl) (λ_ _=>rfl) λ_ _ h=>by
 unfold corE at h;rw[Bool.and_eq_true,decide_eq_true_eq]at h;exact z3J (Nat.le_trans h.2 (by decide))
theorem z8v{x:Str}:S1 G F (.glb x):=by
 refine .of (λ{sg X E e δ r} g hc h=>?_) (λ_ _=>rfl) (λsg e env hc=>?_)
 ·unfold corE at hc;simp only[Bool.and_eq_true,beq_iff_eq,bne_iff_ne,ne_eq]at hc;obtain⟨p,rfl⟩:=q0n hc.1.1;unfold evE at h;obtain⟨d,h1,h2⟩:=Option.map_eq_some_iff.mp h;cases h2;obtain⟨u,v,m,rv,rp⟩:=g.con x d h1;exact(q8L (g.glo x hc.1.2) m rv (beq_eq_false_iff_ne.mpr hc.2)).weak λσ H Q ⟨O,W,R,p⟩=>p v H (Same.refl H) (rp _)
 ·unfold corE at hc;simp only[Bool.and_eq_true,beq_iff_eq]at hc;obtain⟨p,rfl⟩:=q0n hc.1.1;exact q0i rfl env
theorem z8D{op:Operator}(ha:S1 G F a)(hb:S1 G F b):S1 G F (.bin op a b):=by
 refine .of (λ{sg X E e δ r} g hc h=>?_) (λ_ _=>rfl) (λsg e env hc=>?_)
 ·unfold corE at hc;split at hc
  ·rename_i ea o eb q;obtain⟨p,rfl⟩:=q4i q;simp only[Bool.and_eq_true,beq_iff_eq]at hc;obtain⟨⟨h1,h2⟩,h3⟩:=hc;subst h1;unfold evE at h;exact z4y (λz hz=>ha.1 g h2 hz) (λz hz=>hb.1 g h3 hz) h
  ·cases hc
 ·unfold corE at hc;split at hc
  ·rename_i q;obtain⟨p,rfl⟩:=q4i q;exact q0i rfl env
  ·cases hc
theorem z8b(ha:S1 G F a):S1 G F (.neg a):=by
 refine .of (λ{sg X E e δ r} g hc h=>?_) (λ_ _=>rfl) (λsg e env hc=>?_)
 ·unfold corE at hc;split at hc
  ·rename_i o ea q;obtain⟨p,rfl⟩:=q5S q;simp only[Bool.and_eq_true,beq_iff_eq]at hc;obtain⟨h1,h2⟩:=hc;subst h1;unfold evE at h;exact z2Z (λz hz=>ha.1 g h2 hz) h
  ·cases hc
 ·unfold corE at hc;split at hc
  ·rename_i q;obtain⟨p,rfl⟩:=q5S q;simp only[Bool.and_eq_true,beq_iff_eq]at hc;obtain⟨h1,h2⟩:=hc;subst h1;exact q0i rfl env
  ·cases hc
theorem z9m(ha:S1 G F a):S1 G F (.not a):=by
 refine .of2 (λ{sg X E e δ r} g hc h=>?_) (λ{sg X E e δ r} g hc h=>?_) (λ_ _=>rfl)
 ·unfold corE at hc;split at hc
  ·rename_i o ea q;obtain⟨p,rfl⟩:=q5S q;simp only[Bool.and_eq_true,beq_iff_eq]at hc;obtain⟨h1,h2⟩:=hc;subst h1;unfold evE at h;exact z3j (λz hz=>ha.1 g h2 hz) h
  ·cases hc
 ·unfold corE at hc;split at hc
  ·rename_i o ea q;obtain⟨p,rfl⟩:=q5S q;simp only[Bool.and_eq_true,beq_iff_eq]at hc;obtain⟨h1,h2⟩:=hc;subst h1;unfold evE at h;exact z1H (λz hz=>ha.2.1 g h2 hz) h
  ·cases hc
theorem z8X{op:CmpOp}(ha:S1 G F a)(hb:S1 G F b):S1 G F (.cmp op a b):=by
 refine .of2 (λ{sg X E e δ r} g hc h=>?_) (λ{sg X E e δ r} g hc h=>?_) (λ_ _=>rfl)
 ·unfold corE at hc;split at hc
  ·rename_i ea o eb q;obtain⟨p,rfl⟩:=q4l q;simp only[Bool.and_eq_true,beq_iff_eq,Bool.not_eq_true']at hc;obtain⟨⟨⟨h1,h2⟩,h3⟩,h4⟩:=hc;subst h1;unfold evE at h;exact z4M g.hu (λz hz=>ha.1 g h2 hz) (λz hz=>hb.1 g h3 hz) h4 h
  ·cases hc
 ·unfold corE at hc;split at hc
  ·rename_i ea o eb q;obtain⟨p,rfl⟩:=q4l q;simp only[Bool.and_eq_true,beq_iff_eq,Bool.not_eq_true']at hc;obtain⟨⟨⟨h1,h2⟩,h3⟩,h4⟩:=hc;subst h1;unfold evE at h;exact z1L g.hu (λz hz=>ha.1 g h2 hz) (λz hz=>hb.1 g h3 hz) h4 h
  ·cases hc
theorem z3e{op op':CmpOp}(ha:S1 G F a)(hb:S1 G F b)(hcc:S1 G F c):S1 G F (.chain op op' a b c):=by
 refine .of2 (λ{sg X E e δ r} g hc h=>?_) (λ{sg X E e δ r} g hc h=>?_) (λ_ _=>rfl)
 ·unfold corE at hc;split at hc
  ·rename_i ea o o' eb ec q;obtain⟨p,rfl⟩:=q4l q;simp only[Bool.and_eq_true,beq_iff_eq,Bool.not_eq_true']at hc;obtain⟨⟨⟨⟨⟨h1,h1'⟩,h2⟩,h3⟩,h4⟩,h5⟩:=hc;subst h1 h1';unfold evE at h;exact z0k g.hu (λz hz=>ha.1 g h2 hz) (λz hz=>hb.1 g h3 hz) (λz hz=>hcc.1 g h4 hz) h5 h
  ·cases hc
 ·unfold corE at hc;split at hc
  ·rename_i ea o o' eb ec q;obtain⟨p,rfl⟩:=q4l q;simp only[Bool.and_eq_true,beq_iff_eq,Bool.not_eq_true']at hc;obtain⟨⟨⟨⟨⟨h1,h1'⟩,h2⟩,h3⟩,h4⟩,h5⟩:=hc;subst h1 h1';unfold evE at h;exact q8C g.hu (λz hz=>ha.1 g h2 hz) (λz hz=>hb.1 g h3 hz) (λz hz=>hcc.1 g h4 hz) h5 h
  ·cases hc
theorem s_ix(ha:S1 G F a)(hb:S1 G F b):S1 G F (.ix a b):=by
 refine .of (λ{sg X E e δ r} g hc h=>?_) (λ_ _=>rfl) (λsg e env hc=>?_)
 ·unfold corE at hc;split at hc
  ·rename_i ea eb q;obtain⟨p,rfl⟩:=q1w q;simp only[Bool.and_eq_true,Bool.not_eq_true']at hc;obtain⟨⟨h1,h2⟩,h3⟩:=hc;unfold evE at h;exact z6F (λz hz=>ha.1 g h1 hz) (λz hz=>hb.1 g h2 hz) h3 h
  ·cases hc
 ·unfold corE at hc;split at hc
  ·rename_i q;obtain⟨p,rfl⟩:=q1w q;exact q0i rfl env
  ·cases hc
theorem s_sl(ha:S1 G F a)(hb:S1 G F b)(hcc:S1 G F c):S1 G F (.sl a b c):=by
 refine .of (λ{sg X E e δ r} g hc h=>?_) (λ_ _=>rfl) (λsg e env hc=>?_)
 ·unfold corE at hc;split at hc
  ·rename_i ea es q;obtain⟨p,rfl⟩:=q1w q;split at hc
   ·rename_i q2;obtain⟨p2,rfl⟩:=q2K q2;simp only[Bool.and_eq_true]at hc;obtain⟨⟨h1,h2⟩,h3⟩:=hc;unfold evE at h;exact z6S (λz hz=>ha.1 g h1 hz) (λz hz=>hb.1 g h2 hz) (λz hz=>hcc.1 g h3 hz) h
   ·cases hc
  ·cases hc
 ·unfold corE at hc;split at hc
  ·rename_i q;obtain⟨p,rfl⟩:=q1w q;exact q0i rfl env
  ·cases hc
theorem z7X(ha:S1 G F a)(hb:S1 G F b):S1 G F (.stf a b):=by
 refine .of (λ{sg X E e δ r} g hc h=>?_) (λ_ _=>rfl) (λsg e env hc=>?_)
 ·unfold corE at hc;split at hc
  ·rename_i ea es q;obtain⟨p,rfl⟩:=q1w q;split at hc
   ·rename_i q2;obtain⟨p2,rfl⟩:=q2K q2;simp only[Bool.and_eq_true]at hc;obtain⟨h1,h2⟩:=hc;unfold evE at h;exact z3c (λz hz=>ha.1 g h1 hz) (λz hz=>hb.1 g h2 hz) h
   ·cases hc
  ·cases hc
 ·unfold corE at hc;split at hc
  ·rename_i q;obtain⟨p,rfl⟩:=q1w q;exact q0i rfl env
  ·cases hc
theorem z8u(ha:S1 G F a)(hb:S1 G F b):S1 G F (.stt a b):=by
 refine .of (λ{sg X E e δ r} g hc h=>?_) (λ_ _=>rfl) (λsg e env hc=>?_)
 ·unfold corE at hc;split at hc
  ·rename_i ea es q;obtain⟨p,rfl⟩:=q1w q;split at hc
   ·rename_i q2;obtain⟨p2,rfl⟩:=q2K q2;simp only[Bool.and_eq_true]at hc;obtain⟨h1,h2⟩:=hc;unfold evE at h;exact z3i (λz hz=>ha.1 g h1 hz) (λz hz=>hb.1 g h2 hz) h
   ·cases hc
  ·cases hc
 ·unfold corE at hc;split at hc
  ·rename_i q;obtain⟨p,rfl⟩:=q1w q;exact q0i rfl env
  ·cases hc
theorem z8N(ha:S1 G F a)(hb:S1 G F b)(hcc:S1 G F c):S1 G F (.stm a b c):=by
 refine .of (λ{sg X E e δ r} g hc h=>?_) (λ_ _=>rfl) (λsg e env hc=>?_)
 ·unfold corE at hc;split at hc
  ·rename_i ea es q;obtain⟨p,rfl⟩:=q1w q;split at hc
   ·rename_i q2;obtain⟨p2,rfl⟩:=q2K q2;simp only[Bool.and_eq_true]at hc;obtain⟨⟨h1,h2⟩,h3⟩:=hc;unfold evE at h;exact z2P (λz hz=>ha.1 g h1 hz) (λz hz=>hb.1 g h2 hz) (λz hz=>hcc.1 g h3 hz) h
   ·cases hc
  ·cases hc
 ·unfold corE at hc;split at hc
  ·rename_i q;obtain⟨p,rfl⟩:=q1w q;exact q0i rfl env
  ·cases hc
theorem z9c{i:Nat}{b:Bool}:S1 G F (.fld i b):=by
 refine .of (λ{sg X E e δ r} g hc h=>?_) (λ_ _=>rfl) (λsg e env hc=>?_)
 ·unfold corE at hc;split at hc
  ·rename_i o n pos q;have:=q1K q;subst this;rw[Bool.and_eq_true,beq_iff_eq]at hc;obtain⟨h1,h2⟩:=hc;subst h1;split at h2
   ·rename_i x qx;obtain⟨p,rfl⟩:=q0n qx;obtain⟨s1,s2,s3,s4⟩:=q2X g h2;unfold evE at h;split at h
    ·rename_i s hi;obtain⟨d,h3,h4⟩:=Option.map_eq_some_iff.mp h;cases h4;obtain⟨C,r1,r2,r3,r4,_⟩:=g.rd (q9E h3);exact z4K (q2u s1 s2 s3 s4) r2 r3 r4 r1 hi h3
    ·cases h
   ·cases h2
  ·cases hc
 ·unfold corE at hc;split at hc
  ·rename_i q;have:=q1K q;subst this;exact q0i rfl env
  ·cases hc
theorem q3l{sg:Sg}{i m:Nat}{e:Expr}{es:List Expr}(h:q6t sg i m e=some es):∃x n np apos pos,e=.Call (.Attribute (.Name x np) n apos) es [] pos/\q2Y sg i x=true/\rdN[m]? = some n/\(apos.endLine==pos.line)=true/\es.length<20:=by
 unfold q6t at h;split at h
 ·rename_i ef es' pos q;have:=q0E q;subst this;split at h
  ·rename_i o n apos q2;have:=q1K q2;subst this;split at h
   ·rename_i x q3;obtain⟨np,rfl⟩:=q0n q3;split at h
    ·rename_i hh;cases h;simp only[Bool.and_eq_true,decide_eq_true_eq]at hh;exact⟨x,n,np,apos,pos,rfl,hh.1.1.1,beq_iff_eq.mp hh.1.1.2,hh.1.2,hh.2⟩
    ·cases h
   ·cases h
  ·cases h
 ·cases h
theorem z2B{m:Nat}{n:Str}(h:rdN[m]? = some n):n ≠ "text" /\ n ≠ "place":=by
 have:n∈rdN:=List.mem_of_getElem? h;have all:∀y∈rdN,y≠("text" : Str)/\y≠("place" : Str):=by decide +kernel
 exact all n this
theorem z8a{i m:Nat}:S1 G F (.mth i m):=by
 refine .of (λ{sg X E e δ r} g hc h=>?_) (λ_ _=>rfl) (λsg e env hc=>?_)
 ·unfold corE at hc;split at hc
  ·rename_i q;obtain⟨x,n,np,apos,pos,rfl,h1,h2,hline,hfew⟩:=q3l q;obtain⟨s1,s2,s3,s4⟩:=q2X g h1;obtain⟨n1,n2⟩:=z2B h2;unfold evE at h;split at h
   ·rename_i s hi;split at h
    ·rename_i hh;split at h
     ·rename_i d s' hF;split at h
      ·rename_i he;cases h;have:=z8Z he;subst this;obtain⟨C,r1,r2,r3,r4,r5,_⟩:=g.rd (q9R hh.2);obtain⟨k,fa,fd,ps,w1,w2,w3,w4⟩:=r5 hh.1 m n h2;obtain⟨p,dx,t,k0,es⟩:=z2i r1 hh.2;subst es;refine(z0u (C:=C) (t:=t) (k0:=k0) (l:=[]) (oA:=λ_ _=>.ok d (rdD C p dx t k0)) (q2u s1 s2 s3 s4) r2 w2 n1 n2 hline hfew w4 w1 w3 g.pas hi (q2T.weak λσ H Q ⟨O,W,R,p⟩=>p [] H (Same.refl H) .nil) (λ_=>rfl) rfl rfl λa ob ok=>?_).weak λσ H Q ⟨O,W,R,kk⟩=>⟨O,W,R,λa dx' e1 e2 e3 v H' k' q1 q2 q3 q4=>?_⟩
       ·obtain⟨z1,z2,z3⟩:=q7g ok;subst z1;exact⟨dx,z2,z3,hF⟩
       ·obtain⟨⟨a',ob,f0,f1,f2,f3⟩,u⟩:=R.od i _ hi;obtain⟨z1,z2,z3⟩:=q7g f0;subst z1;rw[e1]at f1;cases f1;rw[f3,z2]at e3;have edx:dx'=dx:=by
         have q:=Option.some.inj e3;unfold rdO at q;injection q with _ q
         exact q.symm
        subst edx;have ek:k'=k0:=by
         unfold rdD at q1;injection q1 with q1
         injection q1 with _ q1
         injection q1 with _ q1
         injection q1 with _ q1
         injection q1 with _ q1
         injection q1 with q1 _
         injection q1 with q1
         exact q1.symm
        subst ek;refine kk v H' (λb o e=>?_) q4;by_cases z:b=a
        ·subst z;rw[f3,z2]at e;cases e;exact q3
        ·exact q2 b o (by rw[q0m (by rw[List.mem_singleton];exact z)];exact e)
      ·cases h
     ·cases h
    ·cases h
   ·cases h
  ·cases hc
 ·unfold corE at hc;split at hc
  ·rename_i q;obtain⟨x,n,np,apos,pos,rfl,h1,h2,_⟩:=q3l q;exact q0i rfl env
  ·cases hc
theorem z5y(ha:S1 G F a)(hb:S1 G F b):S1 G F (.scat a b):=by
 refine .of (λ{sg X E e δ r} g hc h=>?_) (λ_ _=>rfl) (λsg e env hc=>?_)
 ·unfold corE at hc;split at hc
  ·rename_i ea o eb q;obtain⟨p,rfl⟩:=q4i q;simp only[Bool.and_eq_true,beq_iff_eq]at hc;obtain⟨⟨h1,h2⟩,h3⟩:=hc;subst h1;unfold evE at h;exact z1G (λz hz=>ha.1 g h2 hz) (λz hz=>hb.1 g h3 hz) h
  ·cases hc
 ·unfold corE at hc;split at hc
  ·rename_i q;obtain⟨p,rfl⟩:=q4i q;exact q0i rfl env
  ·cases hc
variable {ms:List ME}
theorem q4v:∀{sg:Sg} {ms:List ME} {es:List Expr},q0V sg ms es=true->es.any q0s=false
 | _,[],[],_=>rfl
 | _,[],_::_,h=>by unfold q0V at h;cases h
 | _,_::_,[],h=>by unfold q0V at h;cases h
 | sg,m::ms,e::es,h=>by unfold q0V at h;simp only[Bool.and_eq_true,Bool.not_eq_true']at h;rw[List.any_cons,h.1.2,q4v h.2];rfl
theorem z8P(ha:SEs G F ms):S1 G F (.lst ms):=by
 refine .of (λ{sg X E e δ r} g hc h=>?_) (λ_ _=>rfl) (λsg e env hc=>?_)
 ·unfold corE at hc;split at hc
  ·rename_i es q;obtain⟨p,rfl⟩:=q6D q;unfold evE at h;exact z4a (λz hz=>ha g hc hz) h
  ·cases hc
 ·unfold corE at hc;split at hc
  ·rename_i q;obtain⟨p,rfl⟩:=q6D q;exact q0i rfl env
  ·cases hc
theorem z7J(ha:SEs G F ms):S1 G F (.tup ms):=by
 refine .of (λ{sg X E e δ r} g hc h=>?_) (λ_ _=>rfl) (λsg e env hc=>?_)
 ·unfold corE at hc;split at hc
  ·rename_i es q;obtain⟨k,p,rfl⟩:=q4k q;unfold evE at h;exact z4H (λz hz=>ha g hc hz) h
  ·cases hc
 ·unfold corE at hc;split at hc
  ·rename_i q;obtain⟨k,p,rfl⟩:=q4k q;exact q0i rfl env
  ·cases hc
theorem q4K{n:Nat}(h:n<=mostLen):n<=sizeLine:=Nat.le_trans h (by decide)
theorem z2V{X:Cx}{E:St->XK}{δ:List Sv}{o e:Expr}{apos cpos:Pos}{ra rb:Option Re}{re:Re}{name:Str}{id:String}{r:V->List V->Hp->VK->Prop}{dD:DV->DV->Option DV}{cl:Cl}(slot:Slot "str" name id)(hty:typeOf (.builtin id)=pure (.type "method_descriptor"))(hm:MtR X id r)
  (hr:∀z y d,dD (.str z) y=some d->∀O W H0 H2 cy w (Q:VK),Hid O W H0 H2->Got X.D O W H0 H2 y cy w->(∀u H',Same H2 H'->Got X.D O W H0 H' d cl u->Q u H')->r (.str z) [w] H2 Q)
  (ha:∀q,ra=some q->PE X o (dE X.D E δ q)) (hb:∀q,rb=some q->PE X e (dE X.D E δ q)) (hbase:attributeBase o name X.env (eval o X.env)=eval o X.env) (hline:(apos.endLine==cpos.line)=true) (hs:q0s e=false)
  (h:(Re.thn ra λx _=>if strB x then Re.thn rb λy _=>(dD x y).map λd=>.ok d cl else none)=some re):PE X (.Call (.Attribute o name apos) [e] [] cpos) (dE X.D E δ re):=by
 have C:=λto t (hO:PE X o to) (hA:PE X e t)=>z5D (o:=o) (apos:=apos) (cpos:=cpos) PySem.F.plainAttrs_str slot hty hm hO (q1u hA q2T (q0A hs)) hbase (by rw[q0A hs];rfl) hline (q0A hs) rfl;cases hra:ra with
 | none=>rw[hra]at h;cases h
 | some q=>
  rw[hra]at h;have A:=ha q hra;cases q with
  | ex c=>
   cases h;exact(C _ _ A q1Z).weak λσ H Q ⟨O,W,R,p⟩=>⟨O,W,R,p⟩
  | ok dx cx=>
   have h0:(if strB dx then Re.thn rb λy _=>(dD dx y).map λd=>Re.ok d cl else none)=some re:=h;cases dx with
   | str z=>
    rw[if_pos (show strB (.str z)=true from rfl)]at h0;cases hrb:rb with
    | none=>rw[hrb]at h0;cases h0
    | some q=>
     rw[hrb]at h0;have B:=hb q hrb;cases q with
     | ex c=>
      cases h0;refine(C _ _ A B).weak λσ H Q ⟨O,W,R,p⟩=>⟨O,W,R,λv H1 s1 g1=>?_⟩
      have e1:=(g1.str (R.hid.mono s1)).1;subst e1;exact⟨rfl,O,W,R.mono s1,λH' C m s=>p H' C m (s1.trans s)⟩
     | ok dy cy=>
      have h2:((dD (.str z) dy).map λd=>Re.ok d cl)=some re:=h0;obtain⟨d,h3,h4⟩:=Option.map_eq_some_iff.mp h2;cases h4;refine(C _ _ A B).weak λσ H Q ⟨O,W,R,p⟩=>⟨O,W,R,λv H1 s1 g1=>?_⟩;have e1:=(g1.str (R.hid.mono s1)).1;subst e1;refine⟨rfl,O,W,R.mono s1,λw H2 s2 g2=>?_⟩;exact hr z dy d h3 O W H H2 cy w Q (R.hid.mono (s1.trans s2)) (g2.since s1) λu H' s3 g3=>p u H' ((s1.trans s2).trans s3) g3
   | _=>cases h0
theorem z6N{X:Cx}:∀z y d,fndD (.str z) y=some d->∀O W H0 H2 cy w (Q:VK),Hid O W H0 H2->Got X.D O W H0 H2 y cy w->(∀u H',Same H2 H'->Got X.D O W H0 H' d .strong u->Q u H')->∃(y z':Str) (c:Nat),(V.str z)=.str y/\[w]=[.str z']/\z'.cps.toList=[c]/\Q (.int (q3x c y.cps.toList)) H2:=by
 intro z y d h O W H0 H2 cy w Q hd g k;unfold fndD at h;split at h
 ·rename_i x' y' e1;cases e1;split at h
  ·rename_i c hc;cases h;exact⟨z,y',c,rfl,by rw[(g.str hd).1],hc,k _ H2 (Same.refl H2) q0T⟩
  ·cases h
 ·cases h
theorem z8J(ha:S1 G F a)(hb:S1 G F b):S1 G F (.fnd a b):=by
 refine .of (λ{sg X E e δ r} g hc h=>?_) (λ_ _=>rfl) (λsg e env hc=>?_)
 ·unfold corE at hc;split at hc
  ·rename_i ef eb pos q;have:=q0E q;subst this;split at hc
   ·rename_i ea n apos q2;have:=q1K q2;subst this;simp only[Bool.and_eq_true,beq_iff_eq,Bool.not_eq_true',Bool.or_eq_true]at hc;obtain⟨⟨⟨⟨⟨h1,h2⟩,h3⟩,h4⟩,h5⟩,h6⟩:=hc;subst h1;have hbs:attributeBase ea "find" X.env (eval ea X.env)=eval ea X.env:=by
     rcases h3 with h3 | h3
     ·obtain⟨y,hy⟩:=Option.isSome_iff_exists.mp h3;obtain⟨np,rfl⟩:=q0n hy;rfl
     ·obtain⟨y,hy⟩:=Option.isSome_iff_exists.mp h3;obtain⟨j,np,rfl⟩:=q1G hy;rfl
    unfold evE at h;exact z2V PySem.F.slot_str_find PySem.F.type_str_find z4N z6N (λz hz=>ha.1 g h2 hz) (λz hz=>hb.1 g h5 hz) hbs (by rw[beq_iff_eq];exact h4) h6 h
   ·cases hc
  ·cases hc
 ·unfold corE at hc;split at hc
  ·rename_i q;have:=q0E q;subst this;exact q0i rfl env
  ·cases hc
theorem z9h(ha:S1 G F a):S1 G F (.fmt a):=by
 refine .of (λ{sg X E e δ r} g hc h=>?_) (λ_ _=>rfl) (λsg e env hc=>?_)
 ·unfold corE at hc;split at hc
  ·rename_i v q;obtain⟨fp,rfl⟩:=q8e q;unfold evE at h;cases hr:evE G F a δ with
   | none=>rw[hr]at h;cases h
   | some ra=>
    rw[hr]at h;have A:=ha.1 g hc hr;intro pins s σ H Q I ⟨O,W,R,p⟩;refine FormattedValue_plain ?_;cases ra with
    | ex c=>
     cases h;exact thn (A pins s σ H (λ_ _=>False) I ⟨O,W,R,p⟩) λu s1 ⟨x,H1,I1,r1,q1⟩=>q1.elim
    | ok d c=>
     have h':((fmtD d).map λx=>Re.ok (.str x) .strong)=some r:=h;obtain⟨y,h1,h2⟩:=Option.map_eq_some_iff.mp h';cases h2;unfold fmtD at h1;split at h1
     ·rename_i i;split at h1
      ·rename_i hi;cases h1;have hd:i.natAbs.log2<1920:=by
        by_cases z:i.natAbs=0
        ·rw[z];decide
        ·exact Nat.lt_of_lt_of_le ((Nat.log2_lt z).mpr hi) (by decide)
       refine thn (A pins s σ H (λv H'=>Same H H'/\Got X.D O W H H' (.int i) c v) I ⟨O,W,R,λv H' sm gt=>⟨sm,gt⟩⟩) λu s1 ⟨x,H1,I1,r1,sm,gt⟩=>?_;have hx:=gt.int (R.hid.mono sm);subst hx;obtain⟨t,rfl⟩:=r1;exact formatField_int_small hd ⟨.str _,H1,I1.tok _,⟨_,rfl⟩,p _ H1 sm (q0R.mpr ⟨rfl,int_text_fits hd⟩:Rep X.D (L2.wo (O++W) H1) _ _)⟩
      ·cases h1
     ·rename_i y';cases h1;refine thn (A pins s σ H (λv H'=>Same H H'/\Got X.D O W H H' (.str y) c v) I ⟨O,W,R,λv H' sm gt=>⟨sm,gt⟩⟩) λu s1 ⟨x,H1,I1,r1,sm,gt⟩=>?_
      obtain⟨hx,hz⟩:=gt.str (R.hid.mono sm);subst hx;obtain⟨t,rfl⟩:=r1;exact formatField_str (λt' tk=>⟨.str _,H1,I1.tok _,⟨_,rfl⟩,p _ H1 sm (q0R.mpr ⟨rfl,hz⟩:Rep X.D (L2.wo (O++W) H1) _ _)⟩) hz
     ·cases h1
  ·cases hc
 ·unfold corE at hc;split at hc
  ·rename_i v q;obtain⟨fp,rfl⟩:=q8e q;exact q0i rfl env
  ·cases hc
def SJ(G:Gs)(F:Nat->List DV->Option Ou)(ms:List ME):Prop:=∀{sg:Sg} {X:Cx} {E:St->XK} {es:List Expr} {δ:List Sv} {l:List (DV×Cl)} {acc x:Str},Good sg G F X E->q0V sg ms es=true->evEs G F ms δ=some (.ok l)->fstG acc l=some x->acc.length<=mostLen ->
 ∀(pins:List (Addr×Obj)) (s:Shared) (σ:St) (H:Hp) (Q:VK),Inv X pins σ H s->dE X.D E δ (.ok (.str x) .strong) σ H Q->wpAny (model X.prog X.w) X.A (joinParts acc (evalEach es X.env)) (EP X pins σ Q) X.xe s
theorem z8Q:SJ G F []:=λ{sg X E es δ l acc x} g hc h hf hl pins s σ H Q I q=>by
 cases es with
 | cons _ _=>unfold q0V at hc;cases hc
 | nil=>
  unfold evEs at h;cases h;cases hf;obtain⟨O,W,R,p⟩:=q;exact joinParts_nil ⟨.str acc,H,I.tok _,⟨_,rfl⟩,p _ H (Same.refl H) (q0R.mpr ⟨rfl,q4K hl⟩:Rep X.D (L2.wo (O++W) H) _ _)⟩ (q4K hl)
theorem z7q(ha:S1 G F a)(hb:SJ G F ms):SJ G F (a::ms):=λ{sg X E es δ l acc x} g hc h hf hl pins s σ H Q I q=>by
 cases es with
 | nil=>unfold q0V at hc;cases hc
 | cons e es=>
  unfold q0V at hc;simp only[Bool.and_eq_true,Bool.not_eq_true']at hc;unfold evEs at h;cases hr:evE G F a δ with
  | none=>rw[hr]at h;cases h
  | some ra=>
   rw[hr]at h;have A:=ha.1 g hc.1.1 hr;cases ra with
   | ex c=>cases h
   | ok d c=>
    cases hs:evEs G F ms δ with
    | none=>rw[hs]at h;cases h
    | some rs=>
     rw[hs]at h;cases rs with
     | ex c=>cases h
     | ok l'=>
      cases h;unfold fstG at hf;split at hf
      ·rename_i e0;cases e0
      ·rename_i y c' r e0;cases e0;split at hf
       ·rename_i hy;obtain⟨O,W,R,p⟩:=q;refine joinParts_cons (thn (A pins s σ H (λv H'=>Same H H'/\Got X.D O W H H' (.str y) c v) I ⟨O,W,R,λv H' sm gt=>⟨sm,gt⟩⟩) λu s1 ⟨v,H1,I1,r1,sm,gt⟩=>?_);obtain⟨hx,hz⟩:=gt.str (R.hid.mono sm);subst hx;obtain⟨t,rfl⟩:=r1;have hlen:(acc++y).length<=mostLen:=by rw[strLen_append];exact hy
        exact⟨q4K hlen,hb g hc.2 hs hf hlen pins s1 σ H1 Q I1 ⟨O,W,R.mono sm,λv H' s2 g2=>p v H' (sm.trans s2) g2⟩⟩
       ·cases hf
      ·cases hf
theorem z7P(ha:SJ G F ms):S1 G F (.fst ms):=by
 refine .of (λ{sg X E e δ r} g hc h=>?_) (λ_ _=>rfl) (λsg e env hc=>?_)
 ·unfold corE at hc;split at hc
  ·rename_i es q;obtain⟨fp,rfl⟩:=q6q q;rw[Bool.and_eq_true,decide_eq_true_eq]at hc;unfold evE at h;split at h
   ·rename_i l hl;obtain⟨x,h1,h2⟩:=Option.map_eq_some_iff.mp h;cases h2
    match es,hc with
    | e1::e2::es,hc=>exact λpins s σ H Q I q=>JoinedStr_many (ha g hc.2 hl h1 (by decide) pins s σ H Q I q)
   ·cases h
  ·cases hc
 ·unfold corE at hc;split at hc
  ·rename_i es q;obtain⟨fp,rfl⟩:=q6q q;exact q0i rfl env
  ·cases hc
theorem z6X{f:Nat}(ha:SEs G F ms):S1 G F (.call f ms):=by
 refine .of (λ{sg X E e δ r} g hc h=>?_) (λ_ _=>rfl) (λsg e env hc=>?_)
 ·unfold corE at hc;split at hc
  ·rename_i ef es pos q;have:=q0E q;subst this;rw[Bool.and_eq_true,Bool.and_eq_true]at hc;obtain⟨⟨h1,h2⟩,h3⟩:=hc;split at h1
   ·rename_i x qx;obtain⟨p,rfl⟩:=q0n qx;simp only[Bool.and_eq_true,beq_iff_eq,bne_iff_ne,ne_eq]at h1;obtain⟨k,fa,fd,ps,hr,hm,hk,hb,hl,fo,dk⟩:=g.fns f x h1.1.1;cases es with
    | nil=>cases h2
    | cons y ys=>
     have ns:=q4v h3;rw[List.any_cons,Bool.or_eq_false_iff]at ns;unfold evE at h;exact z0T fo hl hr (g.glo x h1.1.2) hm hk hb g.pas (λz hz=>ha g h3 hz) (beq_eq_false_iff_ne.mpr h1.2) ns.1 ns.2 h
   ·cases h1
  ·cases hc
 ·unfold corE at hc;split at hc
  ·rename_i q;have:=q0E q;subst this;exact q0i rfl env
  ·cases hc
theorem s_bi{f:Bi}(ha:SEs G F ms):S1 G F (.bi f ms):=by
 refine .of (λ{sg X E e δ r} g hc h=>?_) (λ_ _=>rfl) (λsg e env hc=>?_)
 ·unfold corE at hc;split at hc
  ·rename_i ef es pos q;have:=q0E q;subst this;rw[Bool.and_eq_true,Bool.and_eq_true]at hc;obtain⟨⟨h1,h2⟩,h3⟩:=hc;obtain⟨⟨p,rfl⟩,hg,hm⟩:=q7J g h1;unfold evE at h;cases es with
   | nil=>cases h2
   | cons y ys=>
    have go:q0V sg ms (y::ys)=true->(∀q,evEs G F ms δ=some q->PA X (y::ys) (dA X.D E δ q))/\q0s y=false/\ys.any q0s=false:=λz=>by have ns:=q4v z;rw[List.any_cons,Bool.or_eq_false_iff]at ns;exact⟨λw hw=>ha g z hw,ns.1,ns.2⟩
    cases f with
    | len=>obtain⟨A,s1,s2⟩:=go h3;exact z7u z5Y z4s hg hm boot_len (by decide) (by decide) A s1 s2 h
    | int=>obtain⟨A,s1,s2⟩:=go h3;exact q6L z6L z3q hg hm boot_int (by decide) (by decide) A s1 s2 h
    | list=>obtain⟨A,s1,s2⟩:=go h3;exact q6L z3B z1F hg hm boot_list (by decide) (by decide) A s1 s2 h
    | tuple=>obtain⟨A,s1,s2⟩:=go h3;exact q6L z1K z0q hg hm boot_tuple (by decide) (by decide) A s1 s2 h
  ·cases hc
 ·unfold corE at hc;split at hc
  ·rename_i q;have:=q0E q;subst this;exact q0i rfl env
  ·cases hc
theorem q9q{x:Str}(h:q2C.contains x=true):∃t,q5q x=some t:=by
 have key:∀x∈q2C,∃t,q5q x=some t:=by
  intro x hx;simp only[q2C,List.mem_cons,List.not_mem_nil,or_false]at hx;rcases hx with rfl | rfl | rfl | rfl | rfl | rfl
  ·exact⟨"int",by decide +kernel⟩
  ·exact⟨"bool",by decide +kernel⟩
  ·exact⟨"str",by decide +kernel⟩
  ·exact⟨"list",by decide +kernel⟩
  ·exact⟨"tuple",by decide +kernel⟩
  ·exact⟨"dict",by decide +kernel⟩
 exact key x (List.contains_iff_mem.mp h)
theorem q5V:∀x∈q2C,x ≠ "__name__" /\ (x==("__debug__" : Str))=false:=by
 intro x hx;simp only[q2C,List.mem_cons,List.not_mem_nil,or_false]at hx;rcases hx with rfl | rfl | rfl | rfl | rfl | rfl<;>exact⟨by decide +kernel,by decide +kernel⟩
theorem z8t{t:Str}(ha:S1 G F a):S1 G F (.isx a t):=by
 refine .of (λ{sg X E e δ r} g hc h=>?_) (λ_ _=>rfl) (λsg e env hc=>?_)
 ·unfold corE at hc;split at hc
  ·rename_i ef ea et pos q;have:=q0E q;subst this;simp only[Bool.and_eq_true,Bool.not_eq_true',beq_iff_eq,Bool.or_eq_true,List.contains_iff_mem,bne_iff_ne,ne_eq]at hc;obtain⟨⟨⟨⟨⟨⟨h1,h2⟩,h3⟩,h4⟩,h5⟩,h6⟩,h7⟩:=hc;obtain⟨⟨p,rfl⟩,hg,hm⟩:=q7J g h1;obtain⟨p',rfl⟩:=q0n h5;unfold evE at h;refine z4o g.xf hg hm (g.glo t h6) ?_ (λz hz=>ha.1 g h2 hz) h3 h;rcases h7 with⟨k1,k2⟩ | ⟨k1,k2⟩
   ·exact .inl ⟨k1,beq_eq_false_iff_ne.mpr k2⟩
   ·refine .inr ⟨g.blt t k1,?_⟩;simp only[z0r,List.mem_cons,List.not_mem_nil,or_false]at k2;exact k2
  ·cases hc
 ·unfold corE at hc;split at hc
  ·rename_i q;have:=q0E q;subst this;exact q0i rfl env
  ·cases hc
theorem z7Y{ts:List Str}(ha:S1 G F a):S1 G F (.isi a ts):=by
 refine .of (λ{sg X E e δ r} g hc h=>?_) (λ_ _=>rfl) (λsg e env hc=>?_)
 ·unfold corE at hc;split at hc
  ·rename_i ef ea et pos q;have:=q0E q;subst this;simp only[Bool.and_eq_true,Bool.not_eq_true']at hc;obtain⟨⟨⟨⟨h1,h2⟩,h3⟩,h4⟩,h5⟩:=hc;obtain⟨⟨p,rfl⟩,hg,hm⟩:=q7J g h1;split at h5
   ·rename_i t;simp only[Bool.and_eq_true,beq_iff_eq,List.contains_iff_mem]at h5;obtain⟨⟨⟨k1,k2⟩,k3⟩,k4⟩:=h5;obtain⟨p',rfl⟩:=q0n k1;obtain⟨T,hT⟩:=q9q (List.contains_iff_mem.mpr k4);obtain⟨n1,n2⟩:=q5V t k4;unfold evE at h;exact z4h hT hg hm (g.glo t k2) (g.blt t k3) n1 n2 (λz hz=>ha.1 g h2 hz) h3 h
   ·cases h5
  ·cases hc
 ·unfold corE at hc;split at hc
  ·rename_i q;have:=q0E q;subst this;exact q0i rfl env
  ·cases hc
theorem q4q:∀{ms:List ME} {δ:List Sv} {l:List (DV×Cl)},evEs G F ms δ=some (.ok l)->l.length=ms.length
 | [],_,_,h=>by unfold evEs at h;cases h;rfl
 | m::ms,δ,l,h=>by
  unfold evEs at h;split at h
  ·cases h
  ·cases h
  ·split at h
   ·cases h
   ·cases h
   ·rename_i l' q;cases h;rw[List.length_cons,List.length_cons,q4q q]
theorem q3X:∀{sg:Sg} {ms:List ME} {es:List Expr},q0V sg ms es=true->ms.length=es.length
 | _,[],[],_=>rfl
 | _,[],_::_,h=>by unfold q0V at h;cases h
 | _,_::_,[],h=>by unfold q0V at h;cases h
 | sg,m::ms,e::es,h=>by unfold q0V at h;simp only[Bool.and_eq_true]at h;rw[List.length_cons,List.length_cons,q3X h.2]
theorem z8d(ha:SEs G F ms):S1 G F (.rng ms):=by
 refine⟨λ{sg X E e δ r} g hc h=>?_,λ{sg X E e δ r} g hc h=>?_,λ{sg X E e tg δ r} g hc _ h=>?_⟩
 ·unfold corE at hc;rw[Bool.false_and]at hc;cases hc
 ·unfold corE at hc;rw[Bool.false_and]at hc;cases hc
 ·unfold corE at hc;rw[Bool.true_and]at hc;split at hc
  ·rename_i ef es pos q;have:=q0E q;subst this;rw[Bool.and_eq_true,decide_eq_true_eq]at hc;obtain⟨hc,hle⟩:=hc;rw[Bool.and_eq_true]at hc;obtain⟨⟨p,rfl⟩,hg,hm⟩:=q7J g hc.1;have l1:=q3X hc.2;have ns:=q4v hc.2;unfold evE at h;cases es with
   | nil=>
    exfalso;cases ms with
    | nil=>unfold evEs at h;cases h
    | cons _ _=>cases l1
   | cons y ys=>
    rw[List.any_cons,Bool.or_eq_false_iff]at ns;cases ys with
    | nil=>exact q8z hg hm (λz hz=>ha g hc.2 hz) ns.1 h λl hl=>by rw[q4q hl,l1];rfl
    | cons z zs=>simp at hle
  ·cases hc
theorem z3h{sg:Sg}{X:Cx}{E:St->XK}{e:Expr}{δ:List Sv}{r:Re}{tg:Tg}{fr:List (Option Nat)}{cp:CParts}{tn:List Str}(ha:S1 G F a)(hb:S1 G F b)(g:Good sg G F X E)(hemp:cp.ifs=[])
  (h2:corE sg true b cp.it=true) (hz:isZp b=true->(q4P cp.tg).isSome=true) (h4:q3O sg (q4M sg tn fr) fr cp.sc tg=true) (h5:tgOk ⟨q4M sg tn fr,cp.sc.names,sg.fn,sg.bl,sg.cl,false,false⟩ tg cp.tg=true) (h6:corE ⟨q4M sg tn fr,cp.sc.names,sg.fn,sg.bl,sg.cl,false,false⟩ false a cp.elt=true)
  (h:evE G F (.comp a tg b fr) δ=some r):q2c X E δ cp.tg cp.it cp.ifs cp.elt cp.sc (q4M sg tn fr) fr tg r:=by
 obtain⟨S,nd,sl⟩:=q3f g h4;rw[hemp];unfold evE at h;exact q4Y S g.calm nd sl (λz hz'=>hb.2.2 g h2 hz hz') (λC cells s₂ H₂ fp x1=>z3H (q3Q g h4 C cells s₂ H₂ fp x1) h5) (λδ' r' hr C cells s₂ H₂ fp x1=>ha.1 (q3Q g h4 C cells s₂ H₂ fp x1) h6 hr) h
def q6G(G:Gs)(F:Nat->List DV->Option Ou)(m:ME):Prop:=∀{sg:Sg} {X:Cx} {E:St->XK} {e:Expr} {δ:List Sv} {r:Re},Good sg G F X E->corE sg false m e=true->evE G F m δ=some r ->
 ∃(cp:CParts) (N':List Str) (fr:List (Option Nat)) (tg:Tg) (p:Pos),e=.ListComp cp.elt [⟨cp.tg,cp.it,cp.ifs,0⟩] cp.sc p/\CompScope X.N N' cp.sc X.env.scope fr/\q2c X E δ cp.tg cp.it cp.ifs cp.elt cp.sc N' fr tg r /\
  (∀C cells s₂ H₂ fp x1,PG (q0z X cp.sc N' C cells s₂ H₂ fp x1) cp.tg (gT X.K tg))/\q3h cp.it=false
theorem q6G.s1{m:ME}(h:q6G G F m)(hw:∀sg e,corE sg true m e=corE sg false m e)(hl:∀sg e,corE sg false m e=true->(q6l e).isSome=true):S1 G F m:=by
 refine .of (λ{sg X E e δ r} g hc q=>?_) hw (λsg e env hc=>?_)
 ·obtain⟨cp,N',fr,tg,p,rfl,S,P,hG,hs⟩:=h g hc q;exact P.pe S g.calm hG hs
 ·have:=hl sg e hc;cases z:q6l e with
  | none=>rw[z]at this;cases this
  | some cp=>obtain⟨p,rfl⟩:=q6n z;exact q0i rfl env
theorem z2t{tg:Tg}{fr:List (Option Nat)}(ha:S1 G F a)(hb:S1 G F b):q6G G F (.comp a tg b fr):=by
 intro sg X E e δ r g hc h;unfold corE at hc;split at hc
 ·rename_i cp q;obtain⟨p,rfl⟩:=q6n q;simp only[Bool.and_eq_true,Bool.not_eq_true',Bool.or_eq_true]at hc;obtain⟨⟨⟨h1,h2,h3⟩,h4⟩,h5⟩:=hc;split at h5
  ·rename_i tn qt;simp only[Bool.and_eq_true]at h5;refine⟨cp,_,fr,tg,p,rfl,(q3f g h5.1.1).1,z3h (e:=.ListComp cp.elt [⟨cp.tg,cp.it,cp.ifs,0⟩] cp.sc p) ha hb g (List.isEmpty_iff.mp h1) h2 (λz=>?_) h5.1.1 h5.1.2 h5.2 h,λC cells s₂ H₂ fp x1=>z3H (q3Q g h5.1.1 C cells s₂ H₂ fp x1) h5.1.2,h4⟩;rcases h3 with w | w
   ·rw[z]at w;cases w
   ·exact w
  ·cases h5
 ·cases hc
theorem z7c{tg:Tg}{fr:List (Option Nat)}(ha:S1 G F a)(hb:S1 G F b):S1 G F (.comp a tg b fr):=q6G.s1 (λ{sg X E e δ r}=>z2t ha hb) (λ_ _=>rfl) λsg e hc=>by
 unfold corE at hc;split at hc
 ·rename_i q;rw[q];rfl
 ·cases hc
theorem z8n:SEs G F []:=λ{sg X E es δ r} g hc h=>by
 cases es with
 | nil=>unfold evEs at h;cases h;exact z1O
 | cons _ _=>unfold q0V at hc;cases hc
theorem z6r(ha:S1 G F a)(hb:SEs G F ms):SEs G F (a::ms):=λ{sg X E es δ r} g hc h=>by
 cases es with
 | nil=>unfold q0V at hc;cases hc
 | cons e es=>
  unfold q0V at hc;simp only[Bool.and_eq_true,Bool.not_eq_true']at hc;unfold evEs at h;exact q9B hc.1.2 (λz hz=>ha.1 g hc.1.1 hz) (λz hz=>hb g hc.2 hz) h
theorem z3s:SAnd G F []:=λ{sg X E es δ pos} g hc=>⟨λr h=>(by unfold q2v at h;cases h),λr h=>(by unfold q2v at h;cases h)⟩
theorem z6h:SOr G F []:=λ{sg X E es δ pos} g hc=>⟨λr h=>(by unfold evOr at h;cases h),λr h=>(by unfold evOr at h;cases h)⟩
theorem z0S(ha:S1 G F a)(hb:SAnd G F ms):SAnd G F (a::ms):=λ{sg X E es δ pos} g hc=>by
 cases es with
 | nil=>unfold q0V at hc;cases hc
 | cons e es=>
  unfold q0V at hc;simp only[Bool.and_eq_true,Bool.not_eq_true']at hc;cases ms with
  | nil=>
   cases es with
   | nil=>
    refine⟨λr h=>?_,λr h=>?_⟩
    ·unfold q2v at h;exact z2u (ha.1 g hc.1.1 h)
    ·unfold q2v at h;exact z3D (ha.2.1 g hc.1.1 h)
   | cons _ _=>have:=hc.2;unfold q0V at this;cases this
  | cons m ms=>
   cases es with
   | nil=>have:=hc.2;unfold q0V at this;cases this
   | cons e' es=>
    have B:=@hb sg X E (e'::es) δ pos g hc.2;refine⟨λr h=>?_,λr h=>?_⟩
    ·unfold q2v at h;exact z4t (λz hz=>ha.1 g hc.1.1 hz) (λz hz=>B.1 z hz) h
    ·unfold q2v at h;exact z1o (λz hz=>ha.2.1 g hc.1.1 hz) (λz hz=>B.2 z hz) h
theorem z3m(ha:S1 G F a)(hb:SOr G F ms):SOr G F (a::ms):=λ{sg X E es δ pos} g hc=>by
 cases es with
 | nil=>unfold q0V at hc;cases hc
 | cons e es=>
  unfold q0V at hc;simp only[Bool.and_eq_true,Bool.not_eq_true']at hc;cases ms with
  | nil=>
   cases es with
   | nil=>
    refine⟨λr h=>?_,λr h=>?_⟩
    ·unfold evOr at h;exact z2u (ha.1 g hc.1.1 h)
    ·unfold evOr at h;exact z6s (ha.2.1 g hc.1.1 h)
   | cons _ _=>have:=hc.2;unfold q0V at this;cases this
  | cons m ms=>
   cases es with
   | nil=>have:=hc.2;unfold q0V at this;cases this
   | cons e' es=>
    have B:=@hb sg X E (e'::es) δ pos g hc.2;refine⟨λr h=>?_,λr h=>?_⟩
    ·unfold evOr at h;exact z5B (λz hz=>ha.1 g hc.1.1 hz) (λz hz=>B.1 z hz) h
    ·unfold evOr at h;exact z3t (λz hz=>ha.2.1 g hc.1.1 hz) (λz hz=>B.2 z hz) h
theorem z8f(ha:SAnd G F ms):S1 G F (.and ms):=by
 refine .of2 (λ{sg X E e δ r} g hc h=>?_) (λ{sg X E e δ r} g hc h=>?_) (λ_ _=>rfl)
 ·unfold corE at hc;split at hc
  ·rename_i o es q;obtain⟨p,rfl⟩:=q3m q;simp only[Bool.and_eq_true,beq_iff_eq]at hc;obtain⟨h1,h2⟩:=hc;subst h1;unfold evE at h;exact(ha g h2).1 r h
  ·cases hc
 ·unfold corE at hc;split at hc
  ·rename_i o es q;obtain⟨p,rfl⟩:=q3m q;simp only[Bool.and_eq_true,beq_iff_eq]at hc;obtain⟨h1,h2⟩:=hc;subst h1;unfold evE at h;exact((ha g h2).2 r h).pt
  ·cases hc
theorem s_or(ha:SOr G F ms):S1 G F (.or ms):=by
 refine .of2 (λ{sg X E e δ r} g hc h=>?_) (λ{sg X E e δ r} g hc h=>?_) (λ_ _=>rfl)
 ·unfold corE at hc;split at hc
  ·rename_i o es q;obtain⟨p,rfl⟩:=q3m q;simp only[Bool.and_eq_true,beq_iff_eq]at hc;obtain⟨h1,h2⟩:=hc;subst h1;unfold evE at h;exact(ha g h2).1 r h
  ·cases hc
 ·unfold corE at hc;split at hc
  ·rename_i o es q;obtain⟨p,rfl⟩:=q3m q;simp only[Bool.and_eq_true,beq_iff_eq]at hc;obtain⟨h1,h2⟩:=hc;subst h1;unfold evE at h;exact((ha g h2).2 r h).pt
  ·cases hc
end
section
variable {G:Gs} {F:Nat->List DV->Option Ou}
mutual
theorem snd:∀m:ME,S1 G F m
 | .var _=>z8p
 | .int _=>z8R
 | .bl _=>s_bl
 | .str _=>z8L
 | .non=>z8H
 | .glb _=>z8v
 | .bin _ a b=>z8D (snd a) (snd b)
 | .neg a=>z8b (snd a)
 | .not a=>z9m (snd a)
 | .cmp _ a b=>z8X (snd a) (snd b)
 | .chain _ _ a b c=>z3e (snd a) (snd b) (snd c)
 | .and es=>z8f (z2d es)
 | .or es=>s_or (z6O es)
 | .lst es=>z8P (sndL es)
 | .tup es=>z7J (sndL es)
 | .ix a b=>s_ix (snd a) (snd b)
 | .sl a b c=>s_sl (snd a) (snd b) (snd c)
 | .call _ es=>z6X (sndL es)
 | .bi _ es=>s_bi (sndL es)
 | .isi a _=>z7Y (snd a)
 | .isx a _=>z8t (snd a)
 | .comp a _ b _=>z7c (snd a) (snd b)
 | .fnd a b=>z8J (snd a) (snd b)
 | .scat a b=>z5y (snd a) (snd b)
 | .stf a b=>z7X (snd a) (snd b)
 | .stt a b=>z8u (snd a) (snd b)
 | .stm a b c=>z8N (snd a) (snd b) (snd c)
 | .fld _ _=>z9c
 | .mth _ _=>z8a
 | .fmt a=>z9h (snd a)
 | .fst es=>z7P (sndJ es)
 | .rng es=>z8d (sndL es)
theorem sndL:∀ms:List ME,SEs G F ms
 | []=>z8n
 | a::ms=>z6r (snd a) (sndL ms)
theorem sndJ:∀ms:List ME,SJ G F ms
 | []=>z8Q
 | a::ms=>z7q (snd a) (sndJ ms)
theorem z2d:∀ms:List ME,SAnd G F ms
 | []=>z3s
 | a::ms=>z0S (snd a) (z2d ms)
theorem z6O:∀ms:List ME,SOr G F ms
 | []=>z6h
 | a::ms=>z3m (snd a) (z6O ms)
end
end
end L2
end
noncomputable section
namespace L2
open PySem PySem.Spec PyProof.Rows
section
variable (G:Gs) (F:Nat->List DV->Option Ou) (fu:Nat)
def SS(m:MS):Prop:=∀{sg:Sg} {X:Cx} {E:St->XK} {st:Stmt} {δ:List Sv} {o:Out},Good sg G F X E->corS sg m st=true->evS G F fu m δ=some o->PS X st (dS X.D E δ o)
def SSs(ms:List MS):Prop:=∀{sg:Sg} {X:Cx} {E:St->XK} {sts:List Stmt} {δ:List Sv} {o:Out},Good sg G F X E->q2w sg ms sts=true->evSs G F fu ms δ=some o->PSs X sts (dS X.D E δ o)
end
section
variable {G:Gs} {F:Nat->List DV->Option Ou} {fu:Nat} {e k:ME} {i:Nat}
theorem z7s{e:ME}(h:q9S e=true):q6G G F e:=by
 cases e with
 | comp a _ b _=>exact z2t (snd a) (snd b)
 | _=>cases h
theorem z9k{own:Bool}:SS G F fu (.set i own e):=by
 intro sg X E st δ o g hc h;unfold corS at hc;split at hc
 ·rename_i t v pos;split at hc
  ·rename_i x pt;simp only[Bool.and_eq_true,beq_iff_eq,Bool.or_eq_true,Bool.not_eq_true']at hc;obtain⟨⟨⟨h1,h2⟩,h3⟩,h4⟩:=hc;have l:=g.loc x h2;have hN:X.N[i]? = some x:=by rw[g.N];exact h1
   unfold evS at h;cases hv:q5s v with
   | false=>exact z0M g.nd hN l.1 l.2 (λz hz=>(snd e).1 g h3 hz) (q1H hv) h
   | true=>
    rcases h4 with h4 | h5
    ·rw[hv]at h4;cases h4
    ·cases hr:evE G F e δ with
     | none=>rw[hr]at h;cases h
     | some r=>
      obtain⟨cp,N',fr,tg,p,rfl,S,P,hG,hs⟩:=z7s h5 g h3 hr;cases hb:(X.env.blockKind == .function&&X.env.kindOf x==some .local&&pt.line==(Expr.ListComp cp.elt [⟨cp.tg,cp.it,cp.ifs,0⟩] cp.sc p).pos.line && !(cp.sc.names.any λ(n,k)=>n==x&&(k == .local||k == .cell)))with
      | false=>
       have hsw:swapsWith (.ListComp cp.elt [⟨cp.tg,cp.it,cp.ifs,0⟩] cp.sc p) (some (.Name x pt)) pos.line X.env=pure false:=(by show(pure (X.env.blockKind == .function&&X.env.kindOf x==some .local&&pt.line==(Expr.ListComp cp.elt [⟨cp.tg,cp.it,cp.ifs,0⟩] cp.sc p).pos.line && !(cp.sc.names.any λ(n,k)=>n==x&&(k == .local||k == .cell))):Sem Bool)=pure false;rw[hb]);exact z0M g.nd hN l.1 l.2 (λz hz=>(snd e).1 g h3 hz) hsw h
      | true=>
       have hsw:swapsWith (.ListComp cp.elt [⟨cp.tg,cp.it,cp.ifs,0⟩] cp.sc p) (some (.Name x pt)) pos.line X.env=pure true:=(by show(pure (X.env.blockKind == .function&&X.env.kindOf x==some .local&&pt.line==(Expr.ListComp cp.elt [⟨cp.tg,cp.it,cp.ifs,0⟩] cp.sc p).pos.line && !(cp.sc.names.any λ(n,k)=>n==x&&(k == .local||k == .cell))):Sem Bool)=pure true;rw[hb]);rw[hr]at h;have h4:X.env.kindOf x=some .local:=by simp only[Bool.and_eq_true,beq_iff_eq]at hb;exact hb.1.1.2
       exact q7p S g.calm g.nd hN h4 P hG hs hsw h
  ·cases hc
 ·cases hc
theorem z7N:SS G F fu (.app i e):=by
 intro sg X E st δ o g hc h;unfold corS at hc;split at hc
 ·rename_i v pos;split at hc
  ·rename_i ef ea cpos q;have:=q0E q;subst this;split at hc
   ·rename_i ob n apos q2;have:=q1K q2;subst this;simp only[Bool.and_eq_true,Bool.not_eq_true']at hc;obtain⟨⟨⟨⟨h1,h2⟩,h3⟩,h4⟩,h5⟩:=hc;split at h2
    ·rename_i x q3;obtain⟨np,rfl⟩:=q0n q3;obtain⟨s1,s2,s3,s4⟩:=q2X g h2;have hn:n = "append":=beq_iff_eq.mp h1;subst hn;unfold evS at h;exact q8f (q2u s1 s2 s3 s4) (λz hz=>(snd e).1 g h3 hz) h4 h5 h
    ·cases h2
   ·cases hc
  ·cases hc
 ·cases hc
def z2S(X:Cx)(E:St->XK)(δ:List Sv)(i:Nat)(C p dx:Nat)(t:Str)(σ:St)(H0:Hp)(O W:List Addr)(Q:VK):Rm->Prop
 | .ok d s=>∀v H' k',s=rdD C p dx t k'->Same H0 H'->RSt X.D H' σ (δ.set i (.od s)) O W->Rep X.D (L2.wo (O++W) H') d v->Q v H'
 | .ex c=>∀H' Cv,X.mg c=some Cv->Same H0 H'->RSt X.D H' σ (noS δ) O []->E σ Cv none H'
theorem q7L{X:Cx}{E:St->XK}{δ:List Sv}{C a dx:Nat}{t:Str}{k0:Int}{σ:St}{H H0:Hp}{O W:List Addr}{Q:VK}{r:Rm}{s:DV}{o0:HO}(R:RSt X.D H σ δ O W)(hi:δ[i]? = some (.od s))(e1:σ[i]? = some (some (.ref a)))(e2:a∈W)(e3:H a=some (rdO C dx t k0))(hl:t.length<=sizeLine)(fr:∀a∈W,H0 a=none)(sm:Same H0 H)
  (k:z2S X E δ i C a dx t σ H0 O W Q r):z3k X E C a dx t σ H O W Q r:=by
 have sm0:∀H',Same (L2.wo [a] H) H'->Same H0 H':=λH' s b o e=>s b o (by
  rw[q0m (by rw[List.mem_singleton];intro z;rw[z,fr a e2]at e;cases e)];exact sm b o e)
 cases r with
 | ok d s'=>
  intro v H' k' q1 q2 q3 q4;exact k v H' k' q1 (sm0 H' q2) (by rw[q1];exact R.turnO hi e1 e2 e3 rfl (z5W hl) q2 q3) q4
 | ex c=>exact λH' Cv q1 q2=>k H' Cv q1 (sm0 H' q2) (R.forgetO e2 q2)
theorem q6X{sg:Sg}{X:Cx}{E:St->XK}{δ:List Sv}{v:Expr}{as:List Expr}{es:List ME}{l:List (DV×Cl)}{m:Nat}{s:DV}{r:Rm}(g:Good sg G F X E)(hq:q6t sg i m v=some as)(hce:q0V sg es as=true)(hev:evEs G F es δ=some (.ok l))(hi:δ[i]? = some (.od s))(hh:G.mtx=true/\rdB G s=true)(hs:stros l=true)(hF:Rm.of (F m (s::l.map (·.1)))=some r) :
  ∃C p dx t,PE X v (λσ H Q=>∃H0 O W,RSt X.D H σ δ O W/\(∀a∈W,H0 a=none)/\Same H0 H/\z2S X E δ i C p dx t σ H0 O W Q r):=by
 obtain⟨x,n,np,apos,pos,rfl,h1,h2,hline,hfew⟩:=q3l hq;obtain⟨s1,s2,s3,s4⟩:=q2X g h1;obtain⟨n1,n2⟩:=z2B h2;obtain⟨C,r1,r2,r3,r4,r5,_⟩:=g.rd (q9R hh.2);obtain⟨k,fa,fd,ps,w1,w2,w3,w4⟩:=r5 hh.1 m n h2;obtain⟨p,dx,t,k0,es'⟩:=z2i r1 hh.2;subst es';have A:PA X as (dA X.D E δ (.ok l)):=sndL es g hce hev;refine⟨C,p,dx,t,(z0u (C:=C) (t:=t) (k0:=k0) (l:=l) (oA:=λ_ _=>r) (q2u s1 s2 s3 s4) r2 w2 n1 n2 hline hfew w4 w1 w3 g.pas hi A (λz=>?_) (q4v hce) hs λa ob ok=>?_).weak λσ H Q ⟨H0,O,W,R,fr,sm,kk⟩=>⟨O,W,R,λa dx' e1 e2 e3=>?_⟩⟩
 ·subst z;cases es with
  | nil=>cases hev;rfl
  | cons _ _=>unfold q0V at hce;cases hce
 ·obtain⟨z1,z2,z3⟩:=q7g ok;subst z1;exact⟨dx,z2,z3,hF⟩
 ·obtain⟨⟨a',ob,f0,f1,f2,f3⟩,u⟩:=R.od i _ hi;obtain⟨z1,z2,z3⟩:=q7g f0;subst z1;rw[e1]at f1;cases f1;have e3':=e3;rw[f3,z2]at e3';have edx:dx'=dx:=by
   have q:=Option.some.inj e3';unfold rdO at q;injection q with _ q
   exact q.symm
  subst edx;exact q7L (o0:=ob) R hi e1 e2 e3 z3 fr sm kk
theorem q3M{δ:List Sv}{m:Nat}{rs:Option Rs}{kk:DV->DV->Option Out}{o:Out}(h:q7i G F i m δ rs kk=some o):∃s l r,δ[i]? = some (.od s)/\(G.mtx=true/\rdB G s=true)/\rs=some (.ok l)/\stros l=true/\Rm.of (F m (s::l.map (·.1)))=some r/\(match r with | .ok d s'=>kk d s'=some o | .ex c=>o=.ex c (noS δ)):=by
 unfold q7i at h;split at h
 ·rename_i s hi;split at h
  ·rename_i hh;split at h
   ·rename_i l;split at h
    ·rename_i hs;split at h
     ·rename_i d s' hF;exact⟨s,l,_,hi,hh,rfl,hs,hF,h⟩
     ·rename_i c hF;cases h;exact⟨s,l,_,hi,hh,rfl,hs,hF,rfl⟩
     ·cases h
    ·cases h
   ·cases h
  ·cases h
 ·cases h
theorem z8V{m:Nat}{es:List ME}:SS G F fu (.msx i m es):=by
 intro sg X E st δ o g hc h;unfold corS at hc;split at hc
 ·rename_i v pos;simp only[Bool.and_eq_true,Bool.not_eq_true']at hc;obtain⟨h1,h2⟩:=hc;split at h1
  ·rename_i as q;unfold evS at h;obtain⟨s,l,r,hi,hh,hev,hs,hF,hr⟩:=q3M h;obtain⟨C,p,dx,t,A⟩:=q6X g q h1 hev hi hh hs hF;refine(q8S A (q1H h2)).weak λDn σ H ⟨H0,O,W,R,fr,fo,sm,k⟩=>⟨H0,O,W,R,fr,sm,?_⟩
   cases r with
   | ok d s'=>
    have hr':some (Out.nx (δ.set i (.od s')))=some o:=hr;cases hr';exact λv' H' k' q1 q2 q3 q4=>k σ H' W q3 fr q2
   | ex c=>
    have hr':o=.ex c (noS δ):=hr;subst hr';exact λH' Cv q1 q2 q3=>k σ H' [] Cv q1 q3 (λa ha=>nomatch ha) q2
  ·cases h1
 ·cases hc
theorem z8i{m j:Nat}{es:List ME}:SS G F fu (.mst j i m es):=by
 intro sg X E st δ o g hc h;unfold corS at hc;split at hc
 ·rename_i tt v pos;simp only[Bool.and_eq_true,Bool.not_eq_true']at hc;obtain⟨⟨h0,h1⟩,h2⟩:=hc;split at h0
  ·rename_i x pt;rw[Bool.and_eq_true,beq_iff_eq]at h0;have lc:=g.loc x h0.2;split at h1
   ·rename_i as q;unfold evS at h;obtain⟨s,l,r,hi,hh,hev,hs,hF,hr⟩:=q3M h;obtain⟨C,p,dx,t,A⟩:=q6X g q h1 hev hi hh hs hF;refine(q4H g.nd (by rw[g.N];exact h0.1) lc.1 A (q1H h2) lc.2).weak λDn σ H ⟨H0,O,W,R,fr,fo,sm,k⟩=>⟨H0,O,W,R,fr,sm,?_⟩
    cases r with
    | ok d s'=>
     have hr':(if j≠i then some (Out.nx ((δ.set i (.od s')).set j (.val d)))else none)=some o:=hr;split at hr'
     ·cases hr';exact λv' H' k' q1 q2 q3 q4=>k (σ.set j (some v')) H' W (q3.setVal q4 j) fr q2
     ·cases hr'
    | ex c=>
     have hr':o=.ex c (noS δ):=hr;subst hr';exact λH' Cv q1 q2 q3=>k σ H' [] Cv q1 q3 (λa ha=>nomatch ha) q2
   ·cases h1
  ·cases h0
 ·cases hc
theorem z8o:SS G F fu (.rtm i e):=by
 intro sg X E st δ o g hc h;unfold corS at hc;split at hc
 ·rename_i v pos;unfold evS at h;split at h
  ·rename_i s hi;split at h
   ·rename_i d c hv;split at h
    ·rename_i hs;cases h;refine(q5Y ((snd e).1 g hc hv)).weak λDn σ H ⟨H0,O,W,R,fr,fo,sm,k⟩=>⟨O,W,R,λv H1 s1 gt=>?_⟩
     obtain⟨⟨a,ob,f0,f1,f2,f3⟩,u⟩:=(R.mono s1).od i _ hi;exact k v H1 a ob (sm.trans s1) f0 f3 ((gt.stro (R.hid.mono s1) hs).mono (q0Q λb hb=>by
      rcases List.mem_append.mp hb with hb | hb
      ·exact List.mem_append_left _ hb
      ·rw[List.mem_singleton.mp hb];exact List.mem_append_right _ f2))
    ·cases h
   ·cases h
  ·cases h
 ·cases hc
theorem z8W{m:Nat}{x:Str}:SS G F fu (.rtd i m x):=by
 intro sg X E st δ o g hc h;unfold corS at hc;split at hc
 ·rename_i v pos;split at hc
  ·rename_i ea eb qt;obtain⟨kt,pt,rfl⟩:=q4k qt;simp only[Bool.and_eq_true,Bool.not_eq_true']at hc;obtain⟨⟨h0,h1⟩,h2⟩:=hc;split at h2
   ·rename_i q;unfold evS at h;obtain⟨s,l,r,hi,hh,hev,hs,hF,hr⟩:=q3M h;cases hev;obtain⟨C,p,dx,t,A⟩:=q6X (es:=[]) g q rfl rfl hi hh hs hF;have B1:=(snd (.str x)).1 (r:=.ok (.str x) .strong) (δ:=δ) g h0 (by unfold evE;rfl);have hst:q0s eb=false:=by obtain⟨_,_,_,_,_,rfl,_⟩:=q3l q;rfl
    refine(q5Y (z2k (q1u B1 (q1u A q2T (q0A hst)) (q0A h1)))).weak λDn σ H ⟨H0,O,W,R,fr,fo,sm,k⟩=>⟨O,W,R,λu1 H1 s1 gt1=>⟨H0,O,W,R.mono s1,fr,sm.trans s1,?_⟩⟩;cases r with
    | ok d s'=>
     have hr':some (Out.rtm (.tup [.str x,d]) s')=some o:=hr;cases hr';intro v' H' k' q1 q2 q3 q4;refine⟨show 2<=sizeLine by decide,λq hq=>?_⟩;have hil:i<δ.length:=(List.getElem?_eq_some_iff.mp hi).1;obtain⟨⟨a,ob,f0,f1,f2,f3⟩,u⟩:=q3.od i s' (List.getElem?_set_self hil);have hup:=q0w (o:=.tup [u1,v']) hq;have hqo:q∉O++W:=λz=>q3.hid.ot q z hq;have sb:∀b∈O++[a],b∈O++W:=λb hb=>by
      rcases List.mem_append.mp hb with hb | hb
      ·exact List.mem_append_left _ hb
      ·rw[List.mem_singleton.mp hb];exact List.mem_append_right _ f2
     obtain⟨g1,g2⟩:=gt1.str (R.hid.mono s1);refine k (.ref q) _ a ob (q2.trans hup) f0 (hup _ _ f3) (q0L.mpr ⟨q,_,rfl,SqT.of (by rw[q0m λz=>hqo (sb _ z)];exact q0v),q0t.mpr ⟨_,_,rfl,q0R.mpr ⟨g1,g2⟩,RepL.one ((q4.mono (q0Q sb)).mono hup.wo)⟩⟩)
    | ex c=>
     have hr':o=.ex c (noS δ):=hr;subst hr';exact λH' Cv q1 q2 q3=>k σ H' [] Cv q1 q3 (λa ha=>nomatch ha) q2
   ·cases h2
  ·cases hc
 ·cases hc
theorem z9l:SS G F fu (.fau i e):=by
 intro sg X E st δ o g hc h;unfold corS at hc;split at hc
 ·rename_i tt op v pos;simp only[Bool.and_eq_true,beq_iff_eq]at hc;obtain⟨⟨h0,h1⟩,h2⟩:=hc;subst h0;split at h1
  ·rename_i ob n apos q;have:=q1K q;subst this;rw[Bool.and_eq_true,beq_iff_eq]at h1;obtain⟨h3,h4⟩:=h1;subst h3;split at h4
   ·rename_i x qx;obtain⟨np,rfl⟩:=q0n qx;obtain⟨s1,s2,s3,s4⟩:=q2X g h4;unfold evS at h;split at h
    ·rename_i cc aa xx ty k0 hi;split at h
     ·rename_i d0 hf;obtain⟨C,r1,r2,r3,r4,_⟩:=g.rd (q9E hf);have rd:∀{H:Hp} {σ:St} {O W:List Addr},RSt X.D H σ δ O W->∃a dx t,σ[i]? = some (some (.ref a))/\a∈W/\H a=some (rdO C dx t k0)/\∀j,OdOk (.tup [cc,aa,xx,ty,.int j]) a (rdO C dx t j):=λ{H σ O W} R=>by
       obtain⟨⟨a,ob,f0,f1,f2,f3⟩,u⟩:=R.od i _ hi;rcases f0 with⟨L,e,_⟩ | ⟨L,e,_⟩ | ⟨C',dx',qa,qx,t',k',e,z1,z2,z3,z4⟩
       ·cases e
       ·cases e
       ·injection e with e
        injection e with e1' e
        injection e with e2' e
        injection e with e3' e
        injection e with e4 e
        injection e with e5 e
        injection e5 with e5
        subst e1' e2' e3' e4 e5;have c1:C'=C:=by
         have hf':(if(C':Int)=G.rdc/\0<=(C':Int)then some (if true then DV.int k0 else .str t')else none)=some d0:=hf;split at hf'
         ·omega
         ·cases hf'
        subst c1;subst z4;exact⟨a,dx',t',f1,f2,f3,λj=>.inr (.inr ⟨C',dx',_,_,t',j,rfl,z1,z2,z3,rfl⟩)⟩
      cases hv:evE G F e δ with
      | none=>rw[hv]at h;cases h
      | some re=>
       rw[hv]at h;have A:=(snd e).1 g h2 hv;cases re with
       | ex c=>
        cases h;refine(q6j (q2u s1 s2 s3 s4) A z2w).weak λDn σ H ⟨H0,O,W,R,fr,fo,sm,k⟩=>?_
        obtain⟨a,dx,t,f1,f2,f3,f4⟩:=rd R;exact⟨.ref a,f1,a,C,dx,_,.int k0,rfl,f3,r2,r4,rfl,O,W,R,q8n R fr sm k⟩
       | ok d c=>
        have h':(match(generalizing:=false) d with | .int j=>some (Out.nx (δ.set i (.od (.tup [cc,aa,xx,ty,.int (k0+j)])))) | _=>none)=some o:=h;split at h'
        ·rename_i j;cases h';refine(q6j (q2u s1 s2 s3 s4) A z2w).weak λDn σ H ⟨H0,O,W,R,fr,fo,sm,k⟩=>?_
         obtain⟨a,dx,t,f1,f2,f3,f4⟩:=rd R;refine⟨.ref a,f1,a,C,dx,_,.int k0,rfl,f3,r2,r4,rfl,O,W,R,λy H1 sm1 gt=>?_⟩;have hy:=gt.int (R.hid.mono sm1);subst hy;refine⟨k0,j,rfl,rfl,dx,_,sm1 _ _ f3,(show 2<1000 by decide),?_⟩;exact k σ _ W ((R.mono sm1).writeOd hi f1 f2 (sm1 _ _ f3) rfl (f4 (k0+j))) fr (q5o (sm.trans sm1) (fr a f2))
        ·cases h'
     ·cases h
    ·cases h
   ·cases h4
  ·cases h1
 ·cases hc
theorem z0y{X:Cx}:q5n (CXx X.prog X.w X.base) X (λ_ _ _=>False):=by
 intro pins σ H s e s' I z;obtain⟨_,_,_,_,_,_,_,_,_,_,q⟩:=z;exact q.elim
theorem q7v{H:Hp}{p:Addr}{a b:HO}:upd (upd H p a) p b=upd H p b:=by
 funext c
 by_cases z:c=p
 ·subst z;rw[q0v,q0v]
 ·rw[q0j z,q0j z,q0j z]
theorem z7Z:SS G F fu (.mkr i e):=by
 intro sg X E st δ o g hc h;unfold corS at hc;split at hc
 ·rename_i tt v pos;rw[Bool.and_eq_true]at hc;obtain⟨h0,h1⟩:=hc;split at h0
  ·rename_i x pt;rw[Bool.and_eq_true,beq_iff_eq]at h0;have lc:=g.loc x h0.2;split at h1
   ·rename_i ef ea cpos q;have:=q0E q;subst this;simp only[Bool.and_eq_true,beq_iff_eq,Bool.not_eq_true']at h1;obtain⟨⟨⟨h1,h2⟩,h3⟩,h4⟩:=h1;obtain⟨p,rfl⟩:=q0n h1;unfold evS at h;split at h
    ·rename_i hpos;split at h
     ·rename_i t c hv;split at h
      ·rename_i hno;cases h;obtain⟨C,r1,r2,r3,r4,r5,r6⟩:=g.rd hpos.1;obtain⟨o1,ho1⟩:=Option.isSome_iff_exists.mp hno.2;obtain⟨k,fi,fdi,psi,fa,fd,ps,f,w1,w2,w3,w4,w5,_⟩:=r6 hpos.2 t 0 o1 ho1;have A:=(snd e).1 g h3 hv;have M:=z4p (x:="Reader") (p:=p) (pos:=cpos) w3 w5 w1 (g.glo _ h2) w2 w4 .nil z0y (q1u A q2T (q0A h4)) (by decide) (q0A h4) rfl;refine(q4H g.nd (by rw[g.N];exact h0.1) lc.1 M (q1H rfl) lc.2).weak λDn σ H ⟨H0,O,W,R,fr,fo,sm,k⟩=>⟨O,W,R,λv1 H1 s1 gt=>λx' dx hx hdx hne=>?_⟩
       obtain⟨g1,g2⟩:=gt.str (R.hid.mono s1);subst g1;refine⟨x',dx,t,rfl,q0v,rfl,?_⟩;rw[q7v];have a1:Same H1 (upd H1 dx (.own x')):=q0w hdx;have hx2:upd H1 dx (.own x') x'=none:=by rw[q0j (Ne.symm hne)];exact hx
       have a2:Same (upd H1 dx (.own x')) (upd (upd H1 dx (.own x')) x' (rdO C dx t 0)):=q0w hx2;have R2:=(((R.mono s1).mono a1).growD (o0:=rdO C dx t 0) hx2 rfl).setOd (i:=i) (d0:=.tup [.int G.rdc,.non,.non,.str t,.int 0]) (List.mem_cons_self ..) (.inr (.inr ⟨C,dx,.non,.non,t,0,by rw[r1],.inl rfl,.inl rfl,g2,rfl⟩)) q0v hno.1;refine k _ _ (x'::W) R2 (λa ha=>?_) ((sm.trans s1).trans (a1.trans a2));rcases List.mem_cons.mp ha with z | z
       ·rw[z];exact(sm.trans s1).free hx
       ·exact fr a z
      ·cases h
     ·cases h
    ·cases h
   ·cases h1
  ·cases h0
 ·cases hc
theorem z8F{j:Nat}:SS G F fu (.rdp j i):=by
 intro sg X E st δ o g hc h;unfold corS at hc;split at hc
 ·rename_i tt v pos;rw[Bool.and_eq_true]at hc;obtain⟨h0,h1⟩:=hc;split at h0
  ·rename_i x pt;rw[Bool.and_eq_true,beq_iff_eq]at h0;have lc:=g.loc x h0.2;split at h1
   ·rename_i q;obtain⟨x2,n,np,apos,cpos,rfl,h2,h3,hline,hfew⟩:=q3l q;have hn:n = "take_plan":=by
     have h4:(rdN[4]?:Option Str)=some ("take_plan" : Str):=rfl;rw[h4]at h3;exact(Option.some.inj h3).symm
    subst hn;obtain⟨s1,s2,s3,s4⟩:=q2X g h2;unfold evS at h;split at h
    ·rename_i c t k0 hi;split at h
     ·rename_i hc2;obtain⟨C,r1,r2,r3,r4,r5,r6⟩:=g.rd hc2.2.2;have hcC:c=(C:Int):=hc2.1.trans r1;subst hcC;have ok:∀a ob,OdOk (.tup [.int (C:Int),.non,.non,.str t,.int k0]) a ob->∃dx,ob=rdO C dx t k0/\t.length<=sizeLine:=λa ob ok=>by
       rcases ok with⟨L,e,_⟩ | ⟨L,e,_⟩ | ⟨C',dx',qa,qx,t',k',e,z1,z2,z3,z4⟩
       ·cases e
       ·cases e
       ·injection e with e
        injection e with e1' e
        injection e with e2' e
        injection e with e3' e
        injection e with e4 e
        injection e with e5 e
        injection e1' with e1'
        injection e4 with e4
        injection e5 with e5
        subst e4 e5;have c1:C=C':=by omega
        subst c1;exact⟨dx',z4,z3⟩
      have go:∀r,Rm.of (F rdIx [.str t,.int k0])=some r->PE X (.Call (.Attribute (.Name x2 np) "take_plan" apos) [] [] cpos) (λσ H Q=>∃H0 O W,RSt X.D H σ δ O W/\(∀a∈W,H0 a=none)/\Same H0 H/\∀a dx,z2S X E δ i C a dx t σ H0 O W Q (rmAt C a dx t r)):=λr hr=>by
       obtain⟨kk,fi,fdi,psi,fa,fd,ps,f,w1,w2,w3,w4,w5,w6,w7,w8,w9⟩:=r6 hc2.2.1 t k0 r hr;refine(z0u (C:=C) (t:=t) (k0:=k0) (l:=[]) (f:=f) (oA:=λa dx=>rmAt C a dx t r) (q2u s1 s2 s3 s4) r2 w6 (by decide) (by decide) hline hfew w8 (w1.mono (Nat.le_succ _)) w7 g.pas hi (q2T.weak λσ H Q ⟨O,W,R,p⟩=>p [] H (Same.refl H) .nil) (λ_=>rfl) rfl rfl λa ob q=>?_).weak λσ H Q ⟨H0,O,W,R,fr,sm,k⟩=>⟨O,W,R,λa dx e1 e2 e3=>?_⟩
       ·obtain⟨dx,q1,q2⟩:=ok a ob q;exact⟨dx,q1,q2,w9 a dx⟩
       ·obtain⟨⟨a',ob,f0,f1,f2,f3⟩,u⟩:=R.od i _ hi;obtain⟨dx2,q1,q2⟩:=ok a' ob f0;exact q7L (o0:=ob) R hi e1 e2 e3 q2 fr sm (k a dx)
      split at h
      ·rename_i d k' hF;split at h
       ·cases h;refine(q4H g.nd (by rw[g.N];exact h0.1) lc.1 (go _ hF) (q1H rfl) lc.2).weak λDn σ H ⟨H0,O,W,R,fr,fo,sm,k⟩=>⟨H0,O,W,R,fr,sm,λa dx v' H' k2 q1 q2 q3 q4=>?_⟩
        have hil:i<δ.length:=(List.getElem?_eq_some_iff.mp hi).1;have R2:RSt X.D H' σ (δ.set i (.od (.tup [.int (C:Int),.non,.non,.str t,.int k']))) O W:=(by obtain⟨⟨a',ob,f0,f1,f2,f3⟩,u⟩:=q3.od i _ (List.getElem?_set_self hil);obtain⟨z1,z2,z3⟩:=q7g f0;subst z1;subst z2;have:=q3.turnO (d1:=.tup [.int (C:Int),.non,.non,.str t,.int k']) (List.getElem?_set_self hil) f1 f2 f3 rfl (.inr (.inr ⟨C,dx,.non,.non,t,k',rfl,.inl rfl,.inl rfl,z3,rfl⟩)) q1B f3;rw[List.set_set]at this;exact this);exact k (σ.set j (some v')) H' W (R2.setVal q4 j) fr q2
       ·cases h
      ·rename_i c2 hF;cases h;refine(q4H g.nd (by rw[g.N];exact h0.1) lc.1 (go _ hF) (q1H rfl) lc.2).weak λDn σ H ⟨H0,O,W,R,fr,fo,sm,k⟩=>⟨H0,O,W,R,fr,sm,λa dx H' Cv q1 q2 q3=>k σ H' [] Cv q1 q3 (λa ha=>nomatch ha) q2⟩
      ·cases h
     ·cases h
    ·cases h
   ·cases h1
  ·cases h0
 ·cases hc
theorem z8E:SS G F fu (.ret e):=by
 intro sg X E st δ o g hc h;unfold corS at hc;split at hc
 ·unfold evS at h;exact z4D (λz hz=>(snd e).1 g hc hz) h
 ·cases hc
theorem z8y{c:Str}:SS G F fu (.rse c e):=by
 intro sg X E st δ o g hc h;unfold corS at hc;split at hc
 ·rename_i v pos;split at hc
  ·rename_i ef ea cpos q;have:=q0E q;subst this;simp only[Bool.and_eq_true,Bool.not_eq_true',beq_iff_eq,bne_iff_ne,ne_eq]at hc;obtain⟨⟨⟨⟨⟨h0,h1⟩,h2⟩,h3⟩,h4⟩,h5⟩:=hc;obtain⟨np,rfl⟩:=q0n h1;unfold evS at h;exact z0i g.xf g.calm (g.glo c h2) (beq_eq_false_iff_ne.mpr h3) (g.st h0).2.2.2.1 (λz hz=>(snd e).1 g h4 hz) h5 h
  ·cases hc
 ·cases hc
theorem z8e{body:List MS}{c:Str}{ie ic:Nat}(hb:SSs G F fu body):SS G F fu (.tryc body c ie ic):=by
 intro sg X E st δ o g hc h;unfold corS at hc;split at hc
 ·rename_i b hd pos;cases hd with
  | ExceptHandler t n bd hp=>
  simp only[Bool.and_eq_true,q3t]at hc;obtain⟨⟨h0,h1⟩,h2⟩:=hc;split at h2
  ·rename_i t' n' t2 v2 ap q;simp only[Option.some.injEq,Prod.mk.injEq]at q;obtain⟨rfl,rfl,rfl⟩:=q;simp only[Bool.and_eq_true,beq_iff_eq,bne_iff_ne,ne_eq,List.contains_iff_mem]at h2;obtain⟨⟨⟨⟨⟨⟨⟨⟨⟨⟨k1,k2⟩,k3⟩,k4⟩,k5⟩,k6⟩,k7⟩,k8⟩,k9⟩,k10⟩,k11⟩:=h2;split at k10
   ·rename_i x q2;simp only[Bool.and_eq_true,beq_iff_eq]at k10;obtain⟨tp,rfl⟩:=q0n q2;obtain⟨vp,rfl⟩:=q0n k9;obtain⟨np,rfl⟩:=q0n k1;have l:=g.loc x k10.2;obtain⟨s1,s2,s3,_⟩:=g.st h0;unfold evS at h;exact z4O g.xf s1 s2 s3 (g.glo c k2) k4 (beq_eq_false_iff_ne.mpr k3) g.nd (by rw[g.N];exact k5) (g.lcl _ k6) (beq_eq_false_iff_ne.mpr k7) (beq_eq_false_iff_ne.mpr k8) (by rw[g.N];exact k10.1) l.1 l.2
     (λpins E' q hq=>hb (q7w g pins E') h1 hq) h
   ·cases k10
  ·cases h2
 ·cases hc
theorem z5t{body:List MS}{c cr msg:Str}(hb:SSs G F fu body):SS G F fu (.tryr body c cr msg):=by
 intro sg X E st δ o g hc h;unfold corS at hc;split at hc
 ·rename_i b hd pos;cases hd with
  | ExceptHandler t n bd hp=>
  simp only[Bool.and_eq_true,q3t]at hc;obtain⟨⟨h0,h1⟩,h2⟩:=hc;split at h2
  ·rename_i t' v k rp q;simp only[Option.some.injEq,Prod.mk.injEq]at q;obtain⟨rfl,rfl,rfl⟩:=q;split at h2
   ·rename_i ef ea cpos q2;have:=q0E q2;subst this;simp only[Bool.and_eq_true,beq_iff_eq,bne_iff_ne,ne_eq,List.contains_iff_mem]at h2;obtain⟨⟨⟨⟨⟨⟨⟨⟨k1,k2⟩,k3⟩,k4⟩,k5⟩,k6⟩,k7⟩,k8⟩,k9⟩:=h2;obtain⟨np,rfl⟩:=q0n k1;obtain⟨np',rfl⟩:=q0n k5;obtain⟨j2,mp,rfl⟩:=q1G k8;obtain⟨j,cp,rfl⟩:=q1G k9;obtain⟨s1,s2,s3,_,s4⟩:=g.st h0;unfold evS at h;split at h
    ·rename_i hnb;exact z1i g.xf s1 s2 s3 s4 (g.glo c k2) k4 (beq_eq_false_iff_ne.mpr k3) (g.glo cr k6) (beq_eq_false_iff_ne.mpr k7) (λpins E' q hq=>hb (q7w g pins E') h1 hq) (λ_ _ _=>hnb) hnb h
    ·cases h
   ·cases h2
  ·cases h2
 ·cases hc
theorem z8B:SS G F fu (.frz i):=by
 intro sg X E st δ o g hc h;unfold corS at hc;cases hc
variable {a b body:List MS} {c:ME} {tg:Tg}
theorem z8s(ha:SSs G F fu a)(hb:SSs G F fu b):SS G F fu (.iff c a b):=by
 intro sg X E st δ o g hc h;unfold corS at hc;split at hc
 ·simp only[Bool.and_eq_true]at hc;unfold evS at h;exact z5G (λz hz=>(snd c).2.1 g hc.1.1 hz) (λz hz=>ha g hc.1.2 hz) (λz hz=>hb g hc.2 hz) h
 ·cases hc
theorem t_fo(hb:SSs G F fu body):SS G F fu (.fo tg e body):=by
 intro sg X E st δ o g hc h;unfold corS at hc;split at hc
 ·simp only[Bool.and_eq_true,Bool.not_eq_true',Bool.or_eq_true]at hc;obtain⟨⟨⟨⟨h0,h1⟩,h2,h3⟩,h4⟩,h5⟩:=hc;unfold evS at h;exact z3g (g.own h0) g.calm (λz hz=>(snd e).2.2 g h2 (λw=>by
   rcases h3 with q | q
   ·rw[w]at q;cases q
   ·exact q) hz) (z3H g h1) (λδ' o' ho=>hb g h5 ho) h4 h
 ·cases hc
theorem t_wh(hb:SSs G F fu body):SS G F fu (.wh c body):=by
 intro sg X E st δ o g hc h;unfold corS at hc;split at hc
 ·simp only[Bool.and_eq_true]at hc;unfold evS at h;exact z0P (g.own hc.1.1) (λδ' r hr=>(snd c).2.1 g hc.1.2 hr) (λδ' o' ho=>hb g hc.2 ho) h
 ·cases hc
theorem z7e:SSs G F fu []:=by
 intro sg X E sts δ o g hc h;cases sts with
 | nil=>unfold evSs at h;cases h;exact z4k
 | cons a b=>unfold q2w at hc;cases hc
theorem z6G{ms:List MS}(hb:SSs G F fu ms):SSs G F fu (.frz i::ms):=by
 intro sg X E sts δ o g hc h;have hc':q2w sg ms sts=true:=by unfold q2w at hc;exact hc
 unfold evSs at h;have key:evS G F fu (.frz i) δ=(match δ[i]? with | some (.own d)=>some (.nx (δ.set i (.val d))) | _=>some (.nx δ)):=by unfold evS;rfl
 rw[key]at h;cases q:δ[i]? with
 | none=>rw[q]at h;exact hb g hc' h
 | some sv=>
  rw[q]at h;cases sv with
  | own d=>exact q8j q (hb g hc' h)
  | no=>exact hb g hc' h
  | val d=>exact hb g hc' h
  | ot d=>exact hb g hc' h
  | o2 d=>exact hb g hc' h
  | od d=>exact hb g hc' h
theorem q1j{m:MS}{ms:List MS}(ha:SS G F fu m)(hb:SSs G F fu ms)(hm:∀i,m ≠ .frz i):SSs G F fu (m::ms):=by
 intro sg X E sts δ o g hc h;cases sts with
 | nil=>
  exfalso;cases m<;>first | exact hm _ rfl | (unfold q2w at hc;cases hc)
 | cons st sts=>
  have hc':corS sg m st=true/\q2w sg ms sts=true:=(by cases m<;>first | exact absurd rfl (hm _) | (unfold q2w at hc;rw[Bool.and_eq_true]at hc;exact hc));unfold evSs at h;split at h
  ·rename_i δ' q;exact z1s (ha g hc'.1 q) (hb g hc'.2 h)
  ·rename_i hne;have A:=ha g hc'.1 h;cases o with
   | nx δ'=>exact absurd h (hne δ')
   | rt d fr=>exact z6g A
   | rtt d=>exact z2Q A
   | rtm d s=>exact z3F A
   | ex c δ'=>exact z6C A
end
section
variable {G:Gs} {F:Nat->List DV->Option Ou} {fu:Nat}
mutual
theorem sndS:∀m:MS,SS G F fu m
 | .set _ _ _=>z9k
 | .app _ _=>z7N
 | .ret _=>z8E
 | .iff _ a b=>z8s (q1C a) (q1C b)
 | .fo _ _ body=>t_fo (q1C body)
 | .wh _ body=>t_wh (q1C body)
 | .fau _ _=>z9l
 | .msx _ _ _=>z8V
 | .mst _ _ _ _=>z8i
 | .rtm _ _=>z8o
 | .rtd _ _ _=>z8W
 | .mkr _ _=>z7Z
 | .rdp _ _=>z8F
 | .rse _ _=>z8y
 | .tryc body _ _ _=>z8e (q1C body)
 | .tryr body _ _ _=>z5t (q1C body)
 | .frz _=>z8B
theorem q1C:∀ms:List MS,SSs G F fu ms
 | []=>z7e
 | .frz _::ms=>z6G (q1C ms)
 | .set i o e::ms=>q1j (sndS (.set i o e)) (q1C ms) (by intro i z;cases z)
 | .app i o::ms=>q1j (sndS (.app i o)) (q1C ms) (by intro i z;cases z)
 | .ret e::ms=>q1j (sndS (.ret e)) (q1C ms) (by intro i z;cases z)
 | .iff c a b::ms=>q1j (sndS (.iff c a b)) (q1C ms) (by intro i z;cases z)
 | .fo t i b::ms=>q1j (sndS (.fo t i b)) (q1C ms) (by intro i z;cases z)
 | .wh c b::ms=>q1j (sndS (.wh c b)) (q1C ms) (by intro i z;cases z)
 | .fau a b::ms=>q1j (sndS (.fau a b)) (q1C ms) (by intro i z;cases z)
 | .msx a b c::ms=>q1j (sndS (.msx a b c)) (q1C ms) (by intro i z;cases z)
 | .mst a b c d::ms=>q1j (sndS (.mst a b c d)) (q1C ms) (by intro i z;cases z)
 | .rtm a b::ms=>q1j (sndS (.rtm a b)) (q1C ms) (by intro i z;cases z)
 | .rtd a b c::ms=>q1j (sndS (.rtd a b c)) (q1C ms) (by intro i z;cases z)
 | .mkr a b::ms=>q1j (sndS (.mkr a b)) (q1C ms) (by intro i z;cases z)
 | .rdp a b::ms=>q1j (sndS (.rdp a b)) (q1C ms) (by intro i z;cases z)
 | .rse c e::ms=>q1j (sndS (.rse c e)) (q1C ms) (by intro i z;cases z)
 | .tryc a b c d::ms=>q1j (sndS (.tryc a b c d)) (q1C ms) (by intro i z;cases z)
 | .tryr a b c d::ms=>q1j (sndS (.tryr a b c d)) (q1C ms) (by intro i z;cases z)
end
end
end L2
end
noncomputable section
namespace L2
open PySem PySem.Spec PyProof.Rows
structure FunD(K:PySem.W.Frag)(x qual:Str)(st:Stmt)(f:Addr)(fd:FuncData):Prop where
 ex:∃(oc:Value) (od:Option Addr) (dV kV doc pm:Value) (an:Option Addr) (cdv ct:Value) (osl:Array (Option Value)),
  fd=PySem.W.fnOf x qual (q1d st) (q0C st) (q0h st) dV kV doc pm an cdv ct/\K.lookup f=some ⟨oc,od,.func fd,osl⟩/\PySem.W.codeIn K cdv qual=true
theorem FunD.okX{P:Program}{w:World}{K:PySem.W.Frag}{mg:Str->Option Value}{base:Heap}{x qual:Str}{st:Stmt}{f:Addr}{fd:FuncData}{N ps:List Str}{k:Nat}{sp:Sp}(F:FunD K x qual st f fd)(S:FnScope N ps (q0h st))(len:∀vs H Q E,sp vs H Q E->vs.length=ps.length)
  (hbody:∀(cdv:Value),fd.code=cdv->∀(A:Around) (outer:List Env) (s:Shared) (H:Hp) (vs:List V) (Q:VK) (E:XK),Room k (A.deeper (envOfC qual (q0h st) s.heap.objs.size f cdv))->sp vs H Q E ->
   ∃t,PSs (cxD P w K mg base N qual (q0h st) f cdv A outer s H E) (q0C st) t/\t {nx:=λ_ H'=>Q .non H',rt:=Q} (start N vs) H):FnOk P w K mg base (CXx P w base) (k+1) f fd ps sp:=by
 obtain⟨oc,od,dV,kV,doc,pm,an,cdv,ct,osl,rfl,lk,hcd⟩:=F.ex;exact z9a lk hcd S len λA outer s H vs Q E hr hsp=>hbody cdv rfl A outer s H vs Q E hr hsp
def popB(sg:Sg)(v:Expr):Bool:=match q1M v with
 | some (ef,[ea],[],pos)=>(match q3p ef with
  | some (o,n,apos)=>n == "pop" && (match q0I o with | some x=>q2Y sg 1 x | none=>false)&&corE sg false (.int 0) ea && !q0s ea&&apos.endLine==pos.line
  | none=>false)
 | _=>false
def hunC(sg:Sg)(m:ME)(v:Expr):Bool:=match hunB sg 1 v with | some ea=>corE sg false m ea | none=>false
def hm0:ME:=.cmp .Eq (.ix (.var 0) (.int 0)) (.str "end")
def hm1:ME:=.cmp .Eq (.var 1) (.lst [])
def z7m:Stmt->Option (Expr×List Stmt) | .If c b [] _=>some (c,b) | _=>none
def z3l:Stmt->Option Expr | .Return (some e) _=>some e | _=>none
def z1D:Stmt->Option (Expr×Expr) | .Assign [t] e _=>some (t,e) | _=>none
theorem z1t{s:Stmt}{t e:Expr}(h:z1D s=some (t,e)):∃q,s=.Assign [t] e q:=by
 unfold z1D at h;split at h<;>cases h;exact⟨_,rfl⟩
def lst1{α}:List α->Option α | [a]=>some a | _=>none
def lst2{α}:List α->Option (α×α) | [a,b]=>some (a,b) | _=>none
def lst3{α}:List α->Option (α×α×α) | [a,b,c]=>some (a,b,c) | _=>none
theorem z4w{α}{l:List α}{a:α×α}(h:lst2 l=some a):l=[a.1,a.2]:=by
 unfold lst2 at h;split at h<;>cases h;rfl
def hunP(b:List Stmt):Option (Expr×Expr×Expr×Expr×Str×Expr×Expr):=(lst3 b).bind λs=>(z7m s.1).bind λi=>(lst2 i.2).bind λt=>(z7m t.1).bind λj=>(lst1 j.2).bind λr=>(z3l r).bind λe1=>(z3l t.2).bind λe2=>(z1D s.2.1).bind λa=>(q0I a.1).bind λx=>(z3l s.2.2).bind λe4=>some (i.1,j.1,e1,e2,x,a.2,e4)
def corH(sg:Sg)(b:List Stmt):Bool:=match hunP b with
 | some (c,c2,e1,e2,x,e3,e4)=>
  corE sg false hm0 c&&corE sg false hm1 c2&&corE sg false (.var 0) e1&&popB sg e2&&sg.N[2]? == some x&&locB sg x && !q5s e3&&hunC sg (.ix (.var 0) (.int 3)) e3 &&
  (match q4P e4 with
   | some [a,b,c,d,e]=>corE sg false (.str "ask") a&&corE sg false (.ix (.var 0) (.int 1)) b&&corE sg false (.ix (.var 0) (.int 2)) c&&corE sg false (.var 2) d&&hunC sg (.ix (.var 0) (.int 4)) e && !q0s a && !q0s b && !q0s c && !q0s d && !q0s e
   | _=>false)
 | none=>false
def hG:Gs:={con:=[],cls:=[],hun:=true}
structure HStands(K:PySem.W.Frag)(mg:Str->Option Value)(fa:Addr)(fd:FuncData)(ps:List Str):Prop where
 mg:mg q3E=some (.ref fa)
 kp:PySem.W.keepIn K (.ref fa)=true
 bi:q1s K fd ps []
 np:ps.length=2
 ex:∃qual st N,FunD K q3E qual st fa fd/\FnScope N ps (q0h st)/\N.length=3/\corH ⟨N,(q0h st).names,[],[],[],true,true⟩ (q0C st)=true
theorem z3O{k:Nat}{d:DV}{l:List DV}:z7w k q3g [d,.lst l]=(q6R k d l).map λr=>.v r.1 false:=by
 show(if q3g=q3g then _ else none)=_;exact if_pos rfl
def hδ(d:DV)(ds:List DV)(x:Sv):List Sv:=[.val d,.own (.lst ds),x]
section
variable {F:Nat->List DV->Option Ou} {d:DV} {ds:List DV} {x:Sv} {s:Str}
end
section
variable {P:Program} {w:World} {K:PySem.W.Frag} {mg:Str->Option Value} {base:Heap} {fa:Addr} {fd:FuncData} {ps:List Str}
end
end L2
end
noncomputable section
namespace L2
open PySem PySem.Spec PyProof.Rows
theorem RSt.startM{D:Dm}{H:Hp}{N:List Str}{ds:List DV}{vs:List V}{O:List Addr}{C p dx:Nat}{t:Str}{k:Int}{n:Nat}(hn:n=N.length)(ho:Hdn O H)(hp:p∉O)(hl:t.length<=sizeLine)(hH:H p=some (rdO C dx t k))(r:RepL D (L2.wo (O++[p]) H) ds vs):RSt D H (L2.start N (.ref p::vs)) (L2.startM n (rdD C p dx t k) ds) O [p]:=by
 subst hn;have one:∀(i:Nat) (s:Sv),(L2.startM N.length (rdD C p dx t k) ds)[i]? = some s->(i=0/\s=.od (rdD C p dx t k))\/(∃j d,i=j+1/\ds[j]? = some d/\s=.val d)\/s=.no:=λi s h=>by
  cases i with
  | zero=>cases h;exact .inl ⟨rfl,rfl⟩
  | succ j=>
   have h:(ds.map Sv.val++List.replicate (N.length - (ds.length+1)) Sv.no)[j]? = some s:=h;by_cases hj:j<(ds.map Sv.val).length
   ·rw[List.getElem?_append_left hj,List.getElem?_map]at h;cases q:ds[j]? with
    | none=>rw[q]at h;cases h
    | some d=>rw[q]at h;cases h;exact .inr (.inl ⟨j,d,rfl,q,rfl⟩)
   ·rw[List.getElem?_append_right (by omega),List.getElem?_replicate]at h;split at h
    ·cases h;exact .inr (.inr rfl)
    ·cases h
 refine⟨λi d h=>?_,λi d h=>?_,λi j a d d' h=>?_,RSt.noot λi d h=>?_,λi d h=>?_,λi d h=>?_,?_,⟨λa ha=>?_,Same.refl _,λa ha=>?_,λa ha=>?_,ho⟩⟩
 ·rcases one i _ h with⟨_,z⟩ | ⟨j,d',rfl,q,z⟩ | z
  ·cases z
  ·cases z;obtain⟨v,e1,e2⟩:=r.get q;refine⟨v,?_,e2⟩;unfold L2.start;rw[List.getElem?_append_left (by rw[List.length_map,List.length_cons];exact Nat.succ_lt_succ (List.getElem?_eq_some_iff.mp e1).1),List.getElem?_map];show((vs[j]?).map some)=_;rw[e1];rfl
  ·cases z
 ·rcases one i _ h with⟨_,z⟩ | ⟨_,_,_,_,z⟩ | z<;>cases z
 ·rcases one i _ h with⟨_,z⟩ | ⟨_,_,_,_,z⟩ | z<;>cases z
 ·rcases one i _ h with⟨_,z⟩ | ⟨_,_,_,_,z⟩ | z<;>cases z
 ·rcases one i _ h with⟨_,z⟩ | ⟨_,_,_,_,z⟩ | z<;>cases z
 ·rcases one i _ h with⟨rfl,z⟩ | ⟨_,_,_,_,z⟩ | z
  ·cases z;refine⟨⟨p,_,z5W hl,rfl,List.mem_singleton.mpr rfl,hH⟩,λj d' q=>?_⟩;rcases one j _ q with⟨z,_⟩ | ⟨_,_,_,_,z⟩ | z
   ·exact z
   ·cases z
   ·cases z
  ·cases z
  ·cases z
 ·unfold L2.start L2.startM;rw[List.length_append,List.length_map,List.length_replicate,List.length_cons,List.length_cons,List.length_append,List.length_map,List.length_replicate,r.length];omega
 ·rcases List.mem_append.mp ha with z | z
  ·exact ho.ne a z
  ·rw[List.mem_singleton.mp z,hH];intro z;cases z
 ·rw[List.mem_singleton.mp ha];exact⟨_,hH,rfl⟩
 ·rw[List.mem_singleton.mp ha];exact hp
structure MStands(K:PySem.W.Frag)(bl cl:List Str)(C:Addr)(d:FD)(x:Str)(fa:Addr)(fd:FuncData)(ps:List Str):Prop where
 me:Meth K C x fa
 bi:q1s K fd ps []
 np:d.np=ps.length
 ex:∃qual st N,FunD K x qual st fa fd/\FnScope N ps (q0h st)/\d.n=N.length/\q2w ⟨N,(q0h st).names,[],bl,cl,true,true⟩ d.body (q0C st)=true
section
variable {P:Program} {w:World} {K:PySem.W.Frag} {mg:Str->Option Value} {base:Heap} {G:Gs} {T:List FD} {fu:Nat} {bl cl:List Str} {C:Nat}
theorem q7G(hC:G.rdc=C)(hmt:G.mtx=true)(hcl:Cls K C)(n1:q1p K C "text")(n2:q1p K C "place")(hs:∀(m:Nat) x,rdN[m]? = some x->∃d fa fd ps,T[m]? = some d/\MStands K bl cl C d x fa fd ps)(hbl:∀x∈bl,mg x=none)(hxf:XFacts K mg G cl)
  (hcon:∀x d,G.con.lookup x=some d->∃u v,mg x=some u/\RelV v u/\∀H,Rep ⟨K,mg⟩ H d v) (hdc:G.dcs=[]) (hh:G.hun=false) (hlm:G.fnl=[]) :
  ∀(k m:Nat) d x fa fd ps,T[m]? = some d->rdN[m]? = some x->MStands K bl cl C d x fa fd ps->FnOk P w K mg base (CXx P w base) k fa fd ps (spM ⟨K,mg⟩ C (runM G T fu k m))
 | 0,m,d,x,fa,fd,ps,h1,h2,S=>by
  refine⟨λvs H Q E h=>?_,λA outer s H args us vs Q E hr he hb hv h=>?_⟩
  ·obtain⟨_,_,_,_,_,_,_,_,_,_,_,_,_,_,q,_⟩:=h;cases q
  ·obtain⟨_,_,_,_,_,_,_,_,_,_,_,_,_,_,q,_⟩:=h;cases q
 | k+1,m,d,x,fa,fd,ps,h1,h2,S=>by
  have ih:=q7G hC hmt hcl n1 n2 hs hbl hxf hcon hdc hh hlm k;obtain⟨qual,st,N,Fd,FS,hn,hc⟩:=S.ex;refine Fd.okX FS (λvs H Q E h=>?_) (λcdv hcd A outer s H vs Q E hr h=>?_)
  ·obtain⟨O,p,dx,t,k0,args,ds,o,rfl,_,_,_,_,e2,e3,_⟩:=h;rw[q6O h1]at e3;split at e3
   ·rename_i z;rw[List.length_cons,e2.length,←S.np,←z,List.length_cons]
   ·cases e3
  ·obtain⟨O,p,dx,t,k0,args,ds,o,rfl,ho,hp,hl,hH,e2,e3,e4⟩:=h;rw[q6O h1]at e3;split at e3
   ·rename_i hlen;have g:Good ⟨N,(q0h st).names,[],bl,cl,true,true⟩ G (runM G T fu k) (cxD P w K mg base N qual (q0h st) fa cdv A outer s H E) (λ_=>E):=by
     refine⟨rfl,FS.nd,λy hy=>?_,λy hy=>?_,λy hy=>⟨?_,.inl rfl⟩,λy hy=>hy,λy hy=>hy,rfl,hr.units,λf y hy=>(by cases hy),hbl,q5d.s,hcon,λ_=>PassesOwn.leaving,hxf,λ_=>⟨rfl,rfl,rfl,q5g,q8a⟩,(λx kvs q=>by rw[hdc]at q;cases q),(λz=>by rw[hh]at z;cases z),(λz=>by rw[hlm]at z;cases z),λ_=>⟨C,hC,hcl,n1,n2,λ_ m2 n hn2=>?_,λz=>by rw[hmt]at z;cases z⟩⟩
     ·unfold visB at hy;simp only[Bool.or_eq_true,beq_iff_eq]at hy;rcases hy with(hy | hy) | hy
      ·exact .inl hy
      ·exact .inr (.inl hy)
      ·exact .inr (.inr hy)
     ·unfold gloB at hy;rw[beq_iff_eq]at hy;exact hy
     ·unfold locB at hy;simp only[Bool.or_eq_true,beq_iff_eq]at hy;exact hy
     ·obtain⟨d',fa',fd',ps',q1,S'⟩:=hs m2 n hn2;exact⟨k,fa',fd',ps',hr,S'.me,S'.bi,ih m2 d' n fa' fd' ps' q1 hn2 S'⟩
    cases ho':evSs G (runM G T fu k) fu d.body (startM d.n (rdD C p dx t k0) ds)with
    | none=>rw[ho']at e3;cases e3
    | some oo=>
     rw[ho']at e3;refine⟨_,q1C d.body g hc ho',L2.wo [p] H,O,[p],RSt.startM hn ho hp hl hH e2,(λa ha=>z2Y ha),(λa ha=>?_),q1B,?_⟩
     ·rw[q0m (by rw[List.mem_singleton];intro z;exact hp (by rw[←z];exact ha))];exact ho.ne a ha
     ·cases oo with
      | nx δ=>
       cases δ with
       | nil=>cases e3
       | cons s0 δ=>
        cases s0 with
        | od s1=>
         have e3':Rm.of (if q4D (rdD C p dx t k0) s1 then some (Ou.v (.tup [.non,s1]) false)else none)=some o:=e3;split at e3'
         ·rename_i hsm;cases e3';obtain⟨k',rfl⟩:=q9A hsm;intro σ' H' W R fr sm;obtain⟨⟨a,ob,f0,f1,f2,f3⟩,u⟩:=R.od 0 _ rfl;obtain⟨z1,z2,z3⟩:=q7g f0;subst z1 z2;exact e4 .non H' k' rfl sm f3 (show Rep ⟨K,mg⟩ _ .non .non by unfold Rep;rfl)
         ·cases e3'
        | _=>cases e3
      | rt d fr=>cases e3
      | rtt d=>cases e3
      | rtm d s1=>
       have e3':Rm.of (if q4D (rdD C p dx t k0) s1 then some (Ou.v (.tup [d,s1]) false)else none)=some o:=e3;split at e3'
       ·rename_i hsm;cases e3';obtain⟨k',rfl⟩:=q9A hsm;intro v H' a ob sm f0 f3 rp;obtain⟨z1,z2,z3⟩:=q7g f0;subst z1 z2;exact e4 v H' k' rfl sm f3 rp
       ·cases e3'
      | ex c δ=>
       cases e3;exact λσ' H' W Cv hm R fr sm=>e4 H' Cv hm sm
   ·cases e3
end
def fldS(sg:Sg)(f:Str)(s:Stmt)(q:Expr->Bool):Bool:=match z1D s with
 | some (t,v)=>(match q3p t with
  | some (o,n,_)=>n==f&&(match q0I o with | some a=>q2Y sg 0 a | none=>false)&&q v
  | none=>false)
 | none=>false
theorem q9e{sg:Sg}{f:Str}{s:Stmt}{q:Expr->Bool}(h:fldS sg f s q=true):∃a p1 p2 p3 v,s=.Assign [.Attribute (.Name a p1) f p2] v p3/\q2Y sg 0 a=true/\q v=true:=by
 unfold fldS at h;split at h
 ·rename_i t v h1;split at h
  ·rename_i o n p2 h2;simp only[Bool.and_eq_true,beq_iff_eq]at h;obtain⟨⟨g1,g2⟩,g3⟩:=h;split at g2
   ·rename_i a h3;obtain⟨p1,rfl⟩:=q0n h3;obtain⟨p3,rfl⟩:=z1t h1;rw[q1K h2,g1];exact⟨_,_,_,_,_,rfl,g2,g3⟩
   ·cases g2
  ·cases h
 ·cases h
def corI(sg:Sg)(b:List Stmt):Bool:=match lst2 b with
 | some (s1,s2)=>fldS sg "text" s1 (λv=>match q0I v with | some x=>q2Y sg 1 x | none=>false)&&fldS sg "place" s2 (λv=>q1L v==some (.int 0))
 | none=>false
structure IStands(K:PySem.W.Frag)(C:Addr)(fa:Addr)(fd:FuncData)(ps:List Str):Prop where
 mk':Mk K C fa
 bi:q1s K fd ps []
 ps2:ps.length=2
 ex:∃qual st N,FunD K "__init__" qual st fa fd/\FnScope N ps (q0h st)/\N.length=2/\corI ⟨N,(q0h st).names,[],[],[],true,true⟩ (q0C st)=true
section
variable {P:Program} {w:World} {K:PySem.W.Frag} {mg:Str->Option Value} {base:Heap} {C:Nat}
theorem z3Q{k:Nat}{fa:Addr}{fd:FuncData}{ps:List Str}(S:IStands K C fa fd ps)(hcl:Cls K C)(n1:q1p K C "text")(n2:q1p K C "place"):FnOk P w K mg base (CXx P w base) (k+1) fa fd ps (spI C):=by
 obtain⟨qual,st,N,Fd,FS,hn,hc⟩:=S.ex;refine Fd.okX FS (λvs H Q E h=>?_) (λcdv hcd A outer s H vs Q E hr h=>?_)
 ·obtain⟨p,dx,t,rfl,_⟩:=h;rw[S.ps2];rfl
 ·obtain⟨p,dx,t,rfl,hH,q⟩:=h;have hst:start N [.ref p,.str t]=[some (.ref p),some (.str t)]:=by unfold start;rw[hn];rfl
  rw[hst];have slot:∀{i:Nat} {x:Str},q2Y ⟨N,(q0h st).names,[],[],[],true,true⟩ i x=true->N[i]? = some x/\Vis (q0h st) x/\(x==("__debug__" : Str))=false/\(x==("__classdict__" : Str))=false:=λ{i x} h=>by
   unfold q2Y visB at h;simp only[Bool.and_eq_true,Bool.or_eq_true,beq_iff_eq,bne_iff_ne,ne_eq]at h;obtain⟨⟨⟨h1,h2⟩,h3⟩,h4⟩:=h;refine⟨h1,?_,beq_eq_false_iff_ne.mpr h3,beq_eq_false_iff_ne.mpr h4⟩;rcases h2 with(hy | hy) | hy
   ·exact .inl hy
   ·exact .inr (.inl hy)
   ·exact .inr (.inr hy)
  unfold corI at hc;split at hc
  ·rename_i s1 s2 hb;have hb:=z4w hb;rw[Bool.and_eq_true]at hc;obtain⟨a,p1,p2,p4,vx,rfl,c1,c3⟩:=q9e hc.1;obtain⟨a',p5,p6,p7,v,rfl,c2,c6⟩:=q9e hc.2;split at c3
   rotate_left
   ·cases c3
   rename_i x hx;obtain⟨p3,rfl⟩:=q0n hx;rw[beq_iff_eq]at c6;obtain⟨kc,pc,rfl⟩:=q1G c6;obtain⟨a1,a2,a3,a4⟩:=slot c1;obtain⟨b1,b2,b3,b4⟩:=slot c2;obtain⟨x1,x2,x3,x4⟩:=slot c3;rw[hb]
   let X:=cxD P w K mg base N qual (q0h st) fa cdv A outer s H E
   have V0:PE X (.Name a p1) (tVar 0):=q2u a1 a2 a3 a4;have V0':PE X (.Name a' p5) (tVar 0):=q2u b1 b2 b3 b4;have V1:PE X (.Name x p3) (tVar 1):=q2u x1 x2 x3 x4;have VC:PE X (.Constant (.int 0) kc pc) (tC (.int 0)):=z2r;refine⟨_,q2k (z2s V0 V1 rfl) (q2k (z2s V0' VC rfl) z0B),?_⟩;refine⟨.str t,rfl,.ref p,rfl,p,C,dx,[],rfl,hH,hcl,n1,by decide,?_⟩;refine⟨.ref p,rfl,p,C,dx,[("text",.str t)],rfl,q0v,hcl,n2,(show 1<1000 by decide),?_⟩;rw[q7v];exact q
  ·cases hc
def RdH(P:Program)(w:World)(K:PySem.W.Frag)(mg:Str->Option Value)(base:Heap)(G:Gs):Prop:=∃C:Nat,G.rdc=(C:Int)/\G.mtx=false/\Cls K C/\q1p K C "text" /\ q1p K C "place" /\
 ∀k t j o,Rm.of (G.prs (k+1) [.str t,.int j])=some o->∃fi fdi psi fa fd ps f,mg "Reader" = some (.ref C)/\Mk K C fi/\q1s K fdi psi []/\FnOk P w K mg base (CXx P w base) k fi fdi psi (spI C)/\Meth K C "take_plan" fa/\q1s K fd ps []/\FnOk P w K mg base (CXx P w base) k fa fd ps (spM ⟨K,mg⟩ C f)/\∀a dx,Rm.of (f [rdD C a dx t j])=some (rmAt C a dx t o)
theorem z6c{G:Gs}{T:List FD}{fu k:Nat}{X:Cx}(h:RdH X.prog X.w X.K X.mg X.base G)(hT:T.length<=q3g)(hr:Room k X.A):RdG G (run G T fu k) X:=by
 obtain⟨C,h1,h2,h3,h4,h5,h6⟩:=h;refine⟨C,h1,h3,h4,h5,(λz=>by rw[h2]at z;cases z),λ_ t j o ho=>?_⟩;cases k with
 | zero=>cases ho
 | succ k=>
  have e:run G T fu (k+1) rdIx [.str t,.int j]=G.prs (k+1) [.str t,.int j]:=(by show(match T[rdIx]? with | none=>if rdIx=q6B then lamR (evE G (run G T fu k)) [.str t,.int j]else xR G (k+1) rdIx [.str t,.int j] | some fd=>if[DV.str t,.int j].length=fd.np then Ou.of (evSs G (run G T fu k) fu fd.body (q0l fd.n [.str t,.int j]))else none)=_;rw[List.getElem?_eq_none (Nat.le_trans hT (by decide))];rfl);rw[e]at ho;obtain⟨fi,fdi,psi,fa,fd,ps,f,w2,w3,w4,w5,w6,w7,w8,w9⟩:=h6 k t j o ho;exact⟨k,fi,fdi,psi,fa,fd,ps,f,hr,w2,w3,w4,w5,w6,w7,w8,w9⟩
theorem z7i{G G2:Gs}{T2:List FD}{fu:Nat}{bl cl:List Str}{fi:Addr}{fdi:FuncData}{psi:List Str}(hC:G.rdc=C)(hC2:G2.rdc=C)(hm:G.mtx=false)(hm2:G2.mtx=true)(hcl:Cls K C)(n1:q1p K C "text")(n2:q1p K C "place")(hmg:mg "Reader" = some (.ref C))(I:IStands K C fi fdi psi)
  (hs:∀(m:Nat) x,rdN[m]? = some x->∃d fa fd ps,T2[m]? = some d/\MStands K bl cl C d x fa fd ps) (hbl:∀x∈bl,mg x=none) (hxf:XFacts K mg G2 cl)
  (hcon:∀x d,G2.con.lookup x=some d->∃u v,mg x=some u/\RelV v u/\∀H,Rep ⟨K,mg⟩ H d v) (hdc:G2.dcs=[]) (hh:G2.hun=false) (hlm:G2.fnl=[])
  (hp:∀k t j o,Rm.of (G.prs (k+1) [.str t,.int j])=some o->∀a dx,Rm.of (runM G2 T2 fu k 4 [rdD C a dx t j])=some (rmAt C a dx t o)):RdH P w K mg base G:=by
 refine⟨C,hC,hm,hcl,n1,n2,λk t j o ho=>?_⟩;have h4:=hp k t j o ho;obtain⟨d,fa,fd,ps,q1,S⟩:=hs 4 "take_plan" rfl;cases k with
 | zero=>cases h4 0 0
 | succ k=>exact⟨fi,fdi,psi,fa,fd,ps,_,hmg,I.mk',I.bi,z3Q I hcl n1 n2,S.me,S.bi,q7G hC2 hm2 hcl n1 n2 hs hbl hxf hcon hdc hh hlm (k+1) 4 d "take_plan" fa fd ps q1 rfl S,h4⟩
theorem XFacts.of_cls{G G':Gs}{cl:List Str}(h:G'.cls=G.cls)(f:XFacts K mg G cl):XFacts K mg G' cl:=by
 have e:∀c t,q1b G' c t=q1b G c t:=λc t=>by unfold q1b;rw[h]
 refine⟨λc hc=>?_,f.all⟩;rw[h]at hc;obtain⟨C,o⟩:=f.one c hc;exact⟨C,o.mc,o.ck,o.rk,λt ht Ct m=>by rw[e];exact o.own t ht Ct m,by rw[e];exact o.blt⟩
end
end L2
end
noncomputable section
namespace L2
open PySem PySem.Spec PyProof.Rows
theorem RSt.start{D:Dm}{H:Hp}{N:List Str}{ds:List DV}{vs:List V}{O:List Addr}{n:Nat}(hn:n=N.length)(r:RepL D (L2.wo O H) ds vs)(ho:Hdn O H):RSt D H (L2.start N vs) (q0l n ds) O []:=by
 subst hn;have ino:∀(i:Nat) ds',(q0l N.length ds)[i]? ≠ some (.own ds'):=λi ds' h=>by
  unfold q0l at h;by_cases hi:i<(ds.map Sv.val).length
  ·rw[List.getElem?_append_left hi,List.getElem?_map]at h;cases q:ds[i]? with
   | none=>rw[q]at h;cases h
   | some d=>rw[q]at h;cases h
  ·rw[List.getElem?_append_right (by omega),List.getElem?_replicate]at h;split at h<;>cases h
 have iot:∀(i:Nat) ds',(q0l N.length ds)[i]? ≠ some (.ot ds'):=λi ds' h=>by
  unfold q0l at h;by_cases hi:i<(ds.map Sv.val).length
  ·rw[List.getElem?_append_left hi,List.getElem?_map]at h;cases q:ds[i]? with
   | none=>rw[q]at h;cases h
   | some d=>rw[q]at h;cases h
  ·rw[List.getElem?_append_right (by omega),List.getElem?_replicate]at h;split at h<;>cases h
 have io2:∀(i:Nat) ds',(q0l N.length ds)[i]? ≠ some (.o2 ds'):=λi ds' h=>by
  unfold q0l at h;by_cases hi:i<(ds.map Sv.val).length
  ·rw[List.getElem?_append_left hi,List.getElem?_map]at h;cases q:ds[i]? with
   | none=>rw[q]at h;cases h
   | some d=>rw[q]at h;cases h
  ·rw[List.getElem?_append_right (by omega),List.getElem?_replicate]at h;split at h<;>cases h
 have iod:∀(i:Nat) ds',(q0l N.length ds)[i]? ≠ some (.od ds'):=λi ds' h=>by
  unfold q0l at h;by_cases hi:i<(ds.map Sv.val).length
  ·rw[List.getElem?_append_left hi,List.getElem?_map]at h;cases q:ds[i]? with
   | none=>rw[q]at h;cases h
   | some d=>rw[q]at h;cases h
  ·rw[List.getElem?_append_right (by omega),List.getElem?_replicate]at h;split at h<;>cases h
 refine⟨λi d h=>?_,λi ds' h=>absurd h (ino i ds'),λi j a d1 d2 h=>absurd h (ino i d1),RSt.noot iot,λi d h=>absurd h (io2 i d),λi d h=>absurd h (iod i d),?_,⟨λa ha=>ho.ne a (by simpa using ha),Same.refl _,λa ha=>(nomatch ha),λa ha=>(nomatch ha),ho⟩⟩
 ·unfold q0l at h;by_cases hi:i<(ds.map Sv.val).length
  ·rw[List.getElem?_append_left hi,List.getElem?_map]at h;cases q:ds[i]? with
   | none=>rw[q]at h;cases h
   | some d'=>
    rw[q]at h;cases h;obtain⟨v,e1,e2⟩:=r.get q;refine⟨v,?_,by rw[List.append_nil];exact e2⟩;unfold L2.start;rw[List.getElem?_append_left (by rw[List.length_map];exact(List.getElem?_eq_some_iff.mp e1).1),List.getElem?_map,e1];rfl
  ·rw[List.getElem?_append_right (by omega),List.getElem?_replicate]at h;split at h<;>cases h
 ·unfold L2.start q0l;rw[List.length_append,List.length_append,List.length_map,List.length_map,List.length_replicate,List.length_replicate,r.length]
def DfOk(G:Gs)(T:List FD):Prop:=(∀f ds,G.dfl.lookup f=some ds->∃d,T[f]? = some d/\d.dfl=ds/\ds≠[])/\∀f n,G.kws.lookup f=some n->∃d,T[f]? = some d/\d.kn=some n
structure Stands(K:PySem.W.Frag)(mg:Str->Option Value)(fn bl cl:List Str)(d:FD)(x:Str)(fa:Addr)(fd:FuncData)(ps:List Str):Prop where
 dk:(d.dfl≠[]->∃us dvs,q1s K fd ps us/\Vals dvs us/\∀H,RepL ⟨K,mg⟩ H d.dfl dvs)/\∀n,d.kn=some n->KBinds K fd ps n (q4c n.length ps.length) (q4c n.length ps.length)
 mg:mg x=some (.ref fa)
 kp:PySem.W.keepIn K (.ref fa)=true
 bi:q1s K fd ps []
 np:d.np=ps.length
 ex:∃qual st N,FunD K x qual st fa fd/\FnScope N ps (q0h st)/\d.n=N.length/\q2w ⟨N,(q0h st).names,fn,bl,cl,true,true⟩ d.body (q0C st)=true
section
variable {P:Program} {w:World} {K:PySem.W.Frag} {mg:Str->Option Value} {base:Heap} {G:Gs} {T:List FD} {fu:Nat} {fn bl cl:List Str}
theorem q7S(hT:T.length=fn.length)(hs:∀(i:Nat) d x,T[i]? = some d->fn[i]? = some x->∃fa fd ps,Stands K mg fn bl cl d x fa fd ps)(hbl:∀x∈bl,mg x=none)(hxf:XFacts K mg G cl)
  (hcon:∀x d,G.con.lookup x=some d->∃u v,mg x=some u/\RelV v u/\∀H,Rep ⟨K,mg⟩ H d v) (hdc:∀x kvs,G.dcs.lookup x=some kvs->q8l K w mg x kvs) (hdf:DfOk G T) (hrd:0<=G.rdc->T.length<=q3g/\RdH P w K mg base G) (hh:G.hun=true->T.length<=q3g/\∃fa fd ps,mg q3E=some (.ref fa)/\PySem.W.keepIn K (.ref fa)=true/\q1s K fd ps []/\∀k,FnOk P w K mg base (CXx P w base) k fa fd ps (spH ⟨K,mg⟩ (q6R k)))
  (hlm:G.fnl.isEmpty=true) :
  ∀k,(∀(i:Nat) d x fa fd ps,T[i]? = some d->fn[i]? = some x->Stands K mg fn bl cl d x fa fd ps->FnOk P w K mg base (CXx P w base) k fa fd ps (spF ⟨K,mg⟩ ps.length (run G T fu k i)))
 | 0=>by
  intro i d x fa fd ps h1 h2 S;refine⟨λvs H Q E h=>?_,λA outer s H args us vs Q E hr he hb hv h=>?_⟩
  ·obtain⟨_,_,_,_,_,_,q,_⟩:=h;cases q
  ·obtain⟨_,_,_,_,_,_,q,_⟩:=h;cases q
 | k+1=>by
  have ih:=q7S hT hs hbl hxf hcon hdc hdf hrd hh hlm k;intro i d x fa fd ps h1 h2 S;obtain⟨qual,st,N,F,FS,hn,hc⟩:=S.ex;refine F.okX FS (λvs H Q E h=>?_) (λcdv hcd A outer s H vs Q E hr h=>?_)
  ·obtain⟨O,ds,o,_,e1,e2,_⟩:=h;rw[e2.length,e1]
  ·obtain⟨O,ds,o,ho,e1,e2,e3,e4⟩:=h;have e3':(match T[i]? with | none=>if i=q6B then lamR (evE G (run G T fu k)) ds else xR G (k+1) i ds | some fd=>if ds.length=fd.np then Ou.of (evSs G (run G T fu k) fu fd.body (q0l fd.n ds))else none)=some o:=e3;rw[h1]at e3';have e3'':(if ds.length=d.np then Ou.of (evSs G (run G T fu k) fu d.body (q0l d.n ds))else none)=some o:=e3';rw[if_pos (e1.trans S.np.symm)]at e3'';have g:Good ⟨N,(q0h st).names,fn,bl,cl,true,true⟩ G (run G T fu k) (cxD P w K mg base N qual (q0h st) fa cdv A outer s H E) (λ_=>E):=by
    refine⟨rfl,FS.nd,λy hy=>?_,λy hy=>?_,λy hy=>⟨?_,.inl rfl⟩,λy hy=>hy,λy hy=>hy,rfl,hr.units,λf y hy=>?_,hbl,q5d.s,hcon,λ_=>PassesOwn.leaving,hxf,λ_=>⟨rfl,rfl,rfl,q5g,q8a⟩,hdc,λz=>by
     obtain⟨hl,fa',fd',ps',s1,s2,s3,s4⟩:=hh z;refine⟨k,fa',fd',ps',q6R k,hr,s1,s2,s3,λd l=>?_,s4 k⟩;cases k with
     | zero=>rfl
     | succ k=>
      show(match T[q3g]? with | none=>if q3g=q6B then lamR (evE G (run G T fu k)) [d,.lst l]else xR G (k+1) q3g [d,.lst l] | some fd=>if[d,.lst l].length=fd.np then Ou.of (evSs G (run G T fu k) fu fd.body (q0l fd.n [d,.lst l]))else none)=_;rw[List.getElem?_eq_none hl];show(if q3g=q6B then lamR (evE G (run G T fu k)) [d,.lst l]else xR G (k+1) q3g [d,.lst l])=_;rw[if_neg (by decide)];exact z3O,(λz=>by rw[hlm]at z;cases z),λz=>z6c (hrd z).2 (hrd z).1 hr⟩
    ·unfold visB at hy;simp only[Bool.or_eq_true,beq_iff_eq]at hy;rcases hy with(hy | hy) | hy
     ·exact .inl hy
     ·exact .inr (.inl hy)
     ·exact .inr (.inr hy)
    ·unfold gloB at hy;rw[beq_iff_eq]at hy;exact hy
    ·unfold locB at hy;simp only[Bool.or_eq_true,beq_iff_eq]at hy;exact hy
    ·have hf:f<T.length:=by rw[hT];exact(List.getElem?_eq_some_iff.mp hy).1
     obtain⟨d',hd'⟩:∃d',T[f]? = some d':=⟨_,List.getElem?_eq_getElem hf⟩;obtain⟨fa',fd',ps',S'⟩:=hs f d' y hd' hy;refine⟨k,fa',fd',ps',hr,S'.mg,S'.kp,S'.bi,λds o q=>?_,ih f d' y fa' fd' ps' hd' hy S',?_,?_⟩
     rotate_left
     ·intro ds q;obtain⟨d2,q1,q2,q3⟩:=hdf.1 f ds q;rw[hd']at q1;cases q1;have:=S'.dk.1 (by rw[q2];exact q3);rw[q2]at this;exact this
     ·intro n q;obtain⟨d2,q1,q2⟩:=hdf.2 f n q;rw[hd']at q1;cases q1;exact S'.dk.2 n q2
     cases k with
     | zero=>cases q
     | succ k=>
      have q':(match T[f]? with | none=>if f=q6B then lamR (evE G (run G T fu k)) ds else xR G (k+1) f ds | some fd=>if ds.length=fd.np then Ou.of (evSs G (run G T fu k) fu fd.body (q0l fd.n ds))else none)=some o:=q;rw[hd']at q';have q'':(if ds.length=d'.np then Ou.of (evSs G (run G T fu k) fu d'.body (q0l d'.n ds))else none)=some o:=q';split at q''
      ·rename_i z;rw[z,S'.np]
      ·cases q''
   cases ho':evSs G (run G T fu k) fu d.body (q0l d.n ds)with
   | none=>rw[ho']at e3'';cases e3''
   | some oo=>
    rw[ho']at e3'';refine⟨_,q1C d.body g hc ho',H,O,[],RSt.start hn e2 ho,(λa ha=>(nomatch ha)),ho.ne,Same.refl H,?_⟩;cases oo with
    | nx δ=>cases e3'';exact λσ' H' W R fr sm=>e4 .non H' sm (show Rep ⟨K,mg⟩ (L2.wo O H') .non .non by unfold Rep;rfl)
    | rt d fr=>cases e3'';exact λv H' sm gt=>e4 v H' sm gt
    | rtt d=>cases e3'';exact λv H' sm gt=>e4 v H' sm gt
    | rtm d s=>cases e3''
    | ex c δ=>cases e3'';exact λσ' H' W C hm R fr sm=>e4 H' C hm sm
end
end L2
end
noncomputable section
namespace L2
open PySem PySem.Spec PyProof.Rows
def okD(fn bl cl:List Str)(d:FD)(N ps:List Str)(st:Stmt):Bool:=
 (q0h st).kind == .function && !(q0h st).isCoroutine && !(q0h st).isGenerator&&q4R N&&(N.take ps.length==ps) &&
 ps.all (λx=>(q0h st).names.lookup x==some .local||(q0h st).names.lookup x==some .cell)&&(q0h st).names.all (λy=>!(y.2 == .free)) &&
 d.n==N.length&&d.np==ps.length&&q2w ⟨N,(q0h st).names,fn,bl,cl,true,true⟩ d.body (q0C st)
section
variable {P:Program} {w:World} {K:PySem.W.Frag} {mg:Str->Option Value} {base h:Heap} {G:Gs} {T:List FD} {fu:Nat} {fn bl cl:List Str}
theorem q8g{d:FD}{x:Str}{N ps:List Str}{st:Stmt}{f:Addr}{oc:Value}{od an:Option Addr}{osl:Array (Option Value)}{dV kV doc pm cdv ct:Value}(X:K.In h)(Ns:h.Ns mainGlobals mg)(ok:okD fn bl cl d N ps st=true)
  (a:PySem.W.nsIn K mainGlobals x=some (some (.ref f))) (l:K.lookup f=some ⟨oc,od,.func (PySem.W.fnOf x x (q1d st) (q0C st) (q0h st) dV kV doc pm an cdv ct),osl⟩)
  (c:PySem.W.codeIn K cdv x=true) (k:PySem.W.keepIn K (.ref f)=true)
  (hb:q1s K (PySem.W.fnOf x x (q1d st) (q0C st) (q0h st) dV kV doc pm an cdv ct) ps [])
  (dk:(d.dfl≠[]->∃us dvs,q1s K (PySem.W.fnOf x x (q1d st) (q0C st) (q0h st) dV kV doc pm an cdv ct) ps us/\Vals dvs us/\∀H,RepL ⟨K,mg⟩ H d.dfl dvs)/\∀n,d.kn=some n->KBinds K (PySem.W.fnOf x x (q1d st) (q0C st) (q0h st) dV kV doc pm an cdv ct) ps n (q4c n.length ps.length) (q4c n.length ps.length)) :
  Stands K mg fn bl cl d x f (PySem.W.fnOf x x (q1d st) (q0C st) (q0h st) dV kV doc pm an cdv ct) ps:=by
 unfold okD at ok;simp only[Bool.and_eq_true,beq_iff_eq,Bool.not_eq_true',List.all_eq_true,Bool.or_eq_true,beq_eq_false_iff_ne]at ok;obtain⟨⟨⟨⟨⟨⟨⟨⟨⟨h1,h2⟩,h3⟩,h4⟩,h5⟩,h6⟩,h7⟩,h8⟩,h9⟩,h10⟩:=ok;exact⟨dk,PySem.W.mg_of X Ns a,k,hb,h9,x,st,N,⟨oc,od,dV,kV,doc,pm,an,cdv,ct,osl,rfl,l,c⟩,⟨h1,h2,h3,q1N h4,h5,h6,h7⟩,h8,h10⟩
theorem q0y{d:FD}{x:Str}{N ps:List Str}{st:Stmt}{f:Addr}{oc:Value}{od an:Option Addr}{osl:Array (Option Value)}{kV doc pm cdv ct:Value}(X:K.In h)(Ns:h.Ns mainGlobals mg)(ok:okD fn bl cl d N ps st=true)
  (a:PySem.W.nsIn K mainGlobals x=some (some (.ref f))) (l:K.lookup f=some ⟨oc,od,.func (PySem.W.fnOf x x (q1d st) (q0C st) (q0h st) .none kV doc pm an cdv ct),osl⟩)
  (c:PySem.W.codeIn K cdv x=true) (k:PySem.W.keepIn K (.ref f)=true)
  (hb:∀(kV doc pm:Value) (an:Option Addr) (cdv ct:Value) (us:List Value),us.length=ps.length->bindArgs (PySem.W.fnOf x x (q1d st) (q0C st) (q0h st) .none kV doc pm an cdv ct) ⟨us,[]⟩=pure (ps.zip us)) (e1:d.dfl=[]:=by rfl) (e2:d.kn=none:=by rfl) :
  Stands K mg fn bl cl d x f (PySem.W.fnOf x x (q1d st) (q0C st) (q0h st) .none kV doc pm an cdv ct) ps:=
 q8g X Ns ok a l c k (.all (hb kV doc pm an cdv ct)) ⟨λz=>absurd e1 z,λn z=>by rw[e2]at z;cases z⟩
theorem z5r{fd:FuncData}{ps ns:List Str}(h:∀(s:Shared) (us ws:List Value),K.In s.heap->us.length+ns.length=ps.length->ws.length=ns.length->BindsTo s fd ⟨us,ns.zip ws⟩ (ps.zip (us++ws)))(hp:ps≠[]):KBinds K fd ps ns (q4c ns.length ps.length) (q4c ns.length ps.length):=by
 refine⟨λs us ws hK hl=>?_,λr q=>z0C r q⟩;unfold q4c at hl ⊢;split at hl
 ·rename_i c;rw[if_pos c];exact h s us ws hK c.1 c.2
 ·exact absurd (List.length_eq_zero_iff.mp hl.symm) hp
theorem z3n{G:Gs}{T:List FD}(e1:G.dfl=[]:=by rfl)(e2:G.kws=[]:=by rfl):DfOk G T:=⟨λf ds q=>(by rw[e1]at q;cases q),λf n q=>(by rw[e2]at q;cases q)⟩
theorem z1v{G:Gs}{p:Prop}(e:G.hun=false:=by rfl):G.hun=true->p:=λz=>by rw[e]at z;cases z
def okI(N ps:List Str)(st:Stmt):Bool:=
 (q0h st).kind == .function && !(q0h st).isCoroutine && !(q0h st).isGenerator&&q4R N&&(N.take ps.length==ps) &&
 ps.all (λx=>(q0h st).names.lookup x==some .local||(q0h st).names.lookup x==some .cell)&&(q0h st).names.all (λy=>!(y.2 == .free)) &&
 N.length==2&&ps.length==2&&corI ⟨N,(q0h st).names,[],[],[],true,true⟩ (q0C st)
theorem q1r{C:Nat}{d:FD}{x q:Str}{N ps:List Str}{st:Stmt}{f:Addr}{oc:Value}{od an:Option Addr}{osl:Array (Option Value)}{kV doc pm cdv ct:Value}(ok:okD [] bl cl d N ps st=true)
  (a:PySem.W.findIn K (.ref C) x=some (some (.ref f))) (i:PySem.W.isFn K (.ref f)=true) (k:PySem.W.keepIn K (.ref f)=true) (l:K.lookup f=some ⟨oc,od,.func (PySem.W.fnOf x q (q1d st) (q0C st) (q0h st) .none kV doc pm an cdv ct),osl⟩) (c:PySem.W.codeIn K cdv q=true)
  (hb:∀(kV doc pm:Value) (an:Option Addr) (cdv ct:Value) (us:List Value),us.length=ps.length->bindArgs (PySem.W.fnOf x q (q1d st) (q0C st) (q0h st) .none kV doc pm an cdv ct) ⟨us,[]⟩=pure (ps.zip us)) :
  MStands K bl cl C d x f (PySem.W.fnOf x q (q1d st) (q0C st) (q0h st) .none kV doc pm an cdv ct) ps:=by
 unfold okD at ok;simp only[Bool.and_eq_true,beq_iff_eq,Bool.not_eq_true',List.all_eq_true,Bool.or_eq_true,beq_eq_false_iff_ne]at ok;obtain⟨⟨⟨⟨⟨⟨⟨⟨⟨h1,h2⟩,h3⟩,h4⟩,h5⟩,h6⟩,h7⟩,h8⟩,h9⟩,h10⟩:=ok;exact⟨⟨a,i,k⟩,.all (hb kV doc pm an cdv ct),h9,q,st,N,⟨oc,od,.none,kV,doc,pm,an,cdv,ct,osl,rfl,l,c⟩,⟨h1,h2,h3,q1N h4,h5,h6,h7⟩,h8,h10⟩
theorem q8t{C:Nat}{q:Str}{N ps:List Str}{st:Stmt}{f:Addr}{oc:Value}{od an:Option Addr}{osl:Array (Option Value)}{kV doc pm cdv ct:Value}(ok:okI N ps st=true)(m:Mk K C f)
  (l:K.lookup f=some ⟨oc,od,.func (PySem.W.fnOf "__init__" q (q1d st) (q0C st) (q0h st) .none kV doc pm an cdv ct),osl⟩) (c:PySem.W.codeIn K cdv q=true)
  (hb:∀(kV doc pm:Value) (an:Option Addr) (cdv ct:Value) (us:List Value),us.length=ps.length->bindArgs (PySem.W.fnOf "__init__" q (q1d st) (q0C st) (q0h st) .none kV doc pm an cdv ct) ⟨us,[]⟩=pure (ps.zip us)) :
  IStands K C f (PySem.W.fnOf "__init__" q (q1d st) (q0C st) (q0h st) .none kV doc pm an cdv ct) ps:=by
 unfold okI at ok;simp only[Bool.and_eq_true,beq_iff_eq,Bool.not_eq_true',List.all_eq_true,Bool.or_eq_true,beq_eq_false_iff_ne]at ok;obtain⟨⟨⟨⟨⟨⟨⟨⟨⟨h1,h2⟩,h3⟩,h4⟩,h5⟩,h6⟩,h7⟩,h8⟩,h9⟩,h10⟩:=ok;exact⟨m,.all (hb kV doc pm an cdv ct),h9,q,st,N,⟨oc,od,.none,kV,doc,pm,an,cdv,ct,osl,rfl,l,c⟩,⟨h1,h2,h3,q1N h4,h5,h6,h7⟩,h8,h10⟩
def HM(K:PySem.W.Frag)(bl cl:List Str)(C:Nat)(T:List FD)(fs:List Str):Prop:=∀(i:Nat) x,fs[i]? = some x->∃d fa fd ps,T[i]? = some d/\MStands K bl cl C d x fa fd ps
theorem z7B{C:Nat}:HM K bl cl C [] []:=λi x h=>by cases h
theorem q3b{C:Nat}{d:FD}{x:Str}{fs:List Str}{fa:Addr}{fd:FuncData}{ps:List Str}(h:MStands K bl cl C d x fa fd ps)(t:HM K bl cl C T fs):HM K bl cl C (d::T) (x::fs):=λi x' h1=>by
 cases i with
 | zero=>cases h1;exact⟨_,_,_,_,rfl,h⟩
 | succ i=>exact t i x' h1
theorem z8U{G:Gs}{p:Prop}(e:G.rdc = -1:=by rfl):0<=G.rdc->p:=λz=>by rw[e]at z;exact absurd z (by decide)
def HS(K:PySem.W.Frag)(mg:Str->Option Value)(fn bl cl:List Str)(T:List FD)(fs:List Str):Prop:=∀(i:Nat) d x,T[i]? = some d->fs[i]? = some x->∃fa fd ps,Stands K mg fn bl cl d x fa fd ps
theorem z6k{fs:List Str}:HS K mg fn bl cl [] fs:=λi d x h=>by cases h
theorem q0X{d:FD}{x:Str}{fs:List Str}{fa:Addr}{fd:FuncData}{ps:List Str}(h:Stands K mg fn bl cl d x fa fd ps)(t:HS K mg fn bl cl T fs):HS K mg fn bl cl (d::T) (x::fs):=λi d' x' h1 h2=>by
 cases i with
 | zero=>cases h1;cases h2;exact⟨_,_,_,h⟩
 | succ i=>exact t i d' x' h1 h2
theorem z5M{H:Hp}:L2.wo [] H=H:=by
 funext b
 unfold L2.wo;simp
def HC(K:PySem.W.Frag)(mg:Str->Option Value)(c:List (Str×DV)):Prop:=∀x d,c.lookup x=some d->∃u v,mg x=some u/\RelV v u/\∀H,Rep ⟨K,mg⟩ H d v
theorem z3d:HC K mg []:=λx d h=>by cases h
theorem q3q{c:List (Str×DV)}{y:Str}{d:DV}(h:∃u v,mg y=some u/\RelV v u/\∀H,Rep ⟨K,mg⟩ H d v)(t:HC K mg c):HC K mg ((y,d)::c):=λx d' q=>by
 rw[List.lookup_cons]at q;split at q
 ·rename_i e;cases q;rw[eq_of_beq e];exact h
 ·exact t x d' q
def OneL(K:PySem.W.Frag)(mg:Str->Option Value)(G:Gs)(cl:List Str)(l:List (Str×List Str)):Prop:=∀c,(l.lookup c).isSome=true->∃C,XOne K mg G cl c C
theorem z3u{cl:List Str}:OneL K mg G cl []:=λc h=>by cases h
theorem q4h{cl:List Str}{c:Str}{b:List Str}{l:List (Str×List Str)}(h:∃C,XOne K mg G cl c C)(t:OneL K mg G cl l):OneL K mg G cl ((c,b)::l):=λc' q=>by
 rw[List.lookup_cons]at q;split at q
 ·rename_i e;rw[eq_of_beq e];exact h
 ·exact t c' q
def AllL(mg:Str->Option Value)(l:List Str):Prop:=∀t∈l,∃Ct,mg t=some (.ref Ct)
theorem z2R:AllL mg []:=λt h=>by cases h
theorem all_cons{t:Str}{l:List Str}(h:∃Ct,mg t=some (.ref Ct))(r:AllL mg l):AllL mg (t::l):=λt' q=>by
 rcases List.mem_cons.mp q with e | e
 ·rw[e];exact h
 ·exact r t' e
def OwnL(K:PySem.W.Frag)(mg:Str->Option Value)(G:Gs)(c:Str)(C:Addr)(l:List Str):Prop:=∀t∈l,∀Ct,mg t=some (.ref Ct)->PySem.W.kitOne K (.ref C) (.ref Ct)=some (q1b G c t)/\PySem.W.exmOne K (.ref C) (.ref Ct)=some (q1b G c t)
theorem q5O{c:Str}{C:Addr}:OwnL K mg G c C []:=λt h=>by cases h
theorem q0O{c t:Str}{C Ct:Addr}{l:List Str}(m:mg t=some (.ref Ct))(h:PySem.W.kitOne K (.ref C) (.ref Ct)=some (q1b G c t)/\PySem.W.exmOne K (.ref C) (.ref Ct)=some (q1b G c t))(r:OwnL K mg G c C l):OwnL K mg G c C (t::l):=λt' q Ct' m'=>by
 rcases List.mem_cons.mp q with e | e
 ·subst e;cases m.symm.trans m';exact h
 ·exact r t' e Ct' m'
def spS(K:PySem.W.Frag):Sp:=λvs H Q _=>∃(a:Addr) (ns:List Int),vs=[.ref a]/\ns.length<=63/\SqS K H a (ns.map V.int)/\∀H',Q (.bl true) H'
def DCL(K:PySem.W.Frag)(w:World)(mg:Str->Option Value)(l:List (Str×List (Str×Option DV))):Prop:=∀x kvs,l.lookup x=some kvs->q8l K w mg x kvs
theorem z3K{w:World}:DCL K w mg []:=λx kvs h=>by cases h
theorem z7H{w:World}{y:Str}{kv:List (Str×Option DV)}{l:List (Str×List (Str×Option DV))}(h:q8l K w mg y kv)(t:DCL K w mg l):DCL K w mg ((y,kv)::l):=λx kvs q=>by
 rw[List.lookup_cons]at q;split at q
 ·rename_i e;cases q;rw[beq_iff_eq.mp e];exact h
 ·exact t x kvs q
def KVL(K:PySem.W.Frag)(a:Addr)(l:List (Str×Option DV)):Prop:=∀k r,l.lookup k=some r->∃u,PySem.W.nsIn K a k=some u/\KvIs r u
theorem z8x{a:Addr}:KVL K a []:=λk v h=>by cases h
theorem q6M{a:Addr}{k:Str}{r:Option DV}{u:Option Value}{l:List (Str×Option DV)}(h2:PySem.W.nsIn K a k=some u)(h1:KvIs r u)(t:KVL K a l):KVL K a ((k,r)::l):=λk' v' q=>by
 rw[List.lookup_cons]at q;split at q
 ·rename_i e;cases q;rw[beq_iff_eq.mp e];exact⟨_,h2,h1⟩
 ·exact t k' v' q
theorem z7G{a:Addr}{k v:Str}{t:Tok}{l:List (Str×Option DV)}(h1:v.length<=sizeLine)(h2:PySem.W.nsIn K a k=some (some (.str v t)))(r:KVL K a l):KVL K a ((k,some (.str v))::l):=
 q6M h2 ⟨_,.str v,rfl,⟨t,rfl⟩,λD H=>q0R.mpr ⟨rfl,h1⟩⟩ r
theorem z8m{a:Addr}{k:Str}{v:Int}{t:Tok}{l:List (Str×Option DV)}(h2:PySem.W.nsIn K a k=some (some (.int v t)))(r:KVL K a l):KVL K a ((k,some (.int v))::l):=
 q6M h2 ⟨_,.int v,rfl,⟨t,rfl⟩,λD H=>q0U.mpr rfl⟩ r
theorem z9n{a:Addr}{k:Str}{l:List (Str×Option DV)}(h2:PySem.W.nsIn K a k=some none)(r:KVL K a l):KVL K a ((k,none)::l):=q6M h2 rfl r
theorem z1C{k i:Nat}{d:FD}{x p:Str}{fa:Addr}{fd:FuncData}(hT:T.length=fn.length)(hs:HS K mg fn bl cl T fn)(hbl:∀x∈bl,mg x=none)(hxf:XFacts K mg G cl)
  (hcon:∀x d,G.con.lookup x=some d->∃u v,mg x=some u/\RelV v u/\∀H,Rep ⟨K,mg⟩ H d v) (hdc:∀x kvs,G.dcs.lookup x=some kvs->q8l K w mg x kvs) (hdf:DfOk G T) (hrd:0<=G.rdc->T.length<=q3g/\RdH P w K mg base G) (hh:G.hun=true->T.length<=q3g/\∃fa fd ps,mg q3E=some (.ref fa)/\PySem.W.keepIn K (.ref fa)=true/\q1s K fd ps []/\∀k,FnOk P w K mg base (CXx P w base) k fa fd ps (spH ⟨K,mg⟩ (q6R k))) (h1:T[i]? = some d) (h2:fn[i]? = some x) (S:Stands K mg fn bl cl d x fa fd [p])
  (hlm:G.fnl.isEmpty=true)
  (law:∀ns:List Int,ns.length<=63->run G T fu k i [.scr ns]=some (.v (.bl true) false)):FnOk P w K mg base CX0 k fa fd [p] (spS K):=by
 have R:=(q7S (P:=P) (w:=w) (base:=base) (fu:=fu) hT hs hbl hxf hcon hdc hdf hrd hh hlm k) i d x fa fd [p] h1 h2 S;refine⟨λvs H Q E h=>?_,λA outer s H args us vs Q E hr he hb hv h=>?_⟩
 ·obtain⟨a,ns,rfl,_⟩:=h;rfl
 ·obtain⟨a,ns,rfl,hl,hS,hq⟩:=h;refine codeAny_mono (R.run A outer s H args us [.ref a] Q E0 hr he hb hv ⟨[],[.scr ns],_,(λa ha=>(nomatch ha)),rfl,?_,law ns hl,λv H' _ g=>?_⟩) λr s' q=>?_
  ·refine RepL.one (q1X.mpr ⟨a,rfl,?_⟩);rw[z5M];exact hS
  ·have g':Rep ⟨K,mg⟩ (L2.wo [] H') (.bl true) v:=g;rw[q4y]at g';subst g';exact hq H'
  ·cases r with
   | error e=>
    obtain⟨_,_,_,_,_,_,_,_,_,_,z⟩:=(q:CXx P w base outer H s E0 e s');exact z.elim
   | ok fl=>cases fl<;>first | exact False.elim q | exact q
end
theorem walkE{l:PySem.W.OpenLaw}{q:Program}{loose:List Str}{XP:(Str->Option Value)->Heap->Prop}{YP:World->Heap->Prop}{d:DefRec}{K:Params->PySem.W.Frag}{k:Nat}{p:Str}(hn:l.most=some 63)(hdf:d.params.defaults=[])(hr:Room k callerA)
  (hY:∀(w:World) (h:Heap),YP w h->(K w.params).In h) (htb:∀(w:World) (h:Heap),YP w h->(∀p∈q0Y (K w.params),(K w.params).lookup p.1=none/\h.get? p.1=some {cls:=.none,data:=.fields #[]} /\ isCodeTable h p.1)/\((q0Y (K w.params)).map (·.1)).Nodup)
  (F:∀(w:World) (mg:Str->Option Value) (fa:Addr) (h:Heap),(K w.params).In h->h.Ns mainGlobals mg->mg d.name=some (.ref fa) ->
   ∃fd:FuncData,(∀(s:Shared) (u:Value),BindsTo s fd ⟨[u],[]⟩ [(p,u)])/\∀base:Heap,(K w.params).In base->base.Ns mainGlobals mg->FnOk l.prog w (K w.params) mg base CX0 k fa fd [p] (spS (K w.params))) :
  PySem.W.WalkO q loose XP YP l.row.toRowW d [] (λf vs=>PySem.call f vs):=
 L2.walk_of (n:=63) (k:=k) (x:=p) (CX:=λ_=>CX0) (sp:=λw=>spS (K w.params)) hn (by decide) hdf hr hY htb F (λ_ _ a ns hl hO hS=>⟨a,ns,rfl,hl,SqS.of hO hS,λ_=>rfl⟩) λ_ _ _ _ _ z=>z
end L2
end
noncomputable section
namespace L2
open PySem PySem.Spec PyProof.Rows
theorem z5H{K:PySem.W.Frag}{p:Addr×Str}(h:p∈q0Y K):∃(c:Addr) (oc:Obj) (vs:Array Value),(c,oc)∈K/\oc.cls=.type "code" /\ oc.data=.fields vs/\vs[11]? = some (.ref p.1)/\K.lookup p.1=none:=by
 unfold q0Y at h;obtain⟨⟨c,oc⟩,hm,e⟩:=List.mem_filterMap.mp h;dsimp only at e;split at e
 ·rename_i vs h1 h2;split at e
  ·rename_i P q t k1 k2;split at e
   ·rename_i z;cases e;exact⟨c,oc,vs,hm,h1,h2,k1,Option.isNone_iff_eq_none.mp z⟩
   ·cases e
  ·cases e
 ·cases e
theorem z1k{K:PySem.W.Frag}(nd:(K.map (·.1)).Nodup){c:Addr}{o:Obj}(h:(c,o)∈K):K.lookup c=some o:=by
 induction K with
 | nil=>cases h
 | cons y l ih=>
  rw[List.map_cons]at nd;have nd':=List.nodup_cons.mp nd;obtain⟨a,b⟩:=y;rw[List.lookup_cons];rcases List.mem_cons.mp h with z | z
  ·cases z;rw[beq_self_eq_true]
  ·have:c≠a:=λe=>nd'.1 (by rw[←e];exact List.mem_map.mpr ⟨_,z,rfl⟩);rw[beq_eq_false_iff_ne.mpr this];exact ih nd'.2 z
theorem htb_of{K T:PySem.W.Frag}{h:Heap}(hk:K.In h)(ht:T.In h)(nd:(K.map (·.1)).Nodup)(hT:(q0Y K).map (λp=>T.lookup p.1)=(q0Y K).map λ_=>some {cls:=.none,data:=.fields #[]}) :
  ∀p∈q0Y K,K.lookup p.1=none/\h.get? p.1=some {cls:=.none,data:=.fields #[]} /\ isCodeTable h p.1:=λp hp=>by
 obtain⟨c,oc,vs,hm,h1,h2,h3,h4⟩:=z5H hp;exact⟨h4,ht _ _ (List.map_inj_left.mp hT p hp),c,oc,vs,hk _ _ (z1k nd hm),h1,h2,h3⟩
theorem in_app{K T:PySem.W.Frag}{h:Heap}(X:PySem.W.Frag.In (T++K) h)(hd:(K.map (·.1)).all (λa=>(T.lookup a).isNone)=true):K.In h/\T.In h:=by
 have app:∀(T K:PySem.W.Frag) a,(T++K).lookup a=(T.lookup a).or (K.lookup a):=λT K a=>by
  induction T with
  | nil=>simp
  | cons y l ih=>
   obtain⟨b,v⟩:=y;rw[List.cons_append,List.lookup_cons,List.lookup_cons];cases hb:a==b with
   | true=>rfl
   | false=>
    exact ih
 refine⟨λa o e=>X a o ?_,λa o e=>X a o ?_⟩
 ·rw[app,Option.isNone_iff_eq_none.mp (List.all_eq_true.mp hd a (List.mem_map.mpr ⟨_,q4L e,rfl⟩)),e];rfl
 ·rw[app,e];rfl
end L2
end
noncomputable section
namespace k84
open PySem L2
inductive Pl where
 | fin (v:Int) | ask (row:Bool) (c:Nat) (a b:Pl)
def side(r:Bool):DV:=if r then .str "row" else .str "column"
def dv:Pl->DV
 | .fin v=>.tup [.str "end",.int v]
 | .ask r c a b=>.tup [.str "ask",side r,.int c,dv a,dv b]
def ht:Pl->Nat
 | .fin _=>0
 | .ask _ _ a b=>max (ht a) (ht b)+1
def lv:Pl->Nat
 | .fin _=>1
 | .ask _ _ a b=>lv a+lv b
def Okp:Pl->Prop
 | .fin v=>0<=v/\v<=9
 | .ask _ c a b=>1<=c/\c<=255/\Okp a/\Okp b
def stx(l:List Nat):Str:=⟨l.toArray⟩
def crd(o:Nat):List Nat:=(List.range 8).filter λd=>o/2^d%2==1
def tx:Pl->List Nat
 | .fin v=>[48+v.toNat]
 | .ask r c a b=>(if r then 114 else 99)::((crd c).map (48 + ·)++(40::(tx a++(44::(tx b++[41])))))
def Sgn(l:List Nat):Prop:=∀c∈l,c<0x110000
def okP(k:Nat)(t:Str)(j:Int):Prop:=j=0/\50<=k/\∃l,t=stx l/\Sgn l/\l.count 40<=20
end k84
namespace k84
open PySem L2
def q3y:FD:={n:=3,np:=3,dfl:=[],body:=[.ret (.and [.isi (.var 0) ["int"],.not (.isi (.var 0) ["bool"]),.chain .LtE .LtE (.var 1) (.var 0) (.var 2)])]}
def q1v:FD:={n:=1,np:=1,dfl:=[],body:=[.iff (.not (.call 2 [.var 0,.glb "MOST_ASKS_DEEP"])) [.rse "NoPlan" (.str "a plan is an end or an ask, with at most 12 asks one within another")] [],.iff (.cmp .Gt (.call 7 [.var 0]) (.bin .Add (.glb "MOST_ASKS") (.int 1))) [.rse "NoPlan" (.str "a plan has at most 300 asks")] [],.ret (.var 0)]}
def q0F:FD:={n:=2,np:=2,dfl:=[],body:=[.iff (.call 3 [.var 0]) [.ret (.bl true)] [],.ret (.and [.cmp .Gt (.var 1) (.int 0),.call 4 [.var 0],.call 2 [.ix (.var 0) (.int 3),.bin .Sub (.var 1) (.int 1)],.call 2 [.ix (.var 0) (.int 4),.bin .Sub (.var 1) (.int 1)]])]}
def q2M:FD:={n:=1,np:=1,dfl:=[],body:=[.ret (.and [.call 5 [.var 0,.int 2],.call 6 [.ix (.var 0) (.int 0),.str "end"],.call 0 [.ix (.var 0) (.int 1),.int 0,.glb "GREATEST_WORD"]])]}
def q2L:FD:={n:=1,np:=1,dfl:=[],body:=[.iff (.or [.not (.call 5 [.var 0,.int 5]),.not (.call 6 [.ix (.var 0) (.int 0),.str "ask"])]) [.ret (.bl false)] [],.ret (.and [.or [.call 6 [.ix (.var 0) (.int 1),.str "row"],.call 6 [.ix (.var 0) (.int 1),.str "column"]],.call 0 [.ix (.var 0) (.int 2),.int 1,.glb "ALL_CARDS"]])]}
def q2J:FD:={n:=2,np:=2,dfl:=[],body:=[.ret (.and [.isi (.var 0) ["tuple"],.cmp .Eq (.bi .len [.var 0]) (.var 1)])]}
def q3A:FD:={n:=2,np:=2,dfl:=[],body:=[.ret (.and [.isi (.var 0) ["str"],.cmp .Eq (.var 0) (.var 1)])]}
def q1f:FD:={n:=1,np:=1,dfl:=[],body:=[.iff (.cmp .Eq (.ix (.var 0) (.int 0)) (.str "end")) [.ret (.int 1)] [],.ret (.bin .Add (.call 7 [.ix (.var 0) (.int 3)]) (.call 7 [.ix (.var 0) (.int 4)]))]}
def q0D:FD:={n:=3,np:=1,dfl:=[],body:=[.iff (.not (.isi (.var 0) ["str"])) [.rse "NoText" (.str "a plan is read from a text")] [],.mkr 1 (.var 0),.rdp 2 1,.iff (.cmp .NotEq (.fld 1 true) (.bi .len [.var 0])) [.rse "NoText" (.str "something stands behind the plan")] [],.tryr [.ret (.call 1 [.var 2])] "NoPlan" "NoText" "the text makes no plan"]}
def q1x:FD:={n:=2,np:=2,dfl:=[],body:=[.iff (.cmp .Lt (.var 1) (.bi .len [.var 0])) [.ret (.ix (.var 0) (.var 1))] [],.ret (.int 0)]}
def q1E:FD:={n:=5,np:=2,dfl:=[],body:=[.set 2 true (.lst []),.set 3 false (.bin .Add (.bin .Mod (.var 0) (.int 2147483647)) (.int 48271)),.fo (.one 4) (.rng [.var 1]) [.set 3 false (.bin .Mod (.bin .Add (.bin .Add (.bin .Mult (.var 3) (.int 48271)) (.bin .Mult (.var 4) (.var 4))) (.int 11)) (.int 2147483647)),.app 2 (.bin .FloorDiv (.var 3) (.int 7))],.ret (.var 2)]}
def q1e:FD:={n:=8,np:=4,dfl:=[],body:=[.set 4 false (.ix (.var 0) (.bin .Mod (.var 1) (.bi .len [.var 0]))),.iff (.or [.cmp .Eq (.var 2) (.int 0),.and [.cmp .Eq (.bin .Mod (.var 4) (.int 7)) (.int 0),.cmp .Lt (.var 2) (.var 3)]]) [.ret (.tup [.str "end",.bin .Mod (.bin .FloorDiv (.var 4) (.int 7)) (.int 10)])] [],.set 5 false (.ix (.lst [.str "row",.str "column"]) (.bin .Mod (.bin .FloorDiv (.var 4) (.int 7)) (.int 2))),.set 6 false (.bin .Add (.int 1) (.bin .Mod (.bin .FloorDiv (.var 4) (.int 14)) (.int 255))),.set 7 false (.call 11 [.var 0,.bin .Add (.bin .Mult (.int 2) (.var 1)) (.int 1),.bin .Sub (.var 2) (.int 1),.var 3]),.ret (.tup [.str "ask",.var 5,.var 6,.var 7,.call 11 [.var 0,.bin .Add (.bin .Mult (.int 2) (.var 1)) (.int 2),.bin .Sub (.var 2) (.int 1),.var 3]])]}
def q1t:FD:={n:=3,np:=1,dfl:=[],body:=[.iff (.cmp .Eq (.ix (.var 0) (.int 0)) (.str "end")) [.ret (.ix (.str "0123456789") (.ix (.var 0) (.int 1)))] [],.set 1 false (.str "c"),.iff (.cmp .Eq (.ix (.var 0) (.int 1)) (.str "row")) [.set 1 false (.str "r")] [],.fo (.one 2) (.rng [.int 8]) [.iff (.cmp .Eq (.bin .Mod (.bin .FloorDiv (.ix (.var 0) (.int 2)) (.ix (.lst [.int 1,.int 2,.int 4,.int 8,.int 16,.int 32,.int 64,.int 128]) (.var 2))) (.int 2)) (.int 1)) [.set 1 false (.scat (.var 1) (.ix (.str "01234567") (.var 2)))] []],.ret (.scat (.scat (.scat (.scat (.scat (.var 1) (.str "(")) (.call 12 [.ix (.var 0) (.int 3)])) (.str ",")) (.call 12 [.ix (.var 0) (.int 4)])) (.str ")"))]}
def q1R:FD:={n:=3,np:=1,dfl:=[],body:=[.set 1 false (.int 0),.fo (.one 2) (.rng [.bi .len [.var 0]]) [.iff (.cmp .Eq (.ix (.var 0) (.var 2)) (.str "(")) [.set 1 false (.bin .Add (.var 1) (.int 1))] [],.iff (.cmp .Eq (.ix (.var 0) (.var 2)) (.str ")")) [.set 1 false (.bin .Sub (.var 1) (.int 1))] [],.iff (.cmp .Lt (.var 1) (.int 0)) [.ret (.neg (.int 1))] [],.iff (.and [.cmp .Eq (.ix (.var 0) (.var 2)) (.str ","),.cmp .Eq (.var 1) (.int 0)]) [.ret (.var 2)] []],.ret (.neg (.int 1))]}
def q1I:FD:={n:=8,np:=1,dfl:=[],body:=[.iff (.or [.not (.isi (.var 0) ["str"]),.cmp .Eq (.var 0) (.str "")]) [.ret (.non)] [],.iff (.and [.cmp .Eq (.bi .len [.var 0]) (.int 1),.cmp .In (.var 0) (.str "0123456789")]) [.ret (.tup [.str "end",.bi .int [.var 0]])] [],.set 1 false (.fnd (.var 0) (.str "(")),.iff (.or [.cmp .NotIn (.ix (.var 0) (.int 0)) (.str "rc"),.cmp .Lt (.var 1) (.int 2),.cmp .NotEq (.ix (.var 0) (.neg (.int 1))) (.str ")")]) [.ret (.non)] [],.set 2 false (.int 0),.fo (.one 3) (.stm (.var 0) (.int 1) (.var 1)) [.iff (.or [.cmp .NotIn (.var 3) (.str "01234567"),.cmp .LtE (.ix (.lst [.int 1,.int 2,.int 4,.int 8,.int 16,.int 32,.int 64,.int 128]) (.bi .int [.var 3])) (.var 2)]) [.ret (.non)] [],.set 2 false (.bin .Add (.var 2) (.ix (.lst [.int 1,.int 2,.int 4,.int 8,.int 16,.int 32,.int 64,.int 128]) (.bi .int [.var 3])))],.set 4 false (.stm (.var 0) (.bin .Add (.var 1) (.int 1)) (.neg (.int 1))),.set 5 false (.call 13 [.var 4]),.iff (.cmp .Lt (.var 5) (.int 0)) [.ret (.non)] [],.set 6 false (.call 14 [.stt (.var 4) (.var 5)]),.set 7 false (.call 14 [.stf (.var 4) (.bin .Add (.var 5) (.int 1))]),.iff (.or [.cmp .Is (.var 6) (.non),.cmp .Is (.var 7) (.non)]) [.ret (.non)] [],.ret (.tup [.str "ask",.ix (.lst [.str "row",.str "column"]) (.fnd (.str "rc") (.ix (.var 0) (.int 0))),.var 2,.var 6,.var 7])]}
def q2N:FD:={n:=2,np:=1,dfl:=[],body:=[.set 1 false (.lst [.str "",.str " ",.str "r",.str "r0",.str "r(0,1)",.str "r0(0,1",.str "r0(0)",.str "r0(,1)",.str "r0(0,)",.str "r0(0,1))",.str "(0,1)",.str "r00(0,1)"]),.set 1 false (.bin .Add (.var 1) (.lst [.str "r10(0,1)",.str "r8(0,1)",.str "R0(0,1)",.str "r0 (0,1)",.str "r0(0, 1)",.str "00",.str "10",.str "-1",.str "x",.str "r0(0,1)c1(0,1)"])),.set 1 false (.bin .Add (.var 1) (.lst [.str "r0(0,1,2)",.str "r0[0,1]",.str "r0(r(0,1),1)",.str "c0(0,1)\n"])),.ret (.ix (.bin .Add (.var 1) (.lst [.non,.int 1,.tup [.str "end",.int 1],.bl true])) (.bin .Mod (.var 0) (.int 30)))]}
def q1a:FD:={n:=4,np:=2,dfl:=[],body:=[.iff (.cmp .Eq (.bin .Mod (.ix (.var 1) (.int 0)) (.int 4)) (.int 3)) [.ret (.call 15 [.ix (.var 1) (.int 1)])] [],.set 2 false (.ix (.str "0123456789rc(), xr") (.bin .Mod (.ix (.var 1) (.int 1)) (.int 18))),.set 3 false (.bin .Mod (.ix (.var 1) (.int 2)) (.bi .len [.var 0])),.iff (.cmp .Eq (.bin .Mod (.ix (.var 1) (.int 0)) (.int 4)) (.int 0)) [.ret (.scat (.scat (.stt (.var 0) (.var 3)) (.var 2)) (.stf (.var 0) (.var 3)))] [],.iff (.cmp .Eq (.bin .Mod (.ix (.var 1) (.int 0)) (.int 4)) (.int 1)) [.ret (.scat (.stt (.var 0) (.var 3)) (.stf (.var 0) (.bin .Add (.var 3) (.int 1))))] [],.ret (.scat (.scat (.stt (.var 0) (.var 3)) (.var 2)) (.stf (.var 0) (.bin .Add (.var 3) (.int 1))))]}
def q0S:FD:={n:=5,np:=1,dfl:=[],body:=[.set 1 false (.non),.set 2 false (.non),.tryc [.set 2 false (.call 8 [.var 0])] "TalkError" 3 1,.set 4 false (.call 14 [.var 0]),.iff (.cmp .IsNot (.var 4) (.non)) [.ret (.and [.cmp .Is (.var 1) (.non),.isi (.var 2) ["tuple"],.cmp .Eq (.var 2) (.var 4)])] [],.iff (.or [.cmp .Is (.var 1) (.non),.not (.isx (.var 1) "NoText"),.not (.isx (.var 1) "ValueError")]) [.ret (.bl false)] [],.ret (.and [.not (.isx (.var 1) "NoPlan"),.not (.isx (.var 1) "NoTable")])]}
def z1B:FD:={n:=4,np:=1,dfl:=[],body:=[.set 1 false (.call 10 [.call 9 [.var 0,.int 0],.int 30]),.set 2 false (.call 12 [.call 11 [.var 1,.int 0,.bin .Mod (.ix (.var 1) (.int 1)) (.int 4),.int 2]]),.fo (.one 3) (.bin .Add (.lst [.call 9 [.var 0,.int 1],.call 9 [.var 0,.int 2]]) (.sl (.var 0) (.int 3) (.int 15))) [.iff (.not (.call 17 [.call 16 [.var 2,.call 10 [.var 3,.int 3]]])) [.ret (.bl false)] []],.ret (.and [.cmp .IsNot (.call 14 [.var 2]) (.non),.call 17 [.var 2]])]}
def T:List FD:=[q3y,q1v,q0F,q2M,q2L,q2J,q3A,q1f,q0D,q1x,q1E,q1e,q1t,q1R,q1I,q2N,q1a,q0S,z1B]
def q7W:FD:={n:=1,np:=1,body:=[.rtm 0 (.stm (.fld 0 false) (.fld 0 true) (.bin .Add (.fld 0 true) (.int 1)))]}
def q2I:FD:={n:=1,np:=1,body:=[.rtm 0 (.and [.cmp .Lt (.fld 0 true) (.bi .len [.fld 0 false]),.cmp .In (.mth 0 0) (.glb "DIGITS")])]}
def q5r:FD:={n:=2,np:=2,body:=[.iff (.cmp .NotEq (.mth 0 0) (.var 1)) [.rse "NoText" (.fst [.fmt (.var 1),.str " is missing"])] [],.fau 0 (.int 1)]}
def q1k:FD:={n:=2,np:=1,body:=[.iff (.not (.mth 0 1)) [.rse "NoText" (.str "a digit is missing")] [],.set 1 false (.fnd (.glb "DIGITS") (.mth 0 0)),.fau 0 (.int 1),.rtm 0 (.var 1)]}
def q2i:FD:={n:=5,np:=1,body:=[.iff (.mth 0 1) [.rtd 0 3 "end"] [],.mst 1 0 5 [],.mst 2 0 6 [],.msx 0 2 [.str "("],.mst 3 0 4 [],.msx 0 2 [.str ","],.mst 4 0 4 [],.msx 0 2 [.str ")"],.rtm 0 (.tup [.str "ask",.var 1,.var 2,.var 3,.var 4])]}
def q2m:FD:={n:=1,np:=1,body:=[.iff (.cmp .Eq (.mth 0 0) (.str "r")) [.msx 0 2 [.str "r"],.rtm 0 (.str "row")] [],.msx 0 2 [.str "c"],.rtm 0 (.str "column")]}
def q1S:FD:={n:=4,np:=1,body:=[.mst 1 0 3 [],.set 2 false (.bin .LShift (.int 1) (.var 1)),.wh (.mth 0 1) [.mst 3 0 3 [],.iff (.cmp .LtE (.var 3) (.var 1)) [.rse "NoText" (.str "cards are written from the least on, each once")] [],.set 2 false (.bin .BitOr (.var 2) (.bin .LShift (.int 1) (.var 3))),.set 1 false (.var 3)],.rtm 0 (.var 2)]}
def TM:List FD:=[q7W,q2I,q5r,q1k,q2i,q2m,q1S]
def GM:Gs:={con:=[("GREATEST_WORD",.int 9),("MOST_ASKS_DEEP",.int 12),("MOST_ASKS",.int 300),("ALL_CARDS",.int 255),("DIGITS",.str "0123456789")],cls:=[("TalkError",["ValueError","Exception","BaseException","object"]),("NoTable",["TalkError","ValueError","Exception","BaseException","object"]),("NoPlan",["TalkError","ValueError","Exception","BaseException","object"]),("NoText",["TalkError","ValueError","Exception","BaseException","object"])],rdc:=192,mtx:=true}
def prsG(r:Option Rm):Option Ou:=match r with
 | some (.ok d (.tup [_,_,_,_,.int k']))=>some (.v (.tup [d,.int k']) false)
 | some (.ex c)=>some (.x c)
 | _=>none
noncomputable def prs(k:Nat)(ds:List DV):Option Ou:=match k,ds with
 | k+1,[.str t,.int j]=>@ite (Option Ou) (okP k t j) (Classical.propDecidable _) (prsG (Rm.of (runM GM TM 100 k 4 [rdD 192 0 0 t j]))) none
 | _,_=>none
noncomputable def G:Gs:={con:=[("GREATEST_WORD",.int 9),("MOST_ASKS_DEEP",.int 12),("MOST_ASKS",.int 300),("ALL_CARDS",.int 255),("DIGITS",.str "0123456789")],cls:=[("TalkError",["ValueError","Exception","BaseException","object"]),("NoTable",["TalkError","ValueError","Exception","BaseException","object"]),("NoPlan",["TalkError","ValueError","Exception","BaseException","object"]),("NoText",["TalkError","ValueError","Exception","BaseException","object"])],rdc:=192,prs:=prs}
end k84
namespace k84
open PySem L2
variable {fu k:Nat} {F:Nat->List DV->Option Ou} {δ:List Sv} {ds:List DV} {cl:Cl}
theorem q4O{x:Int}:isiD G (.int x) ["int"]=some true:=rfl
theorem q3V{x:Int}:isiD G (.int x) ["bool"]=some false:=rfl
theorem z0Q:cmpD .Eq (.str "end") (.str "end")=some true:=by decide +kernel
theorem z2D:cmpD .Eq (.str "ask") (.str "end")=some false:=by decide +kernel
theorem z2O:cmpD .Eq (.str "ask") (.str "ask")=some true:=by decide +kernel
theorem q8V:cmpD .Eq (.str "row") (.str "row")=some true:=by decide +kernel
theorem q9w:cmpD .Eq (.str "column") (.str "row")=some false:=by decide +kernel
theorem z2y:cmpD .Eq (.str "column") (.str "column")=some true:=by decide +kernel
theorem q5x{x a b:Int}:run G T fu (k+1) 0 [.int x,.int a,.int b]=some (.v (.bl (decide (a<=x)&&decide (x<=b))) false):=by
 rw[q0x (fd:=q3y) rfl rfl];by_cases h1:a<=x
 ·simp[q3y,q0l,evSs,evS,evE,q2v,Re.thnS,q0Z,q4O,q3V,andD,q2h,cmpD,h1,Ou.of,frD,retD,Cl.item]
 ·simp[q3y,q0l,evSs,evS,evE,q2v,Re.thnS,q0Z,q4O,q3V,andD,q2h,cmpD,h1,Ou.of,frD,retD,Cl.item]
theorem z0I(ns:List Int)(j:Nat):∃v:Int,run G T fu (k+1) 9 [.scr ns,.int j]=some (.v (.int v) false):=by
 rw[q0x (fd:=q1x) rfl rfl];unfold q1x;by_cases h:j<ns.length
 ·refine⟨ns[j],q0N (q1i (q0f (cl:=.strong) ?_) (q0H ?_))⟩
  ·simp[evE,evEs,q0Z,q2A,q0l,biOk,biD,lenD,cmpD,h]
  ·simp[evS,evE,q0Z,q0l,ixD,q3G,h,Re.thnS,frD,retD,Cl.item]
 ·refine⟨0,q0N (q0k (q0f (cl:=.strong) ?_) (q0H rfl))⟩;simp[evE,evEs,q0Z,q2A,q0l,biOk,biD,lenD,cmpD];omega
theorem z1J(xs:List Int)(v:Int):xs.map DV.int++[.int v]=(xs++[v]).map DV.int:=by rw[List.map_append];rfl
theorem z3E{F:Nat->List DV->Option Ou}{δ:List Sv}{e:ME}{n:Nat}{cl:Cl}(h:evE G F e δ=some (.ok (.int n) cl))(hn:n<=1000):q2R (evE G F (.rng [e]) δ)=some (.ok (upTo 0 n) .fresh):=by
 show q2R (Rs.thn (evEs G F [e] δ) (λl=>(rngD l).map λds=>.ok (.lst ds) .fresh))=_;rw[q0a h q0e,q2A];have hs:(q3L (n:Int)&&decide ((n:Int)<=(mostLen:Int)))=true:=by rw[Bool.and_eq_true,decide_eq_true_iff];refine⟨?_,Int.le_trans (show(n:Int)<=1000 by omega) (by decide)⟩;unfold q3L;rw[Bool.and_eq_true,decide_eq_true_iff,decide_eq_true_iff];exact⟨Int.le_trans (by decide) (Int.natCast_nonneg n),Int.lt_of_le_of_lt (show(n:Int)<=1000 by omega) (by decide)⟩
 show q2R ((if q3L (n:Int)&&decide ((n:Int)<=(mostLen:Int))then some (upTo 0 (n:Int).toNat)else none).map λds=>.ok (.lst ds) .fresh)=_;rw[if_pos hs,Int.toNat_natCast];rfl
theorem z9f{j:Nat}(hj:j<1000):q5N (j:Int) (j:Int)=true:=by unfold q5N;simp;omega
theorem m48(x:Int):q5N x 48271=true:=by unfold q5N;simp
theorem q7I(c:Int)(n:Nat)(hn:n<=1000):∃xs:List Int,xs.length=n/\run G T fu (k+1) 10 [.int c,.int n]=some (.v (.lst (xs.map DV.int)) true):=by
 rw[q0x (fd:=q1E) rfl rfl];obtain⟨δ1,h1,xs,num,z,hl,rfl⟩:=q4N (i:=4) (I:=λj δ=>∃(xs:List Int) (num:Int) (z:Sv),xs.length=j/\δ=[.val (.int c),.val (.int n),.own (.lst (xs.map DV.int)),.val (.int num),z])
  (body:=λδ'=>evSs G (run G T fu k) fu [.set 3 false (.bin .Mod (.bin .Add (.bin .Add (.bin .Mult (.var 3) (.int 48271)) (.bin .Mult (.var 4) (.var 4))) (.int 11)) (.int 2147483647)),.app 2 (.bin .FloorDiv (.var 3) (.int 7))] δ') n 0 (δ:=[.val (.int c),.val (.int n),.own (.lst []),.val (.int (c%2147483647+48271)),.no])
  (λj hj δ I=>by
   obtain⟨xs,num,z,hl,rfl⟩:=I;rw[show(0:Int)+(j:Int)=j by omega];obtain⟨N,hN⟩:∃N:Int,(num*48271+(j:Int)*j+11)%2147483647=N:=⟨_,rfl⟩;obtain⟨D,hD⟩:∃D:Int,N/7=D:=⟨_,rfl⟩;refine⟨_,q0p (q0q (d:=.int N) (cl:=.strong) ?_ rfl) (q0p (z7F (d:=.int D) (cl:=.strong) rfl ?_ rfl (by rw[List.length_map,hl];exact Nat.lt_of_lt_of_le (Nat.lt_of_lt_of_le hj hn) (by decide))) rfl),xs++[D],N,.val (.int j),by rw[List.length_append,hl];rfl,?_⟩
   ·rw[←hN];exact q2F (q3R (q3R (z1N (q0b rfl) q0d (m48 _)) (z1N (q0b rfl) (q0b rfl) (z9f (by omega)))) q0d) q0d (by decide)
   ·rw[←hD];exact q8m (q0b rfl) q0d (by decide)
   ·rw[←z1J];rfl) ⟨[],_,.no,rfl,rfl⟩
 refine⟨xs,hl,?_⟩;unfold q1E;exact q0N (q0p (z6E rfl) (q0p (q0q (d:=.int (c%2147483647+48271)) (cl:=.strong) (q3R (q2F (q0b rfl) q0d (by decide)) q0d) rfl) (z0m (z3E (n:=n) (q0b rfl) hn) (.inr rfl) h1 (q0H rfl))))
theorem z3L{e:ME}{ds:List DV}{c:Cl}(h:evE G F e δ=some (.ok (.tup ds) c)):evE G F (.bi .len [e]) δ=some (.ok (.int ds.length) .strong):=by
 show Rs.thn (evEs G F [e] δ) (λl=>lenD l)=_;rw[q0a h q0e];rfl
theorem q7U{f:Nat}{es:List ME}{l:List (DV×Cl)}{c:Str}(ha:evEs G F es δ=some (.ok l))(h:F f (l.map (·.1))=some (.x c)):evE G F (.call f es) δ=some (.ex c):=by
 show Rs.thn (evEs G F es δ) (λl=>q3s F f l)=_;rw[ha];show q3s F f l=_;unfold q3s;rw[h]
theorem q7t{m:MS}{r:List MS}{c:Str}{δ':List Sv}(h:evS G F fu m δ=some (.ex c δ')):evSs G F fu (m::r) δ=some (.ex c δ'):=by
 unfold evSs;rw[h]
theorem z0K{r:List MS}{c:Str}{δ':List Sv}(h:evSs G F fu r δ=some (.ex c δ')):Ou.of (evSs G F fu r δ)=some (.x c):=by rw[h];rfl
theorem z6Y{n j:Nat}(h:j<n):q3G n (j:Int)=some j:=by
 unfold q3G;rw[if_pos (Int.natCast_nonneg j),if_pos (by omega),Int.toNat_natCast]
theorem z6P{F:Nat->List DV->Option Ou}{δ:List Sv}{es:List ME}{l:List (DV×Cl)}(h:evEs G F es δ=some (.ok l))(hl:l.length<=mostLen)(hs:stros l=true):evE G F (.lst es) δ=some (.ok (.lst (l.map (·.1))) .fresh):=by
 have e:evE G F (.lst es) δ=Rs.thn (evEs G F es δ) (λl=>if l.length<=mostLen then some (.ok (.lst (l.map (·.1))) (if stros l then .fresh else .weak))else none):=rfl;rw[e,h,q2A,if_pos hl,hs];rfl
theorem z2X(n:Int):∃s:Bool,ixD (.lst [.str "row",.str "column"]) (.int (n%2))=some (side s):=by
 have:n%2=0\/n%2=1:=by omega
 rcases this with h | h
 ·exact⟨true,by rw[h];rfl⟩
 ·exact⟨false,by rw[h];rfl⟩
theorem z1E(n:Int):∃o:Nat,1+n%255=(o:Int):=⟨(1+n%255).toNat,by omega⟩
theorem z6Q{F:Nat->List DV->Option Ou}{δ:List Sv}:evE G F (.lst [.str "row",.str "column"]) δ=some (.ok (.lst [.str "row",.str "column"]) .fresh):=rfl
theorem z6v(xs:List Int)(hx:xs.length=30):∀(d:Nat) (at':Int),∃p:Pl,Okp p/\ht p<=d/\lv p<=2^d/\∀k,d<k->run G T fu k 11 [.lst (xs.map DV.int),.int at',.int d,.int 2]=some (.v (dv p) false):=by
 intro d
 induction d with
 | zero=>
  intro at';obtain⟨n,hn⟩:=q8I (l:=xs) (i:=at'%30) (by omega) (by rw[hx];omega);refine⟨.fin (n/7%10),⟨by omega,by omega⟩,Nat.le_refl _,Nat.le_refl _,λk hk=>?_⟩;obtain⟨k,rfl⟩:∃k',k=k'+1:=⟨k - 1,by omega⟩;rw[q0x (fd:=q1e) rfl rfl];unfold q1e;have hlen:evE G (run G T fu k) (.bi .len [.var 0]) (q0l 8 [.lst (xs.map DV.int),.int at',.int (0:Nat),.int 2])=some (.ok (.int 30) .strong):=(by simp[evE,evEs,q2A,biOk,biD,lenD,q0l,hx]);refine q0N (q0p (q0q (d:=.int n) (cl:=.strong) (q0B (q0b rfl) (q2F (q0b rfl) hlen (by decide)) hn) rfl) (q1i (q0f (q6T (b_eq (i:=0) (j:=0) (q0b rfl) q0d))) (q0H (q0J (cl:=.strong) ?_))));have e:=q2F (q8m (q0b (G:=G) (F:=run G T fu k) (n:=4) (d:=.int n) (δ:=((q0l 8 [.lst (xs.map DV.int),.int at',.int (0:Nat),.int 2]).set 4 (.val (.int n)))) rfl) (q0d (i:=7)) (by decide)) (q0d (i:=10)) (by decide);exact q5p (q0a q0r (q0a e q0e)) (Nat.le_of_ble_eq_true rfl) rfl
 | succ d ih=>
  intro at';obtain⟨n,hn⟩:=q8I (l:=xs) (i:=at'%30) (by omega) (by rw[hx];omega);obtain⟨s,hs⟩:=z2X (n/7);obtain⟨o,ho⟩:=z1E (n/14);obtain⟨a,a0,a1,a2,a3⟩:=ih (2*at'+1);obtain⟨b,b0,b1,b2,b3⟩:=ih (2*at'+2);have hd:((d+1:Nat):Int) - 1=(d:Int):=by omega
  by_cases hc:n%7=0/\((d+1:Nat)  : Int)<2
  ·refine⟨.fin (n/7%10),⟨by omega,by omega⟩,Nat.zero_le _,Nat.one_le_two_pow,λk hk=>?_⟩;obtain⟨k,rfl⟩:∃k',k=k'+1:=⟨k - 1,by omega⟩;rw[q0x (fd:=q1e) rfl rfl];unfold q1e;have hlen:evE G (run G T fu k) (.bi .len [.var 0]) (q0l 8 [.lst (xs.map DV.int),.int at',.int ((d+1:Nat):Int),.int 2])=some (.ok (.int 30) .strong):=(by simp[evE,evEs,q2A,biOk,biD,lenD,q0l,hx]);have e1:(((d+1:Nat):Int)==0)=false:=by rw[beq_eq_false_iff_ne];omega
   have e2:(n%7==0)=true:=by rw[beq_iff_eq];exact hc.1
   have e3:decide (((d+1:Nat)  : Int)<2)=true:=decide_eq_true hc.2;have t1:=b_eq (q0b (G:=G) (F:=run G T fu k) (n:=2) (d:=.int ((d+1:Nat):Int)) (δ:=((q0l 8 [.lst (xs.map DV.int),.int at',.int ((d+1:Nat):Int),.int 2]).set 4 (.val (.int n)))) rfl) (q0d (i:=0));have t2:=b_eq (q2F (q0b (G:=G) (F:=run G T fu k) (n:=4) (d:=.int n) (δ:=((q0l 8 [.lst (xs.map DV.int),.int at',.int ((d+1:Nat):Int),.int 2]).set 4 (.val (.int n)))) rfl) (q0d (i:=7)) (by decide)) (q0d (i:=0));have t3:=b_lt (q0b (G:=G) (F:=run G T fu k) (n:=2) (d:=.int ((d+1:Nat):Int)) (δ:=((q0l 8 [.lst (xs.map DV.int),.int at',.int ((d+1:Nat):Int),.int 2]).set 4 (.val (.int n)))) rfl) (q0b (n:=3) (d:=.int 2) rfl);rw[e1]at t1;rw[e2]at t2;rw[e3]at t3;refine q0N (q0p (q0q (d:=.int n) (cl:=.strong) (q0B (q0b rfl) (q2F (q0b rfl) hlen (by decide)) hn) rfl) (q1i (q0f (q3H t1 (q4g t2 t3))) (q0H (q0J (cl:=.strong) ?_))));have e:=q2F (q8m (q0b (G:=G) (F:=run G T fu k) (n:=4) (d:=.int n) (δ:=((q0l 8 [.lst (xs.map DV.int),.int at',.int ((d+1:Nat):Int),.int 2]).set 4 (.val (.int n)))) rfl) (q0d (i:=7)) (by decide)) (q0d (i:=10)) (by decide);exact q5p (q0a q0r (q0a e q0e)) (Nat.le_of_ble_eq_true rfl) rfl
  ·refine⟨.ask s o a b,⟨by omega,by omega,a0,b0⟩,by unfold ht;omega,by unfold lv;rw[Nat.pow_succ];omega,λk hk=>?_⟩;obtain⟨k,rfl⟩:∃k',k=k'+1:=⟨k - 1,by omega⟩;have a4:=a3 k (by omega);have b4:=b3 k (by omega);rw[←hd]at a4 b4;rw[q0x (fd:=q1e) rfl rfl];unfold q1e;have hlen:evE G (run G T fu k) (.bi .len [.var 0]) (q0l 8 [.lst (xs.map DV.int),.int at',.int ((d+1:Nat):Int),.int 2])=some (.ok (.int 30) .strong):=(by simp[evE,evEs,q2A,biOk,biD,lenD,q0l,hx]);have e1:(((d+1:Nat):Int)==0)=false:=by rw[beq_eq_false_iff_ne];omega
   have t1:=b_eq (q0b (G:=G) (F:=run G T fu k) (n:=2) (d:=.int ((d+1:Nat):Int)) (δ:=((q0l 8 [.lst (xs.map DV.int),.int at',.int ((d+1:Nat):Int),.int 2]).set 4 (.val (.int n)))) rfl) (q0d (i:=0));have t2:=b_eq (q2F (q0b (G:=G) (F:=run G T fu k) (n:=4) (d:=.int n) (δ:=((q0l 8 [.lst (xs.map DV.int),.int at',.int ((d+1:Nat):Int),.int 2]).set 4 (.val (.int n)))) rfl) (q0d (i:=7)) (by decide)) (q0d (i:=0));have t3:=b_lt (q0b (G:=G) (F:=run G T fu k) (n:=2) (d:=.int ((d+1:Nat):Int)) (δ:=((q0l 8 [.lst (xs.map DV.int),.int at',.int ((d+1:Nat):Int),.int 2]).set 4 (.val (.int n)))) rfl) (q0b (n:=3) (d:=.int 2) rfl);rw[e1]at t1;have t4:evE G (run G T fu k) (.and [.cmp .Eq (.bin .Mod (.var 4) (.int 7)) (.int 0),.cmp .Lt (.var 2) (.var 3)]) ((q0l 8 [.lst (xs.map DV.int),.int at',.int ((d+1:Nat):Int),.int 2]).set 4 (.val (.int n)))=some (.ok (.bl false) .strong):=by
    cases z:(n%7==0)with
    | false=>rw[z]at t2;exact z1m (t:=true) t2
    | true=>
     rw[z]at t2;rw[decide_eq_false (λq=>hc ⟨beq_iff_eq.mp z,q⟩)]at t3;exact q4g t2 t3
   have m2:∀x:Int,q5N 2 x=true:=λx=>by unfold q5N;simp
   refine q0N (q0p (q0q (d:=.int n) (cl:=.strong) (q0B (q0b rfl) (q2F (q0b rfl) hlen (by decide)) hn) rfl) (q0k (q0f (q3H t1 t4)) (q0p (q0q (d:=side s) (cl:=.strong) (q0B z6Q (q2F (q8m (q0b rfl) q0d (by decide)) q0d (by decide)) hs) rfl)
    (q0p (q0q (d:=.int o) (cl:=.strong) (by rw[←ho];exact q3R q0d (q2F (q8m (q0b rfl) q0d (by decide)) q0d (by decide))) rfl)
    (q0p (q0q (d:=dv a) (cl:=.strong) (q0g (q0a (q0b rfl) (q0a (q3R (z1N q0d (q0b rfl) (m2 _)) q0d) (q0a (q4d (q0b rfl) q0d) (q0a (q0b rfl) q0e)))) rfl a4) rfl) (q0H (q0J (cl:=.strong) ?_)))))))
   exact q5p (q0a q0r (q0a (q0b rfl) (q0a (q0b rfl) (q0a (q0b rfl) (q0a (q0g (q0a (q0b rfl) (q0a (q3R (z1N q0d (q0b rfl) (m2 _)) q0d) (q0a (q4d (q0b rfl) q0d) (q0a (q0b rfl) q0e)))) rfl b4) q0e))))) (Nat.le_of_ble_eq_true rfl) rfl
section
variable {G:Gs} {F:Nat->List DV->Option Ou} {δ:List Sv} {a b:ME} {r:List ME} {cx:Cl} {o:Option Re}
theorem q2a(ha:evE G F a δ=some (.ok (.bl true) cx))(hb:evE G F (.and (b::r)) δ=o):evE G F (.and (a::b::r)) δ=o:=by
 have e:evE G F (.and (a::b::r)) δ=Re.thn (evE G F a δ) (λx c=>andD x c (q2v G F (b::r) δ)):=(by rw[evE,q2v];rfl);have e2:evE G F (.and (b::r)) δ=q2v G F (b::r) δ:=by rw[evE]
 rw[e,ha,q0Z,←e2,hb];rfl
theorem q4X(ha:evE G F a δ=some (.ok (.bl false) cx)):evE G F (.and (a::b::r)) δ=some (.ok (.bl false) cx):=by
 have e:evE G F (.and (a::b::r)) δ=Re.thn (evE G F a δ) (λx c=>andD x c (q2v G F (b::r) δ)):=(by rw[evE,q2v];rfl);rw[e,ha,q0Z];rfl
theorem q3D(ha:evE G F a δ=o):evE G F (.and [a]) δ=o:=by
 have e:evE G F (.and [a]) δ=evE G F a δ:=by rw[evE,q2v];rfl
 rw[e,ha]
theorem q5U{tg:Tg}{body:List Sv->Option Out}{d:DV}{r:List DV}{δ1 δ2:List Sv}(h1:tg.bind d δ=some δ1)(h2:body δ1=some (.nx δ2)):q1m tg body (d::r) δ=q1m tg body r δ2:=by
 show(match tg.bind d δ with | none=>none | some δ1=>match body δ1 with | some (.nx δ2)=>q1m tg body r δ2 | o=>o)=_;rw[h1];show(match body δ1 with | some (.nx δ2)=>q1m tg body r δ2 | o=>o)=_;rw[h2]
end
theorem q2O(ds:List DV)(n:Int):run G T fu (k+1) 5 [.tup ds,.int n]=some (.v (.bl ((ds.length:Int)==n)) false):=by
 rw[q0x (fd:=q2J) rfl rfl];unfold q2J;exact q0N (q0H (q0J (q2a (cx:=.strong) rfl (q3D (b_eq (z3L (q0b rfl)) (q0b rfl))))))
theorem q1n{x y:Str}{b:Bool}(h:cmpD .Eq (.str x) (.str y)=some b):run G T fu (k+1) 6 [.str x,.str y]=some (.v (.bl b) false):=by
 rw[q0x (fd:=q3A) rfl rfl];unfold q3A;exact q0N (q0H (q0J (q2a (cx:=.strong) rfl (q3D (q1o (q0b rfl) (q0b rfl) h)))))
theorem q5h{v:Int}(h:0<=v/\v<=9):run G T fu (k+2) 3 [dv (.fin v)]=some (.v (.bl true) false):=by
 rw[q0x (fd:=q2M) rfl rfl];unfold q2M;have q:=q5x (fu:=fu) (k:=k) (x:=v) (a:=0) (b:=9);rw[decide_eq_true h.1,decide_eq_true h.2]at q;exact q0N (q0H (q0J (cl:=.strong) (q2a (q0g (l:=[(dv (.fin v),.strong),(.int 2,.strong)]) rfl rfl (q2O _ 2)) (q2a (q0g (l:=[(.str "end",.strong),(.str "end",.strong)]) (q0a (q0B (q0b rfl) q0d rfl) (q0a q0r q0e)) rfl (q1n z0Q)) (q3D (q0g (l:=[(.int v,.strong),(.int 0,.strong),(.int 9,.strong)]) (q0a (q0B (q0b rfl) q0d rfl) (q0a q0d (q0a rfl q0e))) rfl q))))))
theorem q2f{s:Bool}{o:Nat}{a b:Pl}:run G T fu (k+2) 3 [dv (.ask s o a b)]=some (.v (.bl false) false):=by
 rw[q0x (fd:=q2M) rfl rfl];unfold q2M;exact q0N (q0H (q0J (cl:=.strong) (q4X (q0g (l:=[(dv (.ask s o a b),.strong),(.int 2,.strong)]) rfl rfl (q2O _ 2)))))
theorem q5A{s:Bool}{o:Nat}{a b:Pl}(h:1<=o/\o<=255):run G T fu (k+2) 4 [dv (.ask s o a b)]=some (.v (.bl true) false):=by
 rw[q0x (fd:=q2L) rfl rfl];unfold q2L;have q:=q5x (fu:=fu) (k:=k) (x:=(o:Int)) (a:=1) (b:=255);rw[decide_eq_true (show(1:Int)<=o by omega),decide_eq_true (show(o:Int)<=255 by omega)]at q;refine q0N (q0k (q0f (cl:=.strong) (q3H (q2z (x:=true) (q0g (l:=[(dv (.ask s o a b),.strong),(.int 5,.strong)]) rfl rfl (q2O _ 5))) (q2z (x:=true) (q0g (l:=[(.str "ask",.strong),(.str "ask",.strong)]) (q0a (q0B (q0b rfl) q0d rfl) (q0a q0r q0e)) rfl (q1n z2O))))) (q0H (q0J (cl:=.strong) (q4g (cx:=.strong) ?_ (q0g (l:=[(.int o,.strong),(.int 1,.strong),(.int 255,.strong)]) (q0a (q0B (q0b rfl) q0d rfl) (q0a q0d (q0a rfl q0e))) rfl q)))));cases s with
 | true=>exact q6T (q0g (l:=[(.str "row",.strong),(.str "row",.strong)]) (q0a (q0B (q0b rfl) q0d rfl) (q0a q0r q0e)) rfl (q1n q8V))
 | false=>exact q3H (q0g (l:=[(.str "column",.strong),(.str "row",.strong)]) (q0a (q0B (q0b rfl) q0d rfl) (q0a q0r q0e)) rfl (q1n q9w)) (q0g (l:=[(.str "column",.strong),(.str "column",.strong)]) (q0a (q0B (q0b rfl) q0d rfl) (q0a q0r q0e)) rfl (q1n z2y))
theorem q4r:∀(p:Pl) (d k:Nat),Okp p->ht p<=d->ht p+2<k->run G T fu k 2 [dv p,.int d]=some (.v (.bl true) false)
 | p,_,0,_,_,h=>absurd h (Nat.not_lt_zero _)
 | p,_,1,_,_,h=>by omega
 | p,_,2,_,_,h=>by omega
 | .fin v,d,k+3,h,_,_=>by rw[q0x (fd:=q0F) rfl rfl];unfold q0F;exact q0N (q1i (q0f (cl:=.strong) (q0g (l:=[(dv (.fin v),.strong)]) rfl rfl (q5h h))) (q0H rfl))
 | .ask s o a b,0,k+3,_,h,_=>by unfold ht at h;omega
 | .ask s o a b,d+1,k+3,h,hd,hk=>by
  unfold ht at hd hk;obtain⟨h1,h2,h3,h4⟩:=h;have ea:=q4r a d (k+2) h3 (by omega) (by omega);have eb:=q4r b d (k+2) h4 (by omega) (by omega);have hd1:((d+1:Nat):Int) - 1=d:=by omega
  rw[←hd1]at ea eb;rw[q0x (fd:=q0F) rfl rfl];unfold q0F;refine q0N (q0k (q0f (cl:=.strong) (q0g (l:=[(dv (.ask s o a b),.strong)]) rfl rfl q2f)) (q0H (q0J (cl:=.strong) (q2a (cx:=.strong) ?_ (q2a (q0g (l:=[(dv (.ask s o a b),.strong)]) rfl rfl (q5A ⟨h1,h2⟩)) (q2a (q0g (q0a (q0B (q0b rfl) q0d rfl) (q0a (q4d (q0b rfl) q0d) q0e)) rfl ea) (q3D (q0g (q0a (q0B (q0b rfl) q0d rfl) (q0a (q4d (q0b rfl) q0d) q0e)) rfl eb))))))));have:=b_gt (q0b (G:=G) (F:=run G T fu (k+2)) (n:=1) (d:=.int ((d+1:Nat):Int)) (δ:=q0l 2 [dv (.ask s o a b),.int ((d+1:Nat):Int)]) rfl) (q0d (i:=0));rw[decide_eq_true (show(0:Int)<((d+1:Nat):Int) by omega)]at this;exact this
theorem q3C:∀(p:Pl) (k:Nat),ht p<k->run G T fu k 7 [dv p]=some (.v (.int (lv p)) false)
 | p,0,h=>absurd h (Nat.not_lt_zero _)
 | .fin v,k+1,_=>by rw[q0x (fd:=q1f) rfl rfl];unfold q1f;exact q0N (q1i (q0f (cl:=.strong) (q1o (q0B (q0b rfl) q0d rfl) q0r z0Q)) (q0H rfl))
 | .ask s o a b,k+1,h=>by unfold ht at h;have ea:=q3C a k (by omega);have eb:=q3C b k (by omega);rw[q0x (fd:=q1f) rfl rfl];unfold q1f;have e:=q0N (q0k (r:=[.ret (.bin .Add (.call 7 [.ix (.var 0) (.int 3)]) (.call 7 [.ix (.var 0) (.int 4)]))]) (a:=[.ret (.int 1)]) (fu:=fu) (q0f (cl:=.strong) (q1o (G:=G) (F:=run G T fu k) (δ:=q0l 1 [dv (.ask s o a b)]) (q0B (q0b (n:=0) rfl) (q0d (i:=0)) rfl) q0r z2D)) (q0H (q0J (q3R (q0g (q0a (q0B (q0b rfl) q0d rfl) q0e) rfl ea) (q0g (q0a (q0B (q0b rfl) q0d rfl) q0e) rfl eb)))));rw[show((lv (.ask s o a b):Nat):Int)=(lv a:Int)+(lv b:Int)from Int.natCast_add (lv a) (lv b)];exact e
theorem z6w(p:Pl)(h:Okp p)(h1:ht p<=12)(h2:lv p<=301)(hk:15<k):run G T fu (k+1) 1 [dv p]=some (.v (dv p) false):=by
 rw[q0x (fd:=q1v) rfl rfl];unfold q1v;have e1:evE G (run G T fu k) (.bin .Add (.glb "MOST_ASKS") (.int 1)) (q0l 1 [dv p])=some (.ok (.int 301) .strong):=rfl;have e2:=b_gt (q0g (G:=G) (F:=run G T fu k) (δ:=q0l 1 [dv p]) (f:=7) (q0a (q0b (n:=0) rfl) q0e) rfl (q3C p k (by omega))) e1;rw[decide_eq_false (show ¬(301:Int)<(lv p:Int) by omega)]at e2;exact q0N (q0k (q0f (cl:=.strong) (q2z (x:=true) (q0g (l:=[(dv p,.strong),(.int 12,.strong)]) rfl rfl (q4r p 12 k h h1 (by omega))))) (q0k (q0f e2) (q0H ((q0J (cl:=.strong) (q0b (d:=dv p) rfl)).trans (by cases p<;>rfl)))))
end k84
end
noncomputable section
namespace k84
open PySem L2
variable {fu k:Nat} {F:Nat->List DV->Option Ou} {δ:List Sv} {ds:List DV} {cl:Cl}
theorem z0A{s:Bool}{o:Nat}{a b:Pl}:ht (.ask s o a b)=max (ht a) (ht b)+1:=rfl
theorem q8U{s:Bool}{o:Nat}{a b:Pl}:lv (.ask s o a b)=lv a+lv b:=rfl
theorem z3z:∀(p:Pl) (d k:Nat),Okp p->ht p+2<k->run G T fu k 2 [dv p,.int d]=some (.v (.bl (decide (ht p<=d))) false)
 | p,_,0,_,h=>absurd h (Nat.not_lt_zero _)
 | p,_,1,_,h=>by omega
 | p,_,2,_,h=>by omega
 | .fin v,d,k+3,h,_=>by rw[q0x (fd:=q0F) rfl rfl];unfold q0F;exact q0N (q1i (q0f (cl:=.strong) (q0g (l:=[(dv (.fin v),.strong)]) rfl rfl (q5h h))) (q0H rfl))
 | .ask s o a b,0,k+3,_,h=>by rw[q0x (fd:=q0F) rfl rfl];unfold q0F;refine q0N (q0k (q0f (cl:=.strong) (q0g (l:=[(dv (.ask s o a b),.strong)]) rfl rfl q2f)) (q0H ?_));exact q0J (cl:=.strong) (q4X (b_gt (i:=0) (j:=0) (q0b rfl) q0d))
 | .ask s o a b,d+1,k+3,h,hk=>by
  unfold ht at hk;obtain⟨h1,h2,h3,h4⟩:=h;have ea:=z3z a d (k+2) h3 (by omega);have eb:=z3z b d (k+2) h4 (by omega);have hd1:((d+1:Nat):Int) - 1=d:=by omega
  rw[←hd1]at ea eb;rw[q0x (fd:=q0F) rfl rfl];unfold q0F;have g0:=b_gt (q0b (G:=G) (F:=run G T fu (k+2)) (n:=1) (d:=.int ((d+1:Nat):Int)) (δ:=q0l 2 [dv (.ask s o a b),.int ((d+1:Nat):Int)]) rfl) (q0d (i:=0));rw[decide_eq_true (show(0:Int)<((d+1:Nat):Int) by omega)]at g0;have hh:decide (ht (.ask s o a b)<=d+1)=(decide (ht a<=d)&&decide (ht b<=d)):=by rw[←Bool.decide_and,decide_eq_decide,z0A];omega
  rw[hh];refine q0N (q0k (q0f (cl:=.strong) (q0g (l:=[(dv (.ask s o a b),.strong)]) rfl rfl q2f)) (q0H (q0J (cl:=.strong) (q2a g0 (q2a (q0g (l:=[(dv (.ask s o a b),.strong)]) rfl rfl (q5A ⟨h1,h2⟩)) ?_)))));cases z:decide (ht a<=d)with
  | false=>
   rw[z]at ea;exact q4X (q0g (q0a (q0B (q0b rfl) q0d rfl) (q0a (q4d (q0b rfl) q0d) q0e)) rfl ea)
  | true=>
   rw[z]at ea;exact q2a (q0g (q0a (q0B (q0b rfl) q0d rfl) (q0a (q4d (q0b rfl) q0d) q0e)) rfl ea) (q3D (q0g (q0a (q0B (q0b rfl) q0d rfl) (q0a (q4d (q0b rfl) q0d) q0e)) rfl eb))
theorem q9u{c:Str}{e:ME}{d:DV}(hc:(G.cls.lookup c).isSome=true)(h:evE G F e δ=some (.ok d cl)):evS G F fu (.rse c e) δ=some (.ex c δ):=by
 have q:evS G F fu (.rse c e) δ=(if(G.cls.lookup c).isSome then Re.thnS δ (evE G F e δ) λ_ _=>some (.ex c δ)else none):=by rw[evS]
 rw[q,if_pos hc,h];rfl
theorem q9f{c:ME}{a b r:List MS}{cc:Str}{δ':List Sv}(h:tstD (evE G F c δ)=some (.ok true))(ha:evSs G F fu a δ=some (.ex cc δ')):evSs G F fu (.iff c a b::r) δ=some (.ex cc δ'):=by
 refine q7t ?_;have q:evS G F fu (.iff c a b) δ=Rt.thnS δ (tstD (evE G F c δ)) (λk'=>if k' then evSs G F fu a δ else evSs G F fu b δ):=by rw[evS]
 rw[q,h];exact ha
theorem q8w{t:DV}(h:run G T fu k 2 [t,.int 12]=some (.v (.bl false) false)):run G T fu (k+1) 1 [t]=some (.x "NoPlan"):=by
 rw[q0x (fd:=q1v) rfl rfl];unfold q1v;have e1:evE G (run G T fu k) (.not (.call 2 [.var 0,.glb "MOST_ASKS_DEEP"])) (q0l 1 [t])=some (.ok (.bl true) .strong):=q2z (x:=false) (q0g (l:=[(t,.strong),(.int 12,.strong)]) rfl rfl h);exact z0K (q9f (q0f e1) (q7t (q9u (by decide +kernel) q0r)))
theorem pln:∀(p:Pl) (n:Nat),ht p<n->(dv p).plain n=true
 | .fin v,n+1,_=>by unfold dv DV.plain;simp only[DV.plains,DV.plain,Bool.and_true,Bool.and_eq_true];decide +kernel
 | .ask s o a b,n+1,h=>by
  unfold ht at h;have h1:=pln a n (by omega);have h2:=pln b n (by omega);unfold dv DV.plain;simp only[DV.plains,h1,h2,Bool.and_true,Bool.and_eq_true];refine⟨by unfold DV.plain;decide +kernel,?_,by unfold DV.plain;rfl⟩;cases s
  ·show DV.plain n (.str "column")=true;unfold DV.plain;decide +kernel
  ·show DV.plain n (.str "row")=true;unfold DV.plain;decide +kernel
theorem q9T:∀p:Pl,deq (dv p) (dv p)=true
 | .fin v=>by simp[dv,deq,deqs]
 | .ask s o a b=>by have h1:=q9T a;have h2:=q9T b;cases s<;>simp[dv,deq,deqs,side,h1,h2]
section
variable {G:Gs} {F:Nat->List DV->Option Ou} {δ:List Sv} {a b:ME} {r:List ME} {cx:Cl} {o:Option Re}
theorem or_t(ha:evE G F a δ=some (.ok (.bl true) cx)):evE G F (.or (a::b::r)) δ=some (.ok (.bl true) cx):=by
 have e:evE G F (.or (a::b::r)) δ=Re.thn (evE G F a δ) (λx c=>orD x c (evOr G F (b::r) δ)):=(by rw[evE,evOr];rfl);rw[e,ha,q0Z];rfl
end
theorem z7R(p:Pl):frD (dv p) .strong=false:=by cases p<;>rfl
theorem q9c(p:Pl):isiD G (dv p) ["tuple"]=some true:=by cases p<;>rfl
theorem z0x{e:ME}{d:DV}{c:Cl}{t:Str}{b:Bool}(h:evE G F e δ=some (.ok d c))(hi:isiD G d [t]=some b):evE G F (.isi e [t]) δ=some (.ok (.bl b) .strong):=by
 have q:evE G F (.isi e [t]) δ=Re.thn (evE G F e δ) (λx _=>(isiD G x [t]).map λk=>.ok (.bl k) .strong):=by rw[evE]
 rw[q,h,q0Z,hi];rfl
theorem frs(d:DV):frD d .strong=false:=by cases d<;>rfl
section
variable {G:Gs} {F:Nat->List DV->Option Ou} {δ:List Sv} {a b:ME} {r:List ME} {cx:Cl} {o:Option Re}
theorem or_f(ha:evE G F a δ=some (.ok (.bl false) cx))(hb:evE G F (.or (b::r)) δ=o):evE G F (.or (a::b::r)) δ=o:=by
 have e:evE G F (.or (a::b::r)) δ=Re.thn (evE G F a δ) (λx c=>orD x c (evOr G F (b::r) δ)):=(by rw[evE,evOr];rfl);have e2:evE G F (.or (b::r)) δ=evOr G F (b::r) δ:=by rw[evE]
 rw[e,ha,q0Z,←e2,hb];rfl
theorem or_1(ha:evE G F a δ=o):evE G F (.or [a]) δ=o:=by
 have e:evE G F (.or [a]) δ=evE G F a δ:=by rw[evE,evOr];rfl
 rw[e,ha]
end
theorem at_i{xs:List Int}{i:Nat}(h:i<xs.length):∃v,ixD (.lst (xs.map DV.int)) (.int (i:Int))=some (.int v):=q8I (l:=xs) (i:=(i:Int)) (by omega) (by omega)
def pws:ME:=.lst [.int 1,.int 2,.int 4,.int 8,.int 16,.int 32,.int 64,.int 128]
theorem z2p:evE G F pws δ=some (.ok (.lst [.int 1,.int 2,.int 4,.int 8,.int 16,.int 32,.int 64,.int 128]) .fresh):=rfl
theorem q2y(l:List Nat):(stx l).cps.toList=l:=List.toList_toArray
theorem q3d(l:List Nat):(stx l).length=l.length:=List.size_toArray ..
theorem z7M(x:Str):stx x.cps.toList=x:=by cases x;rfl
theorem q8N{a b:List Nat}(h:stx a=stx b):a=b:=by rw[←q2y a,←q2y b,h]
theorem q9G:("0123456789" : Str)=stx [48,49,50,51,52,53,54,55,56,57]:=by decide +kernel
theorem plS{l:List Nat}(h:Sgn l):(DV.str (stx l)).plain 60=true:=by
 show(stx l).cps.all (· < 0x110000)=true;rw[←Array.all_toList,q2y];exact List.all_eq_true.mpr λc hc=>decide_eq_true (h c hc)
section
variable {G:Gs} {F:Nat->List DV->Option Ou} {δ:List Sv} {a b:ME} {ca cb:Cl} {l q:List Nat}
theorem eqS(hl:Sgn l)(hq:Sgn q)(ha:evE G F a δ=some (.ok (.str (stx l)) ca))(hb:evE G F b δ=some (.ok (.str (stx q)) cb)):evE G F (.cmp .Eq a b) δ=some (.ok (.bl (decide (l=q))) .strong):=
 q1o ha hb (by
  show(if(DV.plain 60 (.str (stx l))&&DV.plain 60 (.str (stx q)))=true then some (deq (.str (stx l)) (.str (stx q)))else none)=_;rw[if_pos (by rw[plS hl,plS hq];rfl)];show some (decide (stx l=stx q))=_
  congr 1
  by_cases z:l=q
  ·rw[decide_eq_true z,z,decide_eq_true rfl]
  ·rw[decide_eq_false z,decide_eq_false λw=>z (q8N w)])
theorem neS(hl:Sgn l)(hq:Sgn q)(ha:evE G F a δ=some (.ok (.str (stx l)) ca))(hb:evE G F b δ=some (.ok (.str (stx q)) cb)):evE G F (.cmp .NotEq a b) δ=some (.ok (.bl (!decide (l=q))) .strong):=
 q1o ha hb (by
  show(if(DV.plain 60 (.str (stx l))&&DV.plain 60 (.str (stx q)))=true then some (!deq (.str (stx l)) (.str (stx q)))else none)=_;rw[if_pos (by rw[plS hl,plS hq];rfl)];show some (!decide (stx l=stx q))=_
  congr 2
  by_cases z:l=q
  ·rw[decide_eq_true z,z,decide_eq_true rfl]
  ·rw[decide_eq_false z,decide_eq_false λw=>z (q8N w)])
theorem inS1{c:Nat}(ha:evE G F a δ=some (.ok (.str (stx [c])) ca))(hb:evE G F b δ=some (.ok (.str (stx l)) cb)):evE G F (.cmp .In a b) δ=some (.ok (.bl (decide (c∈l))) .strong):=
 q1o ha hb (by
  show inS (stx l) (stx [c])=_;unfold inS;rw[q2y,q2y])
end
theorem q4I{G:Gs}{F:Nat->List DV->Option Ou}{δ:List Sv}{e:ME}{z:Str}{c:Cl}(h:evE G F e δ=some (.ok (.str z) c)):evE G F (.bi .len [e]) δ=some (.ok (.int z.length) .strong):=by
 show Rs.thn (evEs G F [e] δ) (λl=>lenD l)=_;rw[q0a h q0e];rfl
def sgA(l:List Nat)(i:Nat):List Nat:=(l.drop i).take 1
theorem z5w{l:List Nat}{i:Nat}(h:i<=l.length):cutS (stx l) i (q1l (stx l).length ((i:Int)+1)).toNat=stx (sgA l i):=by
 unfold cutS sgA;rw[q2y,q3d];have e:(q1l l.length ((i:Int)+1)).toNat=min (i+1) l.length:=by unfold q1l;split<;>omega
 rw[e];show stx _=stx _
 congr 1
 by_cases z:i<l.length
 ·rw[show min (i+1) l.length - i=1 by omega]
 ·have:i=l.length:=by omega
  subst this;rw[List.drop_length];simp
theorem q6C{l:List Nat}{i c:Nat}(h:l[i]? = some c):sgA l i=[c]:=by
 obtain⟨hi,e⟩:=List.getElem?_eq_some_iff.mp h;unfold sgA;rw[List.drop_eq_getElem_cons hi,e];rfl
theorem z0E{l:List Nat}{i:Nat}(h:l.length<=i):sgA l i=[]:=by
 unfold sgA;rw[List.drop_eq_nil_of_le h];rfl
theorem z0v{l:List Nat}(h:Sgn l)(i:Nat):Sgn (sgA l i):=λc hc=>h c (List.mem_of_mem_drop (List.mem_of_mem_take hc))
section
variable {fu k a dx:Nat} {l:List Nat} {i:Nat}
abbrev rs(a dx:Nat)(l:List Nat)(i:Nat):DV:=rdD 192 a dx (stx l) (i:Int)
theorem q2n{m:Nat}{d:FD}{s:DV}{ds:List DV}(h:TM[m]? = some d)(hl:(s::ds).length=d.np):runM GM TM fu (k+1) m (s::ds)=Ou.ofM s (evSs GM (runM GM TM fu k) fu d.body (startM d.n s ds)):=by rw[q6O h,if_pos hl]
theorem gm_c:GM.rdc=((192:Nat):Int):=rfl
theorem gm_m:GM.mtx=true:=rfl
theorem m_sg(h:i<=l.length):runM GM TM fu (k+1) 0 [rs a dx l i]=some (.v (.tup [.str (stx (sgA l i)),rs a dx l i]) false):=by
 rw[q2n (d:=q7W) rfl rfl];unfold q7W;have h0:(startM 1 (rs a dx l i) [])[0]? = some (.od (rs a dx l i)):=rfl;have e:=ev_stm (G:=GM) (F:=runM GM TM fu k) (q9m gm_c h0) (q6U gm_c h0) (q3R (q6U gm_c h0) (q0d (i:=1))) (by rw[q3d];unfold q1l;split<;>omega);rw[z5w h]at e;exact q2j (q2S (q4a h0 e rfl))
def dgA(l:List Nat)(i:Nat):Bool:=match l[i]? with
 | some c=>decide (48<=c)&&decide (c<=57)
 | none=>false
theorem q6v{δ:List Sv}{j:Nat}(h0:δ[j]? = some (.od (rs a dx l i)))(h:i<=l.length):evE GM (runM GM TM fu (k+1)) (.mth j 0) δ=some (.ok (.str (stx (sgA l i))) .strong):=z2C gm_c gm_m h0 (m_sg h)
theorem z2q{F:Nat->List DV->Option Ou}{δ:List Sv}:evE GM F (.glb "DIGITS") δ=some (.ok (.str (stx [48,49,50,51,52,53,54,55,56,57])) .strong):=by
 unfold evE;rw[←q9G];rfl
theorem m_at(h:i<=l.length):runM GM TM fu (k+2) 1 [rs a dx l i]=some (.v (.tup [.bl (dgA l i),rs a dx l i]) false):=by
 rw[q2n (d:=q2I) rfl rfl];unfold q2I;have h0:(startM 1 (rs a dx l i) [])[0]? = some (.od (rs a dx l i)):=rfl;have e1:=b_lt (G:=GM) (F:=runM GM TM fu (k+1)) (q6U gm_c h0) (q4I (q9m (F:=runM GM TM fu (k+1)) gm_c h0));rw[q3d]at e1;by_cases z:i<l.length
 ·rw[decide_eq_true (by omega)]at e1;have hc:l[i]? = some l[i]:=List.getElem?_eq_getElem z;have e2:=q6v (fu:=fu) (k:=k) h0 h;rw[q6C hc]at e2;have e3:=q2a e1 (q3D (inS1 e2 z2q));have e4:dgA l i=decide (l[i]∈[48,49,50,51,52,53,54,55,56,57]):=by
   unfold dgA;rw[hc];show(decide (48<=l[i])&&decide (l[i]<=57))=_;by_cases w:48<=l[i]/\l[i]<=57
   ·rw[decide_eq_true w.1,decide_eq_true w.2,decide_eq_true (by simp only[List.mem_cons,List.not_mem_nil];omega)];rfl
   ·rw[decide_eq_false (p:=l[i]∈_) (λz=>w (by simp only[List.mem_cons,List.not_mem_nil,or_false]at z;omega))];by_cases w1:48<=l[i]
    ·rw[decide_eq_true w1,decide_eq_false λw2=>w ⟨w1,w2⟩];rfl
    ·rw[decide_eq_false w1];rfl
  rw[e4];exact q2j (q2S (q4a h0 e3 rfl))
 ·rw[decide_eq_false (by omega)]at e1;have e4:dgA l i=false:=by unfold dgA;rw[List.getElem?_eq_none (by omega)]
  rw[e4];exact q2j (q2S (q4a h0 (q4X e1) rfl))
theorem q9D{δ:List Sv}{j:Nat}(h0:δ[j]? = some (.od (rs a dx l i)))(h:i<=l.length):evE GM (runM GM TM fu (k+2)) (.mth j 1) δ=some (.ok (.bl (dgA l i)) .strong):=z2C gm_c gm_m h0 (m_at h)
theorem z9i{x:Int}(h:x=1):rdD 192 a dx (stx l) ((i:Int)+x)=rs a dx l (i+1):=by rw[h];rfl
theorem z5z{F:Nat->List DV->Option Ou}{δ:List Sv}{j:Nat}(h0:δ[j]? = some (.od (rs a dx l i))):evS GM F fu (.fau j (.int 1)) δ=some (.nx (δ.set j (.od (rs a dx l (i+1))))):=by
 rw[z5u gm_c h0 (q0d (i:=1)),z9i rfl]
theorem m_tk{c:Nat}(hs:Sgn l)(h:l[i]? = some c):runM GM TM fu (k+2) 2 [rs a dx l i,.str (stx [c])]=some (.v (.tup [.non,rs a dx l (i+1)]) false):=by
 obtain⟨hi,_⟩:=List.getElem?_eq_some_iff.mp h;rw[q2n (d:=q5r) rfl rfl];unfold q5r;have h0:(startM 2 (rs a dx l i) [.str (stx [c])])[0]? = some (.od (rs a dx l i)):=rfl;have e1:=q6v (fu:=fu) (k:=k) h0 (by omega);rw[q6C h]at e1;have sc:Sgn [c]:=λd hd=>by rw[List.mem_singleton.mp hd];exact hs c (List.mem_of_getElem? h)
 have e2:=neS sc sc e1 (q0b (n:=1) (d:=.str (stx [c])) rfl);rw[decide_eq_true rfl]at e2;exact z5T (q0k (q0f e2) (q0p (z5z h0) rfl))
theorem q1y{F:Nat->List DV->Option Ou}{δ:List Sv}{m:MS}{r:List MS}{c:Str}{δ':List Sv}(h:evS GM F fu m δ=some (.ex c δ')):evSs GM F fu (m::r) δ=some (.ex c δ'):=by
 show(match evS GM F fu m δ with | some (.nx δ')=>evSs GM F fu r δ' | o=>o)=_;rw[h]
theorem q6J{F:Nat->List DV->Option Ou}{δ:List Sv}{c:ME}{a b r:List MS}{cc:Str}{δ':List Sv}(h:tstD (evE GM F c δ)=some (.ok true))(ha:evSs GM F fu a δ=some (.ex cc δ')):evSs GM F fu (.iff c a b::r) δ=some (.ex cc δ'):=by
 refine q1y ?_;show Rt.thnS δ (tstD (evE GM F c δ)) (λk=>if k then evSs GM F fu a δ else evSs GM F fu b δ)=_;rw[h];exact ha
theorem q7d{F:Nat->List DV->Option Ou}{δ:List Sv}{c:Str}{e:ME}{d:DV}{cl:Cl}(hc:(GM.cls.lookup c).isSome=true)(h:evE GM F e δ=some (.ok d cl)):evS GM F fu (.rse c e) δ=some (.ex c δ):=by
 show(if(GM.cls.lookup c).isSome=true then Re.thnS δ (evE GM F e δ) (λ_ _=>some (.ex c δ))else none)=_;rw[if_pos hc,h];rfl
theorem q7B{c:Nat}(hs:Sgn l)(hc:c<0x110000)(hi:i<=l.length)(h:l[i]? ≠ some c):runM GM TM fu (k+2) 2 [rs a dx l i,.str (stx [c])]=some (.x "NoText"):=by
 rw[q2n (d:=q5r) rfl rfl];unfold q5r;have h0:(startM 2 (rs a dx l i) [.str (stx [c])])[0]? = some (.od (rs a dx l i)):=rfl;have e1:=q6v (fu:=fu) (k:=k) h0 hi;have sc:Sgn [c]:=λd hd=>by rw[List.mem_singleton.mp hd];exact hc
 have e2:=neS (z0v hs i) sc e1 (q0b (n:=1) (d:=.str (stx [c])) rfl);have hn:sgA l i≠[c]:=λz=>by
  by_cases w:i<l.length
  ·have hc':l[i]? = some l[i]:=List.getElem?_eq_getElem w;rw[q6C hc']at z;rw[hc']at h;exact h (by rw[(List.cons.inj z).1])
  ·rw[z0E (by omega)]at z;cases z
 rw[decide_eq_false hn]at e2;obtain⟨x,e3⟩:∃x,evE GM (runM GM TM fu (k+1)) (.fst [.fmt (.var 1),.str " is missing"]) (startM 2 (rs a dx l i) [.str (stx [c])])=some (.ok x .strong):=⟨_,rfl⟩;exact q1O (q6J (q0f e2) (q1y (q7d (by decide +kernel) e3)))
theorem z1c(hi:i<=l.length)(h:dgA l i=false):runM GM TM fu (k+3) 3 [rs a dx l i]=some (.x "NoText"):=by
 rw[q2n (d:=q1k) rfl rfl];unfold q1k;have h0:(startM 2 (rs a dx l i) [])[0]? = some (.od (rs a dx l i)):=rfl;have e1:=q9D (fu:=fu) (k:=k) h0 hi;rw[h]at e1;exact q1O (q6J (q0f (q2z e1)) (q1y (q7d (by decide +kernel) (q0r (x:="a digit is missing")))))
theorem z3Z:∀n,n<10->q3x (48+n) [48,49,50,51,52,53,54,55,56,57]=(n:Int):=by decide +kernel
theorem m_dg{n:Nat}(hn:n<10)(h:l[i]? = some (48+n)):runM GM TM fu (k+3) 3 [rs a dx l i]=some (.v (.tup [.int (n:Int),rs a dx l (i+1)]) false):=by
 obtain⟨hi,_⟩:=List.getElem?_eq_some_iff.mp h;rw[q2n (d:=q1k) rfl rfl];unfold q1k;have h0:(startM 2 (rs a dx l i) [])[0]? = some (.od (rs a dx l i)):=rfl;have e1:=q9D (fu:=fu) (k:=k) h0 (by omega);have hd:dgA l i=true:=by unfold dgA;rw[h];show(decide (48<=48+n)&&decide (48+n<=57))=true;rw[decide_eq_true (by omega),decide_eq_true (by omega)];rfl
 rw[hd]at e1;have e2:=q6v (fu:=fu) (k:=k+1) h0 (by omega);rw[q6C h]at e2;have e3:evE GM (runM GM TM fu (k+2)) (.fnd (.glb "DIGITS") (.mth 0 0)) (startM 2 (rs a dx l i) [])=some (.ok (.int (n:Int)) .strong):=by unfold evE;rw[z2q,e2];show((fndD (.str (stx [48,49,50,51,52,53,54,55,56,57])) (.str (stx [48+n]))).map λd=>Re.ok d .strong)=_;unfold fndD;dsimp only;rw[q2y];dsimp only;rw[q2y,z3Z n hn];rfl
 exact q2j (q0k (q0f (q2z e1)) (q0p (q0q (i:=1) e3 rfl) (q0p (z5z (i:=i) rfl) (q2S (q4a rfl (q0b (n:=1) (d:=.int (n:Int)) rfl) rfl)))))
end
end k84
end
noncomputable section
namespace k84
open PySem L2
variable {fu k:Nat} {F:Nat->List DV->Option Ou} {δ:List Sv} {ds:List DV} {cl:Cl}
theorem z2G{l r:List Nat}{i c:Nat}(h:l.drop i=c::r):l[i]? = some c/\l.drop (i+1)=r/\i<l.length:=by
 have hi:i<l.length:=by
  by_cases z:i<l.length
  ·exact z
  ·rw[List.drop_eq_nil_of_le (by omega)]at h;cases h
 rw[List.drop_eq_getElem_cons hi]at h;obtain⟨h1,h2⟩:=List.cons.inj h;exact⟨by rw[List.getElem?_eq_getElem hi,h1],h2,hi⟩
def sm:List Nat->Nat
 | []=>0
 | d::r=>2^d+sm r
def rise:Nat->List Nat->Bool
 | _,[]=>true
 | a,d::r=>decide (a<d)&&decide (d<10)&&rise d r
theorem z3a:∀c,c<256->1<=c->(match crd c with | []=>false | d::r=>decide (d<10)&&rise d r&&decide (2^d+sm r=c))=true:=by decide +kernel
theorem z5f:∀d,d<10->∀c,c<2^d->Builtin.bitOr ((c:Nat):Int) (1*2^((d:Nat):Int).toNat)=((c+2^d:Nat):Int):=by decide +kernel
section
variable {fu k a dx:Nat} {l:List Nat}
def cdB:List MS:=[.mst 3 0 3 [],.iff (.cmp .LtE (.var 3) (.var 1)) [.rse "NoText" (.str "cards are written from the least on, each once")] [],.set 2 false (.bin .BitOr (.var 2) (.bin .LShift (.int 1) (.var 3))),.set 1 false (.var 3)]
abbrev Sc(a dx:Nat)(l:List Nat)(i t c:Nat)(x:Sv):List Sv:=[.od (rs a dx l i),.val (.int (t:Int)),.val (.int (c:Int)),x]
theorem sh_1{F:Nat->List DV->Option Ou}{δ:List Sv}{e:ME}{d:Nat}{cx:Cl}(hd:d<10)(h:evE GM F e δ=some (.ok (.int (d:Int)) cx)):evE GM F (.bin .LShift (.int 1) e) δ=some (.ok (.int (1*2^((d:Nat):Int).toNat)) .strong):=by
 have:=q3T (op:=.LShift) (q0d (G:=GM) (F:=F) (δ:=δ) (i:=1)) h (r:=some (.ok (.int (1*2^((d:Nat):Int).toNat)) .strong)) (by
  show(if 0<=(d:Int)/\(d:Int)<=1000000/\(1:Int).natAbs<2^64 then some (Re.ok (.int (1*2^(d:Int).toNat)) .strong)else none)=_;rw[if_pos ⟨by omega,by omega,by decide⟩])
 exact this
theorem z8M{G:Gs}{F:Nat->List DV->Option Ou}{δ:List Sv}{a b:ME}{i j:Int}{cx cy:Cl}(ha:evE G F a δ=some (.ok (.int i) cx))(hb:evE G F b δ=some (.ok (.int j) cy)):evE G F (.cmp .LtE a b) δ=some (.ok (.bl (decide (i<=j))) .strong):=q1o ha hb rfl
end
theorem z2F{c d:Nat}(h:d∈crd c):d<8:=List.mem_range.mp (List.mem_filter.mp h).1
theorem z4c(c:Nat):(crd c).length<=8:=by unfold crd;exact Nat.le_trans (List.length_filter_le _ _) (by decide)
theorem z4i(a b:List Nat):stx a++stx b=stx (a++b):=by
 show Str.append (stx a) (stx b)=_;unfold Str.append stx;simp
theorem q2b{a b:ME}{p q:List Nat}{ca cb:Cl}(ha:evE G F a δ=some (.ok (.str (stx p)) ca))(hb:evE G F b δ=some (.ok (.str (stx q)) cb))(h:p.length+q.length<=mostLen):evE G F (.scat a b) δ=some (.ok (.str (stx (p++q))) .strong):=by
 unfold evE;rw[ha,q0Z,hb,q0Z];show((if(stx p).length+(stx q).length<=mostLen then some (DV.str (stx p++stx q))else none).map _)=_;rw[q3d,q3d,if_pos h,z4i];rfl
theorem z3U:∀p:Pl,lv p<=2^ht p
 | .fin _=>Nat.le_refl _
 | .ask _ _ a b=>by have h1:=z3U a;have h2:=z3U b;rw[z0A,q8U,Nat.pow_succ];have h3:2^ht a<=2^max (ht a) (ht b):=Nat.pow_le_pow_right (by decide) (by omega);have h4:2^ht b<=2^max (ht a) (ht b):=Nat.pow_le_pow_right (by decide) (by omega);omega
theorem z7k{v:Int}:tx (.fin v)=[48+v.toNat]:=rfl
theorem q5e{r:Bool}{c:Nat}{p q:Pl}:tx (.ask r c p q)=(if r then 114 else 99)::((crd c).map (48 + ·)++(40::(tx p++(44::(tx q++[41]))))):=rfl
theorem q7A:∀p:Pl,(tx p).length+12<=13*lv p
 | .fin _=>Nat.le_refl _
 | .ask r c a b=>by have h1:=q7A a;have h2:=q7A b;have h3:=z4c c;rw[q5e,q8U];simp only[List.length_cons,List.length_append,List.length_map,List.length_nil];omega
theorem z5q{p:Pl}(h:ht p<=13):(tx p).length<=106496:=by
 have h1:=q7A p;have h2:=z3U p;have h3:2^ht p<=2^13:=Nat.pow_le_pow_right (by decide) h;have h4:(2:Nat)^13=8192:=by decide
 omega
theorem z0w:∀p:Pl,Okp p->Sgn (tx p)
 | .fin v,h,c,hc=>by
  have:c=48+v.toNat:=by simpa[z7k]using hc
  have:=h.2;have:=h.1;omega
 | .ask r c a b,⟨_,_,ha,hb⟩,x,hx=>by
  rw[q5e]at hx;simp only[List.mem_cons,List.mem_append,List.mem_map,List.not_mem_nil,or_false]at hx;rcases hx with hx | ⟨d,hd,hx⟩ | hx | hx | hx | hx | hx
  ·rw[hx];split<;>omega
  ·have:=z2F hd;omega
  ·omega
  ·exact z0w a ha x hx
  ·omega
  ·exact z0w b hb x hx
  ·omega
theorem c_ee{s:Str}{b:Bool}{e:ME}{x:Str}{c:Cl}(h:evE G F e δ=some (.ok (.str x) c))(hc:cmpD .Eq (.str x) (.str s)=some b):evE G F (.cmp .Eq e (.str s)) δ=some (.ok (.bl b) .strong):=q1o h q0r hc
theorem ml(n:Nat)(h:n<=1000000):n<=mostLen:=h
def ps8:List DV:=[.int 1,.int 2,.int 4,.int 8,.int 16,.int 32,.int 64,.int 128]
theorem z2j:∀j:Nat,j<8->ixD (.lst ps8) (.int (j:Int))=some (.int ((2^j:Nat):Int)):=by
 intro j hj
 match j,hj with
 | 0,_=>rfl
 | 1,_=>rfl
 | 2,_=>rfl
 | 3,_=>rfl
 | 4,_=>rfl
 | 5,_=>rfl
 | 6,_=>rfl
 | 7,_=>rfl
theorem z5h:∀j:Nat,j<8->ixD (.str "01234567") (.int (j:Int))=some (.str (stx [48+j])):=by
 intro j hj
 match j,hj with
 | 0,_=>rfl
 | 1,_=>rfl
 | 2,_=>rfl
 | 3,_=>rfl
 | 4,_=>rfl
 | 5,_=>rfl
 | 6,_=>rfl
 | 7,_=>rfl
theorem dg10:∀j:Nat,j<10->ixD (.str "0123456789") (.int (j:Int))=some (.str (stx [48+j])):=by
 intro j hj
 match j,hj with
 | 0,_=>rfl
 | 1,_=>rfl
 | 2,_=>rfl
 | 3,_=>rfl
 | 4,_=>rfl
 | 5,_=>rfl
 | 6,_=>rfl
 | 7,_=>rfl
 | 8,_=>rfl
 | 9,_=>rfl
def crj(c j:Nat):List Nat:=(List.range j).filter λd=>c/2^d%2==1
theorem q7K(c j:Nat):crj c (j+1)=crj c j++(if c/2^j%2==1 then[j]else[]):=by
 unfold crj;rw[List.range_succ,List.filter_append]
 congr 1
 by_cases z:(c/2^j%2==1)=true
 ·rw[if_pos z,List.filter_cons_of_pos (p:=λd=>c/2^d%2==1) (a:=j) z];rfl
 ·rw[if_neg z,List.filter_cons_of_neg (p:=λd=>c/2^d%2==1) (a:=j) z];rfl
theorem z3V(c j:Nat):(crj c j).length<=j:=by unfold crj;exact Nat.le_trans (List.length_filter_le _ _) (by rw[List.length_range];exact Nat.le_refl _)
abbrev St(p:DV)(t:List Nat)(x:Sv):List Sv:=[.val p,.val (.str (stx t)),x]
def ltB:List MS:=[.iff (.cmp .Eq (.bin .Mod (.bin .FloorDiv (.ix (.var 0) (.int 2)) (.ix (.lst [.int 1,.int 2,.int 4,.int 8,.int 16,.int 32,.int 64,.int 128]) (.var 2))) (.int 2)) (.int 1)) [.set 1 false (.scat (.var 1) (.ix (.str "01234567") (.var 2)))] []]
theorem z7K{sd c:Nat}{s:DV}{x y:DV}:∃z,q1m (.one 2) (λδ'=>evSs G F fu ltB δ') (upTo 0 8) (St (.tup [.str "ask",s,.int (c:Int),x,y]) [sd] .no)=some (.nx (St (.tup [.str "ask",s,.int (c:Int),x,y]) (sd::(crd c).map (48 + ·)) z)):=by
 obtain⟨δ1,l1,z,rfl⟩:=q4N (i:=2) (I:=λj δ=>∃z,δ=St (.tup [.str "ask",s,.int (c:Int),x,y]) (sd::(crj c j).map (48 + ·)) z) (body:=λδ'=>evSs G F fu ltB δ') 8 0 (δ:=St (.tup [.str "ask",s,.int (c:Int),x,y]) [sd] .no) (λj hj δ I=>by
  obtain⟨z,rfl⟩:=I;rw[show(0:Int)+(j:Int)=j by omega]
  let S:=St (.tup [.str "ask",s,.int (c:Int),x,y]) (sd::(crj c j).map (48 + ·)) (.val (.int (j:Int)))
  have e1:=q8m (q0B (G:=G) (F:=F) (δ:=S) (cx:=.strong) (q0b (n:=0) (d:=.tup [.str "ask",s,.int (c:Int),x,y]) rfl) (q0d (i:=2)) (d:=.int (c:Int)) rfl) (q0B (z2p (F:=F) (δ:=S)) (q0b (n:=2) (d:=.int (j:Int)) rfl) (z2j j hj)) ⟨by have:=Nat.pow_pos (n:=j) (show 0<2 by decide);omega,by
   have:(2:Nat)^j<=2^7:=Nat.pow_le_pow_right (by decide) (by omega);have:(2:Nat)^7=128:=by decide
   have:(128:Int)<2^200:=by decide
   omega⟩
  have e2:=b_eq (q2F e1 (q0d (i:=2)) (by decide)) (q0d (i:=1));have e3:(((c:Int)/((2^j:Nat):Int)%2:Int)==1)=(c/2^j%2==1):=by
   have:((c:Int)/((2^j:Nat):Int)%2:Int)=((c/2^j%2:Nat):Int):=by push_cast;rfl
   rw[this];by_cases w:c/2^j%2=1
   ·rw[w];rfl
   ·rw[beq_eq_false_iff_ne.mpr w,beq_eq_false_iff_ne.mpr (by omega)]
  rw[e3]at e2;have hl:=z3V c j;cases hb:(c/2^j%2==1)with
  | true=>
   rw[hb]at e2;have e4:=q2b (F:=F) (δ:=S) (q0b (n:=1) (d:=.str (stx (sd::(crj c j).map (48 + ·)))) rfl) (q0B (cx:=.strong) (q0r (x:="01234567")) (q0b (n:=2) (d:=.int (j:Int)) rfl) (z5h j hj)) (by
    refine ml _ ?_;simp only[List.length_cons,List.length_map,List.length_nil];omega)
   refine⟨_,q7N (q0f e2) (q0p (q0q (i:=1) e4 rfl) rfl) rfl,.val (.int (j:Int)),?_⟩;rw[q7K,hb,if_pos rfl,List.map_append];rfl
  | false=>
   rw[hb]at e2;refine⟨_,q0k (q0f e2) rfl,.val (.int (j:Int)),?_⟩;rw[q7K,hb,if_neg (by decide),List.append_nil];rfl) ⟨.no,rfl⟩
 exact⟨z,l1⟩
theorem q9a:∀(p:Pl) (k:Nat),Okp p->ht p<=13->ht p<k->run G T fu k 12 [dv p]=some (.v (.str (stx (tx p))) false)
 | .fin v,k+1,hp,_,_=>by obtain⟨n,rfl⟩:∃n:Nat,v=(n:Int):=⟨v.toNat,by have:=hp.1;omega⟩;rw[q0x (fd:=q1t) rfl rfl];unfold q1t;exact q0N (q1i (q0f (c_ee (q0B (q0b rfl) q0d rfl) z0Q)) (q0H (q0J (q0B (cx:=.strong) (q0r (x:="0123456789")) (q0B (q0b rfl) q0d rfl) (dg10 n (by have:=hp.2;omega))))))
 | .ask s c a b,k+1,hp,hh,hk=>by
  have hb:=z5q hh;obtain⟨o1,o2,oa,ob⟩:=hp;rw[z0A]at hk hh;have A:=q9a a k oa (by omega) (by omega);have B:=q9a b k ob (by omega) (by omega);rw[q0x (fd:=q1t) rfl rfl];unfold q1t
  let P:DV:=dv (.ask s c a b)
  let sd:Nat:=if s then 114 else 99
  obtain⟨z,g⟩:=z7K (fu:=fu) (F:=run G T fu k) (sd:=sd) (c:=c) (s:=side s) (x:=dv a) (y:=dv b);have c0:evE G (run G T fu k) (.cmp .Eq (.ix (.var 0) (.int 0)) (.str "end")) (q0l 3 [P])=some (.ok (.bl false) .strong):=c_ee (x:="ask") (q0B (q0b rfl) q0d rfl) z2D;have c1:evE G (run G T fu k) (.cmp .Eq (.ix (.var 0) (.int 1)) (.str "row")) (St P [99] .no)=some (.ok (.bl s) .strong):=by
   cases s with
   | true=>exact c_ee (x:="row") (q0B (q0b rfl) q0d rfl) q8V
   | false=>exact c_ee (x:="column") (q0B (q0b rfl) q0d rfl) q9w
  let t1:=sd::(crd c).map (48 + ·)
  have hlen:t1.length+(tx a).length+(tx b).length<=200000:=by rw[q5e]at hb;simp only[List.length_cons,List.length_append,List.length_map,List.length_nil]at hb;show(sd::(crd c).map (48 + ·)).length+_+_<=_;simp only[List.length_cons,List.length_map];omega
  have v1:evE G (run G T fu k) (.var 1) (St P t1 z)=some (.ok (.str (stx t1)) .strong):=q0b rfl;have s1:=q2b (q:=[40]) v1 (q0r (x:="(")  : evE G (run G T fu k) (.str "(") (St P t1 z)=some (.ok (.str (stx [40])) .strong)) (ml _ (by simp only[List.length_cons,List.length_nil];omega));have s2:=q2b (q:=tx a) s1 (q0g (f:=12) (q0a (q0B (G:=G) (F:=run G T fu k) (δ:=St P t1 z) (q0b (n:=0) (d:=P) rfl) (q0d (i:=3)) (d:=dv a) rfl) q0e) rfl A) (ml _ (by simp only[List.length_append,List.length_cons,List.length_nil];omega));have s3:=q2b (q:=[44]) s2 (q0r (x:=",")  : evE G (run G T fu k) (.str ",") (St P t1 z)=some (.ok (.str (stx [44])) .strong)) (ml _ (by simp only[List.length_append,List.length_cons,List.length_nil];omega));have s4:=q2b (q:=tx b) s3 (q0g (f:=12) (q0a (q0B (G:=G) (F:=run G T fu k) (δ:=St P t1 z) (q0b (n:=0) (d:=P) rfl) (q0d (i:=4)) (d:=dv b) rfl) q0e) rfl B) (ml _ (by simp only[List.length_append,List.length_cons,List.length_nil];omega));have s5:=q2b (q:=[41]) s4 (q0r (x:=")")  : evE G (run G T fu k) (.str ")") (St P t1 z)=some (.ok (.str (stx [41])) .strong)) (ml _ (by simp only[List.length_append,List.length_cons,List.length_nil];omega));have et:((((t1++[40])++tx a)++[44])++tx b)++[41]=tx (.ask s c a b):=by rw[q5e];show((((sd::(crd c).map (48 + ·))++[40]++tx a)++[44])++tx b)++[41]=_;simp[sd]
  rw[et]at s5;refine q0N (q0k (q0f c0) (q0p (q0q (i:=1) (d:=.str (stx [99])) (cl:=.strong) (q0r (x:="c")) rfl) ?_));have rest:evSs G (run G T fu k) fu [.fo (.one 2) (.rng [.int 8]) ltB,.ret (.scat (.scat (.scat (.scat (.scat (.var 1) (.str "(")) (.call 12 [.ix (.var 0) (.int 3)])) (.str ",")) (.call 12 [.ix (.var 0) (.int 4)])) (.str ")"))] (St P [sd] .no)=some (.rt (.str (stx (tx (.ask s c a b)))) false):=
   z0m (z3E (n:=8) (q0d (i:=8)) (by decide)) (.inr rfl) g (q0H (q0J s5))
  cases s with
  | true=>exact q7N (q0f c1) (q0p (q0q (i:=1) (d:=.str (stx [114])) (cl:=.strong) (q0r (x:="r")) rfl) rfl) rest
  | false=>exact q0k (q0f c1) rest
end k84
end
noncomputable section
namespace k84
open PySem L2
inductive Pt where
 | fin (n:Nat) | ask (s:Bool) (D:List Nat) (a b:Pt)
def pl:Pt->Pl
 | .fin n=>.fin (n:Int)
 | .ask s D a b=>.ask s (sm D) (pl a) (pl b)
def tt:Pt->List Nat
 | .fin n=>[48+n]
 | .ask s D a b=>(if s then 114 else 99)::(D.map (48 + ·)++(40::(tt a++(44::(tt b++[41])))))
def hp:Pt->Nat
 | .fin _=>0
 | .ask _ _ a b=>max (hp a) (hp b)+1
def Ris(D:List Nat):Bool:=match D with
 | []=>false
 | d::r=>decide (d<10)&&rise d r
def Vd:Pt->Prop
 | .fin n=>n<10
 | .ask _ D a b=>Ris D=true/\Vd a/\Vd b
def dig(c:Nat):Bool:=decide (48<=c)&&decide (c<=57)
def cds(t:Nat):List Nat->Option (List Nat×List Nat)
 | []=>some ([],[])
 | c::r=>if dig c then(if c - 48<=t then none else match cds (c - 48) r with
   | some (D,r')=>some ((c - 48)::D,r')
   | none=>none)else some ([],c::r)
def cd0:List Nat->Option (List Nat×List Nat)
 | []=>none
 | c::r=>if dig c then(match cds (c - 48) r with
   | some (D,r')=>some ((c - 48)::D,r')
   | none=>none)else none
def tk(c:Nat):List Nat->Option (List Nat)
 | []=>none
 | d::r=>if d=c then some r else none
def par:Nat->List Nat->Option (Pt×List Nat)
 | 0,_=>none
 | _+1,[]=>none
 | n+1,c::r=>if dig c then some (.fin (c - 48),r)else if c=114\/c=99 then
   (cd0 r).bind λx=>(tk 40 x.2).bind λr2=>(par n r2).bind λy=>(tk 44 y.2).bind λr3=>(par n r3).bind λz=>(tk 41 z.2).map λr4=>(.ask (decide (c=114)) x.1 y.1 z.1,r4)
  else none
theorem q3S{c:Nat}(h:dig c=true):48<=c/\c<=57:=by
 unfold dig at h;simpa using h
theorem z1z{d:Nat}(h:d<10):dig (48+d)=true:=by
 unfold dig;rw[decide_eq_true (by omega),decide_eq_true (by omega)];rfl
theorem z0H{c:Nat}{x r:List Nat}(h:tk c x=some r):x=c::r:=by
 cases x with
 | nil=>cases h
 | cons d y=>
  have h:(if d=c then some y else none)=some r:=h;split at h
  ·rename_i z;cases h;rw[z]
  ·cases h
theorem tk_c{c:Nat}{r:List Nat}:tk c (c::r)=some r:=if_pos rfl
theorem z2v:∀(x:List Nat) (t:Nat) (D r:List Nat),cds t x=some (D,r)->x=D.map (48 + ·)++r/\rise t D=true
 | [],t,D,r,h=>by cases h;exact⟨rfl,rfl⟩
 | c::x,t,D,r,h=>by
  unfold cds at h;split at h
  ·rename_i hd;split at h
   ·cases h
   ·rename_i ht;split at h
    ·rename_i D' r' hq;cases h;obtain⟨h1,h2⟩:=z2v x _ _ _ hq;obtain⟨g1,g2⟩:=q3S hd;refine⟨?_,?_⟩
     ·rw[List.map_cons,List.cons_append,←h1,show 48+(c - 48)=c by omega]
     ·unfold rise;rw[decide_eq_true (by omega),decide_eq_true (by omega),h2];rfl
    ·cases h
  ·cases h;exact⟨rfl,rfl⟩
theorem z5p:∀(D:List Nat) (t:Nat) (r:List Nat),rise t D=true->(∀c∈r.head?,dig c=false)->cds t (D.map (48 + ·)++r)=some (D,r)
 | [],t,r,_,hr=>by
  cases r with
  | nil=>rfl
  | cons c r=>
   show(if dig c then _ else some ([],c::r))=_;rw[hr c rfl];rfl
 | d::D,t,r,h,hr=>by
  unfold rise at h;simp only[Bool.and_eq_true,decide_eq_true_eq]at h;obtain⟨⟨h1,h2⟩,h3⟩:=h;have ih:=z5p D d r h3 hr;show(if dig (48+d)then(if 48+d - 48<=t then none else match cds (48+d - 48) (D.map (48 + ·)++r)with
   | some (D,r')=>some ((48+d - 48)::D,r')
   | none=>none)else some ([],(48+d)::(D.map (48 + ·)++r)))=_
  rw[z1z h2,show 48+d - 48=d by omega,if_pos rfl,if_neg (by omega),ih]
theorem z2N{x D r:List Nat}(h:cd0 x=some (D,r)):x=D.map (48 + ·)++r/\Ris D=true:=by
 cases x with
 | nil=>cases h
 | cons c x=>
  have h:(if dig c then(match cds (c - 48) x with
   | some (D,r')=>some ((c - 48)::D,r')
   | none=>none)else none)=some (D,r):=h
  split at h
  ·rename_i hd;split at h
   ·rename_i D' r' hq;cases h;obtain⟨h1,h2⟩:=z2v x _ _ _ hq;obtain⟨g1,g2⟩:=q3S hd;refine⟨?_,?_⟩
    ·rw[List.map_cons,List.cons_append,←h1,show 48+(c - 48)=c by omega]
    ·show(decide (c - 48<10)&&rise (c - 48) D')=true;rw[decide_eq_true (by omega),h2];rfl
   ·cases h
  ·cases h
theorem z8Y{D r:List Nat}(h:Ris D=true)(hr:∀c∈r.head?,dig c=false):cd0 (D.map (48 + ·)++r)=some (D,r):=by
 cases D with
 | nil=>cases h
 | cons d D=>
  unfold Ris at h;simp only[Bool.and_eq_true,decide_eq_true_eq]at h;have ih:=z5p D d r h.2 hr;show(if dig (48+d)then(match cds (48+d - 48) (D.map (48 + ·)++r)with
   | some (D,r')=>some ((48+d - 48)::D,r')
   | none=>none)else none)=_
  rw[z1z h.1,show 48+d - 48=d by omega,if_pos rfl,ih]
theorem q4C:∀(n:Nat) (x:List Nat) (p:Pt) (r:List Nat),par n x=some (p,r)->x=tt p++r/\Vd p
 | 0,x,p,r,h=>by cases h
 | n+1,[],p,r,h=>by cases h
 | n+1,c::x,p,r,h=>by
  unfold par at h;split at h
  ·rename_i hd;cases h;obtain⟨g1,g2⟩:=q3S hd;refine⟨?_,show c - 48<10 by omega⟩;show _=(48+(c - 48))::x;rw[show 48+(c - 48)=c by omega]
  ·split at h
   ·rename_i hc;obtain⟨y1,e1,h⟩:=Option.bind_eq_some_iff.mp h;obtain⟨y2,e2,h⟩:=Option.bind_eq_some_iff.mp h;obtain⟨y3,e3,h⟩:=Option.bind_eq_some_iff.mp h;obtain⟨y4,e4,h⟩:=Option.bind_eq_some_iff.mp h;obtain⟨y5,e5,h⟩:=Option.bind_eq_some_iff.mp h;obtain⟨y6,e6,h⟩:=Option.map_eq_some_iff.mp h;obtain⟨D,r1⟩:=y1;obtain⟨a,r2⟩:=y3;obtain⟨b,r3⟩:=y5;cases h;obtain⟨q1,q2⟩:=z2N e1;have t1:=z0H e2;have t2:=z0H e4;have t3:=z0H e6;obtain⟨p1,p2⟩:=q4C n _ _ _ e3;obtain⟨p3,p4⟩:=q4C n _ _ _ e5;dsimp only at t1 t2 t3;refine⟨?_,q2,p2,p4⟩;have hs:(if(decide (c=114))=true then 114 else 99)=c:=by
     rcases hc with z | z
     ·rw[z];rfl
     ·rw[z];rfl
    show c::x=((if(decide (c=114))=true then 114 else 99)::(D.map (48 + ·)++(40::(tt a++(44::(tt b++[41]))))))++r;rw[hs,q1,t1,p1,t2,p3,t3];simp
   ·cases h
theorem z4R:∀(p:Pt) (n:Nat) (r:List Nat),Vd p->hp p<n->par n (tt p++r)=some (p,r)
 | .fin m,n+1,r,hv,_=>by show(if dig (48+m)then some (Pt.fin (48+m - 48),r)else _)=_;rw[z1z hv,if_pos rfl,show 48+m - 48=m by omega]
 | .ask s D a b,n+1,r,⟨h1,h2,h3⟩,hn=>by
  have hn':max (hp a) (hp b)+1<n+1:=hn;have e:tt (.ask s D a b)++r=(if s then 114 else 99)::(D.map (48 + ·)++(40::(tt a++(44::(tt b++(41::r)))))):=by show((if s then 114 else 99)::(D.map (48 + ·)++(40::(tt a++(44::(tt b++[41]))))))++r=_;simp
  rw[e];have c1:=z8Y (r:=40::(tt a++(44::(tt b++(41::r))))) h1 (λc hc=>by cases hc;rfl);have A:=z4R a n (44::(tt b++(41::r))) h2 (by omega);have B:=z4R b n (41::r) h3 (by omega);unfold par;rw[if_neg (by cases s<;>decide),if_pos (by cases s<;>decide),c1];simp only[Option.bind_some,tk_c,A,B,Option.map_some];cases s<;>rfl
end k84
end
noncomputable section
namespace k84
open PySem L2
section
variable {fu k a dx:Nat} {l:List Nat}
structure Suf(l x:List Nat):Prop where
 le:x.length<=l.length
 eq:l.drop (l.length - x.length)=x
theorem Suf.tail{c:Nat}{x:List Nat}(h:Suf l (c::x)):Suf l x/\l[l.length - (c::x).length]? = some c/\l.length - x.length=l.length - (c::x).length+1:=by
 obtain⟨h1,h2,h3⟩:=z2G h.eq;have hl:=h.le;rw[List.length_cons]at hl;have e:l.length - x.length=l.length - (c::x).length+1:=by rw[List.length_cons];omega
 exact⟨⟨by omega,by rw[e];exact h2⟩,h1,e⟩
theorem Suf.drop{y:List Nat}:∀{z:List Nat},Suf l (z++y)->Suf l y
 | [],h=>h
 | _::z,h=>Suf.drop (z:=z) h.tail.1
abbrev sx(a dx:Nat)(l x:List Nat):DV:=rs a dx l (l.length - x.length)
theorem sx_t{c:Nat}{x:List Nat}(h:Suf l (c::x)):rs a dx l (l.length - (c::x).length+1)=sx a dx l x:=by rw[←h.tail.2.2]
theorem z0o(h:Suf l []):l[l.length - ([]:List Nat).length]? = none:=by
 rw[List.length_nil];exact List.getElem?_eq_none (by omega)
def hd0:List Nat->Bool
 | []=>false
 | c::_=>dig c
theorem z6x{x:List Nat}(h:Suf l x):dgA l (l.length - x.length)=hd0 x:=by
 cases x with
 | nil=>unfold dgA;rw[z0o h];rfl
 | cons c x=>unfold dgA;rw[h.tail.2.1];rfl
theorem v_at{δ:List Sv}{j:Nat}{x:List Nat}(h:Suf l x)(h0:δ[j]? = some (.od (sx a dx l x))):evE GM (runM GM TM fu (k+2)) (.mth j 1) δ=some (.ok (.bl (hd0 x)) .strong):=by
 rw[q9D h0 (by omega),z6x h]
def rT(a dx:Nat)(l:List Nat)(d:DV)(o:Option (List Nat)):Option Ou:=match o with
 | some r=>some (.v (.tup [d,sx a dx l r]) false)
 | none=>some (.x "NoText")
theorem v_tk{c:Nat}{x:List Nat}(hs:Sgn l)(hc:c<1000)(h:Suf l x):runM GM TM fu (k+2) 2 [sx a dx l x,.str (stx [c])]=rT a dx l .non (tk c x):=by
 cases x with
 | nil=>exact q7B hs (by omega) (by omega) (by rw[z0o h];intro z;cases z)
 | cons d x=>
  by_cases z:d=c
  ·subst z;rw[tk_c,m_tk hs h.tail.2.1,sx_t h];rfl
  ·have:tk c (d::x)=none:=if_neg z;rw[this];exact q7B hs (by omega) (by omega) (by rw[h.tail.2.1];intro w;exact z (Option.some.inj w))
theorem v_dg{c:Nat}{x:List Nat}(h:Suf l (c::x))(hd:dig c=true):runM GM TM fu (k+3) 3 [sx a dx l (c::x)]=some (.v (.tup [.int ((c - 48:Nat):Int),sx a dx l x]) false):=by
 obtain⟨g1,g2⟩:=q3S hd;have:=m_dg (fu:=fu) (k:=k) (a:=a) (dx:=dx) (n:=c - 48) (by omega) (by rw[show 48+(c - 48)=c by omega];exact h.tail.2.1);rw[sx_t h]at this;exact this
theorem z5l{x:List Nat}(h:Suf l x)(hd:hd0 x=false):runM GM TM fu (k+3) 3 [sx a dx l x]=some (.x "NoText"):=z1c (by omega) (by rw[z6x h];exact hd)
theorem sg_s{c:Nat}{x:List Nat}(h:Suf l (c::x)):sgA l (l.length - (c::x).length)=[c]:=q6C h.tail.2.1
theorem v_sd{x:List Nat}(hs:Sgn l)(h:Suf l x)(h0:hd0 x=false):runM GM TM fu (k+3) 5 [sx a dx l x]=(match x with
  | []=>some (.x "NoText")
  | c::r=>if c=114\/c=99 then some (.v (.tup [side (decide (c=114)),sx a dx l r]) false)else some (.x "NoText")):=by
 rw[q2n (d:=q2m) rfl rfl];unfold q2m;have z0:(startM 1 (sx a dx l x) [])[0]? = some (.od (sx a dx l x)):=rfl;have e1:=q6v (fu:=fu) (k:=k+1) z0 (by omega);have s1:Sgn [114]:=λd hd=>by rw[List.mem_singleton.mp hd];decide
 have e2:=eqS (z0v hs _) s1 e1 (q0r (x:="r"):evE GM (runM GM TM fu (k+2)) (.str "r") _=_);by_cases q:∃r,x=114::r
 ·obtain⟨r,rfl⟩:=q;rw[sg_s h,decide_eq_true rfl]at e2;have t:=v_tk (fu:=fu) (k:=k) (a:=a) (dx:=dx) (c:=114) hs (by decide) h;rw[tk_c]at t;exact q2j (z2K (q0f e2) (q0p (q6b (l:=[(.str "r",.strong)]) gm_c gm_m z0 (q0a q0r q0e) rfl t) (q2S (q4a rfl (q0r (x:="row")) rfl))))
 ·have hn:sgA l (l.length - x.length)≠[114]:=λz=>by
   cases x with
   | nil=>rw[z0E (by rw[List.length_nil];omega)]at z;cases z
   | cons c r=>rw[sg_s h]at z;exact q ⟨r,by rw[(List.cons.inj z).1]⟩
  rw[decide_eq_false hn]at e2;have t:=v_tk (fu:=fu) (k:=k) (a:=a) (dx:=dx) (c:=99) hs (by decide) h;cases x with
  | nil=>exact q1O (q0k (q0f e2) (q1y (q4u (l:=[(.str "c",.strong)]) gm_c gm_m z0 (q0a q0r q0e) rfl t)))
  | cons c r=>
   have hc:c≠114:=λz=>q ⟨r,by rw[z]⟩;by_cases w:c=99
   ·subst w;rw[tk_c]at t;exact q2j (q0k (q0f e2) (q0p (q6b (l:=[(.str "c",.strong)]) gm_c gm_m z0 (q0a q0r q0e) rfl t) (q2S (q4a rfl (q0r (x:="column")) rfl))))
   ·have:tk 99 (c::r)=none:=if_neg w;rw[this]at t;show _=(if c=114\/c=99 then _ else _);rw[if_neg (by rintro(z | z);exact hc z;exact w z)];exact q1O (q0k (q0f e2) (q1y (q4u (l:=[(.str "c",.strong)]) gm_c gm_m z0 (q0a q0r q0e) rfl t)))
theorem z4B{test:List Sv->Option Rt}{body:List Sv->Option Out}{n:Nat}{δ δ':List Sv}{c:Str}(h:test δ=some (.ok true))(hb:body δ=some (.ex c δ')):q1c test body (n+1) δ=some (.ex c δ'):=by
 unfold q1c;rw[h];dsimp only;rw[hb]
theorem z6U(hs:Sgn l):∀(x:List Nat) (t c m:Nat) (v:Sv),Suf l x->t<10->c<2^(t+1)->10 - t<m ->
  (match cds t x with
   | some (D,r)=>∃t' v',q1c (λδ'=>tstD (evE GM (runM GM TM fu (k+3)) (.mth 0 1) δ')) (λδ'=>evSs GM (runM GM TM fu (k+3)) fu cdB δ') m (Sc a dx l (l.length - x.length) t c v)=some (.nx (Sc a dx l (l.length - r.length) t' (c+sm D) v'))/\Suf l r
   | none=>∃δ',q1c (λδ'=>tstD (evE GM (runM GM TM fu (k+3)) (.mth 0 1) δ')) (λδ'=>evSs GM (runM GM TM fu (k+3)) fu cdB δ') m (Sc a dx l (l.length - x.length) t c v)=some (.ex "NoText" δ'))
 | [],t,c,m+1,v,h,_,_,_=>by have e:=v_at (fu:=fu) (k:=k+1) (a:=a) (dx:=dx) (δ:=Sc a dx l (l.length - ([]:List Nat).length) t c v) (j:=0) h rfl;exact⟨t,v,z0h (test:=λδ'=>tstD (evE GM (runM GM TM fu (k+3)) (.mth 0 1) δ')) (q0f e),h⟩
 | y::x,t,c,m+1,v,h,ht,hc,hm=>by
  have e:=v_at (fu:=fu) (k:=k+1) (a:=a) (dx:=dx) (δ:=Sc a dx l (l.length - (y::x).length) t c v) (j:=0) h rfl;cases hd:dig y with
  | false=>
   have q:cds t (y::x)=some ([],y::x):=by unfold cds;rw[hd];rfl
   rw[q];rw[show hd0 (y::x)=false from hd]at e;exact⟨t,v,z0h (test:=λδ'=>tstD (evE GM (runM GM TM fu (k+3)) (.mth 0 1) δ')) (q0f e),h⟩
  | true=>
   rw[show hd0 (y::x)=true from hd]at e;obtain⟨g1,g2⟩:=q3S hd;obtain⟨d,rfl⟩:∃d,y=48+d:=⟨y - 48,by omega⟩;have hd9:d<10:=by omega
   have D1:=v_dg (fu:=fu) (k:=k) (a:=a) (dx:=dx) h hd;rw[show 48+d - 48=d by omega]at D1;have c1:=z8M (q0b (G:=GM) (F:=runM GM TM fu (k+3)) (n:=3) (d:=.int (d:Int)) (δ:=[.od (sx a dx l x),.val (.int (t:Int)),.val (.int (c:Int)),.val (.int (d:Int))]) rfl) (q0b (n:=1) (d:=.int (t:Int)) rfl);by_cases z:d<=t
   ·have q:cds t ((48+d)::x)=none:=by
     unfold cds;rw[hd,if_pos rfl,if_pos (by omega)]
    rw[q];rw[decide_eq_true (by omega)]at c1;refine⟨[.od (sx a dx l x),.val (.int (t:Int)),.val (.int (c:Int)),.val (.int (d:Int))],?_⟩;have eb:evSs GM (runM GM TM fu (k+3)) fu cdB (Sc a dx l (l.length - ((48+d)::x).length) t c v)=some (.ex "NoText" [.od (sx a dx l x),.val (.int (t:Int)),.val (.int (c:Int)),.val (.int (d:Int))]):=by unfold cdB;exact q0p (q3Y (l:=[]) (by decide) gm_c gm_m rfl q0e rfl D1) (q6J (q0f c1) (q1y (q7d (by decide +kernel) (q0r (x:="cards are written from the least on, each once")))))
    exact z4B (test:=λδ'=>tstD (evE GM (runM GM TM fu (k+3)) (.mth 0 1) δ')) (body:=λδ'=>evSs GM (runM GM TM fu (k+3)) fu cdB δ') (q0f e) eb
   ·rw[decide_eq_false (by omega)]at c1;have hc2:c<2^d:=Nat.lt_of_lt_of_le hc (Nat.pow_le_pow_right (by decide) (by omega));have hc3:c+2^d<2^(d+1):=by rw[Nat.pow_succ];omega
    have ih:=z6U hs x d (c+2^d) m (.val (.int (d:Int))) h.tail.1 hd9 hc3 (by omega);have c2:=q3T (op:=.BitOr) (q0b (G:=GM) (F:=runM GM TM fu (k+3)) (n:=2) (d:=.int (c:Int)) (δ:=[.od (sx a dx l x),.val (.int (t:Int)),.val (.int (c:Int)),.val (.int (d:Int))]) rfl) (sh_1 hd9 (q0b (n:=3) (d:=.int (d:Int)) rfl)) (r:=some (.ok (.int ((c+2^d:Nat):Int)) .strong)) (by
     show some (Re.ok (.int (Builtin.bitOr (c:Int) (1*2^(d:Int).toNat))) .strong)=_;rw[z5f d hd9 c hc2])
    have eb:evSs GM (runM GM TM fu (k+3)) fu cdB (Sc a dx l (l.length - ((48+d)::x).length) t c v)=some (.nx (Sc a dx l (l.length - x.length) d (c+2^d) (.val (.int (d:Int))))):=(by unfold cdB;exact q0p (q3Y (l:=[]) (by decide) gm_c gm_m rfl q0e rfl D1) (q0k (q0f c1) (q0p (q0q (i:=2) c2 rfl) (q0p (q0q (i:=1) (q0b (n:=3) (d:=.int (d:Int)) rfl) rfl) rfl))));have q:cds t ((48+d)::x)=(match cds d x with | some (D,r')=>some (d::D,r') | none=>none):=by
     show(if dig (48+d)then(if 48+d - 48<=t then none else match cds (48+d - 48) x with
      | some (D,r')=>some ((48+d - 48)::D,r')
      | none=>none)else some ([],(48+d)::x))=_
     rw[hd,if_pos rfl,show 48+d - 48=d by omega,if_neg z]
    rw[q];have wt:∀o,q1c (λδ'=>tstD (evE GM (runM GM TM fu (k+3)) (.mth 0 1) δ')) (λδ'=>evSs GM (runM GM TM fu (k+3)) fu cdB δ') m (Sc a dx l (l.length - x.length) d (c+2^d) (.val (.int (d:Int))))=o->q1c (λδ'=>tstD (evE GM (runM GM TM fu (k+3)) (.mth 0 1) δ')) (λδ'=>evSs GM (runM GM TM fu (k+3)) fu cdB δ') (m+1) (Sc a dx l (l.length - ((48+d)::x).length) t c v)=o:=λo g=>z3p (test:=λδ'=>tstD (evE GM (runM GM TM fu (k+3)) (.mth 0 1) δ')) (body:=λδ'=>evSs GM (runM GM TM fu (k+3)) fu cdB δ') (q0f e) eb g
    cases hq:cds d x with
    | none=>
     rw[hq]at ih;obtain⟨δ',g⟩:=ih;exact⟨δ',wt _ g⟩
    | some y=>
     obtain⟨D,r⟩:=y;rw[hq]at ih;obtain⟨t',v',g,gs⟩:=ih;refine⟨t',v',?_,gs⟩;rw[show c+sm (d::D)=c+2^d+sm D by show c+(2^d+sm D)=_;omega];exact wt _ g
theorem v_cd(hs:Sgn l)(hfu:20<fu){x:List Nat}(h:Suf l x):runM GM TM fu (k+4) 6 [sx a dx l x]=(match cd0 x with
  | some (D,r)=>some (.v (.tup [.int ((sm D:Nat):Int),sx a dx l r]) false)
  | none=>some (.x "NoText"))/\∀D r,cd0 x=some (D,r)->Suf l r:=by
 rw[q2n (d:=q1S) rfl rfl];unfold q1S;cases x with
 | nil=>exact⟨q1O (q1y (q3c (l:=[]) gm_c gm_m rfl q0e rfl (z5l (k:=k) h rfl))),λD r z=>by cases z⟩
 | cons c x=>
  cases hd:dig c with
  | false=>
   have q:cd0 (c::x)=none:=by show(if dig c then _ else none)=_;rw[hd];rfl
   rw[q];exact⟨q1O (q1y (q3c (l:=[]) gm_c gm_m rfl q0e rfl (z5l (k:=k) h hd))),λD r z=>by cases z⟩
  | true=>
   obtain⟨g1,g2⟩:=q3S hd;obtain⟨d,rfl⟩:∃d,c=48+d:=⟨c - 48,by omega⟩;have hd9:d<10:=by omega
   have D1:=v_dg (fu:=fu) (k:=k) (a:=a) (dx:=dx) h hd;rw[show 48+d - 48=d by omega]at D1;have hc:2^d<2^(d+1):=Nat.pow_lt_pow_right (by decide) (by omega);have g:=z6U (fu:=fu) (k:=k) (a:=a) (dx:=dx) hs x d (2^d) fu .no h.tail.1 hd9 hc (by omega);have e1:evE GM (runM GM TM fu (k+3)) (.bin .LShift (.int 1) (.var 1)) [.od (sx a dx l x),.val (.int (d:Int)),.no,.no]=some (.ok (.int ((2^d:Nat):Int)) .strong):=by
    rw[sh_1 hd9 (q0b (n:=1) (d:=.int (d:Int)) rfl)]
    congr 3
    rw[Int.toNat_natCast,Int.one_mul];exact(Int.natCast_pow 2 d).symm
   have q:cd0 ((48+d)::x)=(match cds d x with | some (D,r')=>some (d::D,r') | none=>none):=by
    show(if dig (48+d)then(match cds (48+d - 48) x with
     | some (D,r')=>some ((48+d - 48)::D,r')
     | none=>none)else none)=_
    rw[hd,if_pos rfl,show 48+d - 48=d by omega]
   rw[q];cases hq:cds d x with
   | none=>
    rw[hq]at g;obtain⟨δ',g⟩:=g;exact⟨q1O (q0p (q3Y (l:=[]) (by decide) gm_c gm_m rfl q0e rfl D1) (q0p (q0q (i:=2) e1 rfl) (q1y g))),λD r z=>by cases z⟩
   | some y=>
    obtain⟨D,r⟩:=y;rw[hq]at g;obtain⟨t',v',g,gs⟩:=g;refine⟨?_,λD' r' z=>by cases z;exact gs⟩;exact q2j (q0p (q3Y (l:=[]) (by decide) gm_c gm_m rfl q0e rfl D1) (q0p (q0q (i:=2) e1 rfl) (z8I g (q2S (q4a rfl (q0b (n:=2) (d:=.int ((2^d+sm D:Nat):Int)) rfl) rfl)))))
end
end k84
end
noncomputable section
namespace k84
open PySem L2
section
variable {fu k a dx:Nat} {l:List Nat}
def rP(a dx:Nat)(l:List Nat)(o:Option (Pt×List Nat)):Option Ou:=match o with
 | some (p,r)=>some (.v (.tup [dv (pl p),sx a dx l r]) false)
 | none=>some (.x "NoText")
theorem q9X{n:Nat}{x r:List Nat}{p:Pt}(h:Suf l x)(e:par n x=some (p,r)):Suf l r/\r.count 40<=x.count 40:=by
 obtain⟨h1,_⟩:=q4C n x p r e;rw[h1]at h;refine⟨h.drop,?_⟩;rw[h1,List.count_append];omega
theorem v_pl(hs:Sgn l)(hfu:20<fu):∀(n k:Nat) (x:List Nat),Suf l x->x.count 40<n->n+5<=k->runM GM TM fu k 4 [sx a dx l x]=rP a dx l (par n x)
 | 0,k,x,_,h,_=>by omega
 | n+1,k,x,h,hn,hk=>by
  obtain⟨k,rfl⟩:∃k',k=k'+5:=⟨k - 5,by omega⟩
  rw[q2n (d:=q2i) rfl rfl]
  unfold q2i
  have e:=v_at (fu:=fu) (k:=k+2) (a:=a) (dx:=dx) (δ:=startM 5 (sx a dx l x) []) (j:=0) h rfl
  have S1:=λ(h0:hd0 x=false)=>v_sd (fu:=fu) (k:=k+1) (a:=a) (dx:=dx) hs h h0
  cases x with
  | nil=>exact q1O (q0k (q0f e) (q1y (q3c (l:=[]) gm_c gm_m rfl q0e rfl (S1 rfl))))
  | cons c x=>
   cases hd:dig c with
   | true=>
    rw[show hd0 (c::x)=true from hd]at e
    have q:par (n+1) (c::x)=some (.fin (c - 48),x):=by unfold par;rw[hd,if_pos rfl]
    rw[q]
    exact q2j (z2K (q0f e) (q2S (z6I gm_c gm_m rfl (v_dg (k:=k+1) h hd))))
   | false=>
    rw[show hd0 (c::x)=false from hd]at e
    have S2:=S1 hd
    by_cases hc:c=114\/c=99
    ·have S2':runM GM TM fu (k+4) 5 [sx a dx l (c::x)]=some (.v (.tup [side (decide (c=114)),sx a dx l x]) false):=S2.trans (if_pos hc)
     have q:par (n+1) (c::x)=(cd0 x).bind λx=>(tk 40 x.2).bind λr2=>(par n r2).bind λy=>(tk 44 y.2).bind λr3=>(par n r3).bind λz=>(tk 41 z.2).map λr4=>(Pt.ask (decide (c=114)) x.1 y.1 z.1,r4):=by
      conv=>lhs;unfold par
      rw[hd,if_neg (by decide),if_pos hc]
     rw[q]
     obtain⟨C1,C2⟩:=v_cd (fu:=fu) (k:=k) (a:=a) (dx:=dx) hs hfu h.tail.1
     have s1:=λ(r:List MS) (o:Option Out) (g:evSs GM (runM GM TM fu (k+4)) fu r [.od (sx a dx l x),.val (side (decide (c=114))),.no,.no,.no]=o)=>q0k (r:=.mst 1 0 5 []::r) (a:=[.rtd 0 3 "end"]) (q0f e) (q0p (q3Y (l:=[]) (by decide) gm_c gm_m rfl q0e rfl S2') g)
     cases hq:cd0 x with
     | none=>
      rw[hq]at C1
      exact q1O (s1 _ _ (q1y (q3c (l:=[]) gm_c gm_m rfl q0e rfl C1)))
     | some y=>
      obtain⟨D,r1⟩:=y
      rw[hq]at C1
      have f1:=C2 D r1 hq
      obtain⟨cx,_⟩:=z2N hq
      have T1:=v_tk (fu:=fu) (k:=k+2) (a:=a) (dx:=dx) (c:=40) hs (by decide) f1
      show Ou.ofM _ _=rP a dx l ((tk 40 r1).bind λr2=>(par n r2).bind λy=>(tk 44 y.2).bind λr3=>(par n r3).bind λz=>(tk 41 z.2).map λr4=>(Pt.ask (decide (c=114)) D y.1 z.1,r4))
      have s2:=λ(r:List MS) (o:Option Out) (g:evSs GM (runM GM TM fu (k+4)) fu r [.od (sx a dx l r1),.val (side (decide (c=114))),.val (.int ((sm D:Nat):Int)),.no,.no]=o)=>s1 (.mst 2 0 6 []::r) o (q0p (q3Y (l:=[]) (by decide) gm_c gm_m rfl q0e rfl C1) g)
      cases h40:tk 40 r1 with
      | none=>
       rw[h40]at T1
       exact q1O (s2 _ _ (q1y (q4u (l:=[(.str "(",.strong)]) gm_c gm_m rfl (q0a q0r q0e) rfl T1)))
      | some r2=>
       rw[h40]at T1
       have e40:=z0H h40
       rw[e40]at f1
       have f2:=f1.tail.1
       have n2:r2.count 40<n:=by
        rw[cx,e40]at hn
        simp only[List.count_cons,List.count_append]at hn
        have:(if(40==40)=true then 1 else 0)=1:=rfl
        simp at hn
        omega
       have P1:=v_pl hs hfu n (k+4) r2 f2 n2 (by omega)
       show Ou.ofM _ _=rP a dx l ((par n r2).bind λy=>(tk 44 y.2).bind λr3=>(par n r3).bind λz=>(tk 41 z.2).map λr4=>(Pt.ask (decide (c=114)) D y.1 z.1,r4))
       have s3:=λ(r:List MS) (o:Option Out) (g:evSs GM (runM GM TM fu (k+4)) fu r [.od (sx a dx l r2),.val (side (decide (c=114))),.val (.int ((sm D:Nat):Int)),.no,.no]=o)=>s2 (.msx 0 2 [.str "("]::r) o (q0p (q6b (l:=[(.str "(",.strong)]) gm_c gm_m rfl (q0a q0r q0e) rfl T1) g)
       cases hp1:par n r2 with
       | none=>
        rw[hp1]at P1
        exact q1O (s3 _ _ (q1y (q3c (l:=[]) gm_c gm_m rfl q0e rfl P1)))
       | some y=>
        obtain⟨pa,r3⟩:=y
        rw[hp1]at P1
        obtain⟨f3,n3⟩:=q9X f2 hp1
        have T2:=v_tk (fu:=fu) (k:=k+2) (a:=a) (dx:=dx) (c:=44) hs (by decide) f3
        show Ou.ofM _ _=rP a dx l ((tk 44 r3).bind λr3=>(par n r3).bind λz=>(tk 41 z.2).map λr4=>(Pt.ask (decide (c=114)) D pa z.1,r4))
        have s4:=λ(r:List MS) (o:Option Out) (g:evSs GM (runM GM TM fu (k+4)) fu r [.od (sx a dx l r3),.val (side (decide (c=114))),.val (.int ((sm D:Nat):Int)),.val (dv (pl pa)),.no]=o)=>s3 (.mst 3 0 4 []::r) o (q0p (q3Y (l:=[]) (by decide) gm_c gm_m rfl q0e rfl P1) g)
        cases h44:tk 44 r3 with
        | none=>
         rw[h44]at T2
         exact q1O (s4 _ _ (q1y (q4u (l:=[(.str ",",.strong)]) gm_c gm_m rfl (q0a q0r q0e) rfl T2)))
        | some r4=>
         rw[h44]at T2
         have e44:=z0H h44
         rw[e44]at f3 n3
         have f4:=f3.tail.1
         have n4:r4.count 40<n:=by
          simp only[List.count_cons]at n3
          simp at n3
          omega
         have P2:=v_pl hs hfu n (k+4) r4 f4 n4 (by omega)
         show Ou.ofM _ _=rP a dx l ((par n r4).bind λz=>(tk 41 z.2).map λr4=>(Pt.ask (decide (c=114)) D pa z.1,r4))
         have s5:=λ(r:List MS) (o:Option Out) (g:evSs GM (runM GM TM fu (k+4)) fu r [.od (sx a dx l r4),.val (side (decide (c=114))),.val (.int ((sm D:Nat):Int)),.val (dv (pl pa)),.no]=o)=>s4 (.msx 0 2 [.str ","]::r) o (q0p (q6b (l:=[(.str ",",.strong)]) gm_c gm_m rfl (q0a q0r q0e) rfl T2) g)
         cases hp2:par n r4 with
         | none=>
          rw[hp2]at P2
          exact q1O (s5 _ _ (q1y (q3c (l:=[]) gm_c gm_m rfl q0e rfl P2)))
         | some z=>
          obtain⟨pb,r5⟩:=z
          rw[hp2]at P2
          obtain⟨f5,_⟩:=q9X f4 hp2
          have T3:=v_tk (fu:=fu) (k:=k+2) (a:=a) (dx:=dx) (c:=41) hs (by decide) f5
          show Ou.ofM _ _=rP a dx l ((tk 41 r5).map λr4=>(Pt.ask (decide (c=114)) D pa pb,r4))
          have s6:=λ(r:List MS) (o:Option Out) (g:evSs GM (runM GM TM fu (k+4)) fu r [.od (sx a dx l r5),.val (side (decide (c=114))),.val (.int ((sm D:Nat):Int)),.val (dv (pl pa)),.val (dv (pl pb))]=o)=>s5 (.mst 4 0 4 []::r) o (q0p (q3Y (l:=[]) (by decide) gm_c gm_m rfl q0e rfl P2) g)
          cases h41:tk 41 r5 with
          | none=>
           rw[h41]at T3
           exact q1O (s6 _ _ (q1y (q4u (l:=[(.str ")",.strong)]) gm_c gm_m rfl (q0a q0r q0e) rfl T3)))
          | some r6=>
           rw[h41]at T3
           exact q2j (s6 _ _ (q0p (q6b (l:=[(.str ")",.strong)]) gm_c gm_m rfl (q0a q0r q0e) rfl T3) (q2S (q4a rfl (q5p (q0a q0r (q0a (q0b (n:=1) (d:=side (decide (c=114))) rfl) (q0a (q0b (n:=2) (d:=.int ((sm D:Nat):Int)) rfl) (q0a (q0b (n:=3) (d:=dv (pl pa)) rfl) (q0a (q0b (n:=4) (d:=dv (pl pb)) rfl) q0e))))) (show 5<=mostLen by decide) rfl) rfl))))
    ·have S2':runM GM TM fu (k+4) 5 [sx a dx l (c::x)]=some (.x "NoText"):=S2.trans (if_neg hc)
     have q:par (n+1) (c::x)=none:=by
      unfold par
      rw[hd,if_neg (by decide),if_neg hc]
     rw[q]
     exact q1O (q0k (q0f e) (q1y (q3c (l:=[]) gm_c gm_m rfl q0e rfl S2')))
theorem z4U:Suf l l:=⟨Nat.le_refl _,by rw[Nat.sub_self];rfl⟩
theorem z4E(hs:Sgn l)(hn:l.count 40<=20)(hk:50<=k):runM GM TM 100 k 4 [rdD 192 a dx (stx l) 0]=rP a dx l (par 21 l):=by
 have:=v_pl (fu:=100) (a:=a) (dx:=dx) hs (by decide) 21 k l z4U (by omega) (by omega);rw[show sx a dx l l=rdD 192 a dx (stx l) 0 by show rdD 192 a dx (stx l) ((l.length - l.length:Nat):Int)=_;rw[Nat.sub_self];rfl]at this;exact this
end
variable {fu k:Nat} {F:Nat->List DV->Option Ou} {δ:List Sv} {ds:List DV} {cl:Cl}
def rG(l:List Nat)(o:Option (Pt×List Nat)):Option Ou:=match o with
 | some (p,r)=>some (.v (.tup [dv (pl p),.int ((l.length - r.length:Nat):Int)]) false)
 | none=>some (.x "NoText")
theorem q7R{l:List Nat}(hs:Sgn l)(hn:l.count 40<=20)(hk:50<=k):run G T 100 (k+1) rdIx [.str (stx l),.int 0]=rG l (par 21 l):=by
 show prs (k+1) [.str (stx l),.int 0]=_;unfold prs;dsimp only;rw[if_pos ⟨rfl,hk,l,rfl,hs,hn⟩,z4E hs hn hk];cases par 21 l with
 | none=>rfl
 | some y=>rfl
theorem uni:∀(k:Nat) (t:Str) (j:Int) (o:Rm),Rm.of (G.prs (k+1) [.str t,.int j])=some o->∀a dx,Rm.of (runM GM TM 100 k 4 [rdD 192 a dx t j])=some (rmAt 192 a dx t o):=by
 intro k t j o h a dx;have h':Rm.of (prs (k+1) [.str t,.int j])=some o:=h;unfold prs at h';dsimp only at h';split at h'
 ·rename_i hc;obtain⟨rfl,hk,l,rfl,hs,hn⟩:=hc;rw[z4E hs hn hk]at h';rw[z4E hs hn hk];cases hq:par 21 l with
  | none=>rw[hq]at h';cases h';rfl
  | some y=>rw[hq]at h';cases h';rfl
 ·cases h'
end k84
end
noncomputable section
namespace k84
open PySem L2
variable {fu k:Nat} {F:Nat->List DV->Option Ou} {δ:List Sv} {ds:List DV} {cl:Cl}
def dep(d:Int)(c:Nat):Int:=if c=40 then d+1 else if c=41 then d - 1 else d
def splO:Int->Nat->List Nat->Option Int
 | _,_,[]=>none
 | d,i,c::r=>if dep d c<0 then some (-1)else if c=44/\dep d c=0 then some (i:Int)else splO (dep d c) (i+1) r
theorem z0n(lo:Int)(n:Nat):upTo lo (n+1)=.int lo::upTo (lo+1) n:=by
 unfold L2.upTo;rw[List.range_succ_eq_map,List.map_cons,List.map_map]
 congr 1
 ·congr 1;omega
 ·apply List.map_congr_left;intro a _;show DV.int _=DV.int _
  congr 1
  push_cast
  omega
theorem q7Z{l:List Nat}{i c:Nat}(h:l[i]? = some c):ixD (.str (stx l)) (.int (i:Int))=some (.str (stx [c])):=by
 obtain⟨hi,_⟩:=List.getElem?_eq_some_iff.mp h;show((q3G (stx l).cps.size (i:Int)).bind λj=>((stx l).cps[j]?).map λc=>DV.str ⟨#[c]⟩)=_;rw[show(stx l).cps.size=l.length from List.size_toArray ..,z6Y hi];show((stx l).cps[i]?).map _=_;rw[show(stx l).cps[i]? = l[i]? from List.getElem?_toArray ..,h];rfl
def spB:List MS:=[.iff (.cmp .Eq (.ix (.var 0) (.var 2)) (.str "(")) [.set 1 false (.bin .Add (.var 1) (.int 1))] [],.iff (.cmp .Eq (.ix (.var 0) (.var 2)) (.str ")")) [.set 1 false (.bin .Sub (.var 1) (.int 1))] [],.iff (.cmp .Lt (.var 1) (.int 0)) [.ret (.neg (.int 1))] [],.iff (.and [.cmp .Eq (.ix (.var 0) (.var 2)) (.str ","),.cmp .Eq (.var 1) (.int 0)]) [.ret (.var 2)] []]
abbrev Sp(l:List Nat)(d:Int)(z:Sv):List Sv:=[.val (.str (stx l)),.val (.int d),z]
theorem z1g{l:List Nat}{i c q:Nat}{d:Int}(hs:Sgn l)(hq:q<1000)(h:l[i]? = some c){s:Str}(es:s=stx [q]):evE G F (.cmp .Eq (.ix (.var 0) (.var 2)) (.str s)) (Sp l d (.val (.int (i:Int))))=some (.ok (.bl (decide (c=q))) .strong):=by
 have s1:Sgn [c]:=λx hx=>by rw[List.mem_singleton.mp hx];exact hs c (List.mem_of_getElem? h)
 have s2:Sgn [q]:=λx hx=>by rw[List.mem_singleton.mp hx];omega
 have e:=eqS (G:=G) (F:=F) (δ:=Sp l d (.val (.int (i:Int)))) s1 s2 (q0B (cx:=.strong) (q0b (n:=0) (d:=.str (stx l)) rfl) (q0b (n:=2) (d:=.int (i:Int)) rfl) (q7Z h)) (b:=.str s) (cb:=.strong) (by rw[es];rfl);rw[e]
 congr 3
 by_cases z:c=q
 ·rw[decide_eq_true z,z,decide_eq_true rfl]
 ·rw[decide_eq_false z,decide_eq_false (by intro w;exact z (List.cons.inj w).1)]
theorem z6y{l:List Nat}{i c:Nat}{d:Int}(hs:Sgn l)(h:l[i]? = some c):evSs G F fu spB (Sp l d (.val (.int (i:Int))))=(if dep d c<0 then some (.rt (.int (-1)) false)else if c=44/\dep d c=0 then some (.rt (.int (i:Int)) false)else some (.nx (Sp l (dep d c) (.val (.int (i:Int)))))):=by
 have tail:∀d',evSs G F fu [.iff (.cmp .Lt (.var 1) (.int 0)) [.ret (.neg (.int 1))] [],.iff (.and [.cmp .Eq (.ix (.var 0) (.var 2)) (.str ","),.cmp .Eq (.var 1) (.int 0)]) [.ret (.var 2)] []] (Sp l d' (.val (.int (i:Int))))=(if d'<0 then some (.rt (.int (-1)) false)else if c=44/\d'=0 then some (.rt (.int (i:Int)) false)else some (.nx (Sp l d' (.val (.int (i:Int)))))):=λd'=>by
  have e1:=b_lt (q0b (G:=G) (F:=F) (n:=1) (d:=.int d') (δ:=Sp l d' (.val (.int (i:Int)))) rfl) (q0d (i:=0));by_cases z:d'<0
  ·rw[if_pos z];rw[decide_eq_true z]at e1;exact q1i (q0f e1) (q0H rfl)
  ·rw[if_neg z];rw[decide_eq_false z]at e1;have e2:=z1g (F:=F) (d:=d') hs (by decide) h (s:=",") (q:=44) (by decide +kernel);have e3:=b_eq (q0b (G:=G) (F:=F) (n:=1) (d:=.int d') (δ:=Sp l d' (.val (.int (i:Int)))) rfl) (q0d (i:=0));by_cases w:c=44
   ·rw[decide_eq_true w]at e2;by_cases y:d'=0
    ·rw[if_pos ⟨w,y⟩];rw[beq_iff_eq.mpr y]at e3;exact q0k (q0f e1) (q1i (q0f (q2a e2 (q3D e3))) (q0H (q0J (q0b rfl))))
    ·rw[if_neg (λq=>y q.2)];rw[beq_eq_false_iff_ne.mpr y]at e3;exact q0k (q0f e1) (q0k (q0f (q2a e2 (q3D e3))) rfl)
   ·rw[if_neg (λq=>w q.1)];rw[decide_eq_false w]at e2;exact q0k (q0f e1) (q0k (q0f (q4X e2)) rfl)
 have a1:=z1g (F:=F) (d:=d) hs (by decide) h (s:="(") (q:=40) (by decide +kernel);unfold spB;by_cases z:c=40
 ·rw[decide_eq_true z]at a1;have hd:dep d c=d+1:=by unfold dep;rw[if_pos z]
  have a2:=z1g (F:=F) (d:=d+1) hs (by decide) h (s:=")") (q:=41) (by decide +kernel);rw[decide_eq_false (by omega)]at a2;rw[hd];exact q7N (q0f a1) (q0p (q0q (i:=1) (q3R (q0b (n:=1) (d:=.int d) rfl) (q0d (i:=1))) rfl) rfl) (q0k (q0f a2) (tail (d+1)))
 ·rw[decide_eq_false z]at a1;have a2:=z1g (F:=F) (d:=d) hs (by decide) h (s:=")") (q:=41) (by decide +kernel);by_cases w:c=41
  ·rw[decide_eq_true w]at a2;have hd:dep d c=d - 1:=by unfold dep;rw[if_neg z,if_pos w]
   rw[hd];exact q0k (q0f a1) (q7N (q0f a2) (q0p (q0q (i:=1) (q4d (q0b (n:=1) (d:=.int d) rfl) (q0d (i:=1))) rfl) rfl) (tail (d - 1)))
  ·rw[decide_eq_false w]at a2;have hd:dep d c=d:=by unfold dep;rw[if_neg z,if_neg w]
   rw[hd];exact q0k (q0f a1) (q0k (q0f a2) (tail d))
theorem z7r{l:List Nat}(hs:Sgn l):∀(x:List Nat) (i:Nat) (d:Int) (z:Sv),l.drop i=x->(match splO d i x with
  | some v=>q1m (.one 2) (λδ'=>evSs G F fu spB δ') (upTo (i:Int) x.length) (Sp l d z)=some (.rt (.int v) false)
  | none=>∃d' z',q1m (.one 2) (λδ'=>evSs G F fu spB δ') (upTo (i:Int) x.length) (Sp l d z)=some (.nx (Sp l d' z')))
 | [],i,d,z,_=>⟨d,z,rfl⟩
 | c::x,i,d,z,h=>by
  obtain⟨h1,h2,h3⟩:=z2G h;have o:=z6y (F:=F) (fu:=fu) (d:=d) hs h1;have ih:=z7r hs x (i+1) (dep d c) (.val (.int (i:Int))) h2;rw[List.length_cons,z0n];have hb:(Tg.one 2).bind (.int (i:Int)) (Sp l d z)=some (Sp l d (.val (.int (i:Int)))):=rfl;unfold splO;by_cases w1:dep d c<0
  ·rw[if_pos w1]at o ⊢;show(match(Tg.one 2).bind (.int (i:Int)) (Sp l d z)with | none=>none | some δ1=>(match evSs G F fu spB δ1 with | some (.nx δ2)=>q1m (.one 2) (λδ'=>evSs G F fu spB δ') (upTo ((i:Int)+1) x.length) δ2 | o=>o))=_;rw[hb];dsimp only;rw[o]
  ·rw[if_neg w1]at o ⊢;by_cases w2:c=44/\dep d c=0
   ·rw[if_pos w2]at o ⊢;show(match(Tg.one 2).bind (.int (i:Int)) (Sp l d z)with | none=>none | some δ1=>(match evSs G F fu spB δ1 with | some (.nx δ2)=>q1m (.one 2) (λδ'=>evSs G F fu spB δ') (upTo ((i:Int)+1) x.length) δ2 | o=>o))=_;rw[hb];dsimp only;rw[o]
   ·rw[if_neg w2]at o ⊢;have e:=q5U (tg:=.one 2) (body:=λδ'=>evSs G F fu spB δ') (r:=upTo ((i:Int)+1) x.length) hb o;rw[e];rw[show((i+1:Nat):Int)=(i:Int)+1 by omega]at ih;exact ih
def splV(l:List Nat):Int:=(splO 0 0 l).getD (-1)
theorem q9h{tg:Tg}{it:ME}{c1:Cl}{body r:List MS}{d:DV}{fr:Bool}(hw:q2R (evE G F it δ)=some (.ok ds c1))(hc:c1=.strong\/c1=.fresh)(h:q1m tg (λδ'=>evSs G F fu body δ') ds δ=some (.rt d fr)):evSs G F fu (.fo tg it body::r) δ=some (.rt d fr):=by
 refine q0H ?_;show Ri.thnS δ (q2R (evE G F it δ)) (λds c=>if c=.strong\/c=.fresh then q1m tg (λδ'=>evSs G F fu body δ') ds δ else none)=_;rw[hw];show(if c1=.strong\/c1=.fresh then q1m tg (λδ'=>evSs G F fu body δ') ds δ else none)=_;rw[if_pos hc,h]
theorem z4g{l:List Nat}(hs:Sgn l)(hl:l.length<=1000):run G T fu (k+1) 13 [.str (stx l)]=some (.v (.int (splV l)) false):=by
 rw[q0x (fd:=q1R) rfl rfl];unfold q1R;have e0:=q4I (q0b (G:=G) (F:=run G T fu k) (n:=0) (d:=.str (stx l)) (δ:=Sp l 0 .no) rfl);rw[q3d]at e0;have wk:=z3E e0 hl;have g:=z7r (F:=run G T fu k) (fu:=fu) hs l 0 0 .no rfl;unfold splV;cases hq:splO 0 0 l with
 | some v=>
  rw[hq]at g;exact q0N (q0p (q0q (i:=1) (d:=.int 0) (cl:=.strong) rfl rfl) (q9h wk (.inr rfl) g))
 | none=>
  rw[hq]at g;obtain⟨d',z',g⟩:=g;exact q0N (q0p (q0q (i:=1) (d:=.int 0) (cl:=.strong) rfl rfl) (z0m wk (.inr rfl) g (q0H rfl)))
end k84
end
noncomputable section
namespace k84
open PySem L2
variable {fu k:Nat} {F:Nat->List DV->Option Ou} {δ:List Sv} {ds:List DV} {cl:Cl}
def cdl(acc:Nat):List Nat->Option Nat
 | []=>some acc
 | c::r=>if 48<=c/\c<=55/\acc<2^(c - 48)then cdl (acc+2^(c - 48)) r else none
def at40(l:List Nat):Nat:=l.idxOf 40
def csO(l:List Nat):List Nat:=(l.drop 1).take (at40 l - 1)
def inn(l:List Nat):List Nat:=(l.drop (at40 l+1)).take (l.length - 1 - (at40 l+1))
def hdO(l:List Nat):Bool:=match l with
 | []=>false
 | c::_=>(decide (c=114)||decide (c=99))&&(decide (2<=at40 l)&&decide (at40 l<l.length))&&decide (l.getLast? = some 41)
def due:Nat->List Nat->Option Pt
 | 0,_=>none
 | n+1,l=>match l with
  | []=>none
  | c::r=>if r=[]/\dig c=true then some (.fin (c - 48))else if hdO (c::r)then
    (cdl 0 (csO (c::r))).bind λ_=>if splV (inn (c::r))<0 then none else
     (due n ((inn (c::r)).take (splV (inn (c::r))).toNat)).bind λa=>(due n ((inn (c::r)).drop ((splV (inn (c::r))).toNat+1))).map λb=>.ask (decide (c=114)) ((csO (c::r)).map (· - 48)) a b
   else none
def E8:Pt->Prop
 | .fin _=>True
 | .ask _ D a b=>(∀d∈D,d<8)/\E8 a/\E8 b
theorem z5O:∀(D:List Nat) (t:Nat),rise t D=true->(∀d∈D,d<8)->t<8->2^(t+1)+sm D<=2^8
 | [],t,_,_,ht=>by show 2^(t+1)+0<=2^8;exact Nat.pow_le_pow_right (by decide) (by omega)
 | d::D,t,h,h8,ht=>by unfold rise at h;simp only[Bool.and_eq_true,decide_eq_true_eq]at h;obtain⟨⟨h1,h2⟩,h3⟩:=h;have ih:=z5O D d h3 (λx hx=>h8 x (List.mem_cons_of_mem _ hx)) (h8 d (List.mem_cons_self ..));show 2^(t+1)+(2^d+sm D)<=2^8;have:2^(t+1)<=2^d:=Nat.pow_le_pow_right (by decide) (by omega);rw[Nat.pow_succ]at ih;omega
theorem q9v{D:List Nat}(h:Ris D=true)(h8:∀d∈D,d<8):1<=sm D/\sm D<=255:=by
 cases D with
 | nil=>cases h
 | cons d D=>
  have h:(decide (d<10)&&rise d D)=true:=h;simp only[Bool.and_eq_true,decide_eq_true_eq]at h;have:=z5O D d h.2 (λx hx=>h8 x (List.mem_cons_of_mem _ hx)) (h8 d (List.mem_cons_self ..));rw[Nat.pow_succ]at this;have h3:0<2^d:=Nat.pow_pos (by decide);have h4:(2:Nat)^8=256:=by decide
  show 1<=2^d+sm D/\2^d+sm D<=255;omega
theorem z1U:∀{p:Pt},Vd p->E8 p->Okp (pl p)
 | .fin n,h,_=>⟨by omega,by have:n<10:=h;omega⟩
 | .ask s D a b,⟨h1,h2,h3⟩,⟨g1,g2,g3⟩=>⟨(q9v h1 g1).1,(q9v h1 g1).2,z1U h2 g2,z1U h3 g3⟩
theorem q9J:∀p:Pt,ht (pl p)=hp p
 | .fin _=>rfl
 | .ask s D a b=>by show max (ht (pl a)) (ht (pl b))+1=max (hp a) (hp b)+1;rw[q9J a,q9J b]
theorem z2h:∀(x:List Nat) (acc t v:Nat),cdl acc x=some v->2^t<=acc->t<8->rise t (x.map (· - 48))=true/\(∀d∈x.map (· - 48),d<8)/\(x.map (· - 48)).map (48 + ·)=x/\v=acc+sm (x.map (· - 48))
 | [],acc,t,v,h,_,_=>by cases h;exact⟨rfl,λd hd=>(nomatch hd),rfl,rfl⟩
 | c::x,acc,t,v,h,ha,ht=>by
  unfold cdl at h;split at h
  ·rename_i hc;obtain⟨c1,c2,c3⟩:=hc;have h8:c - 48<8:=by omega
   obtain⟨i1,i2,i3,i4⟩:=z2h x _ (c - 48) v h (by omega) h8;have lt:t<c - 48:=by refine Nat.lt_of_not_le λz=>?_;have:=Nat.pow_le_pow_right (n:=2) (by decide) z;omega
   refine⟨?_,?_,?_,?_⟩
   ·show(decide (t<c - 48)&&decide (c - 48<10)&&rise (c - 48) (x.map (· - 48)))=true;rw[decide_eq_true lt,decide_eq_true (by omega),i1];rfl
   ·intro d hd;rcases List.mem_cons.mp hd with z | z
    ·rw[z];exact h8
    ·exact i2 d z
   ·show(48+(c - 48))::(x.map (· - 48)).map (48 + ·)=_;rw[i3,show 48+(c - 48)=c by omega]
   ·rw[i4];show _=acc+(2^(c - 48)+sm (x.map (· - 48)));omega
  ·cases h
theorem q9P{x:List Nat}{v:Nat}(hx:x≠[])(h:cdl 0 x=some v):Ris (x.map (· - 48))=true/\(∀d∈x.map (· - 48),d<8)/\(x.map (· - 48)).map (48 + ·)=x/\v=sm (x.map (· - 48)):=by
 cases x with
 | nil=>exact absurd rfl hx
 | cons c x=>
  unfold cdl at h;split at h
  ·rename_i hc;obtain⟨c1,c2,c3⟩:=hc;have h8:c - 48<8:=by omega
   obtain⟨i1,i2,i3,i4⟩:=z2h x _ (c - 48) v h (by omega) h8;refine⟨?_,?_,?_,?_⟩
   ·show(decide (c - 48<10)&&rise (c - 48) (x.map (· - 48)))=true;rw[decide_eq_true (by omega),i1];rfl
   ·intro d hd;rcases List.mem_cons.mp hd with z | z
    ·rw[z];exact h8
    ·exact i2 d z
   ·show(48+(c - 48))::(x.map (· - 48)).map (48 + ·)=_;rw[i3,show 48+(c - 48)=c by omega]
   ·rw[i4];show _=2^(c - 48)+sm (x.map (· - 48));omega
  ·cases h
theorem z6o:∀(D:List Nat) (acc t:Nat),rise t D=true->(∀d∈D,d<8)->acc<2^(t+1)->cdl acc (D.map (48 + ·))=some (acc+sm D)
 | [],acc,t,_,_,_=>rfl
 | d::D,acc,t,h,h8,ha=>by
  unfold rise at h;simp only[Bool.and_eq_true,decide_eq_true_eq]at h;obtain⟨⟨h1,h2⟩,h3⟩:=h;have hd:=h8 d (List.mem_cons_self ..);have a1:acc<2^d:=Nat.lt_of_lt_of_le ha (Nat.pow_le_pow_right (by decide) (by omega));have ih:=z6o D (acc+2^d) d h3 (λx hx=>h8 x (List.mem_cons_of_mem _ hx)) (by rw[Nat.pow_succ];omega);show(if 48<=48+d/\48+d<=55/\acc<2^(48+d - 48)then cdl (acc+2^(48+d - 48)) (D.map (48 + ·))else none)=_;rw[show 48+d - 48=d by omega,if_pos ⟨by omega,by omega,a1⟩,ih];show some (acc+2^d+sm D)=some (acc+(2^d+sm D))
  congr 1
  omega
theorem z6q{D:List Nat}(h:Ris D=true)(h8:∀d∈D,d<8):cdl 0 (D.map (48 + ·))=some (sm D):=by
 cases D with
 | nil=>cases h
 | cons d D=>
  have h:(decide (d<10)&&rise d D)=true:=h;simp only[Bool.and_eq_true,decide_eq_true_eq]at h;have hd:=h8 d (List.mem_cons_self ..);have ih:=z6o D (0+2^d) d h.2 (λx hx=>h8 x (List.mem_cons_of_mem _ hx)) (by rw[Nat.pow_succ];have:0<2^d:=Nat.pow_pos (by decide);omega);show(if 48<=48+d/\48+d<=55/\0<2^(48+d - 48)then cdl (0+2^(48+d - 48)) (D.map (48 + ·))else none)=_;rw[show 48+d - 48=d by omega,if_pos ⟨by omega,by omega,Nat.pow_pos (by decide)⟩,ih];show some (0+2^d+sm D)=some (2^d+sm D)
  congr 1
  omega
theorem q7j:∀(x:List Nat) (d:Int) (i:Nat) (v:Int),splO d i x=some v->0<=v->∃j,v=((i+j:Nat):Int)/\x=x.take j++44::x.drop (j+1)
 | [],d,i,v,h,_=>by cases h
 | c::x,d,i,v,h,h0=>by
  unfold splO at h;split at h
  ·cases h;omega
  ·split at h
   ·rename_i hc;cases h;exact⟨0,by rw[Nat.add_zero],by rw[hc.1];rfl⟩
   ·obtain⟨j,e1,e2⟩:=q7j x _ _ v h h0;refine⟨j+1,by rw[e1];congr 1;omega,?_⟩;show c::x=c::(x.take j++44::x.drop (j+1));rw[←e2]
theorem q7h:∀(D:List Nat) (d:Int) (i:Nat) (r:List Nat),(∀x∈D,x<10)->0<=d->splO d i (D.map (48 + ·)++r)=splO d (i+D.length) r
 | [],d,i,r,_,_=>by rfl
 | x::D,d,i,r,h,h0=>by
  have hx:=h x (List.mem_cons_self ..);have hd:dep d (48+x)=d:=by unfold dep;rw[if_neg (by omega),if_neg (by omega)]
  show(if dep d (48+x)<0 then some (-1)else if 48+x=44/\dep d (48+x)=0 then some (i:Int)else splO (dep d (48+x)) (i+1) (D.map (48 + ·)++r))=_;rw[hd,if_neg (by omega),if_neg (by omega),q7h D d (i+1) r (λy hy=>h y (List.mem_cons_of_mem _ hy)) h0,List.length_cons]
  congr 1
  omega
theorem q5L:∀(D:List Nat) (t:Nat),rise t D=true->∀x∈D,x<10
 | [],_,_,x,hx=>(nomatch hx)
 | d::D,t,h,x,hx=>by
  unfold rise at h;simp only[Bool.and_eq_true,decide_eq_true_eq]at h;rcases List.mem_cons.mp hx with z | z
  ·rw[z];exact h.1.2
  ·exact q5L D d h.2 x z
theorem z6t{D:List Nat}(h:Ris D=true):∀x∈D,x<10:=by
 cases D with
 | nil=>cases h
 | cons d D=>
  have h:(decide (d<10)&&rise d D)=true:=h;simp only[Bool.and_eq_true,decide_eq_true_eq]at h;intro x hx;rcases List.mem_cons.mp hx with z | z
  ·rw[z];exact h.1
  ·exact q5L D d h.2 x z
theorem z0d:∀(p:Pt) (d:Int) (i:Nat) (r:List Nat),Vd p->0<=d->splO d i (tt p++r)=splO d (i+(tt p).length) r
 | .fin n,d,i,r,h,h0=>by have h:n<10:=h;exact q7h [n] d i r (λx hx=>by rw[List.mem_singleton.mp hx];exact h) h0
 | .ask s D a b,d,i,r,⟨h1,h2,h3⟩,h0=>by
  have e:tt (.ask s D a b)++r=(if s then 114 else 99)::(D.map (48 + ·)++(40::(tt a++(44::(tt b++(41::r)))))):=by show((if s then 114 else 99)::(D.map (48 + ·)++(40::(tt a++(44::(tt b++[41]))))))++r=_;simp
  have el:(tt (.ask s D a b)).length=1+D.length+1+(tt a).length+1+(tt b).length+1:=by show((if s then 114 else 99)::(D.map (48 + ·)++(40::(tt a++(44::(tt b++[41])))))).length=_;simp only[List.length_cons,List.length_append,List.length_map,List.length_nil];omega
  rw[e];have d1:dep d (if s then 114 else 99)=d:=by cases s<;>rfl
  show(if dep d (if s then 114 else 99)<0 then some (-1)else if(if s=true then 114 else 99)=44/\dep d (if s then 114 else 99)=0 then some (i:Int)else splO (dep d (if s then 114 else 99)) (i+1) _)=_;rw[d1,if_neg (by omega),if_neg (by cases s<;>simp),q7h D d _ _ (z6t h1) h0];show(if dep d 40<0 then some (-1)else if 40=44/\dep d 40=0 then some _ else splO (dep d 40) (i+1+D.length+1) _)=_;rw[show dep d 40=d+1 from rfl,if_neg (by omega),if_neg (by omega),z0d a (d+1) _ _ h2 (by omega)];show(if dep (d+1) 44<0 then some (-1)else if 44=44/\dep (d+1) 44=0 then some _ else splO (dep (d+1) 44) (i+1+D.length+1+(tt a).length+1) _)=_;rw[show dep (d+1) 44=d+1 from rfl,if_neg (by omega),if_neg (by omega),z0d b (d+1) _ _ h3 (by omega)];show(if dep (d+1) 41<0 then some (-1)else if 41=44/\dep (d+1) 41=0 then some _ else splO (dep (d+1) 41) (i+1+D.length+1+(tt a).length+1+(tt b).length+1) r)=_;rw[show dep (d+1) 41=d by show d+1 - 1=d;omega,if_neg (by omega),if_neg (by omega),el]
  congr 1
  omega
end k84
end
noncomputable section
namespace k84
open PySem L2
variable {fu k:Nat} {F:Nat->List DV->Option Ou} {δ:List Sv} {ds:List DV} {cl:Cl}
theorem q8J:∀(p:List Nat) (r:List Nat),(∀x∈p,x≠40)->(p++40::r).idxOf 40=p.length
 | [],r,_=>by simp
 | x::p,r,h=>by have hx:=h x (List.mem_cons_self ..);rw[List.cons_append,List.idxOf_cons,beq_eq_false_iff_ne.mpr hx,cond_false,q8J p r (λy hy=>h y (List.mem_cons_of_mem _ hy)),List.length_cons]
theorem q7X:∀(l:List Nat),∀x∈l.take (l.idxOf 40),x≠40
 | [],x,hx=>by simp at hx
 | y::l,x,hx=>by
  by_cases z:y=40
  ·rw[List.idxOf_cons,beq_iff_eq.mpr z,cond_true,List.take_zero]at hx;cases hx
  ·rw[List.idxOf_cons,beq_eq_false_iff_ne.mpr z,cond_false,List.take_succ_cons]at hx;rcases List.mem_cons.mp hx with w | w
   ·rw[w];exact z
   ·exact q7X l x w
theorem z1P{l:List Nat}(h:at40 l<l.length):l=l.take (at40 l)++40::l.drop (at40 l+1)/\∀x∈l.take (at40 l),x≠40:=by
 have h40:l[at40 l]=40:=List.getElem_idxOf h
 refine⟨?_,λx hx z=>?_⟩
 ·conv=>lhs;rw[←List.take_append_drop (at40 l) l]
  rw[List.drop_eq_getElem_cons h,h40]
 ·exact q7X l x hx z
theorem z5S{c:Nat}{r:List Nat}(h:hdO (c::r)=true):(c=114\/c=99)/\csO (c::r)≠[]/\c::r=c::(csO (c::r)++40::(inn (c::r)++[41])):=by
 have h:((decide (c=114)||decide (c=99))&&(decide (2<=at40 (c::r))&&decide (at40 (c::r)<(c::r).length))&&decide ((c::r).getLast? = some 41))=true:=h
 simp only[Bool.and_eq_true,Bool.or_eq_true,decide_eq_true_eq]at h
 obtain⟨⟨h1,h2,h3⟩,h4⟩:=h
 obtain⟨s1,_⟩:=z1P h3
 generalize hl:c::r=l at *
 have t1:l.take (at40 l)=c::csO l:=by
  unfold csO
  rw[←hl]at h2 ⊢
  obtain⟨m,hm⟩:∃m,at40 (c::r)=m+1:=⟨at40 (c::r) - 1,by omega⟩
  rw[hm]
  rfl
 have ln:(csO l).length=at40 l - 1:=by
  unfold csO
  rw[List.length_take,List.length_drop]
  omega
 have rne:l.drop (at40 l+1)≠[]:=λz=>by
  rw[z,t1]at s1
  rw[s1]at h4
  rw[List.getLast?_append]at h4
  simp at h4
 have rl:l.drop (at40 l+1)=inn l++[41]:=by
  have e1:=List.dropLast_concat_getLast rne
  have e2:(l.drop (at40 l+1)).getLast rne=41:=by
   have:l.getLast? = (l.drop (at40 l+1)).getLast?:=by
    conv=>lhs;rw[s1]
    rw[List.getLast?_append]
    cases hq:l.drop (at40 l+1)with
    | nil=>exact absurd hq rne
    | cons a b=>simp only[List.getLast?_cons,Option.some_or,List.getLast?_cons_cons];rfl
   rw[this,List.getLast?_eq_some_getLast rne]at h4
   exact Option.some.inj h4
  rw[e2]at e1
  rw[←e1]
  congr 1
  unfold inn
  rw[List.dropLast_eq_take,List.length_drop]
  congr 1
  omega
 refine⟨h1,λz=>?_,?_⟩
 ·rw[z]at ln
  simp at ln
  omega
 ·conv=>lhs;rw[s1]
  rw[t1,rl]
  rfl
theorem z0t:∀(n:Nat) (l:List Nat) (p:Pt),due n l=some p->l=tt p/\Vd p/\E8 p
 | 0,l,p,h=>by cases h
 | n+1,[],p,h=>by cases h
 | n+1,c::r,p,h=>by
  unfold due at h
  dsimp only at h
  split at h
  ·rename_i hd
   cases h
   obtain⟨rfl,hd⟩:=hd
   obtain⟨g1,g2⟩:=q3S hd
   exact⟨by show _=[48+(c - 48)];rw[show 48+(c - 48)=c by omega],show c - 48<10 by omega,trivial⟩
  ·split at h
   ·rename_i hh
    obtain⟨p1,p2,p3⟩:=z5S hh
    obtain⟨v,e1,h⟩:=Option.bind_eq_some_iff.mp h
    split at h
    ·cases h
    ·rename_i hv
     obtain⟨a,e2,h⟩:=Option.bind_eq_some_iff.mp h
     obtain⟨b,e3,h⟩:=Option.map_eq_some_iff.mp h
     cases h
     obtain⟨q1,q2,q3,_⟩:=q9P p2 e1
     obtain⟨a1,a2,a3⟩:=z0t n _ _ e2
     obtain⟨b1,b2,b3⟩:=z0t n _ _ e3
     refine⟨?_,⟨q1,a2,b2⟩,q2,a3,b3⟩
     have hs:(if(decide (c=114))=true then 114 else 99)=c:=by
      rcases p1 with z | z
      ·rw[z];rfl
      ·rw[z];rfl
     show c::r=(if(decide (c=114))=true then 114 else 99)::(((csO (c::r)).map (· - 48)).map (48 + ·)++(40::(tt a++(44::(tt b++[41])))))
     rw[hs,q3,←a1,←b1]
     conv=>lhs;rw[p3]
     congr 3
     cases hq:splO 0 0 (inn (c::r))with
     | none=>
      exact absurd (show splV (inn (c::r))<0 by unfold splV;rw[hq];decide) hv
     | some w=>
      have ew:splV (inn (c::r))=w:=by unfold splV;rw[hq];rfl
      obtain⟨j,j1,j2⟩:=q7j _ _ _ _ hq (by rw[ew]at hv;omega)
      rw[Nat.zero_add]at j1
      rw[ew,j1,Int.toNat_natCast]
      conv=>lhs;rw[j2]
      simp
   ·cases h
theorem z1h:∀(p:Pt) (n:Nat),Vd p->E8 p->hp p<n->due n (tt p)=some p
 | .fin m,n+1,hv,_,_=>by
  show(if([]:List Nat)=[]/\dig (48+m)=true then some (Pt.fin (48+m - 48))else _)=_
  rw[if_pos ⟨rfl,z1z hv⟩,show 48+m - 48=m by omega]
 | .ask s D a b,n+1,⟨h1,h2,h3⟩,⟨g1,g2,g3⟩,hn=>by
  have hn':max (hp a) (hp b)+1<n+1:=hn
  have A:=z1h a n h2 g2 (by omega)
  have B:=z1h b n h3 g3 (by omega)
  let sd:Nat:=if s then 114 else 99
  let r:List Nat:=D.map (48 + ·)++(40::(tt a++(44::(tt b++[41]))))
  have el:tt (.ask s D a b)=sd::r:=rfl
  have a40:at40 (sd::r)=1+D.length:=by
   have:=q8J (sd::D.map (48 + ·)) (tt a++(44::(tt b++[41]))) (λx hx=>by
    rcases List.mem_cons.mp hx with z | z
    ·rw[z];show(if s then 114 else 99)≠40;cases s<;>decide
    ·obtain⟨y,hy,z⟩:=List.mem_map.mp z
     rw[←z];show 48+y≠40;omega)
   rw[List.length_cons,List.length_map]at this
   unfold at40
   show(sd::(D.map (48 + ·)++(40::(tt a++(44::(tt b++[41])))))).idxOf 40=_
   rw[←List.cons_append,this]
   omega
  have dl:1<=D.length:=by
   cases D with
   | nil=>cases h1
   | cons _ _=>rw[List.length_cons];omega
  have ll:(sd::r).length=1+D.length+1+((tt a).length+1+(tt b).length)+1:=by
   show(sd::(D.map (48 + ·)++(40::(tt a++(44::(tt b++[41])))))).length=_
   simp only[List.length_cons,List.length_append,List.length_map,List.length_nil]
   omega
  have cs1:csO (sd::r)=D.map (48 + ·):=by
   unfold csO
   rw[a40]
   show(D.map (48 + ·)++(40::(tt a++(44::(tt b++[41]))))).take (1+D.length - 1)=_
   rw[show 1+D.length - 1=(D.map (48 + ·)).length by rw[List.length_map];omega,List.take_left]
  have in1:inn (sd::r)=tt a++(44::tt b):=by
   unfold inn
   rw[a40,ll]
   have e1:(sd::r).drop (1+D.length+1)=(tt a++(44::tt b))++[41]:=by
    show(sd::(D.map (48 + ·)++(40::(tt a++(44::(tt b++[41])))))).drop (1+D.length+1)=_
    rw[show sd::(D.map (48 + ·)++(40::(tt a++(44::(tt b++[41])))))=(sd::D.map (48 + ·)++[40])++(tt a++(44::(tt b++[41]))) by simp,show 1+D.length+1=(sd::D.map (48 + ·)++[40]).length by simp;omega,List.drop_left]
    simp
   rw[e1,show 1+D.length+1+((tt a).length+1+(tt b).length)+1 - 1 - (1+D.length+1)=(tt a++(44::tt b)).length by simp;omega,List.take_left]
  have gl:(sd::r).getLast? = some 41:=by
   show(sd::(D.map (48 + ·)++(40::(tt a++(44::(tt b++[41])))))).getLast? = _
   rw[show sd::(D.map (48 + ·)++(40::(tt a++(44::(tt b++[41])))))=(sd::(D.map (48 + ·)++(40::(tt a++(44::tt b)))))++[41] by simp,List.getLast?_concat]
  have hd:hdO (sd::r)=true:=by
   show((decide (sd=114)||decide (sd=99))&&(decide (2<=at40 (sd::r))&&decide (at40 (sd::r)<(sd::r).length))&&decide ((sd::r).getLast? = some 41))=true
   rw[gl,a40,ll,decide_eq_true (p:=2<=1+D.length) (by omega),decide_eq_true (p:=1+D.length<_) (by omega),decide_eq_true (p:=some 41=some 41) rfl]
   show((decide ((if s then 114 else 99)=114)||decide ((if s then 114 else 99)=99))&&(true&&true)&&true)=true
   cases s<;>rfl
  have sv:splV (tt a++(44::tt b))=((tt a).length:Int):=by
   unfold splV
   rw[z0d a 0 0 _ h2 (by omega)]
   show(if dep 0 44<0 then some (-1)else if 44=44/\dep 0 44=0 then some ((0+(tt a).length:Nat):Int)else _).getD (-1)=_
   rw[if_neg (by decide),if_pos (by decide),Nat.zero_add]
   rfl
  rw[el]
  show(if r=[]/\dig sd=true then some (Pt.fin (sd - 48))else if hdO (sd::r)then
    (cdl 0 (csO (sd::r))).bind λ_=>if splV (inn (sd::r))<0 then none else
     (due n ((inn (sd::r)).take (splV (inn (sd::r))).toNat)).bind λa=>(due n ((inn (sd::r)).drop ((splV (inn (sd::r))).toNat+1))).map λb=>Pt.ask (decide (sd=114)) ((csO (sd::r)).map (· - 48)) a b
   else none)=_
  rw[if_neg (by intro z;have z1:D.map (48 + ·)++(40::(tt a++(44::(tt b++[41]))))=[]:=z.1;simp at z1),if_pos hd,cs1,in1,sv,z6q h1 g1]
  have hm:(D.map (48 + ·)).map (· - 48)=D:=by
   rw[List.map_map]
   conv=>rhs;rw[←List.map_id D]
   apply List.map_congr_left
   intro x _
   show 48+x - 48=x
   omega
  have hs:decide (sd=114)=s:=by show decide ((if s then 114 else 99)=114)=s;cases s<;>rfl
  simp only[Option.bind_some]
  rw[if_neg (by omega),Int.toNat_natCast,List.take_left,A,show(tt a++(44::tt b)).drop ((tt a).length+1)=tt b by rw[←List.drop_drop,List.drop_left];rfl,B,hm,hs]
  rfl
end k84
end
noncomputable section
namespace k84
open PySem L2
variable {fu k:Nat} {F:Nat->List DV->Option Ou} {δ:List Sv} {ds:List DV} {cl:Cl}
def dO:Option Pt->DV
 | some p=>dv (pl p)
 | none=>.non
theorem z5R{a b:ME}{ca cb:Cl}{l:List Nat}{c:Nat}(ha:evE G F a δ=some (.ok (.str (stx [c])) ca))(hb:evE G F b δ=some (.ok (.str (stx l)) cb)):evE G F (.cmp .NotIn a b) δ=some (.ok (.bl (!decide (c∈l))) .strong):=
 q1o ha hb (by
  show(inS (stx l) (stx [c])).map (λb=>!b)=_;unfold inS;rw[q2y,q2y];rfl)
theorem z0a{e:ME}{c:Nat}{cx:Cl}(h1:48<=c)(h2:c<=57)(h:evE G F e δ=some (.ok (.str (stx [c])) cx)):evE G F (.bi .int [e]) δ=some (.ok (.int ((c - 48:Nat):Int)) .strong):=by
 show Rs.thn (evEs G F [e] δ) (λl=>intD l)=_;rw[q0a h q0e];show(dnum (stx [c])).map (λn=>Re.ok (.int n) .strong)=_;unfold dnum;rw[q2y];dsimp only;rw[if_pos ⟨h1,h2⟩];rfl
abbrev Sd(l:List Nat)(f:Int)(acc:Nat)(z:Sv):List Sv:=[.val (.str (stx l)),.val (.int f),.val (.int (acc:Int)),z,.no,.no,.no,.no]
def dcB:List MS:=[.iff (.or [.cmp .NotIn (.var 3) (.str "01234567"),.cmp .LtE (.ix (.lst [.int 1,.int 2,.int 4,.int 8,.int 16,.int 32,.int 64,.int 128]) (.bi .int [.var 3])) (.var 2)]) [.ret (.non)] [],.set 2 false (.bin .Add (.var 2) (.ix (.lst [.int 1,.int 2,.int 4,.int 8,.int 16,.int 32,.int 64,.int 128]) (.bi .int [.var 3])))]
theorem z7W:("01234567" : Str)=stx [48,49,50,51,52,53,54,55]:=by decide +kernel
theorem z5J(c:Nat):decide (c∈[48,49,50,51,52,53,54,55])=decide (48<=c/\c<=55):=by
 rw[decide_eq_decide];simp only[List.mem_cons,List.not_mem_nil,or_false];omega
theorem z6m{l:List Nat}{f:Int}:∀(x:List Nat) (acc:Nat) (z:Sv),(match cdl acc x with
  | some v=>∃z',q1m (.one 3) (λδ'=>evSs G F fu dcB δ') (x.map λc=>DV.str ⟨#[c]⟩) (Sd l f acc z)=some (.nx (Sd l f v z'))
  | none=>q1m (.one 3) (λδ'=>evSs G F fu dcB δ') (x.map λc=>DV.str ⟨#[c]⟩) (Sd l f acc z)=some (.rt .non false))
 | [],acc,z=>⟨z,rfl⟩
 | c::x,acc,z=>by
  let S:=Sd l f acc (.val (.str (stx [c])))
  have hb:(Tg.one 3).bind (.str ⟨#[c]⟩) (Sd l f acc z)=some S:=rfl;have v3:evE G F (.var 3) S=some (.ok (.str (stx [c])) .strong):=q0b rfl;have n1:=z5R v3 (b:=.str "01234567") (l:=[48,49,50,51,52,53,54,55]) (cb:=.strong) (by rw[←z7W];rfl);rw[z5J]at n1;have bad:evSs G F fu dcB S=some (.rt .non false)->q1m (.one 3) (λδ'=>evSs G F fu dcB δ') ((c::x).map λc=>DV.str ⟨#[c]⟩) (Sd l f acc z)=some (.rt .non false):=λe=>by show(match(Tg.one 3).bind (.str ⟨#[c]⟩) (Sd l f acc z)with | none=>none | some δ1=>(match evSs G F fu dcB δ1 with | some (.nx δ2)=>q1m (.one 3) (λδ'=>evSs G F fu dcB δ') (x.map λc=>DV.str ⟨#[c]⟩) δ2 | o=>o))=_;rw[hb];dsimp only;rw[e]
  by_cases w:48<=c/\c<=55
  ·rw[decide_eq_true w]at n1;have px:=q0B (cx:=.fresh) (z2p (F:=F) (δ:=S)) (z0a w.1 (by omega) v3) (z2j (c - 48) (by omega));have le:=q1o (op:=.LtE) px (q0b (n:=2) (d:=.int (acc:Int)) rfl) (t:=decide (((2^(c - 48):Nat):Int)<=(acc:Int))) rfl;by_cases y:acc<2^(c - 48)
   ·rw[decide_eq_false (by omega)]at le;have q:cdl acc (c::x)=cdl (acc+2^(c - 48)) x:=if_pos ⟨w.1,w.2,y⟩;rw[q];have st:evSs G F fu dcB S=some (.nx (Sd l f (acc+2^(c - 48)) (.val (.str (stx [c]))))):=by
     unfold dcB;have e2:=q3R (q0b (G:=G) (F:=F) (n:=2) (d:=.int (acc:Int)) (δ:=S) rfl) px;rw[show(acc:Int)+((2^(c - 48):Nat):Int)=((acc+2^(c - 48):Nat):Int) by push_cast;rfl]at e2;exact q0k (q0f (or_f n1 (or_1 le))) (q0p (q0q (i:=2) e2 rfl) rfl)
    have e:=q5U (tg:=.one 3) (body:=λδ'=>evSs G F fu dcB δ') (r:=x.map λc=>DV.str ⟨#[c]⟩) hb st;have ih:=z6m (l:=l) (f:=f) x (acc+2^(c - 48)) (.val (.str (stx [c])));rw[List.map_cons,e];exact ih
   ·rw[decide_eq_true (by omega)]at le;have q:cdl acc (c::x)=none:=if_neg (λz=>y z.2.2);rw[q];exact bad (by unfold dcB;exact q1i (q0f (or_f n1 (or_1 le))) (q0H rfl))
  ·rw[decide_eq_false w]at n1;have q:cdl acc (c::x)=none:=if_neg (λz=>w ⟨z.1,z.2.1⟩);rw[q];exact bad (by unfold dcB;exact q1i (q0f (or_t n1)) (q0H rfl))
theorem rc_s:("rc" : Str)=stx [114,99]:=by decide +kernel
theorem z8g(c:Nat):decide (c∈[114,99])=(decide (c=114)||decide (c=99)):=by
 rw[←Bool.decide_or,decide_eq_decide];simp only[List.mem_cons,List.not_mem_nil,or_false]
theorem z4j{l:List Nat}{c:Nat}(h:l.getLast? = some c):ixD (.str (stx l)) (.int (-1))=some (.str (stx [c])):=by
 have hl:l≠[]:=λz=>by rw[z]at h;cases h
 have h0:0<l.length:=List.length_pos_iff.mpr hl;show((q3G (stx l).cps.size (-1)).bind λj=>((stx l).cps[j]?).map λc=>DV.str ⟨#[c]⟩)=_;rw[show(stx l).cps.size=l.length from List.size_toArray ..];have:q3G l.length (-1)=some (l.length - 1):=by
  unfold q3G;rw[if_neg (by decide),if_pos (by omega)]
  congr 1
  omega
 rw[this];show((stx l).cps[l.length - 1]?).map _=_;rw[show(stx l).cps[l.length - 1]? = l[l.length - 1]? from List.getElem?_toArray ..,←List.getLast?_eq_getElem?,h];rfl
theorem q7y{l:List Nat}{i j:Nat}:cutS (stx l) i j=stx ((l.drop i).take (j - i)):=by
 unfold cutS;rw[q2y];rfl
theorem z2J{a hi:ME}{l:List Nat}{j:Nat}{c1 c2:Cl}(ha:evE G F a δ=some (.ok (.str (stx l)) c1))(hh:evE G F hi δ=some (.ok (.int (j:Int)) c2))(hj:j<=l.length):evE G F (.stt a hi) δ=some (.ok (.str (stx (l.take j))) .strong):=by
 unfold evE;rw[ha,q0Z,hh,q0Z];show((if 0<=(j:Int)/\(j:Int)<=((stx l).length:Int)then some (DV.str (cutS (stx l) 0 (j:Int).toNat))else none).map _)=_;rw[q3d,if_pos ⟨by omega,by omega⟩,Int.toNat_natCast,q7y];rfl
theorem z0J{a hi:ME}{l:List Nat}{j:Nat}{c1 c2:Cl}(ha:evE G F a δ=some (.ok (.str (stx l)) c1))(hh:evE G F hi δ=some (.ok (.int (j:Int)) c2))(hj:j<=l.length):evE G F (.stf a hi) δ=some (.ok (.str (stx (l.drop j))) .strong):=by
 unfold evE;rw[ha,q0Z,hh,q0Z];show((if 0<=(j:Int)/\(j:Int)<=((stx l).length:Int)then some (DV.str (cutS (stx l) (j:Int).toNat (stx l).length))else none).map _)=_;rw[q3d,if_pos ⟨by omega,by omega⟩,Int.toNat_natCast,q7y,List.take_of_length_le (by rw[List.length_drop];exact Nat.le_refl _)];rfl
theorem z5d{l:List Nat}{a:ME}{c1:Cl}(ha:evE G F a δ=some (.ok (.str (stx l)) c1)):evE G F (.fnd a (.str "(")) δ=some (.ok (.int (q3x 40 l)) .strong):=by
 unfold evE;rw[ha,q0Z,if_pos (show strB (DV.str (stx l))=true from rfl)];show((fndD (.str (stx l)) (.str "(")).map λd=>Re.ok d .strong)=_;rw[show("(" : Str)=stx [40] by decide +kernel];unfold fndD;dsimp only;rw[q2y];dsimp only;rw[q2y];rfl
end k84
end
noncomputable section
namespace k84
open PySem L2
variable {fu k:Nat} {F:Nat->List DV->Option Ou} {δ:List Sv} {ds:List DV} {cl:Cl}
theorem q8O:evE G F (.neg (.int 1)) δ=some (.ok (.int (-1)) .strong):=rfl
theorem z2W(x:List Nat):seqD (.str (stx x))=some (x.map λc=>DV.str ⟨#[c]⟩):=by
 show some ((stx x).cps.toList.map λc=>DV.str ⟨#[c]⟩)=_;rw[q2y]
theorem z4d:∀c,c=114\/c=99->ixD (.lst [.str "row",.str "column"]) (.int (q3x c [114,99]))=some (side (decide (c=114))):=by
 rintro c (rfl | rfl)<;>rfl
theorem z5e{c:Nat}{e:ME}{c1:Cl}(h:evE G F e δ=some (.ok (.str (stx [c])) c1)):evE G F (.fnd (.str "rc") e) δ=some (.ok (.int (q3x c [114,99])) .strong):=by
 unfold evE;rw[q0r,q0Z,if_pos (show strB (DV.str "rc")=true from rfl),h,q0Z];show((fndD (.str "rc") (.str (stx [c]))).map λd=>Re.ok d .strong)=_;rw[rc_s];unfold fndD;dsimp only;rw[q2y];dsimp only;rw[q2y];rfl
theorem z4b{l:List Nat}:(inn l).length<=l.length/\∀c∈inn l,c∈l:=by
 unfold inn;refine⟨?_,λc hc=>List.mem_of_mem_drop (List.mem_of_mem_take hc)⟩;rw[List.length_take,List.length_drop];omega
abbrev S8(l:List Nat)(f:Int)(a:Sv)(z i c n y:Sv):List Sv:=[.val (.str (stx l)),.val (.int f),a,z,i,c,n,y]
theorem z0Z:∀(n k:Nat) (l:List Nat),Sgn l->l.length<=1000->l.count 40<n->n+2<=k->run G T fu k 14 [.str (stx l)]=some (.v (dO (due n l)) false)
 | 0,k,l,_,_,h,_=>by omega
 | n+1,k+1,l,hs,hl,hn,hk=>by
  rw[q0x (fd:=q1I) rfl rfl];unfold q1I
  let S0:List Sv:=q0l 8 [.str (stx l)]
  have v0:∀{f:Int} {a z i c n y:Sv},evE G (run G T fu k) (.var 0) (S8 l f a z i c n y)=some (.ok (.str (stx l)) .strong):=q0b rfl;have w0:evE G (run G T fu k) (.var 0) S0=some (.ok (.str (stx l)) .strong):=q0b rfl;have t1:evE G (run G T fu k) (.not (.isi (.var 0) ["str"])) S0=some (.ok (.bl false) .strong):=rfl;have s0:Sgn []:=λc hc=>(nomatch hc);have t2:=eqS (G:=G) hs s0 w0 (b:=.str "") (cb:=.strong) rfl;have t3:=b_eq (q4I (G:=G) w0) (q0d (i:=1));rw[q3d]at t3;cases l with
  | nil=>
   rw[decide_eq_true rfl]at t2;exact q0N (q1i (q0f (or_f t1 (or_1 t2))) (q0H rfl))
  | cons c r=>
   rw[decide_eq_false (by intro z;cases z)]at t2;by_cases h1:r=[]/\dig c=true
   ·obtain⟨rfl,hd⟩:=h1;obtain⟨g1,g2⟩:=q3S hd;have q:due (n+1) [c]=some (.fin (c - 48)):=if_pos ⟨rfl,hd⟩;rw[q];have t4:=inS1 (G:=G) w0 (b:=.str "0123456789") (l:=[48,49,50,51,52,53,54,55,56,57]) (cb:=.strong) (by rw[←q9G];rfl);rw[decide_eq_true (by simp only[List.mem_cons,List.not_mem_nil,or_false];omega)]at t4;have e:=q5p (q0a (q0r (G:=G) (F:=run G T fu k) (δ:=S0) (x:="end")) (q0a (z0a g1 g2 w0) q0e)) (show 2<=mostLen by decide) rfl;exact q0N (q0k (q0f (or_f t1 (or_1 t2))) (q1i (q0f (q2a t3 (q3D t4))) (q0H (q0J e))))
   ·have t5:evE G (run G T fu k) (.and [.cmp .Eq (.bi .len [.var 0]) (.int 1),.cmp .In (.var 0) (.str "0123456789")]) S0=some (.ok (.bl false) .strong):=by
     by_cases z:r=[]
     ·subst z;have hd:¬dig c=true:=λw=>h1 ⟨rfl,w⟩
      have t4:=inS1 (G:=G) w0 (b:=.str "0123456789") (l:=[48,49,50,51,52,53,54,55,56,57]) (cb:=.strong) (by rw[←q9G];rfl);rw[decide_eq_false (p:=c∈_) (λw=>hd (by
       simp only[List.mem_cons,List.not_mem_nil,or_false]at w;unfold dig;rw[decide_eq_true (by omega),decide_eq_true (by omega)];rfl))]at t4
      exact q2a t3 (q3D t4)
     ·rw[beq_eq_false_iff_ne.mpr (by rw[List.length_cons];have:=List.length_pos_iff.mpr z;omega)]at t3;exact q4X t3
    let l:=c::r
    have hl2:l.length<=1000:=hl;have hn2:l.count 40<n+1:=hn
    let f:Int:=q3x 40 l
    have e1:=z5d (F:=run G T fu k) (δ:=S0) w0
    let S1:List Sv:=S8 l f .no .no .no .no .no .no
    have i0:evE G (run G T fu k) (.ix (.var 0) (.int 0)) S1=some (.ok (.str (stx [c])) .strong):=q0B v0 (q0d (i:=0)) (q7Z (i:=0) rfl);have o1:=z5R i0 (b:=.str "rc") (l:=[114,99]) (cb:=.strong) (by rw[←rc_s];rfl);rw[z8g]at o1;have o2:=b_lt (q0b (G:=G) (F:=run G T fu k) (n:=1) (d:=.int f) (δ:=S1) rfl) (q0d (i:=2));have hf:(f<2)↔¬(2<=at40 l/\at40 l<l.length):=(by show q3x 40 l<2↔_;unfold q3x at40;split<;>omega);obtain⟨g,hg⟩:∃g,l.getLast? = some g:=⟨_,List.getLast?_eq_some_getLast (List.cons_ne_nil c r)⟩;have hgs:Sgn [g]:=λx hx=>by rw[List.mem_singleton.mp hx];exact hs g (List.mem_of_getLast? hg)
    have o3:=neS (G:=G) hgs (q:=[41]) (λx hx=>by rw[List.mem_singleton.mp hx];decide) (q0B (cx:=.strong) (v0 (f:=f) (a:=.no) (z:=.no) (i:=.no) (c:=.no) (n:=.no) (y:=.no)) q8O (z4j hg)) (b:=.str ")") (cb:=.strong) (by rw[show(")" : Str)=stx [41] by decide +kernel];rfl);have hor:evE G (run G T fu k) (.or [.cmp .NotIn (.ix (.var 0) (.int 0)) (.str "rc"),.cmp .Lt (.var 1) (.int 2),.cmp .NotEq (.ix (.var 0) (.neg (.int 1))) (.str ")")]) S1=some (.ok (.bl (!hdO l)) .strong):=by
     show _=some (Re.ok (.bl (!((decide (c=114)||decide (c=99))&&(decide (2<=at40 l)&&decide (at40 l<l.length))&&decide (l.getLast? = some 41)))) .strong);cases hx:(decide (c=114)||decide (c=99))with
     | false=>rw[hx]at o1;exact or_t o1
     | true=>
      rw[hx]at o1;refine or_f o1 ?_;by_cases y:2<=at40 l/\at40 l<l.length
      ·rw[decide_eq_false (λz=>hf.mp z y)]at o2;rw[decide_eq_true y.1,decide_eq_true y.2];refine or_f o2 (or_1 ?_);rw[hg];refine o3.trans ?_
       congr 3
       by_cases w:g=41
       ·rw[decide_eq_true (show[g]=[41] by rw[w]),decide_eq_true (show some g=some 41 by rw[w])];rfl
       ·rw[decide_eq_false (show ¬[g]=[41] by intro z;exact w (List.cons.inj z).1),decide_eq_false (show ¬some g=some 41 by intro z;exact w (Option.some.inj z))];rfl
      ·rw[decide_eq_true (hf.mpr y)]at o2;have:(decide (2<=at40 l)&&decide (at40 l<l.length))=false:=(by rw[←Bool.decide_and];exact decide_eq_false y);rw[this];exact or_t o2
    have pre:=λ(rs:List MS) (o:Option Out) (q:evSs G (run G T fu k) fu (.iff (.or [.cmp .NotIn (.ix (.var 0) (.int 0)) (.str "rc"),.cmp .Lt (.var 1) (.int 2),.cmp .NotEq (.ix (.var 0) (.neg (.int 1))) (.str ")")]) [.ret (.non)] []::rs) S1=o)=>q0k (a:=[.ret (.non)]) (q0f (or_f t1 (or_1 t2))) (q0k (a:=[.ret (.tup [.str "end",.bi .int [.var 0]])]) (q0f t5) (q0p (q0q (i:=1) e1 rfl) q));have dq:due (n+1) l=if hdO l then(cdl 0 (csO l)).bind λ_=>if splV (inn l)<0 then none else(due n ((inn l).take (splV (inn l)).toNat)).bind λa=>(due n ((inn l).drop ((splV (inn l)).toNat+1))).map λb=>Pt.ask (decide (c=114)) ((csO l).map (· - 48)) a b else none:=if_neg h1
    cases hh:hdO l with
    | false=>
     rw[hh]at hor;rw[show due (n+1) (c::r)=none from by rw[dq,hh];rfl];exact q0N (pre _ _ (q1i (q0f hor) (q0H rfl)))
    | true=>
     rw[hh]at hor;obtain⟨p1,p2,p3⟩:=z5S hh;have h3:((decide (c=114)||decide (c=99))&&(decide (2<=at40 l)&&decide (at40 l<l.length))&&decide (l.getLast? = some 41))=true:=hh;simp only[Bool.and_eq_true,decide_eq_true_eq]at h3;obtain⟨⟨_,h2,h3⟩,_⟩:=h3;have fa:f=(at40 l:Int):=by show q3x 40 l=_;unfold q3x;exact if_pos h3
     have ln:(csO l).length=at40 l - 1:=(by unfold csO;rw[List.length_take,List.length_drop];omega);have lm:l.length=1+(csO l).length+1+(inn l).length+1:=(by have:=congrArg List.length p3;simp only[List.length_cons,List.length_append,List.length_nil]at this;show(c::r).length=1+(csO (c::r)).length+1+(inn (c::r)).length+1;rw[List.length_cons];omega)
     let S2:List Sv:=Sd l f 0 .no
     have wk:q2R (evE G (run G T fu k) (.stm (.var 0) (.int 1) (.var 1)) S2)=some (.ok ((csO l).map λc=>DV.str ⟨#[c]⟩) .strong):=(by have e:=L2.ev_stm (G:=G) (F:=run G T fu k) (δ:=S2) (n:=1) (q0b (n:=0) (d:=.str (stx l)) rfl) (q0d (i:=1)) (q0b (n:=1) (d:=.int f) rfl) (by rw[q3d,fa];unfold q1l;split<;>omega);rw[q3d,fa,show(q1l l.length (at40 l:Int)).toNat=at40 l by unfold q1l;split<;>omega,q7y]at e;rw[e];show z3G (.str (stx ((l.drop 1).take (at40 l - 1)))) .strong=_;unfold z3G;rw[z2W];rfl);have dg:=z6m (F:=run G T fu k) (fu:=fu) (l:=l) (f:=f) (csO l) 0 .no;have pr2:=λ(rs:List MS) (o:Option Out) (q:evSs G (run G T fu k) fu (.fo (.one 3) (.stm (.var 0) (.int 1) (.var 1)) dcB::rs) S2=o)=>pre (.set 2 false (.int 0) :: .fo (.one 3) (.stm (.var 0) (.int 1) (.var 1)) dcB::rs) o (q0k (q0f hor) (q0p (q0q (i:=2) (d:=.int 0) (cl:=.strong) rfl rfl) q));have dq2:due (n+1) (c::r)=(cdl 0 (csO l)).bind λ_=>if splV (inn l)<0 then none else(due n ((inn l).take (splV (inn l)).toNat)).bind λa=>(due n ((inn l).drop ((splV (inn l)).toNat+1))).map λb=>Pt.ask (decide (c=114)) ((csO l).map (· - 48)) a b:=by rw[show due (n+1) (c::r)=_ from dq,hh];rfl
     rw[dq2];cases hc:cdl 0 (csO l)with
     | none=>
      rw[hc]at dg;exact q0N (pr2 _ _ (q9h wk (.inl rfl) dg))
     | some v=>
      rw[hc]at dg;obtain⟨z',dg⟩:=dg;obtain⟨_,_,_,vs⟩:=q9P p2 hc;have is:=z4b (l:=l);have si:Sgn (inn l):=λx hx=>hs x (is.2 x hx)
      have cnt:l.count 40=(csO l).count 40+(inn l).count 40+1:=by
       have:=congrArg (List.count 40) p3;have hc40:c≠40:=by rcases p1 with w | w<;>omega
       simp only[List.count_cons,List.count_append,List.count_nil]at this;show(c::r).count 40=(csO (c::r)).count 40+(inn (c::r)).count 40+1;rw[List.count_cons];simp[hc40]at this ⊢;omega
      have e4:=L2.ev_stm (G:=G) (F:=run G T fu k) (δ:=Sd l f v z') (n:=at40 l+1) (v:=-1) (c1:=.strong) (c2:=.strong) (c3:=.strong) (q0b (n:=0) (d:=.str (stx l)) rfl) (by
       have:=q3R (q0b (G:=G) (F:=run G T fu k) (n:=1) (d:=.int f) (δ:=Sd l f v z') rfl) (q0d (i:=1));rw[show f+1=((at40 l+1:Nat):Int) by omega]at this;exact this) q8O (by rw[q3d];unfold q1l;split<;>omega)
      rw[q3d,show(q1l l.length (-1)).toNat=l.length - 1 by unfold q1l;split<;>omega,q7y]at e4;have e4':evE G (run G T fu k) (.stm (.var 0) (.bin .Add (.var 1) (.int 1)) (.neg (.int 1))) (Sd l f v z')=some (.ok (.str (stx (inn l))) .strong):=e4;obtain⟨k,rfl⟩:∃k',k=k'+1:=⟨k - 1,by omega⟩;have sp:=z4g (fu:=fu) (k:=k) si (by omega)
      let V:Int:=splV (inn l)
      let S4:List Sv:=[.val (.str (stx l)),.val (.int f),.val (.int (v:Int)),z',.val (.str (stx (inn l))),.val (.int V),.no,.no]
      have lt:=b_lt (q0b (G:=G) (F:=run G T fu (k+1)) (n:=5) (d:=.int V) (δ:=S4) rfl) (q0d (i:=0));have pr4:=λ(rs:List MS) (o:Option Out) (q:evSs G (run G T fu (k+1)) fu (.iff (.cmp .Lt (.var 5) (.int 0)) [.ret (.non)] []::rs) S4=o)=>pr2 (.set 4 false (.stm (.var 0) (.bin .Add (.var 1) (.int 1)) (.neg (.int 1))) :: .set 5 false (.call 13 [.var 4]) :: .iff (.cmp .Lt (.var 5) (.int 0)) [.ret (.non)] []::rs) o (z0m wk (.inl rfl) dg (q0p (q0q (i:=4) e4' rfl) (q0p (q0q (i:=5) (d:=.int V) (cl:=.strong) (q0g (q0a (q0b (n:=4) (d:=.str (stx (inn l))) rfl) q0e) rfl sp) rfl) q)));show Ou.of _=some (.v (dO (if V<0 then none else(due n ((inn l).take V.toNat)).bind λa=>(due n ((inn l).drop (V.toNat+1))).map λb=>Pt.ask (decide (c=114)) ((csO l).map (· - 48)) a b)) false);by_cases hv:V<0
      ·rw[decide_eq_true hv]at lt;rw[if_pos hv];exact q0N (pr4 _ _ (q1i (q0f lt) (q0H rfl)))
      ·rw[decide_eq_false hv]at lt;rw[if_neg hv];obtain⟨w,hw⟩:∃w,splO 0 0 (inn l)=some w:=by
        cases hq:splO 0 0 (inn l)with
        | none=>exact absurd (show splV (inn l)<0 by unfold splV;rw[hq];decide) hv
        | some w=>exact⟨w,rfl⟩
       have ew:V=w:=by show splV (inn l)=w;unfold splV;rw[hw];rfl
       obtain⟨j,j1,j2⟩:=q7j _ _ _ _ hw (by rw[←ew];omega);rw[Nat.zero_add]at j1;have eV:V=(j:Int):=ew.trans j1;rw[eV,Int.toNat_natCast];have jl:j+1<=(inn l).length:=by have:=congrArg List.length j2;simp only[List.length_append,List.length_cons,List.length_take,List.length_drop]at this;omega
       have jc:=congrArg (List.count 40) j2;simp only[List.count_append,List.count_cons]at jc;simp at jc;have A:=z0Z n (k+1) ((inn l).take j) (λx hx=>si x (List.mem_of_mem_take hx)) (by rw[List.length_take];omega) (by omega) (by omega);have B:=z0Z n (k+1) ((inn l).drop (j+1)) (λx hx=>si x (List.mem_of_mem_drop hx)) (by rw[List.length_drop];omega) (by omega) (by omega);have v4:∀n y,evE G (run G T fu (k+1)) (.var 4) [.val (.str (stx l)),.val (.int f),.val (.int (v:Int)),z',.val (.str (stx (inn l))),.val (.int V),n,y]=some (.ok (.str (stx (inn l))) .strong):=λn y=>q0b rfl;have e5:∀n y,evE G (run G T fu (k+1)) (.var 5) [.val (.str (stx l)),.val (.int f),.val (.int (v:Int)),z',.val (.str (stx (inn l))),.val (.int V),n,y]=some (.ok (.int (j:Int)) .strong):=λn y=>by rw[←eV];exact q0b rfl
       have x6:=q0g (f:=14) (q0a (z2J (v4 .no .no) (e5 .no .no) (by omega)) q0e) rfl A;have a5:evE G (run G T fu (k+1)) (.bin .Add (.var 5) (.int 1)) [.val (.str (stx l)),.val (.int f),.val (.int (v:Int)),z',.val (.str (stx (inn l))),.val (.int V),.val (dO (due n ((inn l).take j))),.no]=some (.ok (.int ((j+1:Nat):Int)) .strong):=(by have:=q3R (e5 (.val (dO (due n ((inn l).take j)))) .no) (q0d (i:=1));rw[show(j:Int)+1=((j+1:Nat):Int) by omega]at this;exact this);have x7:=q0g (f:=14) (q0a (z0J (v4 (.val (dO (due n ((inn l).take j)))) .no) a5 jl) q0e) rfl B;refine q0N (pr4 _ _ (q0k (q0f lt) (q0p (q0q (i:=6) x6 rfl) (q0p (q0q (i:=7) x7 rfl) ?_))))
       let S7:List Sv:=[.val (.str (stx l)),.val (.int f),.val (.int (v:Int)),z',.val (.str (stx (inn l))),.val (.int V),.val (dO (due n ((inn l).take j))),.val (dO (due n ((inn l).drop (j+1))))]
       show evSs G (run G T fu (k+1)) fu _ S7=_;have isn:∀o:Option Pt,isN (dO o)=o.isNone:=λo=>by
        cases o with
        | none=>rfl
        | some p=>show isN (dv (pl p))=false;cases p<;>rfl
       have c6:evE G (run G T fu (k+1)) (.cmp .Is (.var 6) (.non)) S7=some (.ok (.bl (isN (dO (due n ((inn l).take j))))) .strong):=q1o (q0b (n:=6) (d:=dO (due n ((inn l).take j))) rfl) rfl rfl;have c7:evE G (run G T fu (k+1)) (.cmp .Is (.var 7) (.non)) S7=some (.ok (.bl (isN (dO (due n ((inn l).drop (j+1)))))) .strong):=q1o (q0b (n:=7) (d:=dO (due n ((inn l).drop (j+1)))) rfl) rfl rfl;rw[isn]at c6 c7;cases ha:due n ((inn l).take j)with
       | none=>
        rw[ha]at c6;exact q1i (q0f (or_t c6)) (q0H rfl)
       | some pa=>
        rw[ha]at c6;cases hb:due n ((inn l).drop (j+1))with
        | none=>
         rw[hb]at c7;exact q1i (q0f (or_f c6 (or_1 c7))) (q0H rfl)
        | some pb=>
         rw[hb]at c7;have i7:evE G (run G T fu (k+1)) (.ix (.var 0) (.int 0)) S7=some (.ok (.str (stx [c])) .strong):=q0B (q0b (n:=0) (d:=.str (stx l)) rfl) (q0d (i:=0)) (q7Z (i:=0) rfl);have sd:=q0B (z6Q (F:=run G T fu (k+1)) (δ:=S7)) (z5e i7) (z4d c p1);have e:=q5p (q0a (q0r (x:="ask")) (q0a sd (q0a (q0b (n:=2) (d:=.int (v:Int)) rfl) (q0a (q0b (n:=6) (d:=dO (due n ((inn l).take j))) rfl) (q0a (q0b (n:=7) (d:=dO (due n ((inn l).drop (j+1)))) rfl) q0e))))) (show 5<=mostLen by decide) rfl;rw[ha,hb]at e;refine q0k (q0f (or_f c6 (or_1 c7))) (q0H ((q0J e).trans ?_));show some (Out.rt (.tup [.str "ask",side (decide (c=114)),.int (v:Int),dv (pl pa),dv (pl pb)]) false)=some (Out.rt (.tup [.str "ask",side (decide (c=114)),.int ((sm ((csO l).map (· - 48)):Nat):Int),dv (pl pa),dv (pl pb)]) false);rw[vs]
end k84
end
noncomputable section
namespace k84
open PySem L2
variable {fu k:Nat} {F:Nat->List DV->Option Ou} {δ:List Sv} {ds:List DV} {cl:Cl}
theorem q8G:∀D:List Nat,(D.map (48 + ·)).count 40=0
 | []=>rfl
 | d::D=>by rw[List.map_cons,List.count_cons,q8G D];simp;omega
theorem q5k:∀p:Pt,Vd p->lv (pl p)=(tt p).count 40+1/\hp p<=(tt p).count 40
 | .fin n,h=>by have:(tt (.fin n)).count 40=0:=q8G [n];exact⟨by rw[this];rfl,by rw[this];exact Nat.le_refl _⟩
 | .ask s D a b,⟨_,h2,h3⟩=>by
  obtain⟨a1,a2⟩:=q5k a h2;obtain⟨b1,b2⟩:=q5k b h3;have e:(tt (.ask s D a b)).count 40=(tt a).count 40+(tt b).count 40+1:=by show((if s then 114 else 99)::(D.map (48 + ·)++(40::(tt a++(44::(tt b++[41])))))).count 40=_;rw[List.count_cons,List.count_append,q8G,List.count_cons,List.count_append,List.count_cons,List.count_append,List.count_cons,List.count_nil];cases s<;>simp<;>omega
  rw[e];refine⟨?_,?_⟩
  ·show lv (pl a)+lv (pl b)=_;omega
  ·show max (hp a) (hp b)+1<=_;omega
theorem z5E:∀(D:List Nat) (d:Nat),d∈D->2^d<=sm D
 | x::D,d,h=>by
  show 2^d<=2^x+sm D;rcases List.mem_cons.mp h with z | z
  ·rw[z];exact Nat.le_add_right _ _
  ·exact Nat.le_trans (z5E D d z) (Nat.le_add_left _ _)
theorem z0z{s:Bool}{o:Nat}{a b:Pl}(h:255<o):run G T fu (k+2) 4 [dv (.ask s o a b)]=some (.v (.bl false) false):=by
 rw[q0x (fd:=q2L) rfl rfl];unfold q2L;have q:=q5x (fu:=fu) (k:=k) (x:=(o:Int)) (a:=1) (b:=255);rw[decide_eq_true (show(1:Int)<=o by omega),decide_eq_false (show ¬(o:Int)<=255 by omega)]at q;refine q0N (q0k (q0f (cl:=.strong) (q3H (q2z (x:=true) (q0g (l:=[(dv (.ask s o a b),.strong),(.int 5,.strong)]) rfl rfl (q2O _ 5))) (q2z (x:=true) (q0g (l:=[(.str "ask",.strong),(.str "ask",.strong)]) (q0a (q0B (q0b rfl) q0d rfl) (q0a q0r q0e)) rfl (q1n z2O))))) (q0H (q0J (cl:=.strong) (q4g (cx:=.strong) ?_ (q0g (l:=[(.int o,.strong),(.int 1,.strong),(.int 255,.strong)]) (q0a (q0B (q0b rfl) q0d rfl) (q0a q0d (q0a rfl q0e))) rfl q)))));cases s with
 | true=>exact q6T (q0g (l:=[(.str "row",.strong),(.str "row",.strong)]) (q0a (q0B (q0b rfl) q0d rfl) (q0a q0r q0e)) rfl (q1n q8V))
 | false=>exact q3H (q0g (l:=[(.str "column",.strong),(.str "row",.strong)]) (q0a (q0B (q0b rfl) q0d rfl) (q0a q0r q0e)) rfl (q1n q9w)) (q0g (l:=[(.str "column",.strong),(.str "column",.strong)]) (q0a (q0B (q0b rfl) q0d rfl) (q0a q0r q0e)) rfl (q1n z2y))
open Classical in
theorem q9n:∀(p:Pt) (d k:Nat),Vd p->¬E8 p->hp p+2<k->run G T fu k 2 [dv (pl p),.int d]=some (.v (.bl false) false)
 | .fin n,d,k,_,h,_=>absurd trivial h
 | .ask s D a b,d,0,_,_,h=>absurd h (Nat.not_lt_zero _)
 | .ask s D a b,d,1,_,_,h=>by omega
 | .ask s D a b,d,2,_,_,h=>by omega
 | .ask s D a b,0,k+3,_,_,hk=>by rw[q0x (fd:=q0F) rfl rfl];unfold q0F;refine q0N (q0k (q0f (cl:=.strong) (q0g (l:=[(dv (pl (.ask s D a b)),.strong)]) rfl rfl q2f)) (q0H ?_));exact q0J (cl:=.strong) (q4X (b_gt (i:=0) (j:=0) (q0b rfl) q0d))
 | .ask s D a b,d+1,k+3,⟨h1,h2,h3⟩,hE,hk=>by
  have hk':max (hp a) (hp b)+1+2<k+3:=hk
  let P:DV:=dv (pl (.ask s D a b))
  have g0:=b_gt (q0b (G:=G) (F:=run G T fu (k+2)) (n:=1) (d:=.int ((d+1:Nat):Int)) (δ:=q0l 2 [P,.int ((d+1:Nat):Int)]) rfl) (q0d (i:=0));rw[decide_eq_true (show(0:Int)<((d+1:Nat):Int) by omega)]at g0;have hd1:((d+1:Nat):Int) - 1=d:=by omega
  rw[q0x (fd:=q0F) rfl rfl];unfold q0F;refine q0N (q0k (q0f (cl:=.strong) (q0g (l:=[(P,.strong)]) rfl rfl q2f)) (q0H (q0J (cl:=.strong) (q2a g0 ?_))));by_cases hD:∀x∈D,x<8
  ·have ok:=q5A (fu:=fu) (k:=k) (s:=s) (o:=sm D) (a:=pl a) (b:=pl b) (q9v h1 hD);refine q2a (q0g (l:=[(P,.strong)]) rfl rfl ok) ?_;by_cases ha:E8 a
   ·have hb:¬E8 b:=λz=>hE ⟨hD,ha,z⟩;have ea:=z3z (fu:=fu) (pl a) d (k+2) (z1U h2 ha) (by rw[q9J];omega);have eb:=q9n b d (k+2) h3 hb (by omega);rw[←hd1]at ea eb;cases z:decide (ht (pl a)<=d)with
    | false=>
     rw[z]at ea;exact q4X (q0g (q0a (q0B (q0b rfl) q0d rfl) (q0a (q4d (q0b rfl) q0d) q0e)) rfl ea)
    | true=>
     rw[z]at ea;exact q2a (q0g (q0a (q0B (q0b rfl) q0d rfl) (q0a (q4d (q0b rfl) q0d) q0e)) rfl ea) (q3D (q0g (q0a (q0B (q0b rfl) q0d rfl) (q0a (q4d (q0b rfl) q0d) q0e)) rfl eb))
   ·have ea:=q9n a d (k+2) h2 ha (by omega);rw[←hd1]at ea;exact q4X (q0g (q0a (q0B (q0b rfl) q0d rfl) (q0a (q4d (q0b rfl) q0d) q0e)) rfl ea)
  ·have:∃x∈D,8<=x:=by
    refine Classical.byContradiction λz=>hD λx hx=>?_;exact Nat.lt_of_not_le λw=>z ⟨x,hx,w⟩
   obtain⟨x,hx,h8⟩:=this;have:255<sm D:=by
    have h9:=z5E D x hx;have:2^8<=2^x:=Nat.pow_le_pow_right (by decide) h8;have:(2:Nat)^8=256:=by decide
    omega
   exact q4X (q0g (l:=[(P,.strong)]) rfl rfl (z0z this))
theorem z3T{b:List MS}{msg:Str}:evS G F fu (.tryr b "NoPlan" "NoText" msg) δ=z1R G "NoPlan" "NoText" (evSs G F fu b δ):=by
 unfold evS;exact if_pos (by decide)
theorem g_c:0<=G.rdc:=by decide
theorem g_m:G.mtx=false:=rfl
section
variable {l:List Nat}
abbrev R0(l:List Nat):List Sv:=q0l 3 [.str (stx l)]
noncomputable abbrev R1(l:List Nat)(i:Nat)(p:Sv):List Sv:=[.val (.str (stx l)),.od (.tup [.int G.rdc,.non,.non,.str (stx l),.int (i:Int)]),p]
theorem r_mk(hs:Sgn l)(hn:l.count 40<=20)(hk:50<=k):evS G (run G T 100 (k+1)) 100 (.mkr 1 (.var 0)) (R0 l)=some (.nx (R1 l 0 .no)):=
 z7d g_c g_m (q0b rfl) rfl (by
  rw[q7R hs hn hk];cases par 21 l with
  | none=>rfl
  | some y=>rfl)
theorem z6A(hs:Sgn l)(hn:l.count 40<=20)(hk:50<=k)(h:par 21 l=none):run G T 100 (k+2) 8 [.str (stx l)]=some (.x "NoText"):=by
 have P:=q7R (k:=k) hs hn hk;rw[h]at P;rw[q0x (fd:=q0D) rfl rfl];unfold q0D;exact z0K (q0k (q0f (x:=false) (cl:=.strong) rfl) (q0p (r_mk hs hn hk) (q7t (z4x g_c g_m rfl P))))
theorem z5k{i:Nat}{p:Sv}:evE G F (.cmp .NotEq (.fld 1 true) (.bi .len [.var 0])) (R1 l i p)=some (.ok (.bl (!((i:Int)==(l.length:Int)))) .strong):=by
 have q:=q1o (op:=.NotEq) (z4z (G:=G) (F:=F) (δ:=R1 l i p) (i:=1) g_c rfl) (q4I (q0b (n:=0) (d:=.str (stx l)) rfl)) (t:=!((i:Int)==(l.length:Int))) (by
  rw[q3d];rfl)
 exact q
theorem z6T(hs:Sgn l)(hn:l.count 40<=20)(hk:50<=k){p:Pt}{r:List Nat}(h:par 21 l=some (p,r))(hr:r≠[]):run G T 100 (k+2) 8 [.str (stx l)]=some (.x "NoText"):=by
 have P:=q7R (k:=k) hs hn hk;rw[h]at P;have hl:l=tt p++r:=(q4C _ _ _ _ h).1;have h0:0<r.length:=List.length_pos_iff.mpr hr;have hle:r.length<=l.length:=by rw[hl,List.length_append];omega
 rw[q0x (fd:=q0D) rfl rfl];unfold q0D;have e:=z5k (F:=run G T 100 (k+1)) (l:=l) (i:=l.length - r.length) (p:=.val (dv (pl p)));rw[beq_eq_false_iff_ne.mpr (show((l.length - r.length:Nat):Int)≠(l.length:Int) by omega)]at e;exact z0K (q0k (q0f (x:=false) (cl:=.strong) rfl) (q0p (r_mk hs hn hk) (q0p (z2I (by decide) g_c g_m rfl P) (q9f (q0f e) (q7t (q9u (by decide +kernel) (q0r (x:="something stands behind the plan"))))))))
theorem z6e(hs:Sgn l)(hn:l.count 40<=20)(hk:50<=k){p:Pt}(h:par 21 l=some (p,[])){o:Out}(ho:∀δ',o ≠ .nx δ')(hm:z1R G "NoPlan" "NoText" (evSs G (run G T 100 (k+1)) 100 [.ret (.call 1 [.var 2])] (R1 l l.length (.val (dv (pl p)))))=some o):evSs G (run G T 100 (k+1)) 100 q0D.body (R0 l)=some o:=by
 have P:=q7R (k:=k) hs hn hk;rw[h]at P;have P':run G T 100 (k+1) rdIx [.str (stx l),.int 0]=some (.v (.tup [dv (pl p),.int (l.length:Int)]) false):=P;unfold q0D;have e:=z5k (F:=run G T 100 (k+1)) (l:=l) (i:=l.length) (p:=.val (dv (pl p)));rw[beq_self_eq_true]at e;refine q0k (q0f (x:=false) (cl:=.strong) rfl) (q0p (r_mk hs hn hk) (q0p (z2I (by decide) g_c g_m rfl P') (q0k (q0f e) ?_)));show(match evS G (run G T 100 (k+1)) 100 (.tryr [.ret (.call 1 [.var 2])] "NoPlan" "NoText" "the text makes no plan") (R1 l l.length (.val (dv (pl p))))with | some (.nx δ')=>evSs G (run G T 100 (k+1)) 100 [] δ' | o=>o)=_;rw[z3T,hm];cases o with
 | nx δ'=>exact absurd rfl (ho δ')
 | _=>rfl
theorem r_ok(hs:Sgn l)(hn:l.count 40<=10)(hk:50<=k){p:Pt}(h:par 21 l=some (p,[]))(h8:E8 p):run G T 100 (k+2) 8 [.str (stx l)]=some (.v (dv (pl p)) false):=by
 obtain⟨hl,hv⟩:=q4C _ _ _ _ h;rw[List.append_nil]at hl;obtain⟨c1,c2⟩:=q5k p hv;rw[←hl]at c1 c2;have m:=z6w (fu:=100) (pl p) (z1U hv h8) (by rw[q9J];omega) (by omega) (k:=k) (by omega);rw[q0x (fd:=q0D) rfl rfl];refine q0N (z6e hs (by omega) hk h (o:=.rt (dv (pl p)) false) (by intro δ' z;cases z) ?_);have b:evSs G (run G T 100 (k+1)) 100 [.ret (.call 1 [.var 2])] (R1 l l.length (.val (dv (pl p))))=some (.rt (dv (pl p)) false):=q0H ((q0J (cl:=.strong) (q0g (q0a (q0b (n:=2) (d:=dv (pl p)) rfl) q0e) rfl m)).trans (by rw[z7R]));rw[b];rfl
theorem z8O(hs:Sgn l)(hn:l.count 40<=10)(hk:50<=k){p:Pt}(h:par 21 l=some (p,[]))(h8:¬E8 p):run G T 100 (k+2) 8 [.str (stx l)]=some (.x "NoText"):=by
 obtain⟨hl,hv⟩:=q4C _ _ _ _ h;rw[List.append_nil]at hl;obtain⟨c1,c2⟩:=q5k p hv;rw[←hl]at c1 c2;have m:=q8w (fu:=100) (k:=k) (q9n p 12 k hv h8 (by omega));rw[q0x (fd:=q0D) rfl rfl];refine z0K (z6e hs (by omega) hk h (o:=.ex "NoText" (R1 l l.length (.val (dv (pl p))))) (by intro δ' z;cases z) ?_);have b:evSs G (run G T 100 (k+1)) 100 [.ret (.call 1 [.var 2])] (R1 l l.length (.val (dv (pl p))))=some (.ex "NoPlan" (R1 l l.length (.val (dv (pl p))))):=q7t (by
  show Re.thnS _ (evE G (run G T 100 (k+1)) (.call 1 [.var 2]) (R1 l l.length (.val (dv (pl p))))) (λd c=>some (retD d c))=_;rw[q7U (q0a (q0b (n:=2) (d:=dv (pl p)) rfl) q0e) m];rfl)
 rw[b];rfl
end
end k84
end
noncomputable section
namespace k84
open PySem L2
variable {fu k:Nat} {F:Nat->List DV->Option Ou} {δ:List Sv} {ds:List DV} {cl:Cl}
abbrev Sa(t:DV)(a b e d:Sv):List Sv:=[.val t,a,b,e,d]
theorem z6d{t:DV}{p:Pl}(hp:ht p<=40)(hr:run G T 100 k 8 [t]=some (.v (dv p) false))(hd:run G T 100 k 14 [t]=some (.v (dv p) false)):run G T 100 (k+1) 17 [t]=some (.v (.bl true) false):=by
 rw[q0x (fd:=q0S) rfl rfl];unfold q0S;have b:evSs G (run G T 100 k) 100 [.set 2 false (.call 8 [.var 0])] (Sa t (.val .non) (.val .non) .no .no)=some (.nx (Sa t (.val .non) (.val (dv p)) .no .no)):=q0p (q0q (i:=2) (d:=dv p) (cl:=.strong) (q0g (q0a (q0b (n:=0) (d:=t) rfl) q0e) rfl hr) rfl) rfl;have tb:evS G (run G T 100 k) 100 (.tryc [.set 2 false (.call 8 [.var 0])] "TalkError" 3 1) (Sa t (.val .non) (.val .non) .no .no)=some (.nx (Sa t (.val .non) (.val (dv p)) .no .no)):=by show tryD G "TalkError" 3 1 (evSs G (run G T 100 k) 100 [.set 2 false (.call 8 [.var 0])] (Sa t (.val .non) (.val .non) .no .no))=_;rw[b];rfl
 let S:=Sa t (.val .non) (.val (dv p)) .no (.val (dv p))
 have c1:evE G (run G T 100 k) (.cmp .IsNot (.var 4) (.non)) S=some (.ok (.bl true) .strong):=q1o (q0b (n:=4) (d:=dv p) rfl) rfl (by cases p<;>rfl);have c2:evE G (run G T 100 k) (.cmp .Is (.var 1) (.non)) S=some (.ok (.bl true) .strong):=rfl;have c3:evE G (run G T 100 k) (.isi (.var 2) ["tuple"]) S=some (.ok (.bl true) .strong):=z0x (q0b (n:=2) (d:=dv p) rfl) (q9c p);have c4:evE G (run G T 100 k) (.cmp .Eq (.var 2) (.var 4)) S=some (.ok (.bl true) .strong):=q1o (q0b (n:=2) (d:=dv p) rfl) (q0b (n:=4) (d:=dv p) rfl) (by
  show(if((dv p).plain 60&&(dv p).plain 60)=true then some (deq (dv p) (dv p))else none)=_;rw[pln p 60 (by omega),if_pos (show(true&&true)=true from rfl),q9T])
 exact q0N (q0p (q0q (i:=1) (d:=.non) (cl:=.strong) rfl rfl) (q0p (q0q (i:=2) (d:=.non) (cl:=.strong) rfl rfl) (q0p tb (q0p (q0q (i:=4) (d:=dv p) (cl:=.strong) (q0g (q0a (q0b (n:=0) (d:=t) rfl) q0e) rfl hd) rfl) (q1i (q0f c1) (q0H (q0J (cl:=.strong) (q2a c2 (q2a c3 (q3D c4))))))))))
theorem z5L{t:DV}(hr:run G T 100 k 8 [t]=some (.x "NoText"))(hd:run G T 100 k 14 [t]=some (.v .non false)):run G T 100 (k+1) 17 [t]=some (.v (.bl true) false):=by
 rw[q0x (fd:=q0S) rfl rfl];unfold q0S;have b:evSs G (run G T 100 k) 100 [.set 2 false (.call 8 [.var 0])] (Sa t (.val .non) (.val .non) .no .no)=some (.ex "NoText" (Sa t (.val .non) (.val .non) .no .no)):=q7t (by
  show Re.thnS _ (evE G (run G T 100 k) (.call 8 [.var 0]) (Sa t (.val .non) (.val .non) .no .no)) _=_;rw[q7U (q0a (q0b (n:=0) (d:=t) rfl) q0e) hr];rfl)
 have tb:evS G (run G T 100 k) 100 (.tryc [.set 2 false (.call 8 [.var 0])] "TalkError" 3 1) (Sa t (.val .non) (.val .non) .no .no)=some (.nx (Sa t (.val (.exc "NoText")) (.val .non) .no .no)):=(by show tryD G "TalkError" 3 1 (evSs G (run G T 100 k) 100 [.set 2 false (.call 8 [.var 0])] (Sa t (.val .non) (.val .non) .no .no))=_;rw[b];rfl);exact q0N (q0p (q0q (i:=1) (d:=.non) (cl:=.strong) rfl rfl) (q0p (q0q (i:=2) (d:=.non) (cl:=.strong) rfl rfl) (q0p tb (q0p (q0q (i:=4) (d:=.non) (cl:=.strong) (q0g (q0a (q0b (n:=0) (d:=t) rfl) q0e) rfl hd) rfl) (q0k (q0f (x:=false) (cl:=.strong) rfl) (q0k (q0f (x:=false) (cl:=.strong) rfl) (q0H rfl)))))))
structure Dom(l:List Nat):Prop where
 sg:Sgn l
 ln:l.length<=1000
 ct:l.count 40<=10
theorem z6R{l:List Nat}(h:Dom l)(hk:50<=k):run G T 100 (k+3) 17 [.str (stx l)]=some (.v (.bl true) false):=by
 have ct:=h.ct;have D:=z0Z (fu:=100) 21 (k+2) l h.sg h.ln (by omega) (by omega);cases hd:due 21 l with
 | some p=>
  obtain⟨e1,e2,e3⟩:=z0t _ _ _ hd;obtain⟨c1,c2⟩:=q5k p e2;rw[←e1]at c1 c2;have hp':par 21 l=some (p,[]):=by have:=z4R p 21 [] e2 (by omega);rw[List.append_nil,←e1]at this;exact this
  rw[hd]at D;exact z6d (by rw[q9J];omega) (r_ok h.sg ct hk hp' e3) D
 | none=>
  rw[hd]at D;refine z5L ?_ D;cases hp':par 21 l with
  | none=>exact z6A h.sg (by omega) hk hp'
  | some y=>
   obtain⟨p,r⟩:=y;by_cases hr:r=[]
   ·subst hr;obtain⟨e1,e2⟩:=q4C _ _ _ _ hp';rw[List.append_nil]at e1;obtain⟨c1,c2⟩:=q5k p e2;rw[←e1]at c1 c2;refine z8O h.sg ct hk hp' λh8=>?_
    have:=z1h p 21 e2 h8 (by omega);rw[←e1,hd]at this;cases this
   ·exact z6T h.sg (by omega) hk hp' hr
theorem z7S{d:DV}(h:isiD G d ["str"]=some false):run G T 100 (k+2) 17 [d]=some (.v (.bl true) false):=by
 refine z5L ?_ ?_
 ·rw[q0x (fd:=q0D) rfl rfl];unfold q0D;exact z0K (q9f (q0f (q2z (x:=false) (z0x (q0b (n:=0) (d:=d) rfl) h))) (q7t (q9u (by decide +kernel) (q0r (x:="a plan is read from a text")))))
 ·rw[q0x (fd:=q1I) rfl rfl];unfold q1I;exact q0N (q1i (q0f (or_t (q2z (x:=false) (z0x (q0b (n:=0) (d:=d) rfl) h)))) (q0H rfl))
def Ask(d:DV):Prop:=(∃l,d=.str (stx l)/\Dom l)\/isiD G d ["str"]=some false
theorem z7O{d:DV}(h:Ask d)(hk:50<=k):run G T 100 (k+3) 17 [d]=some (.v (.bl true) false):=by
 rcases h with⟨l,rfl,hl⟩ | h
 ·exact z6R hl hk
 ·exact z7S (k:=k+1) h
def oddD:List DV:=[.str "",.str " ",.str "r",.str "r0",.str "r(0,1)",.str "r0(0,1",.str "r0(0)",.str "r0(,1)",.str "r0(0,)",.str "r0(0,1))",.str "(0,1)",.str "r00(0,1)",.str "r10(0,1)",.str "r8(0,1)",.str "R0(0,1)",.str "r0 (0,1)",.str "r0(0, 1)",.str "00",.str "10",.str "-1",.str "x",.str "r0(0,1)c1(0,1)",.str "r0(0,1,2)",.str "r0[0,1]",.str "r0(r(0,1),1)",.str "c0(0,1)\n",.non,.int 1,.tup [.str "end",.int 1],.bl true]
def askB(d:DV):Bool:=match d with
 | .str s=>(s.cps.toList.all λc=>decide (c<0x110000))&&decide (s.cps.toList.length<=1000)&&decide (s.cps.toList.count 40<=10)
 | .non=>true | .int _=>true | .tup _=>true | .bl _=>true
 | _=>false
theorem z4A:oddD.all askB=true:=by decide +kernel
theorem z5v{d:DV}(h:askB d=true):Ask d:=by
 cases d with
 | str s=>
  have h:((s.cps.toList.all λc=>decide (c<0x110000))&&decide (s.cps.toList.length<=1000)&&decide (s.cps.toList.count 40<=10))=true:=h;simp only[Bool.and_eq_true,List.all_eq_true,decide_eq_true_eq]at h;exact .inl ⟨s.cps.toList,by rw[z7M],λc hc=>h.1.1 c hc,h.1.2,h.2⟩
 | non=>exact .inr rfl
 | int _=>exact .inr rfl
 | tup _=>exact .inr rfl
 | bl _=>exact .inr rfl
 | _=>cases h
theorem z8z(v:Int):∃d,run G T fu (k+1) 15 [.int v]=some (.v d false)/\Ask d:=by
 have h0:=Int.emod_nonneg v (b:=30) (by decide);have h1:=Int.emod_lt_of_pos v (b:=30) (by decide);obtain⟨j,hj⟩:∃j:Nat,v%30=(j:Int):=⟨(v%30).toNat,by omega⟩;have hl:j<oddD.length:=by show j<30;omega
 refine⟨oddD[j],?_,z5v (List.all_eq_true.mp z4A _ (List.getElem_mem hl))⟩;rw[q0x (fd:=q2N) rfl rfl];unfold q2N
 let S:List Sv:=[.val (.int v),.val (.lst (oddD.take 26))]
 have e0:evE G (run G T fu k) (.bin .Add (.var 1) (.lst [.non,.int 1,.tup [.str "end",.int 1],.bl true])) S=some (.ok (.lst oddD) .fresh):=rfl;have e1:=q2F (q0b (G:=G) (F:=run G T fu k) (n:=0) (d:=.int v) (δ:=S) rfl) (q0d (i:=30)) (by decide);rw[hj]at e1;have e2:=q0B e0 e1 (d:=oddD[j]) (by
  show(q3G oddD.length (j:Int)).bind (λi=>oddD[i]?)=_;rw[z6Y hl];exact List.getElem?_eq_getElem hl)
 refine q0N (q0p (q0q (i:=1) (d:=.lst (oddD.take 12)) (cl:=.fresh) rfl rfl) (q0p (q0q (i:=1) (d:=.lst (oddD.take 22)) (cl:=.fresh) rfl rfl) (q0p (q0q (i:=1) (d:=.lst (oddD.take 26)) (cl:=.fresh) rfl rfl) (q0H ((q0J e2).trans ?_)))));show some (Out.rt oddD[j] (frD oddD[j] .strong))=_;rw[frs]
end k84
end
noncomputable section
namespace k84
open PySem L2
variable {fu k:Nat} {F:Nat->List DV->Option Ou} {δ:List Sv} {ds:List DV} {cl:Cl}
def sgs:List Nat:=[48,49,50,51,52,53,54,55,56,57,114,99,40,41,44,32,120,114]
theorem z7L:("0123456789rc(), xr" : Str)=stx sgs:=by decide +kernel
theorem z5Q:∀c∈sgs,c<200:=by decide
theorem z5F{l:List Nat}{j c:Nat}(h:Dom l)(h1:l.length<=900)(h2:l.count 40<=9)(hc:c<200):Dom (l.take j++[c]++l.drop j)/\Dom (l.take j++l.drop (j+1))/\Dom (l.take j++[c]++l.drop (j+1)):=by
 have e1:(l.take j).length+(l.drop j).length=l.length:=by rw[←List.length_append,List.take_append_drop]
 have e2:(l.take j).count 40+(l.drop j).count 40=l.count 40:=by rw[←List.count_append,List.take_append_drop]
 have sb:(l.drop (j+1)).Sublist (l.drop j):=by rw[←List.drop_drop];exact List.drop_sublist ..
 have e3:=sb.length_le;have e4:=sb.count_le 40;have c1 : [c].count 40<=1:=List.count_le_length;have tk:∀x∈l.take j,x<0x110000:=λx hx=>h.sg x (List.mem_of_mem_take hx);have dr:∀i,∀x∈l.drop i,x<0x110000:=λi x hx=>h.sg x (List.mem_of_mem_drop hx);have lc : [c].length=1:=rfl;refine⟨⟨λx hx=>?_,?_,?_⟩,⟨λx hx=>?_,?_,?_⟩,⟨λx hx=>?_,?_,?_⟩⟩
 ·rcases List.mem_append.mp hx with hx | hx
  ·rcases List.mem_append.mp hx with hx | hx
   ·exact tk x hx
   ·rw[List.mem_singleton.mp hx];omega
  ·exact dr _ x hx
 ·rw[List.length_append,List.length_append];omega
 ·rw[List.count_append,List.count_append];omega
 ·rcases List.mem_append.mp hx with hx | hx
  ·exact tk x hx
  ·exact dr _ x hx
 ·rw[List.length_append];omega
 ·rw[List.count_append];omega
 ·rcases List.mem_append.mp hx with hx | hx
  ·rcases List.mem_append.mp hx with hx | hx
   ·exact tk x hx
   ·rw[List.mem_singleton.mp hx];omega
  ·exact dr _ x hx
 ·rw[List.length_append,List.length_append];omega
 ·rw[List.count_append,List.count_append];omega
theorem q8R{l:List Nat}(h:Dom l)(h0:0<l.length)(h1:l.length<=900)(h2:l.count 40<=9)(xs:List Int)(hx:xs.length=3):∃d,run G T fu (k+2) 16 [.str (stx l),.lst (xs.map DV.int)]=some (.v d false)/\Ask d:=by
 obtain⟨a0,x0⟩:=at_i (xs:=xs) (i:=0) (by omega);obtain⟨a1,x1⟩:=at_i (xs:=xs) (i:=1) (by omega);obtain⟨a2,x2⟩:=at_i (xs:=xs) (i:=2) (by omega)
 let S (a b:Sv):List Sv:=[.val (.str (stx l)),.val (.lst (xs.map DV.int)),a,b]
 have m0:∀a b,evE G (run G T fu (k+1)) (.bin .Mod (.ix (.var 1) (.int 0)) (.int 4)) (S a b)=some (.ok (.int (a0%4)) .strong):=λa b=>q2F (q0B (q0b (n:=1) (d:=.lst (xs.map DV.int)) rfl) (q0d (i:=0)) x0) (q0d (i:=4)) (by decide);have q3:=b_eq (m0 .no .no) (q0d (i:=3));by_cases z3:a0%4=3
 ·rw[beq_iff_eq.mpr z3]at q3;obtain⟨d,hd,hA⟩:=z8z (fu:=fu) (k:=k) a1;refine⟨d,?_,hA⟩;rw[q0x (fd:=q1a) rfl rfl];unfold q1a;refine q0N (q1i (q0f q3) (q0H ((q0J (cl:=.strong) (q0g (q0a (q0B (q0b (n:=1) (d:=.lst (xs.map DV.int)) rfl) (q0d (i:=1)) x1) q0e) rfl hd)).trans ?_)));rw[frs]
 ·rw[beq_eq_false_iff_ne.mpr z3]at q3;have g0:=Int.emod_nonneg a1 (b:=18) (by decide);have g1:=Int.emod_lt_of_pos a1 (b:=18) (by decide);obtain⟨i,hi⟩:∃i:Nat,a1%18=(i:Int):=⟨(a1%18).toNat,by omega⟩;have hi18:i<sgs.length:=by show i<18;omega
  have g2:=Int.emod_nonneg a2 (b:=(l.length:Int)) (by omega);have g3:=Int.emod_lt_of_pos a2 (b:=(l.length:Int)) (by omega);obtain⟨j,hj⟩:∃j:Nat,a2%(l.length:Int)=(j:Int):=⟨(a2%(l.length:Int)).toNat,by omega⟩
  let c:=sgs[i]
  have hc:c<200:=z5Q c (List.getElem_mem hi18);obtain⟨D1,D2,D3⟩:=z5F (j:=j) (c:=c) h h1 h2 hc;have e2:evE G (run G T fu (k+1)) (.ix (.str "0123456789rc(), xr") (.bin .Mod (.ix (.var 1) (.int 1)) (.int 18))) (S .no .no)=some (.ok (.str (stx [c])) .strong):=(by have m1:=q2F (q0B (q0b (G:=G) (F:=run G T fu (k+1)) (n:=1) (d:=.lst (xs.map DV.int)) (δ:=S .no .no) rfl) (q0d (i:=1)) x1) (q0d (i:=18)) (by decide);rw[hi]at m1;exact q0B (cx:=.strong) (q0r (x:="0123456789rc(), xr")) m1 (by rw[z7L];exact q7Z (List.getElem?_eq_getElem hi18)));have e3:evE G (run G T fu (k+1)) (.bin .Mod (.ix (.var 1) (.int 2)) (.bi .len [.var 0])) (S (.val (.str (stx [c]))) .no)=some (.ok (.int (j:Int)) .strong):=(by have ln:=q4I (q0b (G:=G) (F:=run G T fu (k+1)) (n:=0) (d:=.str (stx l)) (δ:=S (.val (.str (stx [c]))) .no) rfl);rw[q3d]at ln;have m2:=q2F (q0B (q0b (G:=G) (F:=run G T fu (k+1)) (n:=1) (d:=.lst (xs.map DV.int)) (δ:=S (.val (.str (stx [c]))) .no) rfl) (q0d (i:=2)) x2) ln (by omega);rw[hj]at m2;exact m2)
  let S3:=S (.val (.str (stx [c]))) (.val (.int (j:Int)))
  have v0:evE G (run G T fu (k+1)) (.var 0) S3=some (.ok (.str (stx l)) .strong):=q0b rfl;have v2:evE G (run G T fu (k+1)) (.var 2) S3=some (.ok (.str (stx [c])) .strong):=q0b rfl;have v3:evE G (run G T fu (k+1)) (.var 3) S3=some (.ok (.int (j:Int)) .strong):=q0b rfl;have v4:evE G (run G T fu (k+1)) (.bin .Add (.var 3) (.int 1)) S3=some (.ok (.int ((j+1:Nat):Int)) .strong):=(by have:=q3R v3 (q0d (i:=1));rw[show(j:Int)+1=((j+1:Nat):Int) by omega]at this;exact this);have t1:=z2J v0 v3 (by omega);have t2:=z0J v0 v3 (by omega);have t3:=z0J v0 v4 (by omega);have b1:(l.take j).length<=1000:=by rw[List.length_take];omega
  have b2:∀i,(l.drop i).length<=1000:=λi=>by rw[List.length_drop];omega
  have b3:(l.take j++[c]).length<=1001:=by rw[List.length_append];have : [c].length=1:=rfl;omega
  have lc : [c].length=1:=rfl;have u1:=q2b (q:=[c]) t1 v2 (ml _ (by omega));have r1:=q2b (q:=l.drop j) u1 t2 (ml _ (by have:=b2 j;omega));have r2:=q2b (q:=l.drop (j+1)) t1 t3 (ml _ (by have:=b2 (j+1);omega));have r3:=q2b (q:=l.drop (j+1)) u1 t3 (ml _ (by have:=b2 (j+1);omega));have p0:=b_eq (m0 (.val (.str (stx [c]))) (.val (.int (j:Int)))) (q0d (i:=0));have p1:=b_eq (m0 (.val (.str (stx [c]))) (.val (.int (j:Int)))) (q0d (i:=1));rw[q0x (fd:=q1a) rfl rfl];unfold q1a;by_cases z0:a0%4=0
  ·rw[beq_iff_eq.mpr z0]at p0;exact⟨_,q0N (q0k (q0f q3) (q0p (q0q (i:=2) e2 rfl) (q0p (q0q (i:=3) e3 rfl) (q1i (q0f p0) (q0H (q0J r1)))))),.inl ⟨_,rfl,D1⟩⟩
  ·rw[beq_eq_false_iff_ne.mpr z0]at p0;by_cases z1:a0%4=1
   ·rw[beq_iff_eq.mpr z1]at p1;exact⟨_,q0N (q0k (q0f q3) (q0p (q0q (i:=2) e2 rfl) (q0p (q0q (i:=3) e3 rfl) (q0k (q0f p0) (q1i (q0f p1) (q0H (q0J r2))))))),.inl ⟨_,rfl,D2⟩⟩
   ·rw[beq_eq_false_iff_ne.mpr z1]at p1;exact⟨_,q0N (q0k (q0f q3) (q0p (q0q (i:=2) e2 rfl) (q0p (q0q (i:=3) e3 rfl) (q0k (q0f p0) (q0k (q0f p1) (q0H (q0J r3))))))),.inl ⟨_,rfl,D3⟩⟩
def pt:Pl->Pt
 | .fin v=>.fin v.toNat
 | .ask s c a b=>.ask s (crd c) (pt a) (pt b)
theorem z4n:∀p:Pl,Okp p->tt (pt p)=tx p/\Vd (pt p)/\E8 (pt p)/\hp (pt p)=ht p/\(tx p).count 40+1=lv p
 | .fin v,⟨h0,h9⟩=>⟨rfl,show v.toNat<10 by omega,trivial,rfl,by
   have:(tx (.fin v)).count 40=0:=q8G [v.toNat];rw[this];rfl⟩
 | .ask s c a b,⟨h1,h2,ha,hb⟩=>by
  obtain⟨a1,a2,a3,a4,a5⟩:=z4n a ha;obtain⟨b1,b2,b3,b4,b5⟩:=z4n b hb;have q:=z3a c (by omega) h1;have rz:Ris (crd c)=true:=by
   cases hD:crd c with
   | nil=>rw[hD]at q;cases q
   | cons d D=>
    rw[hD]at q;simp only[Bool.and_eq_true]at q;show(decide (d<10)&&rise d D)=true;rw[q.1.1,q.1.2];rfl
  refine⟨?_,⟨rz,a2,b2⟩,⟨λd hd=>z2F hd,a3,b3⟩,?_,?_⟩
  ·show(if s then 114 else 99)::((crd c).map (48 + ·)++(40::(tt (pt a)++(44::(tt (pt b)++[41])))))=_;rw[a1,b1];rfl
  ·show max (hp (pt a)) (hp (pt b))+1=_;rw[a4,b4];rfl
  ·rw[q5e,q8U,List.count_cons,List.count_append,q8G,List.count_cons,List.count_append,List.count_cons,List.count_append,List.count_cons,List.count_nil];cases s<;>simp<;>omega
theorem z7Q{a b:ME}{x y:List DV}{cx cy:Cl}(ha:evE G F a δ=some (.ok (.lst x) cx))(hb:evE G F b δ=some (.ok (.lst y) cy))(h:x.length+y.length<=1000):evE G F (.bin .Add a b) δ=some (.ok (.lst (x++y)) (Cl.anew cx cy)):=
 q3T ha hb (if_pos (Nat.le_trans h (by decide)))
abbrev Sl(ns xs:List Int)(t z:Sv):List Sv:=[.val (.scr ns),.val (.lst (xs.map DV.int)),t,z]
def lpB:List MS:=[.iff (.not (.call 17 [.call 16 [.var 2,.call 10 [.var 3,.int 3]]])) [.ret (.bl false)] []]
theorem im_i:∀l:List Int,DV.immuts (l.map DV.int)=true
 | []=>rfl
 | _::r=>im_i r
theorem z4m:∀ns:List Int,ns.length<=63->run G T 100 60 18 [.scr ns]=some (.v (.bl true) false):=by
 intro ns hns;obtain⟨v0,c0⟩:=z0I (fu:=100) (k:=58) ns 0;obtain⟨v1,c1⟩:=z0I (fu:=100) (k:=58) ns 1;obtain⟨v2,c2⟩:=z0I (fu:=100) (k:=58) ns 2;obtain⟨xs,hx,st⟩:=q7I (fu:=100) (k:=58) v0 30 (by decide);obtain⟨a1,h1⟩:=at_i (xs:=xs) (i:=1) (by omega);obtain⟨d,hd⟩:∃d:Nat,a1%4=(d:Int):=⟨(a1%4).toNat,by omega⟩;obtain⟨p,po,ph,plv,pr⟩:=z6v (fu:=100) xs hx d 0;have pr':=pr 59 (by omega);have tx':=q9a (fu:=100) p 59 po (by omega) (by omega);obtain⟨t1,t2,t3,t4,t5⟩:=z4n p po;have hlv:lv p<=8:=by
  have:2^d<=2^3:=Nat.pow_le_pow_right (by decide) (by omega);have:(2:Nat)^3=8:=by decide
  omega
 have tl:=q7A p;have sg:=z0w p po;have D0:Dom (tx p):=⟨sg,by omega,by omega⟩;have lpos:0<(tx p).length:=by
  cases p with
  | fin v=>exact Nat.one_pos
  | ask s c a b=>rw[q5e,List.length_cons];omega
 have du:=z0Z (fu:=100) 21 59 (tx p) sg (by omega) (by omega) (by omega);have dc:=z1h (pt p) 21 t2 t3 (by rw[t4];omega);rw[t1]at dc;rw[dc]at du;have an:=z6R (k:=56) D0 (by decide)
 let P:Sv:=.val (.str (stx (tx p)))
 have lp:∀(L:List Int) (z:Sv),∃z',q1m (.one 3) (λδ'=>evSs G (run G T 100 59) 100 lpB δ') (L.map DV.int) (Sl ns xs P z)=some (.nx (Sl ns xs P z')):=by
  intro L
  induction L with
  | nil=>exact λz=>⟨z,rfl⟩
  | cons v L ih=>
   intro z;obtain⟨ys,hy,sy⟩:=q7I (fu:=100) (k:=58) v 3 (by decide);obtain⟨dd,hs,hA⟩:=q8R (fu:=100) (k:=57) D0 lpos (by omega) (by omega) ys hy;have aa:=z7O (k:=56) hA (by decide)
   let S:=Sl ns xs P (.val (.int v))
   have e10:=z1Y (G:=G) (F:=run G T 100 59) (δ:=S) (f:=10) (q0a (q0b (n:=3) (d:=.int v) rfl) (q0a (q0d (i:=3)) q0e)) sy (im_i ys);have e16:=q0g (G:=G) (F:=run G T 100 59) (δ:=S) (f:=16) (q0a (q0b (n:=2) (d:=.str (stx (tx p))) rfl) (q0a e10 q0e)) rfl hs;have e17:=q0g (G:=G) (F:=run G T 100 59) (δ:=S) (f:=17) (q0a e16 q0e) rfl aa;have hb:(Tg.one 3).bind (.int v) (Sl ns xs P z)=some S:=rfl;have stp:evSs G (run G T 100 59) 100 lpB S=some (.nx S):=q0k (q0f (q2z (x:=true) e17)) rfl;obtain⟨z',g⟩:=ih (.val (.int v));exact⟨z',(q5U hb stp).trans g⟩
 rw[q0x (fd:=z1B) rfl rfl];unfold z1B;have ed:=q2F (q0B (G:=G) (F:=run G T 100 59) (δ:=Sl ns xs .no .no) (q0b (n:=1) (d:=.lst (xs.map DV.int)) rfl) (q0d (i:=1)) h1) (q0d (i:=4)) (by decide);rw[hd]at ed;have e11:=q0g (G:=G) (F:=run G T 100 59) (δ:=Sl ns xs .no .no) (f:=11) (q0a (q0b (n:=1) (d:=.lst (xs.map DV.int)) rfl) (q0a (q0d (i:=0)) (q0a ed (q0a (q0d (i:=2)) q0e)))) rfl pr';have e12:=q0g (G:=G) (F:=run G T 100 59) (δ:=Sl ns xs .no .no) (f:=12) (q0a e11 q0e) rfl tx';obtain⟨L,hL⟩:∃L:List Int,q2R (evE G (run G T 100 59) (.bin .Add (.lst [.call 9 [.var 0,.int 1],.call 9 [.var 0,.int 2]]) (.sl (.var 0) (.int 3) (.int 15))) (Sl ns xs P .no))=some (.ok (L.map DV.int) .fresh):=by
  have x1:=z6P (F:=run G T 100 59) (δ:=Sl ns xs P .no) (q0a (q0g (q0a (q0b (n:=0) (d:=.scr ns) rfl) (q0a (q0d (i:=1)) q0e)) rfl c1) (q0a (q0g (q0a (q0b (n:=0) (d:=.scr ns) rfl) (q0a (q0d (i:=2)) q0e)) rfl c2) q0e)) (show 2<=mostLen by decide) rfl;have x2:evE G (run G T 100 59) (.sl (.var 0) (.int 3) (.int 15)) (Sl ns xs P .no)=some (.ok (.lst (cutD (ns.map DV.int) (some 3) (some 15))) .fresh):=rfl;have cm:cutD (ns.map DV.int) (some 3) (some 15)=(((ns.drop (slIx ns.length 0 (some 3))).take (slIx ns.length ns.length (some 15) - slIx ns.length 0 (some 3))).map DV.int):=(by unfold cutD;rw[List.length_map,←List.map_drop,←List.map_take]);rw[cm]at x2;refine⟨[v1,v2]++(ns.drop (slIx ns.length 0 (some 3))).take (slIx ns.length ns.length (some 15) - slIx ns.length 0 (some 3)),?_⟩;have x3:=z7Q x1 x2 (by
   have:((ns.drop (slIx ns.length 0 (some 3))).take (slIx ns.length ns.length (some 15) - slIx ns.length 0 (some 3))).length<=63:=(by rw[List.length_take,List.length_drop];omega);show 2+(List.map DV.int _).length<=1000;rw[List.length_map];omega)
  rw[x3,List.map_append];rfl
 obtain⟨z',g⟩:=lp L .no;have q1:evE G (run G T 100 59) (.cmp .IsNot (.call 14 [.var 2]) (.non)) (Sl ns xs P z')=some (.ok (.bl true) .strong):=q1o (q0g (f:=14) (q0a (q0b (n:=2) (d:=.str (stx (tx p))) rfl) q0e) rfl du) rfl (by
  show some (!isN (dv (pl (pt p))))=_;cases pt p<;>rfl)
 have q2:evE G (run G T 100 59) (.call 17 [.var 2]) (Sl ns xs P z')=some (.ok (.bl true) .strong):=q0g (f:=17) (q0a (q0b (n:=2) (d:=.str (stx (tx p))) rfl) q0e) rfl an;exact q0N (q0p (q0q (i:=1) (d:=.lst (xs.map DV.int)) (cl:=.fresh) (q0g (q0a (q0g (q0a (q0b rfl) (q0a q0d q0e)) rfl c0) (q0a q0d q0e)) rfl st) rfl) (q0p (q0q (i:=2) (d:=.str (stx (tx p))) (cl:=.strong) e12 rfl) (z0m hL (.inr rfl) g (q0H (q0J (cl:=.strong) (q2a q1 (q3D q2)))))))
end k84
end
noncomputable section
namespace k84
open PySem PySem.W L2 PySem.Spec PyProof.Rows
theorem lnS{α:Type}{us:List α}{n:Nat}(h:us.length=n+1):∃a r,us=a::r/\r.length=n:=by cases us with | nil=>cases h | cons a r=>exact⟨a,r,rfl,Nat.succ.inj h⟩
theorem ln0{α:Type}{us:List α}(h:us.length=0):us=[]:=List.length_eq_zero_iff.mp h
theorem ln1{α:Type}{us:List α}(h:us.length=1):∃a0,us=[a0]:=by obtain⟨_,_,rfl,h0⟩:=lnS h;obtain rfl:=ln0 h0;exact⟨_,rfl⟩
theorem ln2{α:Type}{us:List α}(h:us.length=2):∃a0 a1,us=[a0,a1]:=by obtain⟨_,_,rfl,h0⟩:=lnS h;obtain⟨_,_,rfl,h1⟩:=lnS h0;obtain rfl:=ln0 h1;exact⟨_,_,rfl⟩
theorem ln3{α:Type}{us:List α}(h:us.length=3):∃a0 a1 a2,us=[a0,a1,a2]:=by obtain⟨_,_,rfl,h0⟩:=lnS h;obtain⟨_,_,rfl,h1⟩:=lnS h0;obtain⟨_,_,rfl,h2⟩:=lnS h1;obtain rfl:=ln0 h2;exact⟨_,_,_,rfl⟩
theorem ln4{α:Type}{us:List α}(h:us.length=4):∃a0 a1 a2 a3,us=[a0,a1,a2,a3]:=by obtain⟨_,_,rfl,h0⟩:=lnS h;obtain⟨_,_,rfl,h1⟩:=lnS h0;obtain⟨_,_,rfl,h2⟩:=lnS h1;obtain⟨_,_,rfl,h3⟩:=lnS h2;obtain rfl:=ln0 h3;exact⟨_,_,_,_,rfl⟩
def fn:List Str:=["is_int","made_plan","is_plan","is_end","is_ask","is_tuple","is_text","outcomes_of","read_plan","_law_cell_at","_law_stream","_law_plan","_law_text","_law_split","_law_due","_law_odd","_law_spoiled","_law_answered","law"]
def bl:List Str:=["isinstance","int","bool","tuple","len","str","range","ValueError"]
def cl:List Str:=["TalkError","NoTable","NoPlan","NoText"]
theorem ok0:okD fn bl cl q3y ["thing","least","most"] ["thing","least","most"] (top 6)=true:=by decide +kernel
theorem ok1:okD fn bl cl q1v ["thing"] ["thing"] (top 12)=true:=by decide +kernel
theorem ok2:okD fn bl cl q0F ["thing","deep"] ["thing","deep"] (top 13)=true:=by decide +kernel
theorem ok3:okD fn bl cl q2M ["thing"] ["thing"] (top 14)=true:=by decide +kernel
theorem ok4:okD fn bl cl q2L ["thing"] ["thing"] (top 15)=true:=by decide +kernel
theorem ok5:okD fn bl cl q2J ["thing","size"] ["thing","size"] (top 16)=true:=by decide +kernel
theorem ok6:okD fn bl cl q3A ["thing","text"] ["thing","text"] (top 17)=true:=by decide +kernel
theorem ok7:okD fn bl cl q1f ["plan"] ["plan"] (top 18)=true:=by decide +kernel
theorem ok8:okD fn bl cl q0D ["text","reader","plan"] ["text"] (top 21)=true:=by decide +kernel
theorem ok9:okD fn bl cl q1x ["_law_script","_law_k"] ["_law_script","_law_k"] (top 24)=true:=by decide +kernel
theorem ok10:okD fn bl cl q1E ["_law_cell","_law_many","_law_found","_law_number","_law_k"] ["_law_cell","_law_many"] (top 25)=true:=by decide +kernel
theorem ok11:okD fn bl cl q1e ["_law_xs","_law_at","_law_depth","_law_wide","_law_number","_law_side","_law_cards","_law_no"] ["_law_xs","_law_at","_law_depth","_law_wide"] (top 26)=true:=by decide +kernel
theorem ok12:okD fn bl cl q1t ["_law_plan_here","_law_text_here","_law_card"] ["_law_plan_here"] (top 27)=true:=by decide +kernel
theorem ok13:okD fn bl cl q1R ["_law_text_here","_law_depth","_law_k"] ["_law_text_here"] (top 28)=true:=by decide +kernel
theorem ok14:okD fn bl cl q1I ["_law_text_here","_law_at","_law_cards","_law_sign","_law_inner","_law_comma","_law_no","_law_yes"] ["_law_text_here"] (top 29)=true:=by decide +kernel
theorem ok15:okD fn bl cl q2N ["_law_number","_law_some"] ["_law_number"] (top 30)=true:=by decide +kernel
theorem ok16:okD fn bl cl q1a ["_law_text_here","_law_xs","_law_sign","_law_at"] ["_law_text_here","_law_xs"] (top 31)=true:=by decide +kernel
theorem ok17:okD fn bl cl q0S ["_law_text_here","_law_caught","_law_found","error","_law_due_here"] ["_law_text_here"] (top 32)=true:=by decide +kernel
theorem ok18:okD fn bl cl z1B ["_law_script","_law_xs","_law_text_here","_law_cell"] ["_law_script"] (top 33)=true:=by decide +kernel
theorem okm0:okD [] bl cl q7W ["self"] ["self"] (meth 1)=true:=by decide +kernel
theorem okm1:okD [] bl cl q2I ["self"] ["self"] (meth 2)=true:=by decide +kernel
theorem okm2:okD [] bl cl q5r ["self","wanted"] ["self","wanted"] (meth 3)=true:=by decide +kernel
theorem okm3:okD [] bl cl q1k ["self","digit"] ["self"] (meth 4)=true:=by decide +kernel
theorem okm4:okD [] bl cl q2i ["self","side","cards","no","yes"] ["self"] (meth 5)=true:=by decide +kernel
theorem okm5:okD [] bl cl q2m ["self"] ["self"] (meth 6)=true:=by decide +kernel
theorem okm6:okD [] bl cl q1S ["self","last","cards","card"] ["self"] (meth 7)=true:=by decide +kernel
theorem oki:okI ["self","text"] ["self","text"] (meth 0)=true:=by decide +kernel
abbrev ck(P:Params)(x:Str)(f:Addr)(i:Nat)(dV pm:Value)(cd:Addr):Prop:=(nsIn (kK P) mainGlobals x,(kK P).lookup f,codeIn (kK P) (.ref cd) x,keepIn (kK P) (.ref f))=(some (some (.ref f)),some (fo x i dV pm cd),true,true)
theorem ck4{P:Params}{x:Str}{f:Addr}{i:Nat}{dV pm:Value}{cd:Addr}(q:ck P x f i dV pm cd):nsIn (kK P) mainGlobals x=some (some (.ref f))/\(kK P).lookup f=some (fo x i dV pm cd)/\codeIn (kK P) (.ref cd) x=true/\keepIn (kK P) (.ref f)=true:=by
 obtain⟨a,b⟩:=Prod.mk.inj q;obtain⟨b,c⟩:=Prod.mk.inj b;exact⟨a,b,Prod.mk.inj c⟩
theorem pr5{A B C D E:Type}{a a2:A}{b b2:B}{c c2:C}{d d2:D}{e e2:E}(q:(a,b,c,d,e)=(a2,b2,c2,d2,e2)):a=a2/\b=b2/\c=c2/\d=d2/\e=e2:=by cases q;exact⟨rfl,rfl,rfl,rfl,rfl⟩
theorem kN(P:Params):((kK P).map (·.1)).Nodup:=by rw[show(kK P).map (·.1)=kA by kernel_rfl];decide +kernel
theorem kM(P:Params):((q0Y (kK P)).map (·.1)).Nodup:=by rw[show(q0Y (kK P)).map (·.1)=[65,72,79,86,93,100,107,114,121,135,142,149,156,163,170,177,184,198,205,212,219,226,233,240,247,254,261] by kernel_rfl];decide +kernel
theorem zz(P:Params):bl.map (nsIn (kK P) mainGlobals)=bl.map λ_=>some none:=by kernel_rfl
open PySem.W
theorem all_mk{l:OpenLaw}{w:World}{h:Heap}{mg:Str->Option Value}{fa:Addr}(X:(kK w.params).In h)(Ns:h.Ns mainGlobals mg)(hfa:mg "law" = some (.ref fa)):∃fd:FuncData,(∀(s:Shared) (v:Value),BindsTo s fd ⟨[v],[]⟩ [("_law_script",v)])/\∀base:Heap,(kK w.params).In base->base.Ns mainGlobals mg->FnOk l.prog w (kK w.params) mg base CX0 60 fa fd ["_law_script"] (spS (kK w.params)):=by
 obtain⟨a0,l0,c0,k0⟩:=ck4 (P:=w.params) (x:="is_int") (f:=70) (i:=6) (dV:=.none) (pm:=(.str "talkleast.checks" 255)) (cd:=69) (by kernel_rfl);have S0:=q0y X Ns ok0 a0 l0 c0 k0 λ_ _ _ _ _ _ us hl=>by obtain⟨_,_,_,rfl⟩:=ln3 hl;rfl
 obtain⟨a1,l1,c1,k1⟩:=ck4 (P:=w.params) (x:="made_plan") (f:=77) (i:=12) (dV:=.none) (pm:=(.str "talkleast.plans" 268)) (cd:=76) (by kernel_rfl);have S1:=q0y X Ns ok1 a1 l1 c1 k1 λ_ _ _ _ _ _ us hl=>by obtain⟨_,rfl⟩:=ln1 hl;rfl
 obtain⟨a2,l2,c2,k2⟩:=ck4 (P:=w.params) (x:="is_plan") (f:=84) (i:=13) (dV:=.none) (pm:=(.str "talkleast.plans" 268)) (cd:=83) (by kernel_rfl);have S2:=q0y X Ns ok2 a2 l2 c2 k2 λ_ _ _ _ _ _ us hl=>by obtain⟨_,_,rfl⟩:=ln2 hl;rfl
 obtain⟨a3,l3,c3,k3⟩:=ck4 (P:=w.params) (x:="is_end") (f:=91) (i:=14) (dV:=.none) (pm:=(.str "talkleast.plans" 268)) (cd:=90) (by kernel_rfl);have S3:=q0y X Ns ok3 a3 l3 c3 k3 λ_ _ _ _ _ _ us hl=>by obtain⟨_,rfl⟩:=ln1 hl;rfl
 obtain⟨a4,l4,c4,k4⟩:=ck4 (P:=w.params) (x:="is_ask") (f:=98) (i:=15) (dV:=.none) (pm:=(.str "talkleast.plans" 268)) (cd:=97) (by kernel_rfl);have S4:=q0y X Ns ok4 a4 l4 c4 k4 λ_ _ _ _ _ _ us hl=>by obtain⟨_,rfl⟩:=ln1 hl;rfl
 obtain⟨a5,l5,c5,k5⟩:=ck4 (P:=w.params) (x:="is_tuple") (f:=105) (i:=16) (dV:=.none) (pm:=(.str "talkleast.plans" 268)) (cd:=104) (by kernel_rfl);have S5:=q0y X Ns ok5 a5 l5 c5 k5 λ_ _ _ _ _ _ us hl=>by obtain⟨_,_,rfl⟩:=ln2 hl;rfl
 obtain⟨a6,l6,c6,k6⟩:=ck4 (P:=w.params) (x:="is_text") (f:=112) (i:=17) (dV:=.none) (pm:=(.str "talkleast.plans" 268)) (cd:=111) (by kernel_rfl);have S6:=q0y X Ns ok6 a6 l6 c6 k6 λ_ _ _ _ _ _ us hl=>by obtain⟨_,_,rfl⟩:=ln2 hl;rfl
 obtain⟨a7,l7,c7,k7⟩:=ck4 (P:=w.params) (x:="outcomes_of") (f:=119) (i:=18) (dV:=.none) (pm:=(.str "talkleast.plans" 268)) (cd:=118) (by kernel_rfl);have S7:=q0y X Ns ok7 a7 l7 c7 k7 λ_ _ _ _ _ _ us hl=>by obtain⟨_,rfl⟩:=ln1 hl;rfl
 obtain⟨a8,l8,c8,k8⟩:=ck4 (P:=w.params) (x:="read_plan") (f:=126) (i:=21) (dV:=.none) (pm:=(.str "talkleast.texts" 328)) (cd:=125) (by kernel_rfl);have S8:=q0y X Ns ok8 a8 l8 c8 k8 λ_ _ _ _ _ _ us hl=>by obtain⟨_,rfl⟩:=ln1 hl;rfl
 obtain⟨a9,l9,c9,k9⟩:=ck4 (P:=w.params) (x:="_law_cell_at") (f:=203) (i:=24) (dV:=.none) (pm:=(.str "law_talkleast_k84_what_is_no_text_of_a_plan" 429)) (cd:=202) (by kernel_rfl);have S9:=q0y X Ns ok9 a9 l9 c9 k9 λ_ _ _ _ _ _ us hl=>by obtain⟨_,_,rfl⟩:=ln2 hl;rfl
 obtain⟨a10,l10,c10,k10⟩:=ck4 (P:=w.params) (x:="_law_stream") (f:=210) (i:=25) (dV:=.none) (pm:=(.str "law_talkleast_k84_what_is_no_text_of_a_plan" 429)) (cd:=209) (by kernel_rfl);have S10:=q0y X Ns ok10 a10 l10 c10 k10 λ_ _ _ _ _ _ us hl=>by obtain⟨_,_,rfl⟩:=ln2 hl;rfl
 obtain⟨a11,l11,c11,k11⟩:=ck4 (P:=w.params) (x:="_law_plan") (f:=217) (i:=26) (dV:=.none) (pm:=(.str "law_talkleast_k84_what_is_no_text_of_a_plan" 429)) (cd:=216) (by kernel_rfl);have S11:=q0y X Ns ok11 a11 l11 c11 k11 λ_ _ _ _ _ _ us hl=>by obtain⟨_,_,_,_,rfl⟩:=ln4 hl;rfl
 obtain⟨a12,l12,c12,k12⟩:=ck4 (P:=w.params) (x:="_law_text") (f:=224) (i:=27) (dV:=.none) (pm:=(.str "law_talkleast_k84_what_is_no_text_of_a_plan" 429)) (cd:=223) (by kernel_rfl);have S12:=q0y X Ns ok12 a12 l12 c12 k12 λ_ _ _ _ _ _ us hl=>by obtain⟨_,rfl⟩:=ln1 hl;rfl
 obtain⟨a13,l13,c13,k13⟩:=ck4 (P:=w.params) (x:="_law_split") (f:=231) (i:=28) (dV:=.none) (pm:=(.str "law_talkleast_k84_what_is_no_text_of_a_plan" 429)) (cd:=230) (by kernel_rfl);have S13:=q0y X Ns ok13 a13 l13 c13 k13 λ_ _ _ _ _ _ us hl=>by obtain⟨_,rfl⟩:=ln1 hl;rfl
 obtain⟨a14,l14,c14,k14⟩:=ck4 (P:=w.params) (x:="_law_due") (f:=238) (i:=29) (dV:=.none) (pm:=(.str "law_talkleast_k84_what_is_no_text_of_a_plan" 429)) (cd:=237) (by kernel_rfl);have S14:=q0y X Ns ok14 a14 l14 c14 k14 λ_ _ _ _ _ _ us hl=>by obtain⟨_,rfl⟩:=ln1 hl;rfl
 obtain⟨a15,l15,c15,k15⟩:=ck4 (P:=w.params) (x:="_law_odd") (f:=245) (i:=30) (dV:=.none) (pm:=(.str "law_talkleast_k84_what_is_no_text_of_a_plan" 429)) (cd:=244) (by kernel_rfl);have S15:=q0y X Ns ok15 a15 l15 c15 k15 λ_ _ _ _ _ _ us hl=>by obtain⟨_,rfl⟩:=ln1 hl;rfl
 obtain⟨a16,l16,c16,k16⟩:=ck4 (P:=w.params) (x:="_law_spoiled") (f:=252) (i:=31) (dV:=.none) (pm:=(.str "law_talkleast_k84_what_is_no_text_of_a_plan" 429)) (cd:=251) (by kernel_rfl);have S16:=q0y X Ns ok16 a16 l16 c16 k16 λ_ _ _ _ _ _ us hl=>by obtain⟨_,_,rfl⟩:=ln2 hl;rfl
 obtain⟨a17,l17,c17,k17⟩:=ck4 (P:=w.params) (x:="_law_answered") (f:=259) (i:=32) (dV:=.none) (pm:=(.str "law_talkleast_k84_what_is_no_text_of_a_plan" 429)) (cd:=258) (by kernel_rfl);have S17:=q0y X Ns ok17 a17 l17 c17 k17 λ_ _ _ _ _ _ us hl=>by obtain⟨_,rfl⟩:=ln1 hl;rfl
 obtain⟨a18,l18,c18,k18⟩:=ck4 (P:=w.params) (x:="law") (f:=266) (i:=33) (dV:=.none) (pm:=(.str "law_talkleast_k84_what_is_no_text_of_a_plan" 429)) (cd:=265) (by kernel_rfl);have S18:=q0y X Ns ok18 a18 l18 c18 k18 λ_ _ _ _ _ _ us hl=>by obtain⟨_,rfl⟩:=ln1 hl;rfl
 have e:=hfa.symm.trans (mg_of X Ns a18);cases e;have HX:XFacts (kK w.params) mg G cl:=by
  have xa0:nsIn (kK w.params) mainGlobals "TalkError" = some (some (.ref 24)):=by kernel_rfl
  have xa1:nsIn (kK w.params) mainGlobals "NoTable" = some (some (.ref 37)):=by kernel_rfl
  have xa2:nsIn (kK w.params) mainGlobals "NoPlan" = some (some (.ref 49)):=by kernel_rfl
  have xa3:nsIn (kK w.params) mainGlobals "NoText" = some (some (.ref 61)):=by kernel_rfl
  refine⟨q4h ⟨24,mg_of X Ns xa0,⟨by kernel_rfl,by kernel_rfl,by kernel_rfl,by kernel_rfl,by kernel_rfl,by kernel_rfl,by kernel_rfl,by kernel_rfl⟩,⟨_,_,_,[.type "ValueError",.type "Exception",.type "BaseException",.type "object"],PySem.F.excBase_ValueError,by kernel_rfl⟩,(q0O (t:="TalkError") (Ct:=24) (mg_of X Ns xa0) ⟨by kernel_rfl,by kernel_rfl⟩ (q0O (t:="NoTable") (Ct:=37) (mg_of X Ns xa1) ⟨by kernel_rfl,by kernel_rfl⟩ (q0O (t:="NoPlan") (Ct:=49) (mg_of X Ns xa2) ⟨by kernel_rfl,by kernel_rfl⟩ (q0O (t:="NoText") (Ct:=61) (mg_of X Ns xa3) ⟨by kernel_rfl,by kernel_rfl⟩ q5O)))),by kernel_rfl⟩ (q4h ⟨37,mg_of X Ns xa1,⟨by kernel_rfl,by kernel_rfl,by kernel_rfl,by kernel_rfl,by kernel_rfl,by kernel_rfl,by kernel_rfl,by kernel_rfl⟩,⟨_,_,_,[.type "ValueError",.type "Exception",.type "BaseException",.type "object"],PySem.F.excBase_ValueError,by kernel_rfl⟩,(q0O (t:="TalkError") (Ct:=24) (mg_of X Ns xa0) ⟨by kernel_rfl,by kernel_rfl⟩ (q0O (t:="NoTable") (Ct:=37) (mg_of X Ns xa1) ⟨by kernel_rfl,by kernel_rfl⟩ (q0O (t:="NoPlan") (Ct:=49) (mg_of X Ns xa2) ⟨by kernel_rfl,by kernel_rfl⟩ (q0O (t:="NoText") (Ct:=61) (mg_of X Ns xa3) ⟨by kernel_rfl,by kernel_rfl⟩ q5O)))),by kernel_rfl⟩ (q4h ⟨49,mg_of X Ns xa2,⟨by kernel_rfl,by kernel_rfl,by kernel_rfl,by kernel_rfl,by kernel_rfl,by kernel_rfl,by kernel_rfl,by kernel_rfl⟩,⟨_,_,_,[.type "ValueError",.type "Exception",.type "BaseException",.type "object"],PySem.F.excBase_ValueError,by kernel_rfl⟩,(q0O (t:="TalkError") (Ct:=24) (mg_of X Ns xa0) ⟨by kernel_rfl,by kernel_rfl⟩ (q0O (t:="NoTable") (Ct:=37) (mg_of X Ns xa1) ⟨by kernel_rfl,by kernel_rfl⟩ (q0O (t:="NoPlan") (Ct:=49) (mg_of X Ns xa2) ⟨by kernel_rfl,by kernel_rfl⟩ (q0O (t:="NoText") (Ct:=61) (mg_of X Ns xa3) ⟨by kernel_rfl,by kernel_rfl⟩ q5O)))),by kernel_rfl⟩ (q4h ⟨61,mg_of X Ns xa3,⟨by kernel_rfl,by kernel_rfl,by kernel_rfl,by kernel_rfl,by kernel_rfl,by kernel_rfl,by kernel_rfl,by kernel_rfl⟩,⟨_,_,_,[.type "ValueError",.type "Exception",.type "BaseException",.type "object"],PySem.F.excBase_ValueError,by kernel_rfl⟩,(q0O (t:="TalkError") (Ct:=24) (mg_of X Ns xa0) ⟨by kernel_rfl,by kernel_rfl⟩ (q0O (t:="NoTable") (Ct:=37) (mg_of X Ns xa1) ⟨by kernel_rfl,by kernel_rfl⟩ (q0O (t:="NoPlan") (Ct:=49) (mg_of X Ns xa2) ⟨by kernel_rfl,by kernel_rfl⟩ (q0O (t:="NoText") (Ct:=61) (mg_of X Ns xa3) ⟨by kernel_rfl,by kernel_rfl⟩ q5O)))),by kernel_rfl⟩ (z3u)))),all_cons ⟨_,mg_of X Ns xa0⟩ (all_cons ⟨_,mg_of X Ns xa1⟩ (all_cons ⟨_,mg_of X Ns xa2⟩ (all_cons ⟨_,mg_of X Ns xa3⟩ (z2R))))⟩
 have HC:∀x d,G.con.lookup x=some d->∃u v,mg x=some u/\RelV v u/\∀H,Rep ⟨kK w.params,mg⟩ H d v:=by
  intro x d h;have g0:nsIn (kK w.params) mainGlobals "GREATEST_WORD" = some (some (.int 9 266)):=by kernel_rfl
  have g1:nsIn (kK w.params) mainGlobals "MOST_ASKS_DEEP" = some (some (.int 12 270)):=by kernel_rfl
  have g2:nsIn (kK w.params) mainGlobals "MOST_ASKS" = some (some (.int 300 272)):=by kernel_rfl
  have g3:nsIn (kK w.params) mainGlobals "ALL_CARDS" = some (some (.int 255 274)):=by kernel_rfl
  have g4:nsIn (kK w.params) mainGlobals "DIGITS" = some (some (.str "0123456789" 330)):=by kernel_rfl
  exact q3q ⟨_,.int _,mg_of X Ns g0,⟨_,rfl⟩,λH=>q0U.mpr rfl⟩ (q3q ⟨_,.int _,mg_of X Ns g1,⟨_,rfl⟩,λH=>q0U.mpr rfl⟩ (q3q ⟨_,.int _,mg_of X Ns g2,⟨_,rfl⟩,λH=>q0U.mpr rfl⟩ (q3q ⟨_,.int _,mg_of X Ns g3,⟨_,rfl⟩,λH=>q0U.mpr rfl⟩ (q3q ⟨_,.str _,mg_of X Ns g4,⟨_,rfl⟩,λH=>q0R.mpr ⟨rfl,by decide⟩⟩ (z3d))))) x d h
 have HD:∀x kvs,G.dcs.lookup x=some kvs->q8l (kK w.params) w mg x kvs:=(by intro x kvs h;exact z3K x kvs h);have cm0:(findIn (kK w.params) (.ref 192) "sign",isFn (kK w.params) (.ref 147),keepIn (kK w.params) (.ref 147),(kK w.params).lookup 147,codeIn (kK w.params) (.ref 146) "Reader.sign")=(some (some (.ref 147)),true,true,some (fm "sign" "Reader.sign" 1 (.str "talkleast.texts" 328) 146),true):=by kernel_rfl
 obtain⟨ma0,mb0,mc0,md0,me0⟩:=pr5 cm0;have M0:=q1r (K:=(kK w.params)) okm0 ma0 mb0 mc0 md0 me0 λ_ _ _ _ _ _ us hl=>by obtain⟨_,rfl⟩:=ln1 hl;rfl
 have cm1:(findIn (kK w.params) (.ref 192) "at_digit",isFn (kK w.params) (.ref 154),keepIn (kK w.params) (.ref 154),(kK w.params).lookup 154,codeIn (kK w.params) (.ref 153) "Reader.at_digit")=(some (some (.ref 154)),true,true,some (fm "at_digit" "Reader.at_digit" 2 (.str "talkleast.texts" 328) 153),true):=by kernel_rfl
 obtain⟨ma1,mb1,mc1,md1,me1⟩:=pr5 cm1;have M1:=q1r (K:=(kK w.params)) okm1 ma1 mb1 mc1 md1 me1 λ_ _ _ _ _ _ us hl=>by obtain⟨_,rfl⟩:=ln1 hl;rfl
 have cm2:(findIn (kK w.params) (.ref 192) "take",isFn (kK w.params) (.ref 161),keepIn (kK w.params) (.ref 161),(kK w.params).lookup 161,codeIn (kK w.params) (.ref 160) "Reader.take")=(some (some (.ref 161)),true,true,some (fm "take" "Reader.take" 3 (.str "talkleast.texts" 328) 160),true):=by kernel_rfl
 obtain⟨ma2,mb2,mc2,md2,me2⟩:=pr5 cm2;have M2:=q1r (K:=(kK w.params)) okm2 ma2 mb2 mc2 md2 me2 λ_ _ _ _ _ _ us hl=>by obtain⟨_,_,rfl⟩:=ln2 hl;rfl
 have cm3:(findIn (kK w.params) (.ref 192) "take_digit",isFn (kK w.params) (.ref 168),keepIn (kK w.params) (.ref 168),(kK w.params).lookup 168,codeIn (kK w.params) (.ref 167) "Reader.take_digit")=(some (some (.ref 168)),true,true,some (fm "take_digit" "Reader.take_digit" 4 (.str "talkleast.texts" 328) 167),true):=by kernel_rfl
 obtain⟨ma3,mb3,mc3,md3,me3⟩:=pr5 cm3;have M3:=q1r (K:=(kK w.params)) okm3 ma3 mb3 mc3 md3 me3 λ_ _ _ _ _ _ us hl=>by obtain⟨_,rfl⟩:=ln1 hl;rfl
 have cm4:(findIn (kK w.params) (.ref 192) "take_plan",isFn (kK w.params) (.ref 175),keepIn (kK w.params) (.ref 175),(kK w.params).lookup 175,codeIn (kK w.params) (.ref 174) "Reader.take_plan")=(some (some (.ref 175)),true,true,some (fm "take_plan" "Reader.take_plan" 5 (.str "talkleast.texts" 328) 174),true):=by kernel_rfl
 obtain⟨ma4,mb4,mc4,md4,me4⟩:=pr5 cm4;have M4:=q1r (K:=(kK w.params)) okm4 ma4 mb4 mc4 md4 me4 λ_ _ _ _ _ _ us hl=>by obtain⟨_,rfl⟩:=ln1 hl;rfl
 have cm5:(findIn (kK w.params) (.ref 192) "take_side",isFn (kK w.params) (.ref 182),keepIn (kK w.params) (.ref 182),(kK w.params).lookup 182,codeIn (kK w.params) (.ref 181) "Reader.take_side")=(some (some (.ref 182)),true,true,some (fm "take_side" "Reader.take_side" 6 (.str "talkleast.texts" 328) 181),true):=by kernel_rfl
 obtain⟨ma5,mb5,mc5,md5,me5⟩:=pr5 cm5;have M5:=q1r (K:=(kK w.params)) okm5 ma5 mb5 mc5 md5 me5 λ_ _ _ _ _ _ us hl=>by obtain⟨_,rfl⟩:=ln1 hl;rfl
 have cm6:(findIn (kK w.params) (.ref 192) "take_cards",isFn (kK w.params) (.ref 189),keepIn (kK w.params) (.ref 189),(kK w.params).lookup 189,codeIn (kK w.params) (.ref 188) "Reader.take_cards")=(some (some (.ref 189)),true,true,some (fm "take_cards" "Reader.take_cards" 7 (.str "talkleast.texts" 328) 188),true):=by kernel_rfl
 obtain⟨ma6,mb6,mc6,md6,me6⟩:=pr5 cm6;have M6:=q1r (K:=(kK w.params)) okm6 ma6 mb6 mc6 md6 me6 λ_ _ _ _ _ _ us hl=>by obtain⟨_,rfl⟩:=ln1 hl;rfl
 have cmi:(findIn (kK w.params) (.ref 192) "__init__",isFn (kK w.params) (.ref 140),keepIn (kK w.params) (.ref 192),(kK w.params).lookup 140,codeIn (kK w.params) (.ref 139) "Reader.__init__")=(some (some (.ref 140)),true,true,some (fm "__init__" "Reader.__init__" 0 (.str "talkleast.texts" 328) 139),true):=by kernel_rfl
 obtain⟨mai,mbi,mci,mdi,mei⟩:=pr5 cmi;have MI:=q8t (K:=(kK w.params)) (C:=192) oki ⟨by kernel_rfl,mai,mbi,mci⟩ mdi mei λ_ _ _ _ _ _ us hl=>by obtain⟨_,_,rfl⟩:=ln2 hl;rfl
 have rda:nsIn (kK w.params) mainGlobals "Reader" = some (some (.ref 192)):=by kernel_rfl
 refine⟨_,λs v=>.of_eq rfl,λbase _ _=>z1C (T:=T) (G:=G) (fu:=100) rfl (q0X S0 (q0X S1 (q0X S2 (q0X S3 (q0X S4 (q0X S5 (q0X S6 (q0X S7 (q0X S8 (q0X S9 (q0X S10 (q0X S11 (q0X S12 (q0X S13 (q0X S14 (q0X S15 (q0X S16 (q0X S17 (q0X S18 z6k))))))))))))))))))) (λx hx=>mg_none_of X Ns (List.map_inj_left.mp (zz _) x hx)) HX HC HD z3n (λ_=>⟨by decide,z7i (G2:=GM) (T2:=TM) (fu:=100) (bl:=bl) (cl:=cl) rfl rfl rfl rfl ⟨by kernel_rfl,by kernel_rfl,by kernel_rfl,by kernel_rfl⟩ (by show findIn _ _ _=_;kernel_rfl) (by show findIn _ _ _=_;kernel_rfl) (mg_of X Ns rda) MI (q3b M0 (q3b M1 (q3b M2 (q3b M3 (q3b M4 (q3b M5 (q3b M6 z7B))))))) (λx hx=>mg_none_of X Ns (List.map_inj_left.mp (zz _) x hx)) (XFacts.of_cls (G:=G) (G':=GM) rfl HX) HC rfl rfl rfl uni⟩) z1v (i:=18) rfl rfl S18 rfl z4m⟩
end k84
open PySem PySem.W PyProof.Rows
set_option maxRecDepth 100000 in
set_option maxHeartbeats 0 in
theorem PySem.Challenge.cw_talkleast_k84_what_is_no_text_of_a_plan_holds : PySem.Challenge.rw_talkleast_k84_what_is_no_text_of_a_plan.Holds := by
 refine holds_law (by kernel_rfl) λ said => ?_
 refine holds_open (q := k84.kQ) (loose := k84.kL) (Xt := λ s => xlAt k84.kQ [] s && recOk (RowW.records (OpenRow.toRowW (OpenLaw.row PySem.Challenge.rw_talkleast_k84_what_is_no_text_of_a_plan))) s) (XP := XL k84.kQ []) (Yf := (kHook k84.kAll k84.kB k84.kE).obs) (Ya := (kHook k84.kAll k84.kB k84.kE).val) (YP := (kHook k84.kAll k84.kB k84.kE).says) (N := 4038) k84.kLeft (kHook k84.kAll k84.kB k84.kE).of (kHook k84.kAll k84.kB k84.kE).keeps (λ s e => xl_of s (Bool.and_eq_true_iff.mp e).1) XL.keeps (by rfl) (by rfl) (by rfl) (λ s e => recFacts_of (Bool.and_eq_true_iff.mp e).2) (by rfl) said (by decide +kernel) ⟨rfl, rfl, rfl, rfl, rfl, by decide +kernel⟩ ?hw ?hc
 case hw => w_witness2
 exact L2.walkE (l := PySem.Challenge.rw_talkleast_k84_what_is_no_text_of_a_plan) (k := 60) (p := "_law_script") rfl rfl ⟨rfl, by decide, by decide⟩ (λ w h Y => (L2.in_app (kIn_of Y) (by kernel_rfl)).1) (λ w h Y => ⟨L2.htb_of (T := k84.kT) (L2.in_app (kIn_of Y) (by kernel_rfl)).1 (L2.in_app (kIn_of Y) (by kernel_rfl)).2 (k84.kN _) (by kernel_rfl), k84.kM _⟩) λ w mg fa h KX G hmg => k84.all_mk KX G hmg
end

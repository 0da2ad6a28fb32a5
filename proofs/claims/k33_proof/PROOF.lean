import PyProof.Rows.All
import Wide.All
import OpenK.AllK
import Wide.FinOn
import Lean
import PyProof.EqAt
import PyProof.EqKinds
import PyProof.TupleCall
import PyProof.ExcAttrAll.ValueError
import PyProof.ZipIter
import PyProof.TupleIter
import PyProof.P3In
import PyProof.Rows.SeqMore2
import PyProof.FactsAll.tuple_3
import PyProof.FactsAll.list_3
import PyProof.Rows.Range3
import KE.KRevIter
import PyProof.Rows.FactsT2
import PySem.Builtin.Int.W1All
import KE.KSortAsk
import PyProof.SetScanFacts
import PyProof.SetKind
import PyProof.DictKinds
import PyProof.DictStraight
import PyProof.Rows.SetFrom
import PyProof.CollectWalk
import PyProof.Seq
import PyProof.DictIter
import PyProof.Rows.Tup
import PyProof.FactsAll.set_1
import PyProof.FactsAll.set_2
import PyProof.Rows.SortWalk
import PyProof.ConsumeWalk
import PyProof.Rows.SumAny
import PySem.Syntax
import PySem.Eval
import KE.KLam
import PyProof.StrWalks
import PyProof.StrOps
import PyProof.StrCalls2
import PyProof.StrLawsTight
import PyProof.StrLawsFirst
import PyProof.StrLawsChain
import PyProof.StrLawsIn
import PyProof.Rows.StrJoin2
import PyProof.Rows.StrItems
import PyProof.CallStr
import KE.KIntText
import PyProof.SliceStr2
import PyProof.StrLaws
import PyProof.StrLawsIdx
import PyProof.DictTable
import PyProof.ListRange
import PyProof.EnumMake
import PyProof.DictItems
import PyProof.DictItemsLoops
import PyProof.MeetsDict
import PyProof.DictWalks
import PyProof.RulesTry
import PyProof.Rows.SortShell
import KE.KDictSum
import KE.KPairComp
import PySem.Challenge.RW_talkleast_k33_covers_and_cases
set_option Elab.async false
set_option linter.all false
set_option maxRecDepth 100000
set_option maxHeartbeats 4000000
set_option compiler.extract_closed false
set_option genSizeOf false
set_option genInjectivity false
section
open PySem PySem.Spec PyProof.Rows
abbrev ge:=@List
abbrev on:=@Option
abbrev zk:=@Value
abbrev zm:=@Shared
abbrev zn:=@Addr
abbrev zo:=@Heap
abbrev zq:=@Expr
abbrev zr:=@Array
abbrev zt:=@World
abbrev zu:=@Program
abbrev zw:=@Around
abbrev zx:=@Stmt
abbrev zy:=@FuncData
abbrev zA:=@PySem.W.Frag
abbrev zB:=@Scope
abbrev zC:=@Arguments
abbrev zD:=@SetTable
abbrev zE:=@String
abbrev d4:=@wpAny_bind
abbrev d8:=@Bool.and_eq_true
abbrev f9:=@Heap.get?_push_of_some
abbrev e7:=@List.length_map
abbrev i4:=@List.getElem?_set_ne
abbrev d7:=@wpAny_pure
abbrev i8:=@List.mem_cons_of_mem
abbrev e8:=@List.mem_cons
abbrev i9:=@List.mem_cons_self
abbrev j8:=@List.getElem?_eq_getElem
abbrev g9:=@Nat.le_trans
abbrev d6:=@if_pos
abbrev i5:=@Heap.lt_size
abbrev f7:=@beq_iff_eq
abbrev n6:=@Heap.get?_push_size
abbrev j6:=@List.mem_filter
abbrev t6:=@List.getElem?_eq_some_iff
abbrev i7:=@Nat.le_refl
abbrev u8:=@List.getD_eq_getElem?_getD
abbrev d9:=@if_neg
abbrev t7:=@Option.map_eq_some_iff
abbrev k6:=@List.mem_range
abbrev p6:=@Nat.lt_of_lt_of_le
abbrev p4:=@List.length_range
abbrev p7:=@List.size_toArray
abbrev j7:=@Nat.ne_of_lt
abbrev t9:=@Array.length_toList
abbrev v9:=@List.mem_append_right
abbrev k8:=@List.mem_map
abbrev p9:=@List.length_cons
abbrev w4:=@List.mem_append_left
abbrev u9:=@beq_eq_false_iff_ne
abbrev t5:=@Bool.not_eq_true'
abbrev v0:=@List.length_append
abbrev v4:=@List.mem_singleton
abbrev u4:=@List.getElem?_map
abbrev A7:=@Array.getD_eq_getD_getElem?
abbrev v5:=@List.length_set
abbrev w6:=@List.all_eq_true
abbrev A8:=@List.getElem?_set_self
abbrev y8:=@Bool.false_ne_true
abbrev y9:=@Int.natCast_nonneg
abbrev u0:=@List.map_cons
abbrev z0:=@Int.toNat_natCast
abbrev C6:=@Array.getElem?_eq_getElem
abbrev A3:=@List.pairwise_cons
end
noncomputable section
noncomputable section
namespace L2
open PySem
noncomputable def F4(s:zx):zC:=match s with
 | .FunctionDef _ a _ _ _ _ _ _ _ _=>a
 | _=>{posonlyargs:=[],args:=[],vararg:=none,kwonlyargs:=[],kw_defaults:=[],kwarg:=none,defaults:=[]}
noncomputable def D4(s:zx):ge zx:=match s with
 | .FunctionDef _ _ b _ _ _ _ _ _ _=>b
 | _=>[]
noncomputable def y0(s:zx):zB:=match s with
 | .FunctionDef _ _ _ _ _ _ sc _ _ _=>sc
 | _=>{kind:=.function,names:=[],isGenerator:=false,isCoroutine:=false}
end L2
namespace k33
open PySem PySem.W L2 PySem.Spec PyProof.Rows
noncomputable def top(i:Nat):zx:=PySem.Challenge.pw_talkleast_k33_covers_and_cases.main.body.getD i (.Pass ⟨0,0,0,0⟩)
def fo(n:Str)(i:Nat)(dV pm:zk)(cd:zn):Obj:=⟨.type "function",none,.func (fnOf n n (F4 (top i)) (D4 (top i)) (y0 (top i)) dV .none .none pm none (.ref cd) .none),#[]⟩
noncomputable def en(P:Params)(s:Str)(t:Nat)(v:zk):DictEntry:=⟨PyData.keyHash P s,.str s t,v⟩
noncomputable def co(n:Str)(t:Nat)(ln na fl:Int)(a b c d e:zk)(q:Int)(r:Nat):Obj:=⟨.type "code",none,.fields #[.str n t,.str n (t+1),.str "/claim/cut.py" (t+2),.int ln 0,.int na 0,.int 0 0,.int 0 0,.int fl 0,a,.bool true,.int 181 0,b,.none,c,d,e,.int q 0,.int ln 0,.str "/claim/cut.py" r],#[]⟩
def kK(P:Params):Frag:=[(2,⟨.none,none,.dict #[] 0,#[]⟩),
 (3,⟨.type "dict",none,.dict #[en P "__name__" 165 (.str "law_talkleast_k33_covers_and_cases" 404),en P "__doc__" 166 .none,en P "__package__" 167 .none,en P "__loader__" 168 (.builtin "__main__.__loader__#opaque"),en P "__spec__" 169 .none,en P "__annotations__" 170 (.ref 6),en P "__builtins__" 171 (.ref 4),en P "__file__" 173 (.str "/claim/cut.py" 172),en P "__cached__" 174 .none,en P "TalkError" 206 (.ref 24),en P "NoTable" 222 (.ref 37),en P "NoCard" 238 (.ref 49),en P "TooGreat" 254 (.ref 61),en P "SMALL_LINES" 258 (.int 5 257),en P "flipped" 264 (.ref 68),en P "cards_in" 270 (.ref 73),en P "crossing" 276 (.ref 78),en P "row_kinds" 282 (.ref 83),en P "column_kinds" 289 (.ref 90),en P "trimmed" 296 (.ref 97),en P "is_small" 304 (.ref 104),en P "check_small" 311 (.ref 111),en P "widest" 324 (.ref 118),en P "columns_with" 330 (.ref 123),en P "rows_with" 336 (.ref 128),en P "fewest_cover" 350 (.ref 135),en P "cover_paper" 360 (.ref 142),en P "entries_by_choice" 366 (.ref 147),en P "blocks_with" 372 (.ref 152),en P "contains" 380 (.ref 159),en P "left_bare" 386 (.ref 164),en P "cover_within" 397 (.ref 171),en P "case_for" 403 (.ref 176),en P "_law_int" 412 (.ref 183),en P "_law_cell_at" 420 (.ref 190),en P "_law_stream" 431 (.ref 197),en P "_law_core" 437 (.ref 202),en P "_law_table" 443 (.ref 207),en P "_law_power" 452 (.ref 214),en P "_law_cards" 458 (.ref 219),en P "_law_set" 467 (.ref 226),en P "_law_all_widest" 473 (.ref 231),en P "_law_entries" 479 (.ref 236),en P "_law_great" 485 (.ref 241),en P "_law_refused" 496 (.ref 248),en P "_law_has" 504 (.ref 255),en P "_law_bare" 510 (.ref 260),en P "_law_covers" 520 (.ref 267),en P "_law_case" 526 (.ref 272),en P "_law_copy" 532 (.ref 277),en P "_law_word" 545 (.ref 284),en P "law" 556 (.ref 291)] 52,#[]⟩),
 (23,⟨.type "dict",none,.dict #[en P "__module__" 196 (.str "talkleast.errors" 187),en P "__firstlineno__" 200 (.int 2 199),en P "__static_attributes__" 201 (.ref 22),en P "__weakref__" 203 (.ref 25),en P "__doc__" 204 .none] 3,#[]⟩),
 (24,⟨.type "type",none,.cls ⟨"TalkError",[.type "ValueError"],[.ref 24,.type "ValueError",.type "Exception",.type "BaseException",.type "object"],23,"TalkError",true,[],[.ref 37,.ref 49,.ref 61],false,none,false⟩,#[some (.ref 15),none,some (.str "TalkError" 189),some (.str "TalkError" 197),some (.builtin "ValueError.__new__"),some (.bool true)]⟩),
 (25,⟨.type "getset_descriptor",none,.fields #[.str "__weakref__" 202,.ref 24,.builtin "ExceptionGroup.__weakref__",.none],#[]⟩),
 (36,⟨.type "dict",none,.dict #[en P "__module__" 214 (.str "talkleast.errors" 187),en P "__firstlineno__" 218 (.int 4 217),en P "__static_attributes__" 219 (.ref 35),en P "__doc__" 220 .none] 2,#[]⟩),
 (37,⟨.type "type",none,.cls ⟨"NoTable",[.ref 24],[.ref 37,.ref 24,.type "ValueError",.type "Exception",.type "BaseException",.type "object"],36,"NoTable",true,[],[],false,none,false⟩,#[some (.ref 28),none,some (.str "NoTable" 207),some (.str "NoTable" 215),some (.builtin "ValueError.__new__"),some (.bool true)]⟩),
 (48,⟨.type "dict",none,.dict #[en P "__module__" 230 (.str "talkleast.errors" 187),en P "__firstlineno__" 234 (.int 6 233),en P "__static_attributes__" 235 (.ref 47),en P "__doc__" 236 .none] 2,#[]⟩),
 (49,⟨.type "type",none,.cls ⟨"NoCard",[.ref 24],[.ref 49,.ref 24,.type "ValueError",.type "Exception",.type "BaseException",.type "object"],48,"NoCard",true,[],[],false,none,false⟩,#[some (.ref 40),none,some (.str "NoCard" 223),some (.str "NoCard" 231),some (.builtin "ValueError.__new__"),some (.bool true)]⟩),
 (60,⟨.type "dict",none,.dict #[en P "__module__" 246 (.str "talkleast.errors" 187),en P "__firstlineno__" 250 (.int 8 249),en P "__static_attributes__" 251 (.ref 59),en P "__doc__" 252 .none] 2,#[]⟩),
 (61,⟨.type "type",none,.cls ⟨"TooGreat",[.ref 24],[.ref 61,.ref 24,.type "ValueError",.type "Exception",.type "BaseException",.type "object"],60,"TooGreat",true,[],[],false,none,false⟩,#[some (.ref 52),none,some (.str "TooGreat" 239),some (.str "TooGreat" 247),some (.builtin "ValueError.__new__"),some (.bool true)]⟩),
 (67,co "flipped" 259 12 1 3 (.ref 64) (.ref 65) .none .none (.ref 66) 262 263),
 (68,fo "flipped" 7 .none (.str "talkleast.tables" 255) 67),
 (72,co "cards_in" 265 14 1 3 (.ref 69) (.ref 70) .none .none (.ref 71) 268 269),
 (73,fo "cards_in" 8 .none (.str "talkleast.tables" 255) 72),
 (77,co "crossing" 271 16 3 3 (.ref 74) (.ref 75) .none .none (.ref 76) 274 275),
 (78,fo "crossing" 9 .none (.str "talkleast.tables" 255) 77),
 (82,co "row_kinds" 277 18 1 3 (.ref 79) (.ref 80) .none .none (.ref 81) 280 281),
 (83,fo "row_kinds" 10 .none (.str "talkleast.tables" 255) 82),
 (89,co "column_kinds" 283 20 1 3 (.ref 84) (.ref 85) (.ref 86) (.ref 87) (.ref 88) 287 288),
 (90,fo "column_kinds" 11 .none (.str "talkleast.tables" 255) 89),
 (96,co "trimmed" 290 22 1 3 (.ref 91) (.ref 92) (.ref 93) (.ref 94) (.ref 95) 294 295),
 (97,fo "trimmed" 12 .none (.str "talkleast.tables" 255) 96),
 (103,co "is_small" 297 24 1 3 (.ref 98) (.ref 99) (.ref 100) (.ref 101) (.ref 102) 302 303),
 (104,fo "is_small" 13 .none (.str "talkleast.tables" 255) 103),
 (110,co "check_small" 305 27 1 3 (.ref 105) (.ref 106) (.ref 107) (.ref 108) (.ref 109) 309 310),
 (111,fo "check_small" 14 .none (.str "talkleast.tables" 255) 110),
 (117,co "widest" 314 31 2 3 (.ref 112) (.ref 113) (.ref 114) (.ref 115) (.ref 116) 322 323),
 (118,fo "widest" 16 .none (.str "talkleast.blocks" 312) 117),
 (122,co "columns_with" 325 38 3 3 (.ref 119) (.ref 120) .none .none (.ref 121) 328 329),
 (123,fo "columns_with" 17 .none (.str "talkleast.blocks" 312) 122),
 (127,co "rows_with" 331 41 3 3 (.ref 124) (.ref 125) .none .none (.ref 126) 334 335),
 (128,fo "rows_with" 18 .none (.str "talkleast.blocks" 312) 127),
 (134,co "fewest_cover" 339 45 2 3 (.ref 129) (.ref 130) (.ref 131) (.ref 132) (.ref 133) 348 349),
 (135,fo "fewest_cover" 20 .none (.str "talkleast.covers" 337) 134),
 (141,co "cover_paper" 351 55 2 3 (.ref 136) (.ref 137) (.ref 138) (.ref 139) (.ref 140) 358 359),
 (142,fo "cover_paper" 21 .none (.str "talkleast.covers" 337) 141),
 (146,co "entries_by_choice" 361 61 3 3 (.ref 143) (.ref 144) .none .none (.ref 145) 364 365),
 (147,fo "entries_by_choice" 22 .none (.str "talkleast.covers" 337) 146),
 (151,co "blocks_with" 367 66 2 3 (.ref 148) (.ref 149) .none .none (.ref 150) 370 371),
 (152,fo "blocks_with" 23 .none (.str "talkleast.covers" 337) 151),
 (158,co "contains" 373 68 2 3 (.ref 153) (.ref 154) (.ref 155) (.ref 156) (.ref 157) 378 379),
 (159,fo "contains" 24 .none (.str "talkleast.covers" 337) 158),
 (163,co "left_bare" 381 70 2 3 (.ref 160) (.ref 161) .none .none (.ref 162) 384 385),
 (164,fo "left_bare" 25 .none (.str "talkleast.covers" 337) 163),
 (170,co "cover_within" 387 72 3 3 (.ref 165) (.ref 166) (.ref 167) (.ref 168) (.ref 169) 395 396),
 (171,fo "cover_within" 26 .none (.str "talkleast.covers" 337) 170),
 (175,co "case_for" 398 82 3 3 (.ref 172) (.ref 173) .none .none (.ref 174) 401 402),
 (176,fo "case_for" 27 .none (.str "talkleast.covers" 337) 175),
 (182,co "_law_int" 406 89 1 3 (.ref 177) (.ref 178) (.ref 179) (.ref 180) (.ref 181) 410 411),
 (183,fo "_law_int" 29 .none (.str "law_talkleast_k33_covers_and_cases" 404) 182),
 (189,co "_law_cell_at" 413 91 2 3 (.ref 184) (.ref 185) (.ref 186) (.ref 187) (.ref 188) 418 419),
 (190,fo "_law_cell_at" 30 .none (.str "law_talkleast_k33_covers_and_cases" 404) 189),
 (196,co "_law_stream" 421 95 2 3 (.ref 191) (.ref 192) (.ref 193) (.ref 194) (.ref 195) 429 430),
 (197,fo "_law_stream" 31 .none (.str "law_talkleast_k33_covers_and_cases" 404) 196),
 (201,co "_law_core" 432 102 3 3 (.ref 198) (.ref 199) .none .none (.ref 200) 435 436),
 (202,fo "_law_core" 32 .none (.str "law_talkleast_k33_covers_and_cases" 404) 201),
 (206,co "_law_table" 438 118 2 3 (.ref 203) (.ref 204) .none .none (.ref 205) 441 442),
 (207,fo "_law_table" 33 .none (.str "law_talkleast_k33_covers_and_cases" 404) 206),
 (213,co "_law_power" 444 130 1 3 (.ref 208) (.ref 209) (.ref 210) (.ref 211) (.ref 212) 450 451),
 (214,fo "_law_power" 34 .none (.str "law_talkleast_k33_covers_and_cases" 404) 213),
 (218,co "_law_cards" 453 135 1 3 (.ref 215) (.ref 216) .none .none (.ref 217) 456 457),
 (219,fo "_law_cards" 35 .none (.str "law_talkleast_k33_covers_and_cases" 404) 218),
 (225,co "_law_set" 459 137 1 3 (.ref 220) (.ref 221) (.ref 222) (.ref 223) (.ref 224) 465 466),
 (226,fo "_law_set" 36 .none (.str "law_talkleast_k33_covers_and_cases" 404) 225),
 (230,co "_law_all_widest" 468 142 2 3 (.ref 227) (.ref 228) .none .none (.ref 229) 471 472),
 (231,fo "_law_all_widest" 37 .none (.str "law_talkleast_k33_covers_and_cases" 404) 230),
 (235,co "_law_entries" 474 151 2 3 (.ref 232) (.ref 233) .none .none (.ref 234) 477 478),
 (236,fo "_law_entries" 38 .none (.str "law_talkleast_k33_covers_and_cases" 404) 235),
 (240,co "_law_great" 480 156 1 3 (.ref 237) (.ref 238) .none .none (.ref 239) 483 484),
 (241,fo "_law_great" 39 .none (.str "law_talkleast_k33_covers_and_cases" 404) 240),
 (247,co "_law_refused" 486 164 3 3 (.ref 242) (.ref 243) (.ref 244) (.ref 245) (.ref 246) 494 495),
 (248,fo "_law_refused" 40 .none (.str "law_talkleast_k33_covers_and_cases" 404) 247),
 (254,co "_law_has" 497 176 2 3 (.ref 249) (.ref 250) (.ref 251) (.ref 252) (.ref 253) 502 503),
 (255,fo "_law_has" 41 .none (.str "law_talkleast_k33_covers_and_cases" 404) 254),
 (259,co "_law_bare" 505 178 2 3 (.ref 256) (.ref 257) .none .none (.ref 258) 508 509),
 (260,fo "_law_bare" 42 .none (.str "law_talkleast_k33_covers_and_cases" 404) 259),
 (266,co "_law_covers" 511 180 3 3 (.ref 261) (.ref 262) (.ref 263) (.ref 264) (.ref 265) 518 519),
 (267,fo "_law_covers" 43 .none (.str "law_talkleast_k33_covers_and_cases" 404) 266),
 (271,co "_law_case" 521 189 4 3 (.ref 268) (.ref 269) .none .none (.ref 270) 524 525),
 (272,fo "_law_case" 44 .none (.str "law_talkleast_k33_covers_and_cases" 404) 271),
 (276,co "_law_copy" 527 203 1 3 (.ref 273) (.ref 274) .none .none (.ref 275) 530 531),
 (277,fo "_law_copy" 45 .none (.str "law_talkleast_k33_covers_and_cases" 404) 276),
 (283,co "_law_word" 533 205 2 3 (.ref 278) (.ref 279) (.ref 280) (.ref 281) (.ref 282) 543 544),
 (284,fo "_law_word" 46 .none (.str "law_talkleast_k33_covers_and_cases" 404) 283),
 (290,co "law" 546 218 1 3 (.ref 285) (.ref 286) (.ref 287) (.ref 288) (.ref 289) 554 555),
 (291,fo "law" 47 .none (.str "law_talkleast_k33_covers_and_cases" 404) 290)]
noncomputable def kA:ge zn:=[2,3,23,24,25,36,37,48,49,60,61,67,68,72,73,77,78,82,83,89,90,96,97,103,104,110,111,117,118,122,123,127,128,134,135,141,142,146,147,151,152,158,159,163,164,170,171,175,176,182,183,189,190,196,197,201,202,206,207,213,214,218,219,225,226,230,231,235,236,240,241,247,248,254,255,259,260,266,267,271,272,276,277,283,284,290,291]
noncomputable def kT:Frag:=[(65,⟨.none,none,.fields #[],#[]⟩),(70,⟨.none,none,.fields #[],#[]⟩),(75,⟨.none,none,.fields #[],#[]⟩),(80,⟨.none,none,.fields #[],#[]⟩),(85,⟨.none,none,.fields #[],#[]⟩),(92,⟨.none,none,.fields #[],#[]⟩),(99,⟨.none,none,.fields #[],#[]⟩),(106,⟨.none,none,.fields #[],#[]⟩),(113,⟨.none,none,.fields #[],#[]⟩),(120,⟨.none,none,.fields #[],#[]⟩),(125,⟨.none,none,.fields #[],#[]⟩),(130,⟨.none,none,.fields #[],#[]⟩),(137,⟨.none,none,.fields #[],#[]⟩),(144,⟨.none,none,.fields #[],#[]⟩),(149,⟨.none,none,.fields #[],#[]⟩),(154,⟨.none,none,.fields #[],#[]⟩),(161,⟨.none,none,.fields #[],#[]⟩),(166,⟨.none,none,.fields #[],#[]⟩),(173,⟨.none,none,.fields #[],#[]⟩),(178,⟨.none,none,.fields #[],#[]⟩),(185,⟨.none,none,.fields #[],#[]⟩),(192,⟨.none,none,.fields #[],#[]⟩),(199,⟨.none,none,.fields #[],#[]⟩),(204,⟨.none,none,.fields #[],#[]⟩),(209,⟨.none,none,.fields #[],#[]⟩),(216,⟨.none,none,.fields #[],#[]⟩),(221,⟨.none,none,.fields #[],#[]⟩),(228,⟨.none,none,.fields #[],#[]⟩),(233,⟨.none,none,.fields #[],#[]⟩),(238,⟨.none,none,.fields #[],#[]⟩),(243,⟨.none,none,.fields #[],#[]⟩),(250,⟨.none,none,.fields #[],#[]⟩),(257,⟨.none,none,.fields #[],#[]⟩),(262,⟨.none,none,.fields #[],#[]⟩),(269,⟨.none,none,.fields #[],#[]⟩),(274,⟨.none,none,.fields #[],#[]⟩),(279,⟨.none,none,.fields #[],#[]⟩),(286,⟨.none,none,.fields #[],#[]⟩)]
def kAll(P:Params):Frag:=kT++kK P
noncomputable def kB:ge zn:=[65,70,75,80,85,92,99,106,113,120,125,130,137,144,149,154,161,166,173,178,185,192,199,204,209,216,221,228,233,238,243,250,257,262,269,274,279,286,2,3,23,24,25,36,37,48,49,60,61,67,68,72,73,77,78,82,83,89,90,96,97,103,104,110,111,117,118,122,123,127,128,134,135,141,142,146,147,151,152,158,159,163,164,170,171,175,176,182,183,189,190,196,197,201,202,206,207,213,214,218,219,225,226,230,231,235,236,240,241,247,248,254,255,259,260,266,267,271,272,276,277,283,284,290,291]
theorem kE:∀P,kB=(kAll P).map (·.1):=λ _=>by kernel_rfl
noncomputable def kQ:zu:=view PySem.Challenge.pw_talkleast_k33_covers_and_cases [1,2,3,4,6,7,8,9,10,11,12,13,14,16,17,18,20,21,22,23,24,25,26,27,29,30,31,32,33,34,35,36,37,38,39,40,41,42,43,44,45,46,47]
def kL:ge Str:=[]
set_option maxHeartbeats 0 in
theorem kLeft:LeftO PySem.Challenge.pw_talkleast_k33_covers_and_cases kQ kL (λ s=>xlAt kQ [] s&&recOk (RowW.records (OpenRow.toRowW (OpenLaw.row PySem.Challenge.rw_talkleast_k33_covers_and_cases))) s) (kHook kAll kB kE).obs (kHook kAll kB kE).val 4064:=by
 intro w
 kernel_rfl
end k33
end
noncomputable section
set_option bootstrap.genMatcherCode false
set_option genSizeOfSpec false
set_option compiler.extract_closed false
namespace L2
open PySem PySem.Spec PyProof.Rows
abbrev Key:=Sum Int Str
noncomputable def N6:Key->zk->Bool
 | .inl k,v=>Value.isInt k v
 | .inr x,v=>Value.isStrOf x v
noncomputable def keyH(w:zt):Key->Int
 | .inl k=>hashInt k
 | .inr x=>hashStr w x
theorem G3:∀{k:Key} {v:zk},N6 k v=true->(∃i t,k=Sum.inl i/\v=Value.int i t)\/(∃x t,k=Sum.inr x/\v=Value.str x t)
 | .inl i,v,h=>by obtain⟨t,e⟩:=Value.isInt_shape h;exact .inl ⟨i,t,rfl,e⟩
 | .inr x,v,h=>by obtain⟨t,e⟩:=Value.isStrOf_shape h;exact .inr ⟨x,t,rfl,e⟩
theorem mq(i:Int)(t:Tok):N6 (.inl i) (.int i t)=true:=by simp[N6,Value.isInt]
theorem mr(x:Str)(t:Tok):N6 (.inr x) (.str x t)=true:=by simp[N6,Value.isStrOf]
theorem mt(a b:Int):decide ((Sum.inl a:Key)=Sum.inl b)=(a==b):=by
 by_cases e:a=b
 ·subst e;simp
 ·have h:¬(Sum.inl a:Key)=Sum.inl b:=λ q=>e (Sum.inl.inj q);rw[decide_eq_false h];exact(u9.mpr e).symm
theorem mu(a b:Str):decide ((Sum.inr a:Key)=Sum.inr b)=decide (a=b):=by
 by_cases e:a=b
 ·subst e;simp
 ·have h:¬(Sum.inr a:Key)=Sum.inr b:=λ q=>e (Sum.inr.inj q);rw[decide_eq_false h,decide_eq_false e]
theorem mv(a:Int)(b:Str):decide ((Sum.inl a:Key)=Sum.inr b)=false:=decide_eq_false (λ q=>nomatch q)
theorem mw(a:Str)(b:Int):decide ((Sum.inr a:Key)=Sum.inl b)=false:=decide_eq_false (λ q=>nomatch q)
def D5(prog:zu)(w:zt):PySem.KeyKind prog w Key where
 is:=N6
 hash:=keyH w
 inj:=λ v a b ha hb=>by
  rcases G3 ha with⟨i,t,rfl,rfl⟩ | ⟨x,t,rfl,rfl⟩
  ·rcases G3 hb with⟨j,u,rfl,e⟩ | ⟨y,u,rfl,e⟩
   ·injection e with e1 _;rw[e1]
   ·exact nomatch e
  ·rcases G3 hb with⟨j,u,rfl,e⟩ | ⟨y,u,rfl,e⟩
   ·exact nomatch e
   ·injection e with e1 _;rw[e1]
 byValue:=λ k v h=>by rcases G3 h with⟨i,t,rfl,rfl⟩ | ⟨x,t,rfl,rfl⟩<;>rfl
 pyHash:=λ hv h=>by
  rcases G3 hv with⟨i,t,rfl,rfl⟩ | ⟨x,t,rfl,rfl⟩
  ·exact wpAny_pyHash_int h
  ·exact wpAny_pyHash_str h
 eqBool:=λ hu hv h=>by
  rcases G3 hu with⟨i,t,rfl,rfl⟩ | ⟨x,t,rfl,rfl⟩
  ·rcases G3 hv with⟨j,u,rfl,rfl⟩ | ⟨y,u,rfl,rfl⟩
   ·rw[mt]at h;exact wpAny_eqBool_int h
   ·rw[mv]at h;exact SeqAt.EqAt.int_str i t y u _ _ _ _ h
  ·rcases G3 hv with⟨j,u,rfl,rfl⟩ | ⟨y,u,rfl,rfl⟩
   ·rw[mw]at h;exact SeqAt.EqAt.str_int x t j u _ _ _ _ h
   ·rw[mu]at h;exact wpAny_eqBool_str h
 «strs»:=λ k x t v h=>by
  rcases G3 h with⟨i,u,rfl,e⟩ | ⟨y,u,rfl,e⟩
  ·exact nomatch e
  ·injection e with e1 _
   subst e1;cases v<;>rfl
theorem mx(prog:zu)(w:zt)(i:Int)(t:Tok):(D5 prog w).is (.inl i) (.int i t)=true:=mq i t
theorem my(prog:zu)(w:zt)(x:Str)(t:Tok):(D5 prog w).is (.inr x) (.str x t)=true:=mr x t
end L2
namespace L2
open PySem PySem.Spec PyProof.Rows
inductive V where
 | non | bl (b:Bool) | int (i:Int) | str (x:Str) | byt (b:Array UInt8) | flt (b:UInt64) | ref (a:Addr) | ty (n:String)
 deriving DecidableEq
noncomputable def RelV:V->zk->Prop
 | .non,u=>u=Value.none
 | .bl b,u=>u=Value.bool b
 | .int i,u=>∃t,u=Value.int i t
 | .str x,u=>∃t,u=Value.str x t
 | .byt b,u=>∃t,u=Value.bytes b t
 | .flt b,u=>∃t,u=Value.float b t
 | .ref a,u=>u=Value.ref a
 | .ty n,u=>u=Value.type n
abbrev Vals:ge V->ge zk->Prop:=Paired RelV
theorem Vals.length(r:Vals xs a):xs.length=a.length:=Paired.length r
theorem Vals.get:∀{xs:ge V} {us:ge zk} {i:Nat} {x:V},Vals xs us->xs[i]? = some x->∃u,us[i]? = some u/\RelV x u
 | _,_,_,_,.nil,e=>by simp at e
 | _,_,0,_,.cons r _,e=>by simp at e;subst e;exact⟨_,rfl,r⟩
 | _,_,i+1,x,.cons _ t,e=>by obtain⟨u,b,a⟩:=Vals.get t (by simpa using e);exact⟨u,by simpa using b,a⟩
theorem Vals.set(r:RelV x u):∀{xs:ge V} {us:ge zk} (i:Nat),Vals xs us->Vals (xs.set i x) (us.set i u)
 | _,_,_,.nil=>.nil
 | _,_,0,.cons _ t=>.cons r t
 | _,_,i+1,.cons q t=>.cons q (Vals.set r i t)
theorem Vals.append:∀{xs a:ge V} {us ws:ge zk},Vals xs us->Vals a ws->Vals (xs++a) (us++ws)
 | _,_,_,_,.nil,s=>s
 | _,_,_,_,.cons r t,s=>.cons r (Vals.append t s)
theorem Vals.take:∀{xs:ge V} {us:ge zk} (n:Nat),Vals xs us->Vals (xs.take n) (us.take n)
 | _,_,0,_=>.nil
 | _,_,_+1,.nil=>.nil
 | _,_,n+1,.cons r t=>.cons r (Vals.take n t)
theorem Vals.drop:∀{xs:ge V} {us:ge zk} (n:Nat),Vals xs us->Vals (xs.drop n) (us.drop n)
 | _,_,0,r=>r
 | _,_,_+1,.nil=>.nil
 | _,_,n+1,.cons _ t=>Vals.drop n t
theorem Vals.none_of:∀{xs:ge V} {a:ge zk} {i:Nat},Vals xs a->xs[i]? = none->a[i]? = none:=λ {xs a i} r e=>by
 have h1:=r.length;have h2:=List.getElem?_eq_none_iff.mp e;exact List.getElem?_eq_none_iff.mpr (by omega)
def RelO:on V->on zk->Prop
 | some v,some u=>RelV v u
 | none,none=>True
 | _,_=>False
def KV{κ:Type}:ge (κ×V)->ge (κ×zk)->Prop:=Paired λ (p:κ×V) (q:κ×zk)=>p.1=q.1/\RelV p.2 q.2
noncomputable def kV:Key->V
 | .inl i=>.int i
 | .inr x=>.str x
inductive HO where
 | lst (xs:List V)
 | tup (xs:List V)
 | dK (kvs:List (Key×V)) | dT (kvs:List (List Key×V))
 | set (S:Int->Bool) (n:Nat)
 | ins (C dx:Addr) (fs:List (Str×V))
 | own (x:Addr)
 | xd (fs:List (Str×V))
 | met (f x:Addr)
 | rng (lo hi:Int)
 | frz (o:Obj) (u:HO)
 | tbl (q:Str)
 | ext (φ:Heap->Prop)
abbrev Hp:=zn->on HO
noncomputable def upd(H:Hp)(a:zn)(o:HO):Hp:=λ b=>if b=a then some o else H b
theorem v6:upd H a o a=some o:=by unfold upd;rw[d6 rfl]
theorem j4(h:b≠a):upd H a o b=H b:=by unfold upd;rw[d9 h]
theorem mz{H:Hp}(h:H a=some o)(c:H b=some u)(d:o≠u):a≠b:=by
 intro e;subst e;rw[h]at c;exact d (Option.some.inj c)
theorem A0{H:Hp}(h:H a=some o)(c:H b=none):a≠b:=by
 intro e;subst e;rw[h]at c;cases c
def G4(h:zo)(a:zn)(items:zr zk):Prop:=∃o,h.get? a=some o/\(o.cls=.type "tuple" /\ o.dict=none)/\∃n,o.data=.seq items n
theorem G4.tup(x:G4 h a items):IsTup h a items:=let ⟨o,ho,hc,r⟩:=x;⟨o,ho,hc.1,r⟩
theorem G4.lt(x:G4 h a items):a<h.objs.size:=let ⟨_,ho,_⟩:=x;i5 ho
theorem G4.new(h:zo)(items:zr zk):G4 (h.push {cls:=.type "tuple",data:=.seq items}) h.objs.size items:=⟨_,n6 _ rfl,⟨rfl,rfl⟩,_,rfl⟩
section
variable (P:zu) (w:zt)
def u5(H:Hp)(h:zo)(a:zn):HO->Prop
 | .lst xs=>xs.length<=sizeLine/\∃(its:ge zk) (n:Nat),Vals xs its/\h.get? a=some {cls:=.type "list",data:=.seq its.toArray n}
 | .tup xs=>xs.length<=sizeLine/\∃its:ge zk,Vals xs its/\G4 h a its.toArray
 | .dK kvs=>kvs.length<=sizeLine/\(a==sysModules)=false/\∃vs,KV kvs vs/\h.DictOf (D5 P w) a vs
 | .dT kvs=>kvs.length<=sizeLine/\(a==sysModules)=false/\∃xs:ge (ge Key×zn×zk),
   Paired (λ (p:ge Key×V) (q:ge Key×zn×zk)=>p.1=q.1/\H q.2.1=some (.tup (p.1.map kV))/\RelV p.2 q.2.2) kvs xs /\
   ∃o es ep,h.get? a=some o/\o.ExactDict/\o.data=.dict es ep/\es.toList=xs.map (entryOfKey (tupleKind (D5 P w)))/\(xs.map (·.1)).Nodup
 | .set S n=>h.SetOf (intKind P w) a S n
 | .ins C dx fs=>H dx=some (.own a)/\fs.length<=1000/\dx≠a/\h.get? a=some (PySem.W.instObj C dx) /\
   ∃mA,h.Ns1 dx mA/\(∀f,RelO (fs.lookup f) (mA f))/\PySem.Within mA (fs.map (·.1))
 | .own _=>∃o,h.get? a=some o
 | .xd fs=>∃mA,h.Ns1 a mA/\∀f,RelO (fs.lookup f) (mA f)
 | .rng lo hi=>∃t u v,h.get? a=some {cls:=.type "range",data:=.fields #[.int lo t,.int hi u,.int 1 v]}
 | .frz o u=>h.get? a=some o/\u5 H h a u
 | .tbl q=>∃ps:zr zk,h.get? a=some {cls:=.none,data:=.fields ps} /\ TriplesOk ps.toList/\∀pos cv,codeAmong pos ps.toList=some cv->∃c oc u vs t,cv=.ref c/\H c=some (.frz oc u)/\oc.data=.fields vs/\vs[1]? = some (.str q t)
 | .met f x=>h.get? a=some (PySem.W.methodObj (.ref f) (.ref x))
 | .ext φ=>φ h/\(∃o,h.get? a=some o)/\∀h1 h2:zo,φ h1->(∀o,h1.get? a=some o->h2.get? a=some o)->φ h2
def HOk(H:Hp)(h:zo):Prop:=∀a o,H a=some o->u5 P w H h a o
end
section
theorem u5.lt(x:u5 P w H h a o):a<h.objs.size:=by
 cases o with
 | lst c=>obtain⟨_,_,_,_,e⟩:=x;exact i5 e
 | tup c=>obtain⟨_,_,_,p⟩:=x;exact p.lt
 | dK b=>obtain⟨_,_,_,_,o,_,_,e,_⟩:=x;exact i5 e
 | dT b=>obtain⟨_,_,_,_,o,_,_,e,_⟩:=x;exact i5 e
 | set S n=>obtain⟨o,_,_,_,e,_⟩:=x;exact i5 e
 | ins C dx fs=>obtain⟨_,_,_,e,_⟩:=x;exact i5 e
 | own y=>obtain⟨_,e⟩:=x;exact i5 e
 | xd fs=>obtain⟨_,⟨_,_,_,e,_⟩,_⟩:=x;exact i5 e
 | rng lo hi=>obtain⟨_,_,_,e⟩:=x;exact i5 e
 | frz ob u=>obtain⟨e,_⟩:=x;exact i5 e
 | tbl q=>obtain⟨_,e,_⟩:=x;exact i5 e
 | met f y=>exact i5 (x)
 | ext φ=>obtain⟨_,⟨_,e⟩,_⟩:=x;exact i5 e
theorem Paired.mapP:∀{c:ge e} {l₂:ge d},Paired F c l₂->(∀a b,F a b->G a b)->Paired G c l₂
 | _,_,.nil,_=>.nil
 | _,_,.cons r t,f=>.cons (f _ _ r) (Paired.mapP t f)
theorem u5.stay(x:u5 P w H h a o)(k:∀b u,(b=a\/H b=some (.own a))->h.get? b=some u->E.get? b=some u)
  (Q:∀b,H b=some (.own a)->H' b=some (.own a)) (O:∀b xs,H b=some (.tup xs)->H' b=some (.tup xs)) (N:∀b o u vs,o.data=.fields vs->H b=some (.frz o u)->H' b=some (.frz o u)):u5 P w H' E a o:=by
 induction o with
 | lst xs=>obtain⟨z,j,n,r,e⟩:=x;exact⟨z,j,n,r,k _ _ (.inl rfl) e⟩
 | tup xs=>obtain⟨z,j,r,g,e,c⟩:=x;exact⟨z,j,r,g,k _ _ (.inl rfl) e,c⟩
 | dK B=>obtain⟨z,y,vs,r,g,es,i,e,c⟩:=x;exact⟨z,y,vs,r,g,es,i,k _ _ (.inl rfl) e,c⟩
 | dT B=>
  obtain⟨z,y,xs,r,g,es,i,e,c⟩:=x;exact⟨z,y,xs,Paired.mapP r λ p q z=>⟨z.1,O _ _ z.2.1,z.2.2⟩,g,es,i,k _ _ (.inl rfl) e,c⟩
 | set S n=>obtain⟨g,es,i,t,e,c⟩:=x;exact⟨g,es,i,t,k _ _ (.inl rfl) e,c⟩
 | ins C dx fs=>
  obtain⟨d,z,ne,e,A,⟨m,es,i,F,c⟩,r⟩:=x;exact⟨Q _ d,z,ne,k _ _ (.inl rfl) e,A,⟨m,es,i,k _ _ (.inr d) F,c⟩,r⟩
 | own y=>obtain⟨g,e⟩:=x;exact⟨g,k _ _ (.inl rfl) e⟩
 | xd fs=>obtain⟨A,⟨m,es,i,e,c⟩,r⟩:=x;exact⟨A,⟨m,es,i,k _ _ (.inl rfl) e,c⟩,r⟩
 | rng lo hi=>obtain⟨t,u,v,e⟩:=x;exact⟨t,u,v,k _ _ (.inl rfl) e⟩
 | frz g u M=>obtain⟨e,q⟩:=x;exact⟨k _ _ (.inl rfl) e,M q⟩
 | tbl q=>
  obtain⟨K,e,t,f⟩:=x;refine⟨K,k a _ (.inl rfl) e,t,λ l W z=>?_⟩;obtain⟨c,L,u,vs,J,U,F,I,R⟩:=f l W z;exact⟨c,L,u,vs,J,U,N _ _ _ _ I F,I,R⟩
 | met f y=>
  have e:=x;show E.get? a=some _;exact k a _ (.inl rfl) e
 | ext φ=>obtain⟨p,⟨o,e⟩,st⟩:=x;exact⟨st _ _ p λ o q=>k _ _ (.inl rfl) q,⟨o,k _ _ (.inl rfl) e⟩,st⟩
theorem HOk.lt(x:HOk P w H h)(e:H a=some o):a<h.objs.size:=(x a o e).lt
theorem HOk.fresh(x:HOk P w H h)(e:h.objs.size<=a):H a=none:=by
 cases q:H a with
 | none=>rfl
 | some u=>exact absurd (p6 (x.lt q) e) (Nat.lt_irrefl _)
theorem HOk.kept(x:HOk P w H h)(k:∀b u,h.get? b=some u->c.get? b=some u):HOk P w H c:=λ a o e=>
 (x a o e).stay (λ b u _ q=>k b u q) (λ _ q=>q) (λ _ _ q=>q) λ _ _ _ _ _ q=>q
theorem HOk.laid(x:HOk P w H h)(k:∀b u,h.get? b=some u->f.get? b=some u)(i:h.objs.size<=a)(new:u5 P w (upd H a o) f a o):HOk P w (upd H a o) f:=λ b u e=>by
 have d:=x.fresh i;by_cases g:b=a
 ·subst g;rw[v6]at e;cases e;exact new
 ·rw[j4 g]at e;exact(x b u e).stay (λ c v _ q=>k c v q) (λ c q=>by rw[j4 (A0 q d)];exact q) (λ c xs q=>by rw[j4 (A0 q d)];exact q) λ c _ _ _ _ q=>by rw[j4 (A0 q d)];exact q
end
def Rd(H:Hp)(a:zn)(u:HO):Prop:=H a=some u\/∃o,H a=some (.frz o u)
theorem Rd.ok(r:Rd H a u)(x:HOk P w H h):u5 P w H h a u:=by
 rcases r with r | ⟨o,r⟩
 ·exact x a u r
 ·obtain⟨_,q⟩:=x a _ r;exact q
noncomputable def Mut:on HO->Prop
 | some (.lst _)=>True
 | some (.dK _)=>True
 | some (.dT _)=>True
 | some (.set _ _)=>True
 | some (.ins _ _ _)=>True
 | some (.ext _)=>True
 | _=>False
section
theorem HOk.write(ok:HOk P w H h)(f:Mut (H x))(B:e=x\/H e=some (.own x))(k:∀b u,b≠e->h.get? b=some u->m.get? b=some u)(p:∃u,m.get? e=some u)
  (new:u5 P w (upd H x n) m x n):HOk P w (upd H x n) m:=λ b u q=>by
 have d:∀c y,H c=some (.own y)->c≠x:=λ c y r z=>by subst z;rw[r]at f;exact f
 have g:∀c i,H c=some (.tup i)->c≠x:=λ c i r z=>by subst z;rw[r]at f;exact f
 by_cases l:b=x
 ·subst l;rw[v6]at q;cases q;exact new
 ·rw[j4 l]at q;by_cases a:b=e
  ·have A:H b=some (.own x):=by
    rcases B with z | z
    ·exact absurd (a.trans z) l
    ·rw[a];exact z
   rw[q]at A;cases A;obtain⟨v,C⟩:=p;exact⟨v,by rw[a];exact C⟩
  ·refine(ok b u q).stay (λ c v j r=>k c v ?_ r) (λ c r=>by rw[j4 (d c b r)];exact r) (λ c i r=>by rw[j4 (g c i r)];exact r) λ c o v _ _ r=>by rw[j4 λ z=>by subst z;rw[r]at f;exact f];exact r
   rcases j with rfl | j
   ·exact a
   ·rintro rfl
    rcases B with z | z
    ·exact d c b j z
    ·rw[j]at z;cases z;exact l rfl
end
structure Un(fs ex:List Addr)(H H':Hp)(h h':Heap):Prop where
 keep:∀b o,h.get? b=some o->H b=none->b∉fs->b∉ex->h'.get? b=some o
 slot:∀b o,h.get? b=some o->H b=none->b∈fs->b∉ex->∃sl,h'.get? b=some {o with slots:=sl}
 free:∀b o,h.get? b=some o->H b=none->b∉ex->H' b=none
 there:∀b o,h.get? b=some o->b∉ex->∃o',h'.get? b=some o'
 tups:∀b xs,H b=some (.tup xs)->H' b=some (.tup xs)
 frzs:∀b o u,H b=some (.frz o u)->H' b=some (.frz o u)
 tbls:∀b q,H b=some (.tbl q)->H' b=some (.tbl q)
section
theorem Un.any(u:Un fs ex H g h e)(q:h.get? b=some a)(n:H b=none)(c:b∉ex):∃f,e.get? b=some {a with slots:=f}:=by
 by_cases d:b∈fs
 ·exact u.slot b a q n d c
 ·exact⟨a.slots,u.keep b a q n d c⟩
theorem Un.kept(k:∀b u,h.get? b=some u->c.get? b=some u):Un fs ex H H h c:=
 ⟨λ b a q _ _ _=>k b a q,λ b a q _ _ _=>⟨a.slots,k b a q⟩,λ _ _ _ n _=>n,λ b a q _=>⟨a,k b a q⟩,λ _ _ q=>q,λ _ _ _ q=>q,λ _ _ q=>q⟩
theorem Un.refl:Un fs ex H H h h:=Un.kept λ _ _ q=>q
theorem Un.laid(k:∀b u,h.get? b=some u->d.get? b=some u)(f:h.objs.size<=a)(c:H a=none):Un fs ex H (upd H a o) h d where
 keep:=λ b u q _ _ _=>k b u q
 slot:=λ b u q _ _ _=>⟨u.slots,k b u q⟩
 free:=λ b u q n _=>by rw[j4 (j7 (p6 (i5 q) f))];exact n
 there:=λ b u q _=>⟨u,k b u q⟩
 tups:=λ b e q=>by rw[j4 (A0 q c)];exact q
 frzs:=λ b u e q=>by rw[j4 (A0 q c)];exact q
 tbls:=λ b ps q=>by rw[j4 (A0 q c)];exact q
theorem Un.write(c:Mut (H x))(p:e=x\/H e=some (.own x))(k:∀b u,b≠e->h.get? b=some u->g.get? b=some u)(f:∃u,g.get? e=some u):Un fs ex H (upd H x o) h g:=by
 have i:∀b,H b=none->b≠x:=λ b n z=>by subst z;rw[n]at c;exact c
 have j:∀b,H b=none->b≠e:=λ b n z=>by
  subst z;rcases p with r | r
  ·exact i b n r
  ·rw[n]at r;cases r
 have d:∀b u,H b=some u->¬Mut (some u)->b≠x:=λ b u q m z=>by subst z;rw[q]at c;exact m c
 refine⟨λ b u q n _ _=>k b u (j b n) q,λ b u q n _ _=>⟨u.slots,k b u (j b n) q⟩,λ b u q n _=>by rw[j4 (i b n)];exact n,λ b u q _=>?_,
  λ b l q=>by rw[j4 (d b _ q λ z=>z)];exact q,λ b u l q=>by rw[j4 (d b _ q λ z=>z)];exact q,λ b ps q=>by rw[j4 (d b _ q λ z=>z)];exact q⟩
 by_cases a:b=e
 ·subst a;exact f
 ·exact⟨u,k b u a q⟩
end
noncomputable def trk(h:zo)(H:Hp):ge zn:=(List.range h.objs.size).filter λ a=>(H a).isSome
def hidT(h:zo)(H:Hp):zo:=PySem.W.hideAll h (trk h H)
theorem mD(h:zo)(H:Hp):(hidT h H).objs.size=h.objs.size:=PySem.W.hideAll_size _ _
theorem mE(e:h.get? b=some o)(n:H b=none):(hidT h H).get? b=some o:=
 PySem.W.hideAll_get _ e λ a=>by have q:=(j6.mp a).2;rw[n]at q;simp at q
theorem mF(e:(hidT h H).get? b=some o):h.get? b=some o/\H b=none:=by
 have a:=PySem.W.of_hideAll _ e;refine⟨a,?_⟩;cases q:H b with
 | none=>rfl
 | some x=>
  have z:(hidT h H).get? b=none:=PySem.W.hideAll_none _ (j6.mpr ⟨k6.mpr (i5 a),by simp[q]⟩);rw[z]at e;cases e
noncomputable def mG(g h:zo)(L:zn):ge (zn×Obj):=(List.range h.objs.size).filterMap λ a=>if a=L\/(g.get? a).isSome=true then none else(h.get? a).map λ o=>(a,o)
def rest(g h:zo)(L d:zn):ge (zn×Obj):=(mG g h L).filter λ p=>decide (p.1≠d)
end L2
namespace L2
open PySem PySem.Spec PyProof.Rows
structure Mod(K:PySem.W.Frag)(mg:Str->Option Value)(base:Heap):Prop where
 kin:K.In base
 glob:base.Ns mainGlobals mg
 blt:∃mb,base.Ns builtinsNs mb/\∀x:Str,x ≠ "__name__" -> mb x=bootBuiltins x
 nolimit:base.NoLimit
 bmod:∃bm ob,mg "__builtins__" = some (.ref bm)/\bm≠builtinsNs/\base.get? bm=some ob/\ob.cls=.type "module" /\ ob.dict=some builtinsNs/\ob.data=.plain
set_option genInjectivity true in
structure Cx where
 prog:Program
 w:World
 K:PySem.W.Frag
 mg:Str->Option Value
 base:Heap
 A:Around
 N:List Str
 s₀:Shared
 H₀:Hp
 env:Env
 outer:List Env
 stack:List Env
 ex:List Addr
 fn:Str->Bool
 calm:Bool
 pn:List (Addr×Obj)
 xe:Value->Shared->Prop
noncomputable def u6(K:zA):ge (zn×Str):=K.filterMap λ p=>match p.2.cls,p.2.data with
 | .type "code",.fields vs=>(match(vs[11]?:on zk),(vs[1]?:on zk)with
  | some (.ref P),some (.str q _)=>if(K.lookup P).isNone then some (P,q ++ ".<locals>." ++ "<lambda>")else none
  | _,_=>none)
 | _,_=>none
def R8(K:zA)(H:Hp):Prop:=∀p∈u6 K,H p.1=some (.tbl p.2)
noncomputable def frs(l:ge Env):ge zn:=l.filterMap (·.frame)
abbrev Cx.fs(X:Cx):ge zn:=frs X.outer
def Vis(sc:zB)(x:Str):Prop:=sc.names.lookup x=some .local\/sc.names.lookup x=some .cell\/sc.names.lookup x=some .free
def Loc(sc:zB)(x:Str):Prop:=sc.names.lookup x=some .local\/sc.names.lookup x=some .cell
def Look(env:Env)(h:zo)(m:Str->on zk)(x:Str)(u:zk):Prop:=
 (env.kindOf x=some .local/\m x=some u)\/((env.kindOf x=some .cell\/env.kindOf x=some .free)/\∃c,env.cells.lookup x=some c/\h.IsCell c (some u))
structure Cx.Ok(X:Cx):Prop where
 mod:Mod X.K X.mg X.base
 kind:X.env.scope.kind=.function
 glob:X.env.globals=mainGlobals
 blt:X.env.builtins=builtinsNs
 above:X.s₀.heap.objs.size<=X.env.locals
 inj:∀x y c,X.env.cells.lookup x=some c->X.env.cells.lookup y=some c->x=y
 has:∀x,(X.env.kindOf x=some .cell\/X.env.kindOf x=some .free)->∃c,X.env.cells.lookup x=some c
 cab:∀x c,X.fn x=true->X.env.cells.lookup x=some c->X.s₀.heap.objs.size<=c
 hd:X.calm=true->X.A.handled=none
 frames:X.A.frames=some X.stack
 stk:X.stack=X.outer\/(X.stack=X.env::X.outer/\X.env.frame=some X.env.locals)
 exf:∀b∈X.ex,b≠X.env.locals/\∀x c,X.env.cells.lookup x=some c->c≠b
 bs:∀b o,X.base.get? b=some o->X.s₀.heap.get? b=some o/\X.H₀ b=none
 bsz:X.base.objs.size<=X.s₀.heap.objs.size
 noex:∀b o,X.base.get? b=some o->b∉X.ex
 exfs:∀b∈X.ex,b∉X.fs
 funs:X.s₀.heap.FunFrames X.base X.outer
 frf:(∀b∈X.fs,X.H₀ b=none)/\R8 X.K X.H₀
structure Inv(X:Cx)(pins:List (Addr×Obj))(σ:List (Option V))(H:Hp)(s:Shared):Prop where
 ok:X.Ok
 os:s.os=X.s₀.os
 bare:AllBare s.gens
 base:Un X.fs X.ex X.H₀ H X.s₀.heap s.heap
 loc:∃m,s.heap.Ns X.env.locals m/\∀(i:Nat) (x:Str) (v:V),X.N[i]? = some x->σ[i]? = some (some v)->Vis X.env.scope x->∃u,RelV v u/\Look X.env s.heap m x u
 cell:∀x c,X.env.cells.lookup x=some c->∃v,s.heap.IsCell c v
 free:H X.env.locals=none
 freeC:∀x c,X.env.cells.lookup x=some c->H c=none
 pin:∀p∈X.pn++pins,s.heap.get? p.1=some p.2/\H p.1=none/\p.1≠X.env.locals/\p.1∉X.fs/\∀v,p.2.data ≠ .cell v
 hok:HOk X.prog X.w H s.heap
 len:σ.length=X.N.length
section
theorem Cx.Ok.nofr{X:Cx}(ok:X.Ok)(e:X.base.get? b=some o):b∉X.fs:=λ a=>by
 have:=(ok.funs.mem a).1;rw[e]at this;cases this
theorem Inv.bs(I:Inv X a σ H s):∀b o,X.base.get? b=some o->s.heap.get? b=some o/\H b=none:=λ b o e=>
 ⟨I.base.keep b o (I.ok.bs b o e).1 (I.ok.bs b o e).2 (I.ok.nofr e) (I.ok.noex b o e),I.base.free b o (I.ok.bs b o e).1 (I.ok.bs b o e).2 (I.ok.noex b o e)⟩
theorem Inv.bk(I:Inv X a σ H s):∀b o,X.base.get? b=some o->s.heap.get? b=some o:=λ b o e=>(I.bs b o e).1
theorem Inv.mod(I:Inv X a σ H s):Mod X.K X.mg X.base:=I.ok.mod
theorem Inv.tabs(I:Inv X a σ H s):R8 X.K H:=λ p b=>I.base.tbls p.1 p.2 (I.ok.frf.2 p b)
theorem Inv.kIn(I:Inv X a σ H s):X.K.In s.heap:=I.ok.mod.kin.keeps I.bk
theorem Inv.lt(I:Inv X a σ H s):X.env.locals<s.heap.objs.size:=let ⟨_,hn,_⟩:=I.loc;hn.lt
theorem Inv.sz(I:Inv X a σ H s):X.s₀.heap.objs.size<=s.heap.objs.size:=g9 I.ok.above (Nat.le_of_lt I.lt)
theorem Inv.nofs(I:Inv X b σ H s)(h:s.heap.objs.size<=a):a∉X.fs:=λ d=>by
 obtain⟨_,o,c,_⟩:=I.ok.funs.mem d
 exact absurd (p6 (i5 c) (g9 I.sz h)) (Nat.lt_irrefl _)
theorem Inv.cne(I:Inv X a σ H s):∀x c,X.env.cells.lookup x=some c->c≠X.env.locals:=λ x c e z=>by
 obtain⟨v,o,f,g⟩:=I.cell x c e;obtain⟨m,⟨o',es,ep,b,d,_⟩,_⟩:=I.loc;rw[z,b]at f;cases f;rw[d]at g;cases g
theorem Inv.funs(I:Inv X a σ H s):s.heap.FunFrames X.base X.outer:=by
 have all:∀(l:ge Env),(∀b∈frs l,b∈X.fs)->X.s₀.heap.FunFrames X.base l->s.heap.FunFrames X.base l:=by
  intro l
  induction l with
  | nil=>intro _ _;trivial
  | cons p r g=>
   intro hs k;obtain⟨m,⟨L,o,c,j,i,n⟩,h⟩:=k;have f:=hs L (by unfold frs;rw[List.filterMap_cons,c];exact i9);obtain⟨sl,e⟩:=I.base.slot L o i (I.ok.frf.1 L f) f λ z=>I.ok.exfs L z f
   exact⟨m,⟨L,_,c,j,e,n⟩,g (λ b d=>hs b (by unfold frs;rw[List.filterMap_cons,c];exact i8 _ d)) h⟩
 exact all X.outer (λ _ d=>d) I.ok.funs
theorem Inv.stack(I:Inv X a σ H s):s.heap.FunFrames X.base X.stack:=by
 rcases I.ok.stk with e | ⟨e,hf⟩
 ·rw[e];exact I.funs
 ·rw[e];obtain⟨m,b,_⟩:=I.loc;refine .cons (by rw[I.ok.kind];decide) hf b ?_ I.funs
  exact Heap.get?_none_of_le (g9 I.ok.bsz I.ok.above)
theorem Inv.stkSub(I:Inv X c σ H s):∀b∈frs X.stack,b∈X.env.locals::X.fs:=λ b a=>by
 rcases I.ok.stk with e | ⟨e,hf⟩
 ·rw[e]at a;exact i8 _ a
 ·rw[e]at a;unfold frs at a;rw[List.filterMap_cons,hf]at a;exact a
theorem Inv.stkFree(I:Inv X a σ H s):∀b∈frs X.stack,H b=none:=λ b c=>by
 rcases e8.mp (I.stkSub b c)with e | c
 ·rw[e];exact I.free
 ·obtain⟨_,o,d,_⟩:=I.ok.funs.mem c
  exact I.base.free b o d (I.ok.frf.1 b c) λ z=>I.ok.exfs b z c
theorem Inv.step{ch:ge zn}(I:Inv X f σ H s)
  (h:∀b∈ch,(b∈X.ex\/X.s₀.heap.objs.size<=b)/\b≠X.env.locals/\(∀x c,X.env.cells.lookup x=some c->c≠b)/\∀p∈X.pn++f,p.1≠b)
  (keep:∀b o,b≠X.env.locals->b∉X.fs->b∉ch->s.heap.get? b=some o->H b=none->A.get? b=some o)
  (slot:∀b o,b≠X.env.locals->b∈X.fs->b∉ch->s.heap.get? b=some o->H b=none->∃M,A.get? b=some {o with slots:=M}) (free:∀b o,b∉ch->s.heap.get? b=some o->H b=none->H' b=none)
  (there:∀b o,b∉ch->s.heap.get? b=some o->∃F,A.get? b=some F)
  (tups:∀b xs,H b=some (.tup xs)->H' b=some (.tup xs)) (K:∀b o u,H b=some (.frz o u)->H' b=some (.frz o u)) (E:∀b q,H b=some (.tbl q)->H' b=some (.tbl q))
  (Y:∀m,s.heap.Ns X.env.locals m->A.Ns X.env.locals m) (N:HOk X.prog X.w H' A) (hg:AllBare W) :
  Inv X f σ H' {s with heap:=A,gens:=W,drawn:=d',toks:=t'}:=by
 have J:∀b o,X.s₀.heap.get? b=some o->b≠X.env.locals:=λ b o e=>j7 (p6 (i5 e) I.ok.above);have w:∀b o,X.s₀.heap.get? b=some o->b∉X.ex->b∉ch:=λ b o e a y=>by
  rcases(h b y).1 with z | z
  ·exact a z
  ·exact absurd (p6 (i5 e) z) (Nat.lt_irrefl _)
 have j:∀x c,X.env.cells.lookup x=some c->∀v,s.heap.IsCell c v->A.IsCell c v:=λ x c e v ⟨o,C,O⟩=>by
  have g:c∉ch:=λ z=>(h c z).2.2.1 x c e rfl;by_cases U:c∈X.fs
  ·obtain⟨M,q⟩:=slot c o (I.cne x c e) U g C (I.freeC x c e);exact⟨_,q,O⟩
  ·exact⟨o,keep c o (I.cne x c e) U g C (I.freeC x c e),O⟩
 refine⟨I.ok,I.os,hg,⟨λ b o e n y a=>?_,λ b o e n y a=>?_,λ b o e n a=>?_,λ b o e a=>?_,λ b xs e=>tups b xs (I.base.tups b xs e),λ b o xs e=>K b o xs (I.base.frzs b o xs e),λ b Q e=>?_⟩,?_,λ x c e=>?_,?_,λ x c e=>?_,λ p S=>?_,N,I.len⟩
 ·exact keep b o (J b o e) y (w b o e a) (I.base.keep b o e n y a) (I.base.free b o e n a)
 ·obtain⟨M,B⟩:=I.base.slot b o e n y a;obtain⟨L,P⟩:=slot b _ (J b o e) y (w b o e a) B (I.base.free b o e n a);exact⟨L,P⟩
 ·obtain⟨F,B⟩:=I.base.there b o e a;exact free b F (w b o e a) B (I.base.free b o e n a)
 ·obtain⟨F,B⟩:=I.base.there b o e a;exact there b F (w b o e a) B
 ·exact E b Q (I.base.tbls b Q e)
 ·obtain⟨m,Z,hl⟩:=I.loc;refine⟨m,Y m Z,λ i x v B P e3=>?_⟩;obtain⟨u,r,l⟩:=hl i x v B P e3;refine⟨u,r,?_⟩;rcases l with l | ⟨k,c,e,z⟩
  ·exact .inl l
  ·exact .inr ⟨k,c,e,j x c e _ z⟩
 ·obtain⟨v,z⟩:=I.cell x c e;exact⟨v,j x c e v z⟩
 ·obtain⟨m,⟨o,_,_,C,_⟩,_⟩:=I.loc;exact free _ o (λ z=>(h _ z).2.1 rfl) C I.free
 ·obtain⟨v,o,C,O⟩:=I.cell x c e;exact free c o (λ z=>(h c z).2.2.1 x c e rfl) C (I.freeC x c e)
 ·obtain⟨e,n,ne,R,d⟩:=I.pin p S;have g:p.1∉ch:=λ z=>(h p.1 z).2.2.2 p S rfl
  exact⟨keep p.1 p.2 ne R g e n,free p.1 p.2 g e n,ne,R,d⟩
theorem Inv.un(I:Inv X a σ H s)(u:Un X.fs [] H H' s.heap g)(d:HOk X.prog X.w H' g):Inv X a σ H' {s with heap:=g,toks:=t'}:=by
 obtain⟨m,⟨o,es,ep,j,r⟩,_⟩:=id I.loc;obtain⟨sl,p⟩:=u.any j I.free (by simp);exact I.step (ch:=[]) (λ _ z=>nomatch z) (λ b o _ f _ e n=>u.keep b o e n f (by simp)) (λ b o _ f _ e n=>u.slot b o e n f (by simp)) (λ b o _ e n=>u.free b o e n (by simp)) (λ b o _ e=>u.there b o e (by simp)) u.tups u.frzs u.tbls (λ m' l=>by
  obtain⟨o',h,i,c,k⟩:=l;rw[j]at c;cases c;exact⟨_,h,i,p,k⟩) d I.bare
theorem Inv.call(I:Inv X a σ H s)(u:Un (frs X.stack) ch H H' s.heap j)(h:HOk X.prog X.w H' j)(A:AllBare v)
  (g:∀b∈ch,(b∈X.ex\/X.s₀.heap.objs.size<=b)/\b≠X.env.locals/\(∀x c,X.env.cells.lookup x=some c->c≠b)/\∀p∈X.pn++a,p.1≠b) :
  Inv X a σ H' {s with heap:=j,gens:=v,drawn:=C,toks:=t'}:=by
 obtain⟨m,⟨o,es,ep,q,r⟩,_⟩:=id I.loc;obtain⟨sl,i⟩:=u.any q I.free λ z=>(g _ z).2.1 rfl
 exact I.step g (λ b o i B d e n=>u.keep b o e n (λ z=>(e8.mp (I.stkSub b z)).elim i B) d) (λ b o _ _ d e n=>u.any e n d) (λ b o d e n=>u.free b o e n d) (λ b o d e=>u.there b o e d) u.tups u.frzs u.tbls (λ m' y=>by
  obtain⟨o',k,l,f,w⟩:=y;rw[q]at f;cases f;exact⟨_,k,l,i,w⟩) h A
theorem Inv.turned(I:Inv X a σ H s)(k:∀b o,b≠it->s.heap.get? b=some o->h.get? b=some o)(j:H it=none)(g:it≠X.env.locals)
  (B:it∈X.ex\/X.s₀.heap.objs.size<=it) (A:∀x c,X.env.cells.lookup x=some c->c≠it) (y:∀p∈X.pn++a,p.1≠it):Inv X a σ H {s with heap:=h,toks:=t'}:=by
 have f:∀b u,H b=some u->b≠it:=λ b u e z=>by rw[z,j]at e;cases e
 refine I.step (ch:=[it]) (λ b w=>?_) (λ b o _ _ d e _=>k b o (λ z=>d (by simp[z])) e) (λ b o _ _ d e _=>⟨o.slots,k b o (λ z=>d (by simp[z])) e⟩) (λ _ _ _ _ n=>n)
  (λ b o d e=>⟨o,k b o (λ z=>d (by simp[z])) e⟩) (λ _ _ e=>e) (λ _ _ _ e=>e) (λ _ _ e=>e) (λ m l=>?_) (λ b u e=>?_) I.bare
 ·have e:b=it:=by simpa using w
  subst e;exact⟨B,g,A,y⟩
 ·obtain⟨o,es,C,i,r⟩:=l;exact⟨o,es,C,k _ o (Ne.symm g) i,r⟩
 ·refine(I.hok b u e).stay (λ c v d q=>k c v ?_ q) (λ _ q=>q) (λ _ _ q=>q) λ _ _ _ _ _ q=>q;rcases d with z | z
  ·rw[z];exact f b u e
  ·exact f c _ z
theorem Inv.tok(I:Inv X a σ H s)(t:Nat):Inv X a σ H {s with toks:=t}:=I.un Un.refl I.hok
theorem Inv.kept(I:Inv X a σ H s)(k:∀b u,s.heap.get? b=some u->c.get? b=some u):Inv X a σ H {s with heap:=c,toks:=t'}:=I.un (Un.kept k) (I.hok.kept k)
theorem Inv.laid(I:Inv X c σ H s)(k:∀b u,s.heap.get? b=some u->e.get? b=some u)(d:s.heap.objs.size<=a)(new:u5 X.prog X.w (upd H a o) e a o) :
  Inv X c σ (upd H a o) {s with heap:=e,toks:=t'}:=I.un (Un.laid k d (I.hok.fresh d)) (I.hok.laid k d new)
theorem Inv.write(I:Inv X a σ H s)(f:Mut (H x))(g:e=x\/H e=some (.own x))(k:∀b u,b≠e->s.heap.get? b=some u->d.get? b=some u)(c:∃u,d.get? e=some u)
  (new:u5 X.prog X.w (upd H x o) d x o):Inv X a σ (upd H x o) {s with heap:=d,toks:=t'}:=I.un (Un.write f g k c) (I.hok.write f g k c new)
theorem Inv.pins_of(I:Inv X a σ H s)(h:∀p∈pins',s.heap.get? p.1=some p.2/\H p.1=none/\p.1≠X.env.locals/\p.1∉X.fs/\∀v,p.2.data ≠ .cell v):Inv X pins' σ H s:=
 ⟨I.ok,I.os,I.bare,I.base,I.loc,I.cell,I.free,I.freeC,λ p b=>(List.mem_append.mp b).elim (λ z=>I.pin p (w4 _ z)) (h p),I.hok,I.len⟩
theorem X7{N:ge Str}(c:N.Nodup){j:Nat}(a:N[i]? = some x)(b:N[j]? = some x):i=j:=by
 obtain⟨h1,e⟩:=t6.mp a;obtain⟨h2,d⟩:=t6.mp b;exact(List.getElem_inj c).mp (e.trans d.symm)
theorem dY(I:Inv X F σ H s)(hN:X.N.Nodup)(U:X.N[i]? = some x)(w:Loc X.env.scope x)(r:RelV v u)
  (h:∀s',Inv X F (σ.set i (some v)) H s'->(∃a,Heap.SameBut a s.heap s'.heap/\(a=X.env.locals\/X.env.cells.lookup x=some a))->Q () s') (hf:X.fn x=true\/X.env.scope.names.lookup x=some .local:=by first | exact .inl rfl | exact .inr rfl | assumption):wpAny M A (storeName X.env x u) Q E s:=by
 obtain⟨m,hn,hl⟩:=id I.loc;have W:(X.env.scope.kind == .class||(X.env.scope.kind == .module&&X.env.locals != X.env.globals))=false:=by rw[I.ok.kind];rfl
 have K:i<σ.length:=by rw[I.len];exact(t6.mp U).1
 have cne:=I.cne;have f:∀{a:zn} {P:zo},(∃o,s.heap.get? a=some o/\H a=none)->Heap.SameBut a s.heap P->HOk X.prog X.w H P:=λ {a P} ha hs b ob e=>by
  obtain⟨_,_,B⟩:=ha;refine(I.hok b ob e).stay (λ c w' l q=>(hs.2 c ?_).trans q) (λ _ q=>q) (λ _ _ q=>q) λ _ _ _ _ _ q=>q
  rintro rfl
  rcases l with rfl | l
  ·rw[B]at e;cases e
  ·rw[B]at l;cases l
 rcases w with J | J
 ·refine wpAny_storeName_local J hn (λ P a1 hs=>?_) W;obtain⟨oL,_,_,a0,_⟩:=id hn;refine h _ ⟨I.ok,I.os,I.bare,⟨λ b o e n O w=>?_,λ b o e n O w=>?_,I.base.free,λ b o e w=>?_,I.base.tups,I.base.frzs,I.base.tbls⟩,⟨_,a1,λ j y v' g C e3=>?_⟩,λ y c e=>?_,I.free,I.freeC,λ p hp=>?_,f ⟨oL,a0,I.free⟩ hs,by simpa using I.len⟩ ⟨_,hs,.inl rfl⟩
  ·exact(hs.2 b (j7 (p6 (i5 e) I.ok.above))).trans (I.base.keep b o e n O w)
  ·obtain⟨sl,g⟩:=I.base.slot b o e n O w;exact⟨sl,(hs.2 b (j7 (p6 (i5 e) I.ok.above))).trans g⟩
  ·obtain⟨o',g⟩:=I.base.there b o e w;exact⟨o',(hs.2 b (j7 (p6 (i5 e) I.ok.above))).trans g⟩
  ·by_cases L:j=i
   ·subst L;rw[U]at g;cases g;rw[A8 K]at C;cases C;exact⟨u,r,.inl ⟨J,by simp⟩⟩
   ·rw[i4 (Ne.symm L)]at C;obtain⟨u',r',q⟩:=hl j y v' g C e3;refine⟨u',r',?_⟩;rcases q with⟨k,e⟩ | ⟨k,c,e,z⟩
    ·refine .inl ⟨k,?_⟩;have:y≠x:=λ e=>L (X7 hN g (e▸U));simp[this,e]
    ·exact .inr ⟨k,c,e,z.sameBut hs (cne y c e)⟩
  ·obtain⟨w',z⟩:=I.cell y c e;exact⟨w',z.sameBut hs (cne y c e)⟩
  ·obtain⟨e,n,ne,nf,d⟩:=I.pin p hp;exact⟨(hs.2 p.1 ne).trans e,n,ne,nf,d⟩
 ·have N:X.fn x=true:=by
   rcases hf with z | z
   ·exact z
   ·rw[z]at J;cases J
  obtain⟨c,l⟩:=I.ok.has x (.inl J);obtain⟨w',z⟩:=I.cell x c l;refine wpAny_storeName_cell I.ok.kind J l z (λ P Z hs=>?_);obtain⟨oc,S,R⟩:=id z;refine h {s with heap:=P} ⟨I.ok,I.os,I.bare,⟨λ b o e n O w=>?_,λ b o e n O w=>?_,I.base.free,λ b o e w=>?_,I.base.tups,I.base.frzs,I.base.tbls⟩,⟨m,hn.sameBut hs (Ne.symm (cne x c l)),λ j y v' g C e3=>?_⟩,λ y c' e=>?_,I.free,I.freeC,λ p hp=>?_,f ⟨oc,S,I.freeC x c l⟩ hs,by simpa using I.len⟩ ⟨c,hs,.inr l⟩
  ·exact(hs.2 b (j7 (p6 (i5 e) (I.ok.cab x c N l)))).trans (I.base.keep b o e n O w)
  ·obtain⟨sl,g⟩:=I.base.slot b o e n O w;exact⟨sl,(hs.2 b (j7 (p6 (i5 e) (I.ok.cab x c N l)))).trans g⟩
  ·obtain⟨o',g⟩:=I.base.there b o e w;exact⟨o',(hs.2 b (j7 (p6 (i5 e) (I.ok.cab x c N l)))).trans g⟩
  ·by_cases L:j=i
   ·subst L;rw[U]at g;cases g;rw[A8 K]at C;cases C;exact⟨u,r,.inr ⟨.inl J,c,l,Z⟩⟩
   ·rw[i4 (Ne.symm L)]at C;obtain⟨u',r',q⟩:=hl j y v' g C e3;refine⟨u',r',?_⟩;rcases q with q | ⟨k,c',e,z'⟩
    ·exact .inl q
    ·refine .inr ⟨k,c',e,z'.sameBut hs ?_⟩
     rintro rfl
     exact L (X7 hN g (I.ok.inj _ _ _ e l▸U))
  ·by_cases Y:c'=c
   ·subst Y;exact⟨_,Z⟩
   ·obtain⟨w2,z2⟩:=I.cell y c' e;exact⟨w2,z2.sameBut hs Y⟩
  ·obtain⟨e,n,ne,nf,d⟩:=I.pin p hp;refine⟨(hs.2 p.1 ?_).trans e,n,ne,nf,d⟩;intro q;rw[q,S]at e;exact d w' (by rw[←(Option.some.inj e)];exact R)
theorem X8(I:Inv X a σ H s)(f:X.N.Nodup)(d:X.N[i]? = some x)(c:Loc X.env.scope x)(r:RelV v u)
  (h:∀b,Inv X a (σ.set i (some v)) H b->Q () b) (e:X.fn x=true\/X.env.scope.names.lookup x=some .local:=by first | exact .inl rfl | exact .inr rfl | assumption):wpAny M A (storeName X.env x u) Q E s:=
 dY I f d c r (λ b g _=>h b g) e
theorem Inv.call'(I:Inv X a σ H s)(h:d.os=s.os)(u:Un (frs X.stack) ch H H' s.heap d.heap)(f:HOk X.prog X.w H' d.heap)(i:AllBare d.gens)
  (g:∀b∈ch,(b∈X.ex\/X.s₀.heap.objs.size<=b)/\b≠X.env.locals/\(∀x c,X.env.cells.lookup x=some c->c≠b)/\∀p∈X.pn++a,p.1≠b):Inv X a σ H' d:=by
 obtain⟨h',g',d',t',o'⟩:=d;have e:=h;subst e;exact I.call u f i g
end
abbrev XK:=zk->on zn->Hp->Prop
abbrev St:=ge (on V)
abbrev VK:=V->Hp->Prop
abbrev TE:=St->Hp->VK->Prop
abbrev TT:=St->Hp->(Bool->Hp->Prop)->Prop
abbrev TA:=St->Hp->(ge V->Hp->Prop)->Prop
structure Ends where
 nx:St->Hp->Prop
 rt:VK
 bk:St->Hp->Prop:=λ _ _=>False
 ct:St->Hp->Prop:=λ _ _=>False
abbrev TS:=Ends->St->Hp->Prop
def EP(X:Cx)(pins:ge (zn×Obj))(σ:St)(Q:VK)(u:zk)(s':zm):Prop:=∃v H',Inv X pins σ H' s'/\RelV v u/\Q v H'
def TP(X:Cx)(pins:ge (zn×Obj))(σ:St)(Q:Bool->Hp->Prop)(b:Bool)(s':zm):Prop:=∃H',Inv X pins σ H' s'/\Q b H'
def AP(X:Cx)(pins:ge (zn×Obj))(σ:St)(Q:ge V->Hp->Prop)(us:ge zk)(s':zm):Prop:=∃vs H',Inv X pins σ H' s'/\Vals vs us/\Q vs H'
def SP(X:Cx)(pins:ge (zn×Obj))(D:Ends)(f:Flow)(s':zm):Prop:=
 match f with
 | .next=>∃σ' H',Inv X pins σ' H' s'/\D.nx σ' H'
 | .brk=>∃σ' H',Inv X pins σ' H' s'/\D.bk σ' H'
 | .cont=>∃σ' H',Inv X pins σ' H' s'/\D.ct σ' H'
 | .ret u=>∃v σ' H',Inv X pins σ' H' s'/\RelV v u/\D.rt v H'
def PE(X:Cx)(e:zq)(t:TE):Prop:=
 ∀(pins:ge (zn×Obj)) (s:zm) (σ:St) (H:Hp) (Q:VK),Inv X pins σ H s->t σ H Q->wpAny (model X.prog X.w) X.A (eval e X.env) (EP X pins σ Q) X.xe s
def PT(X:Cx)(e:zq)(t:TT):Prop:=
 ∀(pins:ge (zn×Obj)) (s:zm) (σ:St) (H:Hp) (Q:Bool->Hp->Prop),Inv X pins σ H s->t σ H Q->wpAny (model X.prog X.w) X.A (isTrue e X.env (eval e X.env)) (TP X pins σ Q) X.xe s
def PW(X:Cx)(e:zq)(t:TT):Prop:=
 ∀(whole:Sem zk) (pins:ge (zn×Obj)) (s:zm) (σ:St) (H:Hp) (Q:Bool->Hp->Prop),Inv X pins σ H s->t σ H Q->wpAny (model X.prog X.w) X.A (isTrue e X.env whole) (TP X pins σ Q) X.xe s
theorem PW.pt(h:PW X e t):PT X e t:=h _
def PA(X:Cx)(es:ge zq)(t:TA):Prop:=
 ∀(pos:Pos) (pins:ge (zn×Obj)) (s:zm) (σ:St) (H:Hp) (Q:ge V->Hp->Prop),Inv X pins σ H s->t σ H Q->wpAny (model X.prog X.w) X.A (spliced (backTo pos (starEach es X.env))) (AP X pins σ Q) X.xe s
def PS(X:Cx)(st:zx)(t:TS):Prop:=
 ∀(pins:ge (zn×Obj)) (s:zm) (σ:St) (H:Hp) (D:Ends),Inv X pins σ H s->t D σ H->wpAny (model X.prog X.w) X.A (exec st X.env) (SP X pins D) X.xe s
def PSs(X:Cx)(st:ge zx)(t:TS):Prop:=
 ∀(pins:ge (zn×Obj)) (s:zm) (σ:St) (H:Hp) (D:Ends),Inv X pins σ H s->t D σ H->wpAny (model X.prog X.w) X.A (execs st X.env) (SP X pins D) X.xe s
theorem thn(h:wpAny M A t Q E s)(c:∀a s,Q a s->Q' a s):wpAny M A t Q' E s:=wpAny_mono h c λ _ _ x=>x
end L2
namespace L2
open PySem PySem.Spec PyProof.Rows
section
variable {X:Cx}
theorem bin(z:PE X a m)(w:PE X b l){R:V->V->Hp->Prop}(I:Inv X c σ H s)(h:m σ H λ x j=>l σ j λ y d=>R x y d)
     {Q:k->zm->Prop} {f:zk->zk->Sem k}
    (r:∀v u i x y d,Inv X c σ d i->RelV x v->RelV y u->R x y d->wpAny (model X.prog X.w) X.A (f v u) Q X.xe i) :
    wpAny (model X.prog X.w) X.A (eval a X.env) (λ v g=>wpAny (model X.prog X.w) X.A (eval b X.env) (λ u e=>wpAny (model X.prog X.w) X.A (f v u) Q X.xe e) X.xe g) X.xe s:=by
  refine thn (z c s σ H _ I h) λ v s1 ⟨x,j,B,o,q⟩=>?_;refine thn (w c s1 σ j _ B q) λ u i ⟨y,d,A,n,p⟩=>?_;exact r v u i x y d A o n p
noncomputable def tVar(i:Nat):TE:=λ σ H Q=>∃v,σ[i]? = some (some v)/\Q v H
noncomputable def tC(v:V):TE:=λ _ H Q=>Q v H
theorem G5(q:X.N[i]? = some x)(k:Vis X.env.scope x)(f:(x==("__debug__" : Str))=false:=by decide)(g:(x==("__classdict__" : Str))=false:=by decide):PE X (.Name x pos) (tVar i):=by
 intro d s j H Q I h;obtain⟨v,e,h⟩:=h;obtain⟨m,n,p⟩:=I.loc;obtain⟨u,r,l⟩:=p i x v q e k;have b:EP X d j Q u s:=⟨v,H,I,r,h⟩;rcases l with⟨a,o⟩ | ⟨a,c,hc,hcell⟩
 ·exact wpAny_Name (wpAny_loadName_local I.ok.kind a n o b) f
 ·rcases a with a | a
  ·exact wpAny_Name (wpAny_loadName_cell I.ok.kind a hc hcell b) f
  ·exact wpAny_Name (wpAny_loadName_free I.ok.kind a hc hcell b g) f
theorem dZ:PE X (.Constant (.int i) j pos) (tC (.int i)):=λ _ _ _ H _ I h=>wpAny_Constant_int ⟨.int i,H,I.tok _,⟨_,rfl⟩,h⟩
theorem mH:PE X (.Constant (.bool b) j pos) (tC (.bl b)):=λ _ _ _ H _ I h=>Constant_bool ⟨.bl b,H,I,rfl,h⟩
theorem mI:PE X (.Constant .none j pos) (tC .non):=λ _ _ _ H _ I h=>Constant_none ⟨.non,H,I,rfl,h⟩
theorem mJ:PE X (.Constant (.str x) j pos) (tC (.str x)):=λ _ _ _ H _ I h=>Calls.Constant_str ⟨.str x,H,I.tok _,⟨_,rfl⟩,h⟩
def Gl(X:Cx)(x:Str):Prop:=X.env.kindOf x=some .globalImplicit
theorem X9(I:Inv X a σ H s)(c:Gl X x)(b:X.mg x=some u)(h:Q u s)
  (d:(x==("__debug__" : Str))=false:=by decide):wpAny (model X.prog X.w) X.A (eval (.Name x pos) X.env) Q E s:=
 Calls.Name_function_global I.ok.kind c (Calls.loadGlobal_global (by rw[I.ok.glob];exact I.mod.glob.keeps I.bk) b h) d
theorem J1(I:Inv X a σ H s)(e:Gl X x)(d:X.mg x=none)(b:bootBuiltins x=some u)(h:Q u s)
  (c:x ≠ "__name__":=by decide) (f:(x==("__debug__" : Str))=false:=by decide):wpAny (model X.prog X.w) X.A (eval (.Name x pos) X.env) Q E s:=by
 obtain⟨mb,i,g⟩:=I.mod.blt;exact Calls.Name_function_global I.ok.kind e (Calls.loadGlobal_builtin (by rw[I.ok.glob];exact I.mod.glob.keeps I.bk) d (by rw[I.ok.blt];exact i.keeps I.bk) ((g x c).trans b) h) f
theorem ed(b:Gl X x)(a:X.mg x=some u)(r:RelV v u)(c:(x==("__debug__" : Str))=false:=by decide):PE X (.Name x pos) (tC v):=
 λ _ _ _ H _ I h=>X9 I b a ⟨v,H,I,r,h⟩ c
theorem ee(d:Gl X x)(c:X.mg x=none)(a:bootBuiltins x=some u)(r:RelV v u)(b:x ≠ "__name__":=by decide)(e:(x==("__debug__" : Str))=false:=by decide):PE X (.Name x pos) (tC v):=
 λ _ _ _ H _ I h=>J1 I d c a ⟨v,H,I,r,h⟩ b e
noncomputable def tAnd(t u:TT):TT:=λ σ H Q=>t σ H λ c H1=>if c=true then u σ H1 Q else Q false H1
noncomputable def tOr(t u:TT):TT:=λ σ H Q=>t σ H λ c H1=>if c=true then Q true H1 else u σ H1 Q
noncomputable def tNot(t:TT):TT:=λ σ H Q=>t σ H λ c H1=>Q (!c) H1
theorem mK(g:PT X a d):PW X (.BoolOp .And [a] pos) d:=by
 intro wh b s f H Q I h;refine isTrue_and (thn (g b s f H Q I h) λ c s1 e=>?_);cases c with
 | true=>exact isTrue_and_nil e
 | false=>exact e
theorem mL(g:PT X a d):PW X (.BoolOp .Or [a] pos) d:=by
 intro wh b s f H Q I h;refine isTrue_or (thn (g b s f H Q I h) λ c s1 e=>?_);cases c with
 | false=>exact isTrue_or_nil e
 | true=>exact e
theorem aS{rest:ge zq}(n:PT X a g)(m:PW X (.BoolOp .And (b::rest) pos) e):PW X (.BoolOp .And (a::b::rest) pos) (tAnd g e):=by
 intro l d s f H Q I h;refine isTrue_and (thn (n d s f H _ I h) λ c s1 ⟨k,j,i⟩=>?_);cases c with
 | true=>exact m l d s1 f k Q j i
 | false=>exact⟨k,j,i⟩
theorem aT{rest:ge zq}(n:PT X a g)(m:PW X (.BoolOp .Or (b::rest) pos) e):PW X (.BoolOp .Or (a::b::rest) pos) (tOr g e):=by
 intro l d s f H Q I h;refine isTrue_or (thn (n d s f H _ I h) λ c s1 ⟨k,j,i⟩=>?_);cases c with
 | true=>exact⟨k,j,i⟩
 | false=>exact m l d s1 f k Q j i
theorem eg(e:PT X a c):PT X (.UnaryOp .Not a pos) (tNot c):=by
 intro b s d H Q I h;exact isTrue_not (e b s d H _ I h)
theorem em(h:PE X a t):PE X (.BoolOp op [a] pos) t:=λ b s c H Q I d=>BoolOp_one (h b s c H Q I d)
end
end L2
namespace L2
open PySem PySem.Spec PyProof.Rows
def SqL(K:zA)(H:Hp)(a:zn)(xs:ge V):Prop:=
 Rd H a (.lst xs) \/
  ∃(o:Obj) (its:zr zk) (n:Nat),K.lookup a=some o/\o.cls=.type "list" /\ o.dict=none/\o.data=.seq its n/\its.size<=sizeLine/\Vals xs its.toList
def SqT(K:zA)(H:Hp)(a:zn)(xs:ge V):Prop:=
 Rd H a (.tup xs) \/
  ∃(o:Obj) (its:zr zk) (n:Nat),K.lookup a=some o/\(o.cls=.type "tuple" /\ o.dict=none)/\o.data=.seq its n/\its.size<=sizeLine/\Vals xs its.toList
noncomputable def absV:zk->on V
 | .none=>some .non
 | .bool b=>some (.bl b)
 | .int i _=>some (.int i)
 | .str x _=>some (.str x)
 | .bytes b _=>some (.byt b)
 | .float b _=>some (.flt b)
 | .ref a=>some (.ref a)
 | .type n=>some (.ty n)
 | _=>none
theorem RelV.abs(r:RelV x u):absV u=some x:=by
 cases x with
 | non=>cases r;rfl
 | bl _=>cases r;rfl
 | int _=>obtain⟨t,rfl⟩:=r;rfl
 | str _=>obtain⟨t,rfl⟩:=r;rfl
 | byt _=>obtain⟨t,rfl⟩:=r;rfl
 | flt _=>obtain⟨t,rfl⟩:=r;rfl
 | ref _=>cases r;rfl
 | ty _=>cases r;rfl
theorem RelV.inj(r:RelV x u)(q:RelV y u):x=y:=Option.some.inj (r.abs.symm.trans q.abs)
theorem Vals.inj(h:Vals xs b):Vals a b->xs=a:=by
 induction h generalizing a with
 | nil=>intro t;cases t;rfl
 | cons r _ e=>intro t;cases t with | cons d c=>rw[r.inj d,e c]
section
theorem SqL.of{K:zA}(h:H a=some (.lst xs)):SqL K H a xs:=.inl (.inl h)
theorem SqT.of{K:zA}(h:H a=some (.tup xs)):SqT K H a xs:=.inl (.inl h)
theorem Inv.list(I:Inv X c σ H s)(h:SqL X.K H a xs):∃b:ge zk,Vals xs b/\PlainL s.heap a b.toArray/\xs.length<=sizeLine:=by
 rcases h with h | ⟨o,b,n,hk,hc,hd,hs,hz,r⟩
 ·obtain⟨z,b,n,r,e⟩:=h.ok I.hok;exact⟨b,r,⟨_,n,e,rfl,rfl,rfl⟩,z⟩
 ·refine⟨b.toList,r,⟨o,n,I.kIn a o hk,hc,hd,by simpa using hs⟩,?_⟩;have e:=r.length;simp only[t9]at e;omega
theorem Inv.tuple(I:Inv X c σ H s)(h:SqT X.K H a xs):∃b:ge zk,Vals xs b/\IsTup s.heap a b.toArray/\xs.length<=sizeLine:=by
 rcases h with h | ⟨o,b,n,hk,hc,hs,hz,r⟩
 ·obtain⟨z,b,r,p⟩:=h.ok I.hok;exact⟨b,r,p.tup,z⟩
 ·refine⟨b.toList,r,⟨o,I.kIn a o hk,hc.1,n,by simpa using hs⟩,?_⟩;have e:=r.length;simp only[t9]at e;omega
theorem Inv.tupleN(I:Inv X b σ H s)(h:SqT X.K H a xs):∃o,s.heap.get? a=some o/\o.cls=.type "tuple" /\ o.dict=none:=by
 rcases h with h | ⟨o,d,n,hk,hc,hs,hz,r⟩
 ·obtain⟨z,d,r,o,e,c,_⟩:=h.ok I.hok;exact⟨o,e,c.1,c.2⟩
 ·exact⟨o,I.kIn a o hk,hc.1,hc.2⟩
theorem Inv.list_inj(I:Inv X b σ H s)(h:SqL X.K H a xs)(l:SqL X.K H a g):xs=g:=by
 obtain⟨f,r,⟨o,n,e,_,_,d⟩,_⟩:=I.list h;obtain⟨c,k,⟨o',n',i,_,_,j⟩,_⟩:=I.list l;rw[e]at i;cases i;rw[d]at j;injection j with d1 _
 have:f=c:=by simpa using congrArg Array.toList d1
 subst this;exact r.inj k
theorem Inv.tuple_inj(I:Inv X b σ H s)(h:SqT X.K H a xs)(l:SqT X.K H a g):xs=g:=by
 obtain⟨f,r,⟨o,e,_,n,d⟩,_⟩:=I.tuple h;obtain⟨c,k,⟨o',i,_,n',j⟩,_⟩:=I.tuple l;rw[e]at i;cases i;rw[d]at j;injection j with d1 _
 have:f=c:=by simpa using congrArg Array.toList d1
 subst this;exact r.inj k
end
section
end
section
variable {X:Cx} {st:zx} {rest:ge zx} {t u:TS} {e:zq} {te:TE} {pos:Pos}
noncomputable def mM:TS:=λ D σ H=>D.nx σ H
noncomputable def tSeq(t u:TS):TS:=λ D σ H=>t {D with nx:=u D} σ H
theorem mN:PSs X [] mM:=λ _ _ a H _ I h=>wpAny_execs_nil ⟨a,H,I,h⟩
theorem Y0(e:PS X st t)(d:PSs X rest u):PSs X (st::rest) (tSeq t u):=by
 intro a s c H D I h;refine wpAny_execs_cons (thn (e a s c H {D with nx:=u D} I h) λ f s1 q=>?_);cases f with
 | next=>
  obtain⟨b,i,g,q⟩:=q;exact d a s1 b i D g q
 | ret v=>exact q
 | brk=>exact q
 | cont=>exact q
theorem mO(c:PS X st t):PSs X [st] t:=by
 intro a s b H D I h;refine wpAny_execs_cons (thn (c a s b H D I h) λ f s1 q=>?_);cases f with
 | next=>exact wpAny_execs_nil q
 | ret v=>exact q
 | brk=>exact q
 | cont=>exact q
theorem Inv.quiet(I:Inv X a σ H s):interactive X.env=false:=by simp[interactive,I.ok.kind]
noncomputable def mP(te:TE):TS:=λ D σ H=>te σ H λ _ H1=>D.nx σ H1
theorem R9(d:PE X e te)(hs:swapsWith e none pos.line X.env=pure false:=by rfl):PS X (.Expr e pos) (mP te):=by
 intro a s b H D I h;exact wpAny_Expr_any (thn (d a s b H _ I h) λ v s1 ⟨x,g,f,r1,c⟩=>⟨b,g,f,c⟩) I.quiet hs
noncomputable def tRet(te:TE):TS:=λ D σ H=>te σ H D.rt
theorem S0(f:PE X e te):PS X (.Return (some e) pos) (tRet te):=by
 intro a s b H D I h;exact wpAny_Return_some (thn (f a s b H _ I h) λ v s1 ⟨x,i,g,c,d⟩=>⟨x,b,i,g,c,d⟩)
noncomputable def tIfS(c:TT)(t u:TS):TS:=λ D σ H=>c σ H λ b H1=>if b=true then t D σ H1 else u D σ H1
theorem aU(l:PT X c g)(n:PSs X a t)(m:PSs X b u):PS X (.If c a b pos) (tIfS g t u):=by
 intro e s f H D I h;refine wpAny_If (thn (l e s f H _ I h) λ d s1 ⟨k,j,i⟩=>?_);cases d with
 | true=>exact n e s1 f k D j i
 | false=>exact m e s1 f k D j i
noncomputable def mQ:TS:=λ _ _ _=>False
theorem L4:PSs X a mQ:=λ _ _ _ _ _ _ h=>h.elim
end
abbrev TG:=V->St->Hp->(St->Hp->Prop)->Prop
abbrev TGs:=ge V->St->Hp->(St->Hp->Prop)->Prop
def PG(X:Cx)(target:zq)(t:TG):Prop:=
 ∀(pins:ge (zn×Obj)) (s:zm) (σ:St) (H:Hp) (v:V) (u:zk) (Q:St->Hp->Prop),Inv X pins σ H s->RelV v u->t v σ H Q ->
  wpAny (model X.prog X.w) X.A (assign target X.env u) (λ _ s'=>∃σ' H',Inv X pins σ' H' s'/\Q σ' H') X.xe s
def PGs(X:Cx)(ts:ge zq)(t:TGs):Prop:=
 ∀(pins:ge (zn×Obj)) (s:zm) (σ:St) (H:Hp) (vs:ge V) (us:ge zk) (Q:St->Hp->Prop),Inv X pins σ H s->Vals vs us->t vs σ H Q ->
  wpAny (model X.prog X.w) X.A (assignInOrder ((assignEach ts X.env).map (·.2)) us) (λ _ s'=>∃σ' H',Inv X pins σ' H' s'/\Q σ' H') X.xe s
abbrev TSet:=V->V->V->Hp->(Hp->Prop)->Prop
def PSet(X:Cx)(t:TSet):Prop:=
 ∀(pins:ge (zn×Obj)) (s:zm) (σ:St) (H:Hp) (o i v:V) (ov iv u:zk) (Q:Hp->Prop),Inv X pins σ H s->RelV o ov->RelV i iv->RelV v u->t o i v H Q ->
  wpAny (model X.prog X.w) X.A (setItem ov iv u) (λ _ s'=>∃H',Inv X pins σ H' s'/\Q H') X.xe s
abbrev TIp:=V->V->Hp->VK->Prop
def PIp(X:Cx)(op:Operator)(t:TIp):Prop:=
 ∀(pins:ge (zn×Obj)) (s:zm) (σ:St) (H:Hp) (x y:V) (v u:zk) (Q:VK),Inv X pins σ H s->RelV x v->RelV y u->t x y H Q ->
  wpAny (model X.prog X.w) X.A (inplaceOp op v u) (EP X pins σ Q) X.xe s
section
noncomputable def S4(i:Nat):TG:=λ v σ H Q=>Q (σ.set i (some v)) H
theorem er(e:X.N.Nodup)(c:X.N[i]? = some x)(b:Loc X.env.scope x)(d:X.fn x=true\/X.env.scope.names.lookup x=some .local:=by first | exact .inl rfl | exact .inr rfl | assumption):PG X (.Name x pos) (S4 i):=by
 intro a s σ H v u Q I r h;exact wpAny_assign_Name (X8 I e c b r (λ s' f=>⟨_,H,f,h⟩) d)
noncomputable def gNil:TGs:=λ vs σ H Q=>vs=[]/\Q σ H
noncomputable def eu(t:TG)(u:TGs):TGs:=λ vs σ H Q=>∃v r,vs=v::r/\t v σ H λ σ' H'=>u r σ' H' Q
theorem mR:PGs X [] gNil:=by
 intro a s b H vs us Q I r h;obtain⟨e,h⟩:=h;subst e;cases r;exact assignInOrder_nil ⟨b,H,I,h⟩
theorem mS(i:PG X e t)(g:PGs X es u)
  (hs:(assignEach (e::es) X.env).map (·.2)=assign e X.env::(assignEach es X.env).map (·.2):=by rfl):PGs X (e::es) (eu t u):=by
 intro a s c H vs us Q I r h;obtain⟨v,vr,j,h⟩:=h;subst j;cases r with
 | cons r d=>
  rw[hs];refine assignInOrder_cons (thn (i a s c H _ _ _ I r h) λ _ s1 ⟨b,l,k,f⟩=>?_);exact g a s1 b l _ _ Q k d f
noncomputable def gTup(K:zA)(n:Nat)(t:TGs):TG:=λ v σ H Q=>∃a xs,v=.ref a/\SqT K H a xs/\xs.length=n/\t xs σ H Q
theorem mT(y:X.calm=true)(h:PGs X es t)
  (w:(assignEach es X.env).length=n:=by rfl) (f:(assignEach es X.env).findIdx? (·.1)=none:=by rfl):PG X (.Tuple es k pos) (gTup X.K n t):=by
 intro c s i H v u Q I r d;obtain⟨a,j,z,q,x,d⟩:=d;subst z;cases r;obtain⟨l,g,p,hz⟩:=I.tuple q;refine assign_Tuple_tuple (I.ok.hd y) p (by simp[w,←x,g.length]) f λ h' m=>?_
 exact h c _ i H j _ Q (I.kept λ b o e=>m b o (j7 (i5 e)) e) (by simpa using g) d
noncomputable def gSub(to ti:TE)(t:TSet):TG:=λ v σ H Q=>to σ H λ o H1=>ti σ H1 λ i H2=>t o i v H2 λ H3=>Q σ H3
theorem mU(n:PE X o d)(p:PE X i e)(hs:PSet X t)
  (q:∀v,assign (.Subscript o i pos) X.env v=(do
   let ov ←holding [v] (eval o X.env)
   let b ←holding [v,ov] (eval i X.env)
   standAt pos
   holding [v,ov,b] (setItem ov b v)
   release [v,ov,b] []):=by intro _;rfl):PG X (.Subscript o i pos) (gSub d e t):=by
 intro a s c H v u Q I r h;rw[q];refine d4 (wpAny_holding (thn (n a s c H _ I h) λ ov s1 ⟨x,E,A,j,m⟩=>?_));refine d4 (wpAny_holding (thn (p a s1 c E _ A m) λ b f ⟨y,C,z,g,l⟩=>?_));refine d4 (wpAny_standAt (d4 (wpAny_holding (thn (hs a f c C x y v ov b u _ z j g r l) λ _ s3 ⟨B,w,k⟩=>?_))));exact wpAny_release ⟨c,B,w,k⟩
noncomputable def tAsg(te:TE)(g:TG):TS:=λ D σ H=>te σ H λ x H1=>g x σ H1 D.nx
theorem mV(j:PE X e c)(i:PG X tg g)(hs:swapsWithSole [tg] e pos.line X.env=pure false:=by rfl)(hw:swappedStores [tg] e X.env=pure none:=by rfl)
  (k:(assignEach [tg] X.env).map (·.2)=[assign tg X.env]:=by rfl):PS X (.Assign [tg] e pos) (tAsg c g):=by
 intro a s b H D I h;refine wpAny_Assign_stores (thn (j a s b H _ I h) λ v s1 ⟨x,m,l,d,f⟩=>?_) hs hw;rw[k];exact thn (i a s1 b m x v _ l d f) λ _ s2 q=>q
theorem S8(m:X.N.Nodup)(j:X.N[i]? = some x)(g:Loc X.env.scope x)(l:PE X e b)(hs:swapsWith e (some (.Name x pos')) pos.line X.env=pure false:=by rfl)(k:X.fn x=true\/X.env.scope.names.lookup x=some .local:=by first | exact .inl rfl | exact .inr rfl | assumption) :
  PS X (.Assign [.Name x pos'] e pos) (tAsg b (S4 i)):=by
 intro a s c H D I h;refine wpAny_Assign_Name (thn (l a s c H _ I h) λ v s1 ⟨y,p,o,d,f⟩=>?_) hs;exact X8 o m j g d (λ s2 n=>⟨_,p,n,f⟩) k
noncomputable def tAug(i:Nat)(te:TE)(ti:TIp):TS:=λ D σ H=>∃x,σ[i]? = some (some x)/\te σ H λ y H1=>ti x y H1 λ z H2=>D.nx (σ.set i (some z)) H2
theorem mW(P:X.N.Nodup)(q:X.N[i]? = some x)(j:Loc X.env.scope x)(O:PE X e p)(J:PIp X op o)(N:X.fn x=true\/X.env.scope.names.lookup x=some .local:=by first | exact .inl rfl | exact .inr rfl | assumption) :
  PS X (.AugAssign (.Name x pos') op e pos) (tAug i p o):=by
 intro a s n H D I h;obtain⟨v,Q,h⟩:=h;obtain⟨m,K,M⟩:=I.loc;have g:Vis X.env.scope x:=by rcases j with k | k;exact .inl k;exact .inr (.inl k)
 obtain⟨u,r,l⟩:=M i x v q Q g;refine wpAny_AugAssign_Name ?_;have A:wpAny (model X.prog X.w) X.A (eval e X.env) (λ w f=>wpAny (model X.prog X.w) X.A (inplaceOp op u w) (λ r d=>wpAny (model X.prog X.w) X.A (storeName X.env x r) (λ _=>SP X a D .next) X.xe d) X.xe f) X.xe s:=by refine thn (O a s n H _ I h) λ w s1 ⟨y,Y,U,C,F⟩=>?_;refine thn (J a s1 n Y v y u w _ U r C F) λ z s2 ⟨zv,W,S,B,E⟩=>?_;exact X8 S P q j B (λ s3 R=>⟨_,W,R,E⟩) N
 rcases l with⟨b,L⟩ | ⟨b,c,hc,hcell⟩
 ·exact wpAny_loadName_local I.ok.kind b K L A
 ·rcases b with b | b
  ·exact wpAny_loadName_cell I.ok.kind b hc hcell A
  ·rcases j with k | k
   ·have:X.env.scope.names.lookup x=some .free:=b;rw[k]at this;cases this
   ·have:X.env.scope.names.lookup x=some .free:=b;rw[k]at this;cases this
noncomputable def ipI(f:Int->Int->Int):TIp:=λ x y H Q=>∃i j,x=.int i/\y=.int j/\Q (.int (f i j)) H
theorem mX:PIp X .Add (ipI λ i j=>i+j):=by
 intro a s σ H x y v u Q I c b h;obtain⟨i,j,e,d,q⟩:=h;subst e;subst d;obtain⟨t,rfl⟩:=c;obtain⟨t',rfl⟩:=b;exact iadd_int ⟨.int _,H,I.tok _,⟨_,rfl⟩,q⟩
end
section
noncomputable def mY(c:TT)(tb:TS):TS:=λ D σ H=>∃W:Nat->St->Hp->Prop,(∃m,W m σ H)/\∀m σ H,W m σ H ->
 c σ H λ b H1=>if b=true then ∃N:St->Hp->Prop,(∀σ' H',N σ' H'->∃m',m'<m/\W m' σ' H')/\tb {D with nx:=N,ct:=N,bk:=D.nx} σ H1 else D.nx σ H1
theorem mZ(u:PassesOwn (model X.prog X.w) X.A X.env X.xe)(J:PT X c q)(K:PSs X body r):PS X (.While c body [] pos) (mY q r):=by
 intro d s A H D I h;obtain⟨W,⟨F,B⟩,turn⟩:=h;refine wpAny_While (codeAny_whileLoop (λ n E=>∃e z,Inv X d e z E/\W n e z) ?_ F ⟨A,H,I,B⟩)
 rintro n s1 ⟨σ1,H1,I1,w1⟩
 refine wpAny_passesOwn u (thn (J d s1 σ1 H1 _ I1 (turn n σ1 H1 w1)) λ b C ⟨y,x,j⟩=>?_);cases b with
 | true=>
  obtain⟨N,w,j⟩:=j;rw[d6 rfl];refine wpAny_passesOwn u (thn (K d C σ1 y _ x j) λ f s3 i=>?_);cases f with
  | next=>
   obtain⟨a,g,p,l⟩:=i;obtain⟨m,o,k⟩:=w a g l;exact⟨m,o,a,g,p,k⟩
  | cont=>
   obtain⟨a,g,p,l⟩:=i;obtain⟨m,o,k⟩:=w a g l;exact⟨m,o,a,g,p,k⟩
  | brk=>exact i
  | ret v=>exact i
 | false=>
  rw[d9 y8];exact wpAny_execs_nil ⟨σ1,y,x,j⟩
end
structure It where
 go:Nat->Hp->Prop
 yld:Nat->Hp->V->Hp->Prop
 stop:Nat->Hp->Prop
def FpOk(X:Cx)(pins:ge (zn×Obj))(H:Hp)(b:zn):Prop:=
 H b=none/\b≠X.env.locals/\b∉X.fs/\(b∈X.ex\/X.s₀.heap.objs.size<=b)/\(∀x c,X.env.cells.lookup x=some c->c≠b)/\∀p∈X.pn++pins,p.1≠b
theorem Inv.fpOk(I:Inv X a σ H s)(d:s.heap.objs.size<=b)(g:H' b=none):FpOk X a H' b:=by
 refine⟨g,Nat.ne_of_gt (p6 I.lt d),I.nofs d,.inr (g9 I.sz d),λ x c e z=>?_,λ p f z=>?_⟩
 ·obtain⟨v,q⟩:=I.cell x c e;exact absurd (p6 q.lt (by rw[z];exact d)) (Nat.lt_irrefl _)
 ·exact absurd (p6 (i5 (I.pin p f).1) (by rw[z];exact d)) (Nat.lt_irrefl _)
structure Turn(P:Program)(w:World)(K:PySem.W.Frag)(tg:Expr)(J:It)(fp:List Addr)(it:Addr)(tn:Nat->Heap->Prop):Prop where
 mem:it∈fp
 obj:∀i h,tn i h->∀b∈fp,∃o,h.get? b=some o/\∀v,o.data ≠ .cell v
 keep:∀i h h',tn i h->(∀b∈fp,∀o,h.get? b=some o->h'.get? b=some o)->tn i h'
 item:∀(X:Cx),X.prog=P->X.w=w->X.K=K->X.calm=true->∀(i:Nat) (pins:List (Addr×Obj)) (s:Shared) (σ:St) (H:Hp) (E:Value->Shared->Prop),Inv X pins σ H s->(∀b∈fp,FpOk X pins H b)->tn i s.heap->J.go i H ->
  wpAny (model P w) X.A (pyNext (.ref it)) (λ r s1=>∃u,r=some u /\
   wpAny (model P w) X.A (letOwnedTupleGo tg (.ref it) u) (λ _ s2=>∃x H',Inv X pins σ H' s2/\RelV x u/\J.yld i H x H'/\tn (i+1) s2.heap/\∀b∈fp,H' b=none) E s1) E s
 done:∀(X:Cx),X.prog=P->X.w=w->X.K=K->X.calm=true->∀(i:Nat) (pins:List (Addr×Obj)) (s:Shared) (σ:St) (H:Hp) (E:Value->Shared->Prop),Inv X pins σ H s->(∀b∈fp,FpOk X pins H b)->tn i s.heap->J.stop i H ->
  wpAny (model P w) X.A (pyNext (.ref it)) (λ r s1=>r=none/\Inv X pins σ H s1) E s
 self:∀(A:Around) (i:Nat) (s:Shared) (Q:Value->Shared->Prop) (E:Value->Shared->Prop),tn i s.heap->Q (.ref it) s->wpAny (model P w) A (pyIter (.ref it)) Q E s
abbrev TI:=St->Hp->(It->Hp->Prop)->Prop
def PIE(X:Cx)(pins:ge (zn×Obj))(σ:St)(tg:zq)(R:It->Hp->Prop)(itv:zk)(s2:zm):Prop:=
 ∃(it:zn) (fp:ge zn) (tn:Nat->zo->Prop) (J:It) (H':Hp),itv=.ref it/\Inv X pins σ H' s2/\Turn X.prog X.w X.K tg J fp it tn/\tn 0 s2.heap/\(∀b∈fp,FpOk X pins H' b)/\R J H'
def PI(X:Cx)(tg iter:zq)(wi:TI):Prop:=
 ∀(pins:ge (zn×Obj)) (s:zm) (σ:St) (H:Hp) (R:It->Hp->Prop),Inv X pins σ H s->wi σ H R ->
  wpAny (model X.prog X.w) X.A (eval iter X.env) (λ v s1=>wpAny (model X.prog X.w) X.A (pyIter v) (PIE X pins σ tg R) X.xe s1) X.xe s
theorem aV(b:s.heap.get? it=some o)(e:o.cls=.type n)(d:o.data=.fields vs)
    (c : ["enumerate","zip","dict_itemiterator","dict_reverseitemiterator","odict_iterator","itertools.zip_longest","itertools.pairwise"].contains n=false) (a:Q () s):wpAny M A (letOwnedTupleGo tg (.ref it) u) Q E s:=by
  unfold letOwnedTupleGo;cases tg<;>first
    | exact d7 a
    | (cases u<;>first
        | exact d7 a
        | (refine d4 (wpAny_load b ?_)
           rw[e,d];show wpAny M A (if(["enumerate","zip","dict_itemiterator","dict_reverseitemiterator","odict_iterator","itertools.zip_longest","itertools.pairwise"].contains n&&vs[0]? == some _)=true then _ else _) Q E s;rw[d9 (by intro h;rw[c,Bool.false_and]at h;cases h)];exact d7 a))
noncomputable def Itl(K:zA)(a:zn):It:=
 ⟨λ i H=>∃xs x,SqL K H a xs/\xs[i]? = some x,λ i H x H'=>H'=H/\∀xs,SqL K H a xs->xs[i]? = some x,λ i H=>∃xs,SqL K H a xs/\xs.length<=i⟩
noncomputable def Itt(K:zA)(a:zn):It:=
 ⟨λ i H=>∃xs x,SqT K H a xs/\xs[i]? = some x,λ i H x H'=>H'=H/\∀xs,SqT K H a xs->xs[i]? = some x,λ i H=>∃xs,SqT K H a xs/\xs.length<=i⟩
noncomputable def Itr(lo:Int)(n:Nat):It:=⟨λ i _=>i<n,λ i H x H'=>H'=H/\x=.int (lo+i),λ i _=>n<=i⟩
theorem nb{K:zA}(a it:zn):Turn P w K tg (Itl K a) [it] it (λ i h=>h.IsListIter it a i) where
 mem:=by simp
 obj:=λ i h st b f=>by
  have e:b=it:=by simpa using f
  subst e;obtain⟨o,e,c,d⟩:=st;exact⟨o,e,λ v z=>by rw[d]at z;cases z⟩
 keep:=λ i h Q st k=>st.at λ o e=>k it (by simp) o e
 item:=by
  intro X B y C O i j s R H E I m st A;subst B y C;obtain⟨S,x,l,r⟩:=A;obtain⟨q,n,p,Y⟩:=I.list l;obtain⟨u,hu,W⟩:=n.get r;obtain⟨N,M,f2,L,J,F⟩:=m it (by simp);refine wpAny_pyNext_list_item st p.isList (by simpa using hu) λ Q g U=>?_
  obtain⟨o,e,c,d⟩:=id g;exact⟨u,rfl,aV e c d (by decide) ⟨x,H,(I.turned (λ b o f e=>(U.2 b f).trans e) N M L J F),W,⟨rfl,λ ys Z=>by rw[I.list_inj Z l];exact r⟩,g,λ b f=>(m b f).1⟩⟩
 done:=by
  intro X B y C O i j s R H E I m st A;subst B y C;obtain⟨S,l,r⟩:=A;obtain⟨q,n,p,Y⟩:=I.list l;obtain⟨N,M,f2,L,J,F⟩:=m it (by simp);have hl:=n.length;exact wpAny_pyNext_list_end (I.ok.hd O) st p.isList (by simp;omega) λ Q eb=>⟨rfl,I.turned (λ b o f e=>eb b o f e) N M L J F⟩
 self:=λ _ _ _ _ _ st h=>wpAny_pyIter_listiter st h
theorem nc{K:zA}(a it:zn):Turn P w K tg (Itt K a) [it] it (λ i h=>h.IsTupleIter it a i) where
 mem:=by simp
 obj:=λ i h st b f=>by
  have e:b=it:=by simpa using f
  subst e;obtain⟨o,e,c,d⟩:=st;exact⟨o,e,λ v z=>by rw[d]at z;cases z⟩
 keep:=λ i h Q st k=>st.at λ o e=>k it (by simp) o e
 item:=by
  intro X B y C O i j s R H E I m st A;subst B y C;obtain⟨S,x,l,r⟩:=A;obtain⟨q,n,p,Y⟩:=I.tuple l;obtain⟨u,hu,W⟩:=n.get r;obtain⟨N,M,f2,L,J,F⟩:=m it (by simp);refine wpAny_pyNext_tuple_item st (p) (by simpa using hu) λ Q g U=>?_
  obtain⟨o,e,c,d⟩:=id g;exact⟨u,rfl,aV e c d (by decide) ⟨x,H,(I.turned (λ b o f e=>(U.2 b f).trans e) N M L J F),W,⟨rfl,λ ys Z=>by rw[I.tuple_inj Z l];exact r⟩,g,λ b f=>(m b f).1⟩⟩
 done:=by
  intro X B y C O i j s R H E I m st A;subst B y C;obtain⟨S,l,r⟩:=A;obtain⟨q,n,p,Y⟩:=I.tuple l;obtain⟨N,M,f2,L,J,F⟩:=m it (by simp);have hl:=n.length;exact wpAny_pyNext_tuple_end (I.ok.hd O) st (p) (by simp;omega) λ Q eb=>⟨rfl,I.turned (λ b o f e=>eb b o f e) N M L J F⟩
 self:=λ _ _ _ _ _ st h=>wpAny_pyIter_tupleiter st h
theorem ng{K:zA}(it:zn)(f:Int)(n:Nat):Turn P w K tg (Itr f n) [it] it (λ i h=>IsRangeIter h it (f+(i:Nat)*1) ((n:Int) - (i:Nat)) 1) where
 mem:=by simp
 obj:=λ i h st b a=>by
  have e:b=it:=by simpa using a
  subst e;exact⟨_,st,λ v z=>by
   have F:=z;cases F⟩
 keep:=λ i h B st k=>k it (by simp) _ st
 item:=by
  intro X p j q m i d s C H E I g st l;subst p j q;obtain⟨A,y,M,x,u,r⟩:=g it (by simp);refine (Walks.range (I.ok.hd m) it f 1 n).item i s _ _ l st λ v B tk L c J=>?_
  obtain⟨t,rfl⟩:=L;refine⟨_,rfl,aV c rfl rfl (by decide) ⟨.int (f+i),H,(I.turned (λ b o a e=>J b o (by simpa using a) e) A y x u r),⟨t,?_⟩,⟨rfl,rfl⟩,c,λ b a=>(g b a).1⟩⟩;rw[Int.mul_one]
 done:=by
  intro X p j q m i d s C H E I g st l;subst p j q;obtain⟨A,y,M,x,u,r⟩:=g it (by simp);exact wpAny_pyNext_range_end (I.ok.hd m) st (by have:n<=i:=l;omega) λ B N=>⟨rfl,I.turned (λ b o a e=>N b o a e) A y x u r⟩
 self:=λ _ _ _ _ _ st h=>wpAny_pyIter_rangeiter st h
end L2
namespace L2
open PySem PySem.Spec PyProof.Rows
section
def nh(K:zA)(tl:TE):TI:=λ σ H R=>tl σ H λ x H1=>∃a,x=.ref a/\(∃xs,SqL K H1 a xs)/\R (Itl K a) H1
def iTup(K:zA)(tl:TE):TI:=λ σ H R=>tl σ H λ x H1=>∃a,x=.ref a/\(∃xs,SqT K H1 a xs)/\R (Itt K a) H1
theorem aW(n:PE X l f):PI X tg l (nh X.K f):=by
 intro c s g H R I h;refine thn (n c s g H _ I h) λ v s1 ⟨x,u,d,i,j⟩=>?_
 obtain⟨a,e,⟨xs,m⟩,q⟩:=j;subst e;cases i;obtain⟨k,rv,p,hz⟩:=d.list m;refine wpAny_pyIter_list p.isList ?_;refine⟨s1.heap.objs.size,[s1.heap.objs.size],_,_,u,rfl,d.kept λ b o e=>f9 _ e,nb a _,⟨_,n6 _ rfl,rfl,rfl⟩,λ b r=>?_,q⟩;have e:b=s1.heap.objs.size:=by simpa using r
 subst e;exact d.fpOk (i7 _) (d.hok.fresh (i7 _))
theorem ni(n:PE X l f):PI X tg l (iTup X.K f):=by
 intro c s g H R I h;refine thn (n c s g H _ I h) λ v s1 ⟨x,u,d,i,j⟩=>?_
 obtain⟨a,e,⟨xs,m⟩,q⟩:=j;subst e;cases i;obtain⟨k,rv,p,hz⟩:=d.tuple m;refine wpAny_pyIter_tuple (p) ?_;refine⟨s1.heap.objs.size,[s1.heap.objs.size],_,_,u,rfl,d.kept λ b o e=>f9 _ e,nc a _,⟨_,n6 _ rfl,rfl,rfl⟩,λ b r=>?_,q⟩;have e:b=s1.heap.objs.size:=by simpa using r
 subst e;exact d.fpOk (i7 _) (d.hok.fresh (i7 _))
theorem ey(I:Inv X c σ H s)(k : -(2^62)<=a)(j:a<2^62)(i : -(2^62)<=d)(h:d<2^62)
  (q:R (Itr a (d - a).toNat) H):wpAny (model X.prog X.w) X.A (pyIter (.ref s.heap.objs.size)) (PIE X c σ tg R) E {s with heap:=s.heap.push {cls:=.type "range",data:=.fields #[.int a t,.int d u,.int 1 v]},toks:=tk}:=by
 refine wpAny_pyIter_range (IsRange.new ..) (small_one k j i h) ?_;have f:Inv X c σ H {s with heap:=s.heap.push {cls:=.type "range",data:=.fields #[.int a t,.int d u,.int 1 v]},toks:=tk}:=I.kept λ b o e=>f9 _ e;refine⟨(s.heap.push {cls:=.type "range",data:=.fields #[.int a t,.int d u,.int 1 v]}).objs.size,[(s.heap.push {cls:=.type "range",data:=.fields #[.int a t,.int d u,.int 1 v]}).objs.size],_,_,H,rfl,
  f.kept λ b o e=>f9 _ e,ng _ a (d - a).toNat,?_,λ b g=>?_,q⟩
 ·have m:a+((0:Nat):Int)*1=a:=by simp
  have l:(((d - a).toNat:Nat):Int) - ((0:Nat):Int)=Builtin.Range.rangeSize a d 1:=by rw[rangeSize_one];split<;>omega
  show IsRangeIter _ _ _ _ 1;rw[m,l];exact n6 _ rfl
 ·have e:b=(s.heap.push {cls:=.type "range",data:=.fields #[.int a t,.int d u,.int 1 v]}).objs.size:=by simpa using g
  subst e;exact f.fpOk (i7 _) (f.hok.fresh (i7 _))
def nj(ta:TA):TI:=λ σ H R=>ta σ H λ vs H1=>∃j:Int,vs=[.int j] /\ -(2^62)<=j/\j<2^62/\R (Itr 0 j.toNat) H1
def nr(ta:TA):TI:=λ σ H R=>ta σ H λ vs H1=>∃i j:Int,vs=[.int i,.int j]/\(-(2^62)<=i/\i<2^62 /\ -(2^62)<=j/\j<2^62)/\R (Itr i (j - i).toNat) H1
theorem nu(m:Gl X "range")(l:X.mg "range" = none)(n:PA X [a] d)(hs:starEach [a] X.env=[(false,eval a X.env)]:=by rfl):PI X tg (.Call (.Name "range" p) [a] [] pos) (nj d):=by
 intro b s f H R I h;refine Call_ (J1 I m l boot_range (PyProof.Rows.callWith_type1 (thn (n pos b s f H _ I h) λ us s1 ⟨vs,H1,o,i,c⟩=>?_) hs rfl));obtain⟨j,e,c,k,q⟩:=c;subst e;cases i with
 | cons r g=>
  cases g;obtain⟨t,rfl⟩:=r;exact call_range_1 (ey o (by omega) (by omega) c k (by simpa using q))
theorem nv(x:Gl X "range")(w:X.mg "range" = none)(y:PA X [a,b] k)(hs:starEach [a,b] X.env=[(false,eval a X.env),(false,eval b X.env)]:=by rfl)(d:starEach [b] X.env=[(false,eval b X.env)]:=by rfl) :
  PI X tg (.Call (.Name "range" p) [a,b] [] pos) (nr k):=by
 intro c s l H R I h;refine Call_ (J1 I x w boot_range (PyProof.Rows.callWith_type1 (thn (y pos c s l H _ I h) λ us s1 ⟨vs,H1,z,m,g⟩=>?_) (by rw[hs,d]) (by rw[d];rfl)));obtain⟨i,j,e,⟨g,v,u,o⟩,q⟩:=g;subst e;cases m with
 | cons r f=>
  cases f with
  | cons n f=>
   cases f;obtain⟨t,rfl⟩:=r;obtain⟨t',rfl⟩:=n;exact call_range_2 (ey z g v u o q)
noncomputable def tFor(wi:TI)(g:TG)(tb:TS):TS:=λ D σ H=>wi σ H λ J H1=>∃W:Nat->Nat->St->Hp->Prop,(∃m,W 0 m σ H1)/\∀i m σ H,W i m σ H ->
 (J.stop i H/\D.nx σ H)\/(J.go i H/\∃N:St->Hp->Prop,(∀σ' H',N σ' H'->∃m',m'<m/\W (i+1) m' σ' H')/\∀x H',J.yld i H x H'->g x σ H' λ σ2 H2=>tb {D with nx:=N,ct:=N,bk:=D.nx} σ2 H2)
noncomputable def Y1(fp:ge zn)(h:zo):ge (zn×Obj):=fp.filterMap λ b=>(h.get? b).map λ o=>(b,o)
theorem N7(a:b∈fp)(e:h.get? b=some o):(b,o)∈Y1 fp h:=List.mem_filterMap.mpr ⟨b,a,by rw[e];rfl⟩
theorem nw(a:p∈Y1 fp h):p.1∈fp/\h.get? p.1=some p.2:=by
 obtain⟨b,c,e⟩:=List.mem_filterMap.mp a;cases q:h.get? b with
 | none=>rw[q]at e;cases e
 | some o=>
  rw[q]at e;have d:=Option.some.inj e;subst d;exact⟨c,q⟩
theorem Inv.pinned(I:Inv X a σ H s)(i:∀b∈fp,FpOk X a H b)(h:∀b∈fp,∃o,s.heap.get? b=some o/\∀v,o.data ≠ .cell v):Inv X (a++Y1 fp s.heap) σ H s:=
 I.pins_of λ p g=>(List.mem_append.mp g).elim (λ z=>I.pin p (v9 _ z)) λ z=>by obtain⟨c,e⟩:=nw z;obtain⟨l,k,j,_⟩:=i p.1 c;obtain⟨o,f,d⟩:=h p.1 c;rw[e]at f;cases f;exact⟨e,l,k,j,d⟩
theorem Inv.unpinned(I:Inv X (a++b) σ H s):Inv X a σ H s:=I.pins_of λ p c=>I.pin p (v9 _ (w4 _ c))
theorem ez(F:PassesOwn (model X.prog X.w) X.A X.env X.xe)(hc:X.calm=true)(hi:PI X tg l wi)(hg:PG X tg g)(p:PSs X body Y)
  (hs:∀x,foldedSetIterable l X.env x=pure x:=by intro _;rfl):PS X (.For tg l body [] pos) (tFor wi g Y):=by
 intro c s S H D I h;refine wpAny_For (thn (hi c s S H _ I h) λ v s1 h1=>thn h1 λ itv s2 h2=>?_) hs;obtain⟨it,K,U,J,H2,e,I2,T,M,f2,W,⟨m0,w0⟩,turn⟩:=h2;subst e;have k:∀{z:Hp},(∀b∈K,z b=none)->∀b∈K,FpOk X c z b:=λ hn b p=>⟨hn b p,(f2 b p).2⟩
 refine codeAny_forLoop_any (λ n s'=>∃i j z,Inv X c j z s'/\U i s'.heap/\(∀b∈K,z b=none)/\W i n j z) ?_ m0 ⟨0,S,H2,I2,M,λ b p=>(f2 b p).1,w0⟩
 rintro n Z ⟨i,σ3,H3,I3,st3,fr3,w3⟩
 rcases turn i n σ3 H3 w3 with⟨C,qn⟩ | ⟨go,N,hN,step⟩
 ·refine wpAny_passesOwn F (thn (T.done X rfl rfl rfl hc i c Z σ3 H3 X.xe I3 (k fr3) st3 C) λ r s4 ⟨P,I4⟩=>?_);subst P;exact wpAny_execs_nil ⟨σ3,H3,I4,qn⟩
 ·refine wpAny_passesOwn F (thn (T.item X rfl rfl rfl hc i c Z σ3 H3 X.xe I3 (k fr3) st3 go) λ r s4 ⟨u,P,h4⟩=>?_);subst P;refine wpAny_passesOwn F (thn h4 λ _ s5 ⟨x,H5,I5,r5,y5,B,Q⟩=>?_);have R:=I5.pinned (k Q) (T.obj _ _ B);refine wpAny_passesOwn F (thn (hg _ s5 σ3 H5 x u _ R r5 (step x H5 y5)) λ _ s6 ⟨L,H6,I6,q6⟩=>?_);refine wpAny_passesOwn F (thn (p _ s6 L H6 _ I6 q6) λ f O A=>?_);have q:∀{a:St} {y:Hp},Inv X _ a y O->N a y->∃m,m<n/\∃i j z,Inv X c j z O/\U i O.heap/\(∀b∈K,z b=none)/\W i m j z:=λ {a y} w E=>by obtain⟨m',hm,w7⟩:=hN a y E;refine⟨m',hm,i+1,a,y,w.unpinned,T.keep _ _ _ B λ b p o e=>(w.pin (b,o) (v9 _ (v9 _ (N7 p e)))).1,λ b p=>?_,w7⟩;obtain⟨o,e,d⟩:=T.obj _ _ B b p;exact(w.pin (b,o) (v9 _ (v9 _ (N7 p e)))).2.1
  cases f with
  | next=>obtain⟨a,y,w,E⟩:=A;exact q w E
  | cont=>obtain⟨a,y,w,E⟩:=A;exact q w E
  | brk=>obtain⟨a,y,w,A⟩:=A;exact⟨a,y,w.unpinned,A⟩
  | ret v=>obtain⟨x7,a,y,w,r7,A⟩:=A;exact⟨x7,a,y,w.unpinned,r7,A⟩
end
end L2
namespace L2
open PySem PySem.Spec PyProof.Rows
abbrev R2:=V->V->Hp->VK->Prop
def OpR(X:Cx)(f:zk->zk->Sem zk)(r:R2):Prop:=
 ∀(pins:ge (zn×Obj)) (s:zm) (σ:St) (H:Hp) (x y:V) (v u:zk) (Q:VK),Inv X pins σ H s->RelV x v->RelV y u->r x y H Q ->
  wpAny (model X.prog X.w) X.A (f v u) (EP X pins σ Q) X.xe s
def x5(X:Cx)(f:zk)(r:ge V->Hp->VK->Prop):Prop:=
 ∀(pins:ge (zn×Obj)) (s:zm) (σ:St) (H:Hp) (xs:ge V) (us:ge zk) (Q:VK),Inv X pins σ H s->Vals xs us->r xs H Q ->
  wpAny (model X.prog X.w) X.A (call f us) (EP X pins σ Q) X.xe s
def TruR(X:Cx)(r:V->Hp->(Bool->Hp->Prop)->Prop):Prop:=
 ∀(pins:ge (zn×Obj)) (s:zm) (σ:St) (H:Hp) (x:V) (v:zk) (Q:Bool->Hp->Prop),Inv X pins σ H s->RelV x v->r x H Q ->
  wpAny (model X.prog X.w) X.A (truthy v) (TP X pins σ Q) X.xe s
noncomputable def tOp(r:R2)(ta tb:TE):TE:=λ σ H Q=>ta σ H λ x H1=>tb σ H1 λ y H2=>r x y H2 Q
noncomputable def tUn(r:V->Hp->VK->Prop)(ta:TE):TE:=λ σ H Q=>ta σ H λ x H1=>r x H1 Q
noncomputable def rI(C:Int->Int->Prop)(g:Int->Int->V):R2:=λ x y H Q=>∃i j,x=.int i/\y=.int j/\C i j/\Q (g i j) H
noncomputable def rI0(g:Int->Int->V):R2:=λ x y H Q=>∃i j,x=.int i/\y=.int j/\Q (g i j) H
section
theorem binT(w:PE X a l)(r:PE X b k){R:V->V->Hp->Prop}(I:Inv X c σ H s)
  (h:l σ H λ x j=>k σ j λ y d=>R x y d)  {f:zk->zk->Sem zk}
  (q:∀v u i x y d,Inv X c σ d i->RelV x v->RelV y u->R x y d->wpAny (model X.prog X.w) X.A (f v u) Q X.xe i) :
  wpAny (model X.prog X.w) X.A (eval a X.env) (λ v g=>wpAny (model X.prog X.w) X.A (eval b X.env) (λ u e=>wpAny (model X.prog X.w) X.A (f v u) Q X.xe e) X.xe g) X.xe s:=by
 refine thn (w c s σ H _ I h) λ v s1 ⟨x,j,A,n,p⟩=>?_;refine thn (r c s1 σ j _ A p) λ u i ⟨y,d,z,m,o⟩=>?_;exact q v u i x y d z n m o
theorem ny(k:OpR X (binaryOp op) r)(m:PE X a e)(l:PE X b d):PE X (.BinOp a op b pos) (tOp r e d):=by
 intro c s f H Q I h;exact wpAny_BinOp (binT m l I h λ v u g x y o n j i q=>k c g f o x y v u Q n j i q)
theorem opI{g:Int->Int->Int}
  (a:∀(i j:Int) (t u:Tok) (s:zm) (Q:zk->zm->Prop) (E:zk->zm->Prop),C i j->Q (.int (g i j) s.toks) {s with toks:=s.toks+1} -> wpAny (model X.prog X.w) X.A (f (.int i t) (.int j u)) Q E s) :
  OpR X f (rI C λ i j=>.int (g i j)):=by
 intro b s σ H x y v u Q I e d h;obtain⟨i,j,rfl,rfl,k,q⟩:=h;obtain⟨t,rfl⟩:=e;obtain⟨c,rfl⟩:=d;exact a i j t c s _ _ k ⟨.int _,H,I.tok _,⟨_,rfl⟩,q⟩
theorem opI0{g:Int->Int->Int}
  (a:∀(i j:Int) (t u:Tok) (s:zm) (Q:zk->zm->Prop) (E:zk->zm->Prop),Q (.int (g i j) s.toks) {s with toks:=s.toks+1} -> wpAny (model X.prog X.w) X.A (f (.int i t) (.int j u)) Q E s) :
  OpR X f (rI0 λ i j=>.int (g i j)):=by
 intro b s σ H x y v u Q I e d h;obtain⟨i,j,rfl,rfl,q⟩:=h;obtain⟨t,rfl⟩:=e;obtain⟨c,rfl⟩:=d;exact a i j t c s _ _ ⟨.int _,H,I.tok _,⟨_,rfl⟩,q⟩
theorem opB0{g:Int->Int->Bool}
  (a:∀(i j:Int) (t u:Tok) (s:zm) (Q:zk->zm->Prop) (E:zk->zm->Prop),Q (.bool (g i j)) s->wpAny (model X.prog X.w) X.A (f (.int i t) (.int j u)) Q E s) :
  OpR X f (rI0 λ i j=>.bl (g i j)):=by
 intro b s σ H x y v u Q I e d h;obtain⟨i,j,rfl,rfl,q⟩:=h;obtain⟨t,rfl⟩:=e;obtain⟨c,rfl⟩:=d;exact a i j t c s _ _ ⟨.bl _,H,I,rfl,q⟩
def CPow(i j:Int):Prop:=0<=j/\j<=1000000/\i.natAbs<2^64
def CMul(i j:Int):Prop:=(-(2^64)<i/\i<2^64)\/(-(2^64)<j/\j<2^64)
theorem CMul.ok(h:CMul i j):IntMulOk i j:=by
 rcases h with⟨b,a⟩ | ⟨b,a⟩
 ·exact .of_left (intBits_le_64 b a)
 ·exact .of_right (intBits_le_64 b a)
theorem nz(k:Nat):(0:Int)<=2^k:=by
 rw[two_pow_cast];exact y9 _
theorem nA:OpR X (binaryOp .Add) (rI0 λ i j=>.int (i+j)):=opI0 λ _ _ _ _ _ _ _ q=>add_int q
theorem nC:OpR X (binaryOp .Sub) (rI0 λ i j=>.int (i - j)):=opI0 λ _ _ _ _ _ _ _ q=>sub_int q
theorem nE:OpR X (binaryOp .Mod) (rI (λ _ j=>0<j) λ i j=>.int (i%j)):=opI λ i j _ _ _ _ _ a q=>by
 have h1:=a;exact mod_int' (by omega) (by rw[Int.fmod_eq_emod_of_nonneg i (by omega)];exact q)
theorem nF:OpR X (binaryOp .Mod) (rI (λ _ j=>j≠0) λ i j=>.int (i.fmod j)):=opI λ _ _ _ _ _ _ _ a q=>mod_int' a q
theorem nG:OpR X (binaryOp .LShift) (rI CPow λ i j=>.int (i*2^j.toNat)):=opI λ _ _ _ _ _ _ _ a q=>lshift_int_small a.1 a.2.1 a.2.2 q
theorem nH:OpR X (binaryOp .RShift) (rI (λ _ j=>0<=j) λ i j=>.int (i/2^j.toNat)):=opI λ i j _ _ _ _ _ a q=>
 rshift_int a (by rw[Int.fdiv_eq_ediv_of_nonneg i (nz _)];exact q)
theorem nJ:OpR X (binaryOp .BitAnd) (rI0 λ i j=>.int (Builtin.bitAnd i j)):=opI0 λ _ _ _ _ _ _ _ q=>and_int q
end
section
variable {X:Cx} {a b c:zq} {ta tb tc:TE} {pos:Pos}
theorem eA{a:ge (zn×Obj)}{b:Bool}(I:Inv X a σ H s)(q:Q (.bl k) H)(e:k=b):EP X a σ Q (.bool b) s:=by
 subst e;exact⟨.bl k,H,I,rfl,q⟩
theorem nK:OpR X (compareOp .Lt) (rI0 λ i j=>.bl (decide (i<j))):=opB0 λ _ _ _ _ _ _ _ q=>lt_int q
theorem nL:OpR X (compareOp .LtE) (rI0 λ i j=>.bl (decide (i<=j))):=opB0 λ _ _ _ _ _ _ _ q=>le_int q
theorem nM:OpR X (compareOp .Is) (λ x y H Q=>y=.non/\Q (.bl (decide (x=.non))) H):=by
 intro b s σ H x y v u Q I a c h;obtain⟨rfl,q⟩:=h;cases c;refine is_none_gen (eA I q ?_);cases x<;>first
  | (cases a;rfl)
  | (obtain⟨t,rfl⟩:=a;rfl)
theorem nN:OpR X (compareOp .IsNot) (λ x y H Q=>y=.non/\Q (.bl (!decide (x=.non))) H):=by
 intro b s σ H x y v u Q I a c h;obtain⟨rfl,q⟩:=h;cases c;refine isnot_none_gen (eA I q ?_);cases x<;>first
  | (cases a;rfl)
  | (obtain⟨t,rfl⟩:=a;rfl)
theorem OpR.or(h:OpR X f r)(g:OpR X f e):OpR X f (λ x y H Q=>r x y H Q\/e x y H Q):=by
 intro a s b H x y v u Q I d c q;rcases q with q | q
 ·exact h a s b H x y v u Q I d c q
 ·exact g a s b H x y v u Q I d c q
theorem nO(i:OpR X (compareOp op) r)(l:PE X a ta)(k:PE X b tb)(j:behindInMarks op b=false):PE X (.Compare a [op] [b] pos) (tOp r ta tb):=by
 intro c s d H Q I h;exact wpAny_Compare1 (binT l k I h λ v u e x y n m g f q=>i c e d n x y v u Q m g f q) j
noncomputable def nP(t:TE):TT:=λ σ H Q=>t σ H λ x H'=>∃k,x=.bl k/\Q k H'
theorem nQ(p:OpR X (compareOp op) r)(A:PE X a ta)(w:PE X b tb)(q:behindInMarks op b=false):PT X (.Compare a [op] [b] pos) (nP (tOp r ta tb)):=by
 intro d s f H Q I h;refine wpAny_isTrue_Compare1 (thn (A d s f H _ I h) λ v s1 ⟨x,K,E,l,o⟩=>thn (w d s1 f K _ E o) λ u g ⟨y,J,C,j,n⟩=>
  thn (p d g f J x y v u _ C l j n) λ c s3 ⟨z,F,B,i,k,e,m⟩=>?_) q
 subst e;cases i;exact wpAny_truthy_bool ⟨F,B,m⟩
def TruV(K:zA)(x:V)(H:Hp)(k:Bool):Prop:=
 match x with
 | .non=>k=false
 | .bl b=>k=b
 | .int i=>k=(i != 0)
 | .str y=>y.length<=sizeLine/\k=((y.length:Int) != 0)
 | .byt y=>y.size<=sizeLine/\k=((y.size:Int) != 0)
 | .ref p=>(∃xs,SqL K H p xs/\k = !xs.isEmpty)\/(∃xs,SqT K H p xs/\k = !xs.isEmpty)\/∃kvs,H p=some (.dK kvs)/\k = !kvs.isEmpty
 | _=>False
theorem nR{b:Type}{a:ge (b×V)}{vs:ge (b×zk)}(r:KV a vs):(!vs.isEmpty) = !a.isEmpty:=by
 cases r<;>rfl
theorem eB{a:ge zk}(r:Vals xs a):(!a.toArray.isEmpty) = !xs.isEmpty:=by
 cases r<;>simp
theorem N8:(sizeLine:Nat)<2^63:=by rw[sizeLine_eq];decide
theorem Y2:TruR X (λ x H Q=>∃k,TruV X.K x H k/\Q k H):=by
 intro pins s σ H x v Q I rx h;obtain⟨k,e,q⟩:=h;have hl:=N8;have hs:=sizeLine_eq;cases x with
 | non=>
  cases rx;have c:=e;subst c;exact truthy_none ⟨H,I,q⟩
 | bl b=>
  cases rx;have c:=e;subst c;exact wpAny_truthy_bool ⟨H,I,q⟩
 | int i=>
  obtain⟨t,rfl⟩:=rx;have c:=e;subst c;exact PySem.P.truthy_int ⟨H,I,q⟩
 | str y=>
  obtain⟨t,rfl⟩:=rx;obtain⟨hy,c⟩:y.length<=sizeLine/\k=_:=e;subst c;exact PySem.P.truthy_str (by omega) ⟨H,I.tok _,q⟩
 | byt y=>
  obtain⟨t,rfl⟩:=rx;obtain⟨hy,c⟩:y.size<=sizeLine/\k=_:=e;subst c;exact PySem.W.truthy_bytes (by omega) ⟨H,I.tok _,q⟩
 | ref p=>
  cases rx;have c:=e;rcases c with⟨xs,hx,c⟩ | ⟨xs,hx,c⟩ | ⟨kvs,hx,c⟩
  ·subst c;obtain⟨its,r,pl,hz⟩:=I.list hx;have hlen:=r.length;exact wpAny_truthy_list pl.isList (by simp only[p7];omega) ⟨H,I.tok _,by rw[eB r];exact q⟩
  ·subst c;obtain⟨its,r,pl,hz⟩:=I.tuple hx;have hlen:=r.length;exact truthy_tuple pl (by simp only[p7];omega) ⟨H,I.tok _,by rw[eB r];exact q⟩
  ·subst c;obtain⟨hz,hS,vs,r,m⟩:kvs.length<=sizeLine/\_=false/\∃vs,KV kvs vs/\s.heap.DictOf _ p vs:=I.hok p _ hx;have hlen:=Paired.length r;exact wpAny_truthy_dict hS m (by omega) ⟨H,I.tok _,by rw[nR r];exact q⟩
 | _=>exact(e).elim
theorem eC(j:PE X a ta)(i:∀b,isTrue a X.env b=(do let v ←b;standAt a.pos;holding [v] (truthy v))) :
  PT X a (λ d H Q=>ta d H λ x e=>∃k,TruV X.K x e k/\Q k e):=by
 intro c s d H Q I h;exact isTrue_plain (thn (j c s d H _ I h) λ v s1 ⟨x,m,l,f,g⟩=>Y2 c s1 d m x v Q l f g) (i _)
theorem C7{a:ge zk}(r:Vals [x] a):∃u,a=[u]/\RelV x u:=by
 cases r with
 | cons c b=>cases b;exact⟨_,rfl,c⟩
theorem Y3{b:ge zk}(r:Vals [x,y] b):∃u a,b=[u,a]/\RelV x u/\RelV y a:=by
 cases r with
 | cons f e=>
  cases e with
  | cons d c=>cases c;exact⟨_,_,rfl,f,d⟩
theorem nS(d:X.calm=true):x5 X (.builtin "min") (λ b H Q=>∃i j,b=[.int i,.int j]/\Q (.int (if j<i then j else i)) H):=by
 intro c s σ H b us Q I r h;obtain⟨i,j,rfl,q⟩:=h;obtain⟨u,w',rfl,⟨t,rfl⟩,⟨t',rfl⟩⟩:=Y3 r;refine min_two_ints (I.ok.hd d) λ h' tk k=>⟨_,H,I.kept k,?_,q⟩
 by_cases a:j<i
 ·rw[d6 a,d6 a];exact⟨_,rfl⟩
 ·rw[d9 a,d9 a];exact⟨_,rfl⟩
theorem eD:x5 X (.type "int") (λ a H Q=>(∃i,a=[.int i]/\Q (.int i) H)\/∃k,a=[.bl k]/\Q (.int (if k then 1 else 0)) H):=by
 intro b s σ H a us Q I r h;rcases h with⟨i,rfl,q⟩ | ⟨k,rfl,q⟩
 ·obtain⟨u,rfl,t,rfl⟩:=C7 r;exact call_int_int ⟨.int i,H,I,⟨_,rfl⟩,q⟩
 ·obtain⟨u,rfl,c⟩:=C7 r;cases c;exact call_int_bool ⟨.int _,H,I.tok _,⟨_,rfl⟩,q⟩
end
end L2
namespace L2
open PySem PySem.Spec PyProof.Rows
section
end
section
end
section
end
section
end
section
variable {X:Cx} {pins:ge (zn×Obj)} {σ:St} {H:Hp} {s:zm} {A:zw} {E:zk->zm->Prop} {Q:zk->zm->Prop} {c:zk} {b:Bool}
end
end L2
namespace L2
open PySem PySem.Spec PyProof.Rows
structure Room(k:Nat)(A:Around):Prop where
 hd:A.handled=none
 dp:A.depth+3*k+5<recursionLimit
 un:A.units+16*k+200<cLine
theorem Room.deeper(r:Room (k+1) A)(env:Env):Room k (A.deeper env):=
 ⟨r.hd,by have:=r.dp;show A.depth+1+3*k+5<_;omega,by have:=r.un;show A.units+3+16*k+200<_;omega⟩
theorem Room.depth(r:Room k A):A.depth<recursionLimit:=by have:=r.dp;omega
theorem Room.units(r:Room k A):A.units+64<cLine:=by have:=r.un;omega
noncomputable def tNil:TA:=λ _ H Q=>Q [] H
noncomputable def aX(ta:TE)(tr:TA):TA:=λ σ H Q=>ta σ H λ x H1=>tr σ H1 λ xs H2=>Q (x::xs) H2
section
variable {X:Cx} {e:zq} {es:ge zq} {te:TE} {t:TA} {pos:Pos}
theorem C8:PA X [] tNil:=λ _ _ _ _ H Q I h=>Calls.spliced_nil ⟨[],H,I,.nil,h⟩
theorem A2(l:PE X e te)(k:PA X es t)(hs:starEach (e::es) X.env=(false,eval e X.env)::starEach es X.env:=by rfl):PA X (e::es) (aX te t):=by
 intro b a s c H Q I h;rw[hs];show wpAny _ _ _ _ _ s;refine Calls.spliced_cons (thn (l a s c H _ I h) λ u s1 ⟨x,p,n,g,j⟩=>?_);exact thn (k b a s1 c p _ n j) λ us s2 ⟨d,o,m,f,i⟩=>⟨x::d,o,m,.cons g f,i⟩
def tTup(t:TA):TE:=λ σ H Q=>t σ H λ xs H1=>xs.length<=sizeLine/\∀p,H1 p=none->Q (.ref p) (upd H1 p (.tup xs))
def tLst(t:TA):TE:=λ σ H Q=>t σ H λ xs H1=>xs.length<=sizeLine/\∀p,H1 p=none->Q (.ref p) (upd H1 p (.lst xs))
theorem Y4(h:PA X es t):PE X (.Tuple es x1 pos) (tTup t):=by
 intro a s d H Q I g;refine wpAny_Tuple_spliced (thn (h pos a s d H _ I g) λ f s1 ⟨xs,i,c,r,z,q⟩=>⟨by rw[←r.length];exact z,?_⟩);refine⟨.ref s1.heap.objs.size,upd i s1.heap.objs.size _,c.laid (λ b u e=>f9 _ e) (i7 _) ?_,rfl,q _ (c.hok.fresh (i7 _))⟩;exact⟨z,f,r,⟨_,n6 _ rfl,⟨rfl,rfl⟩,_,rfl⟩⟩
theorem eF(h:PA X es t):PE X (.List es pos) (tLst t):=by
 intro a s d H Q I g;refine wpAny_List_spliced (thn (h pos a s d H _ I g) λ f s1 ⟨xs,i,c,r,z,q⟩=>⟨by rw[←r.length];exact z,?_⟩);refine⟨.ref s1.heap.objs.size,upd i s1.heap.objs.size _,c.laid (λ b u e=>f9 _ e) (i7 _) ?_,rfl,q _ (c.hok.fresh (i7 _))⟩;exact⟨z,f,0,r,n6 _ rfl⟩
end
abbrev Sp:=ge V->Hp->VK->XK->Prop
abbrev CXT:=ge Env->Hp->zm->XK->zk->zm->Prop
structure Env0(P:Program)(w:World)(K:PySem.W.Frag)(mg:Str->Option Value)(base:Heap)(A:Around)(outer:List Env)(s:Shared)(H:Hp):Prop where
 frames:A.frames=some outer
 mod:Mod K mg base
 bs:∀b o,base.get? b=some o->s.heap.get? b=some o/\H b=none
 bsz:base.objs.size<=s.heap.objs.size
 funs:s.heap.FunFrames base outer
 frf:(∀b∈frs outer,H b=none)/\R8 K H
 hok:HOk P w H s.heap
 bare:AllBare s.gens
def CE(outer:ge Env)(P:zu)(w:zt)(H:Hp)(s:zm)(Q:VK)(u:zk)(s':zm):Prop:=
 ∃v H',s'.os=s.os/\AllBare s'.gens/\Un (frs outer) [] H H' s.heap s'.heap/\HOk P w H' s'.heap/\RelV v u/\Q v H'
def CR(CX:CXT)(outer:ge Env)(P:zu)(w:zt)(H:Hp)(s:zm)(Q:VK)(E:XK)(r:Result)(s':zm):Prop:=
 match r with
 | .ok (.ret u)=>CE outer P w H s Q u s'
 | .ok _=>False
 | .error e=>CX outer H s E e s'
structure FnOk(P:Program)(w:World)(K:PySem.W.Frag)(mg:Str->Option Value)(base:Heap)(CX:CXT)(k:Nat)(f:Addr)(fd:FuncData)(ps:List Str)(sp:Sp):Prop where
 len:∀vs H Q E,sp vs H Q E->vs.length=ps.length
 run:∀(A:Around) (outer:List Env) (s:Shared) (H:Hp) (args:Args) (us:List Value) (vs:List V) (Q:VK) (E:XK),Room k A->Env0 P w K mg base A outer s H->BindsTo s fd args (ps.zip us)->Vals vs us->sp vs H Q E ->
  codeAny (model P w) A (.call (.ref f) args) (CR CX outer P w H s Q E) s
section
theorem Inv.env0(I:Inv X a σ H s):Env0 X.prog X.w X.K X.mg X.base X.A X.stack s H:=
 ⟨I.ok.frames,I.ok.mod,I.bs,g9 I.ok.bsz I.sz,I.stack,⟨I.stkFree,I.tabs⟩,I.hok,I.bare⟩
theorem Inv.after(I:Inv X a σ H s)(h:CE X.stack X.prog X.w H s Q u e):EP X a σ Q u e:=by
 obtain⟨v,k,j,c,un,i,r,q⟩:=h;obtain⟨hh,g,d,t,f⟩:=e;obtain rfl:f=s.os:=j;exact⟨v,k,I.call un i c (λ b z=>absurd z (by simp)),r,q⟩
end
def J2(K:zA)(fd:zy)(ps:ge Str)(ds:ge zk):Prop:=
 ∀(s:zm) (us:ge zk),K.In s.heap->(us++ds).length=ps.length->BindsTo s fd ⟨us,[]⟩ (ps.zip (us++ds))
theorem J2.all{K:zA}(h:∀a:ge zk,a.length=ps.length->bindArgs fd ⟨a,[]⟩=pure (ps.zip a)):J2 K fd ps []:=λ s a _ b=>by
 rw[List.append_nil]at b ⊢;exact .of_eq (h a b)
def aY(CX:CXT)(X:Cx)(E:XK):Prop:=∀(pins:ge (zn×Obj)) (σ:St) (H:Hp) (s:zm) (e:zk) (s':zm),Inv X pins σ H s->CX X.stack H s E e s'->X.xe e s'
section
variable {X:Cx} {CX:CXT} {k:Nat} {f C:zn} {fd:zy} {ps:ge Str} {sp:Sp} {dvs:ge V} {ds:ge zk} {E:XK} {x m:Str} {p pos apos:Pos} {e o:zq} {es:ge zq} {ta:TE} {t:TA}
end
def PK(X:Cx)(kws:ge Keyword)(t:TA):Prop:=
 ∀(pos:Pos) (pins:ge (zn×Obj)) (s:zm) (σ:St) (H:Hp) (Q:ge V->Hp->Prop),Inv X pins σ H s->t σ H Q->wpAny (model X.prog X.w) X.A (evalAll ((backToKw pos (keywordEach kws X.env)).map (·.2))) (AP X pins σ Q) X.xe s
section
variable {X:Cx} {CX:CXT} {k:Nat} {f C:zn} {fd:zy} {ps ks:ge Str} {sp:Sp} {E:XK} {x m:Str} {p pos apos kpos:Pos} {e o:zq} {es:ge zq} {kws:ge Keyword} {te ta:TE} {t tk:TA} {nm:on Str}
theorem nT:PK X [] tNil:=λ _ _ _ _ H Q I h=>wpAny_evalAll_nil ⟨[],H,I,.nil,h⟩
theorem nU(l:PE X e te)(k:PK X kws t):PK X (⟨nm,e,kpos⟩::kws) (aX te t):=by
 intro b a s c H Q I h;show wpAny _ _ _ _ _ s;refine wpAny_evalAll_cons (d4 (thn (l a s c H _ I h) λ u s1 ⟨x,p,n,g,j⟩=>d4 (wpAny_standAt (d7 ?_))));exact thn (k b a s1 c p _ n j) λ us s2 ⟨d,o,m,f,i⟩=>⟨x::d,o,m,.cons g f,i⟩
end
structure FnScope(N P:List Str)(sc:Scope):Prop where
 kind:sc.kind=.function
 co:sc.isCoroutine=false
 gen:sc.isGenerator=false
 nd:N.Nodup
 pre:N.take P.length=P
 par:∀x∈P,sc.names.lookup x=some .local\/sc.names.lookup x=some .cell
 nofree:∀y∈sc.names,y.2 ≠ .free
theorem eG:∀{a:ge (Str×zk)} {m:Str->on zk},(∀v,(x,v)∉a)->bindL b a m x=m x
 | [],_,_=>rfl
 | (n,v)::r,m,h=>by
  unfold bindL;rw[eG λ w c=>h w (i8 _ c)];split
  ·have:x≠n:=by rintro rfl;exact h v i9
   simp[this]
  ·rfl
theorem eH:∀{a:ge (Str×zk)} {m:Str->on zk},(∀v,(x,v)∉a)->bindC b a m x=m x
 | [],_,_=>rfl
 | (n,v)::r,m,h=>by
  unfold bindC;rw[eH λ w c=>h w (i8 _ c)];split
  ·rfl
  ·have:x≠n:=by rintro rfl;exact h v i9
   simp[this]
theorem eI:∀{P:ge Str} {b:ge zk} {i:Nat} {m:Str->on zk},P.Nodup->P[i]? = some x->b[i]? = some v->a x=some .local ->
  bindL a (P.zip b) m x=some v
 | [],_,_,_,_,h,_,_=>by simp at h
 | _::_,[],_,_,_,_,h,_=>by simp at h
 | p::P,w::b,0,m,e,d,c,f=>by simp at d c;subst d;subst c;show bindL a ((p,w)::P.zip b) m p=_;unfold bindL;rw[eG λ v g=>(List.nodup_cons.mp e).1 (List.of_mem_zip g).1,d6 f];simp
 | p::P,w::b,i+1,m,e,d,c,f=>by show bindL a _ m x=_;unfold bindL;exact eI (List.nodup_cons.mp e).2 (by simpa using d) (by simpa using c) f
theorem eJ:∀{P:ge Str} {b:ge zk} {i:Nat} {m:Str->on zk},P.Nodup->P[i]? = some x->b[i]? = some v->a x≠some .local ->
  bindC a (P.zip b) m x=some v
 | [],_,_,_,_,h,_,_=>by simp at h
 | _::_,[],_,_,_,_,h,_=>by simp at h
 | p::P,w::b,0,m,e,d,c,f=>by simp at d c;subst d;subst c;show bindC a ((p,w)::P.zip b) m p=_;unfold bindC;rw[eH λ v g=>(List.nodup_cons.mp e).1 (List.of_mem_zip g).1,d9 f];simp
 | p::P,w::b,i+1,m,e,d,c,f=>by show bindC a _ m x=_;unfold bindC;exact eJ (List.nodup_cons.mp e).2 (by simpa using d) (by simpa using c) f
noncomputable def start(N:ge Str)(vs:ge V):St:=vs.map some++List.replicate (N.length - vs.length) none
noncomputable def cxOf(CX:CXT)(P:zu)(w:zt)(K:zA)(mg:Str->on zk)(base:zo)(N:ge Str)(qual:Str)(scope:zB)(f:zn)(cd:zk)(A:zw)(outer:ge Env)(s:zm)(H:Hp)(E:XK):Cx where
 prog:=P
 w:=w
 K:=K
 mg:=mg
 base:=base
 A:=A.deeper (envOfC qual scope s.heap.objs.size f cd)
 N:=N
 s₀:=s
 H₀:=H
 env:=envOfC qual scope s.heap.objs.size f cd
 outer:=outer
 stack:=envOfC qual scope s.heap.objs.size f cd::outer
 ex:=[]
 calm:=true
 fn:=λ _=>true
 pn:=[]
 xe:=λ e s'=>wpAny (model P w) (A.deeper (envOfC qual scope s.heap.objs.size f cd)) (leaving (envOfC qual scope s.heap.objs.size f cd) e) (λ _ s''=>CX outer H s E e s'') (λ e' s''=>CX outer H s E e' s'') s'
theorem eK{sc:zB}(h:sc.names.lookup x=some .cell):∃c,(cellsFrom n sc.names []).lookup x=some c:=by
 exact Option.isSome_iff_exists.mp (PySem.W.cellsFrom_some sc.names n [] (.inl h))
theorem nV{K:zA}
  (S:FnScope N ps scope) (U:A.handled=none) (m:Env0 P w K mg l A d s H) (hl:vs.length=ps.length) (r:Vals vs J)
  (x:InCallC s s.heap.objs.size (bindL (envOfC g scope s.heap.objs.size f cd).kindOf (ps.zip J) λ _=>none) (cellsFrom (s.heap.objs.size+1) scope.names []) (bindC (envOfC g scope s.heap.objs.size f cd).kindOf (ps.zip J) λ _=>none) s1) :
  Inv (cxOf O P w K mg l N g scope f cd A d s H E) [] (start N vs) H s1:=by
 have R:ps.length<=N.length:=by have:=congrArg List.length S.pre;rw[List.length_take]at this;omega
 obtain⟨I,tk,rfl,M⟩:=x.done;have n:∀b:zn,b∉(cxOf O P w K mg l N g scope f cd A d s H E).ex:=λ b z=>absurd (show b∈([]:ge zn)from z) (by simp)
 refine⟨⟨m.mod,S.kind,rfl,rfl,i7 _,λ y z c I j=>?_,λ y o=>?_,λ y c _ h=>?_,λ _=>U,Around.frames_deeper m.frames,.inr ⟨rfl,rfl⟩,λ b z=>absurd z (n b),m.bs,m.bsz,λ b _ _=>n b,λ b z=>absurd z (n b),m.funs,m.frf⟩,
  rfl,m.bare,Un.kept M,⟨_,x.toInCall.ns,λ i y v I j h3=>?_⟩,λ y c h=>⟨_,x.cell y c h⟩,m.hok.fresh (i7 _),λ y c h=>?_,λ p C=>absurd (show p∈([]:ge _)from C) (by simp),m.hok.kept M,?_⟩
 ·exact name_of_addr x.apart (PySem.mem_of_lookup I) (PySem.mem_of_lookup j)
 ·have o:=o;rcases o with o | o
  ·exact eK o
  ·exact absurd rfl (S.nofree _ (PySem.mem_of_lookup o))
 ·exact Nat.le_of_lt (x.above y c (PySem.mem_of_lookup h))
 ·have F:i<vs.length:=by
   unfold start at j;by_cases F:i<vs.length
   ·exact F
   ·rw[List.getElem?_append_right (by simpa using F)]at j;rw[List.getElem?_replicate]at j;split at j<;>cases j
  have W:vs[i]? = some v:=by
   unfold start at j;rw[List.getElem?_append_left (by simpa using F),u4]at j;cases e:vs[i]? with
   | none=>rw[e]at j;cases j
   | some a=>rw[e]at j;cases j;rfl
  obtain⟨u,L,Q⟩:=r.get W;have C:ps[i]? = some y:=(by rw[←S.pre,List.getElem?_take_of_lt (by omega)];exact I);have B:ps.Nodup:=by rw[←S.pre];exact S.nd.sublist (List.take_sublist _ _)
  refine⟨u,Q,?_⟩;rcases S.par y (List.mem_of_getElem? C)with k | k
  ·exact .inl ⟨k,eI B C L k⟩
  ·obtain⟨c,e⟩:=eK k;refine .inr ⟨.inl k,c,e,?_⟩;have q:=x.cell y c e;rw[eJ B C L (by show scope.names.lookup y≠_;rw[k];decide)]at q;exact q
 ·exact m.hok.fresh (Nat.le_of_lt (x.above y c (PySem.mem_of_lookup h)))
 ·unfold start;show _=N.length;rw[v0,e7,List.length_replicate];omega
theorem nW{W:CXT}{P:zu}{w:zt}{K:zA}{h:zo}{k:Nat}{f:zn}{j c:Str}{scope:zB}{dV kV F pm g X oc:zk}
   {I:Sp} (lk:K.lookup f=some ⟨oc,od,.func (PySem.W.fnOf j c d body scope dV kV F pm Z g X),O⟩) (U:PySem.W.codeIn K g c=true) (S:FnScope N ps scope)
  (len:∀vs H Q E,I vs H Q E->vs.length=ps.length)
  (p:∀(A:zw) (a:ge Env) (s:zm) (H:Hp) (vs:ge V) (Q:VK) (E:XK),Room k (A.deeper (envOfC c scope s.heap.objs.size f g))->I vs H Q E ->
   ∃t,PSs (cxOf W P w K mg h N c scope f g A a s H E) body t/\t {nx:=λ _ l=>Q .non l,rt:=Q} (start N vs) H) :
  FnOk P w K mg h W (k+1) f (PySem.W.fnOf j c d body scope dV kV F pm Z g X) ps I:=by
 refine⟨len,λ A a s H Y us vs Q E R C hb r z=>?_⟩;have hl:=len _ _ _ _ z;have KX:=C.mod.kin.keeps λ b o e=>(C.bs b o e).1;have m:∀y∈ps.zip us,scope.names.lookup y.1=some .local\/(scope.names.lookup y.1=some .cell/\((cellsFrom (s.heap.objs.size+1) scope.names []).lookup y.1).isSome=true):=λ ⟨n,v⟩ hy=>by
  rcases S.par n (List.of_mem_zip hy).1 with q | q
  ·exact .inl q
  ·exact .inr ⟨q,PySem.W.cellsFrom_some _ _ _ (.inl q)⟩
 refine codeAny_call_function R.depth (KX _ _ lk) rfl S.co S.gen rfl (PySem.W.codeRec_of KX U) (hb _ _ _ _ ?_)
 refine wpAny_newFunctionEnv_cells S.kind m λ env he s1 x=>?_;subst he;refine⟨(C.mod.nolimit.keeps λ b o e=>(C.bs b o e).1).keeps x.toInCall.keep,codeAny_func ?_⟩;obtain⟨t,ht,hq⟩:=p A a s H vs Q E (R.deeper _) z;refine wpAny_mono (ht [] s1 _ H _ (nV S R.hd C hl r x) hq) (λ fl L hs=>?_) λ e L hs=>hs;have B:∀{i:St} {l:Hp} {v:V} {u:zk},Inv (cxOf W P w K mg h N c scope f g A a s H E) [] i l L->RelV v u->Q v l->CE a P w H s Q u L:=
  λ {i l v u} J M q=>⟨v,l,J.os,J.bare,J.base,J.hok,M,q⟩
 cases fl with
 | ret u=>
  obtain⟨v,i,l,J,M,q⟩:=hs;exact B J M q
 | next=>
  obtain⟨i,l,J,q⟩:=hs;exact B (v:=V.non) J rfl q
 | brk=>
  obtain⟨_,_,_,q⟩:=hs;exact False.elim q
 | cont=>
  obtain⟨_,_,_,q⟩:=hs;exact False.elim q
end L2
namespace L2
open PySem PySem.Spec PyProof.Rows
section
variable {X:Cx} {x:Str} {p pos:Pos} {e:zq} {es:ge zq} {t:TA} {id T:zE} {r:ge V->Hp->VK->Prop}
noncomputable def tCB(r:ge V->Hp->VK->Prop)(t:TA):TE:=λ σ H Q=>t σ H λ vs H1=>r vs H1 Q
theorem S9(q:x5 X (.builtin id) r)(n:Gl X x)(m:X.mg x=none)(k:bootBuiltins x=some (.builtin id))(u:PA X (e::es) t)(l:x ≠ "__name__":=by decide)(c:(x==("__debug__" : Str))=false:=by decide)
  (o:starEach (e::es) X.env=(false,eval e X.env)::starEach es X.env:=by rfl) (b:(backTo pos (starEach es X.env)).any (·.1)=false:=by rfl):PE X (.Call (.Name x p) (e::es) [] pos) (tCB r t):=by
 intro a s d H Q I h;refine wpAny_Call_Name_kw (J1 I n m k ?_ l c);exact PyProof.Rows.callWith_builtin1 (thn (u pos a s d H _ I h) λ g s1 ⟨f,w,v,i,j⟩=>q a s1 d w f g Q v i j) o b
theorem eL(q:x5 X (.type T) r)(n:Gl X x)(m:X.mg x=none)(k:bootBuiltins x=some (.type T))(u:PA X (e::es) t)(l:x ≠ "__name__":=by decide)(c:(x==("__debug__" : Str))=false:=by decide)
  (o:starEach (e::es) X.env=(false,eval e X.env)::starEach es X.env:=by rfl) (b:(backTo pos (starEach es X.env)).any (·.1)=false:=by rfl):PE X (.Call (.Name x p) (e::es) [] pos) (tCB r t):=by
 intro a s d H Q I h;refine wpAny_Call_Name_kw (J1 I n m k ?_ l c);exact PyProof.Rows.callWith_type1 (thn (u pos a s d H _ I h) λ g s1 ⟨f,w,v,i,j⟩=>q a s1 d w f g Q v i j) o b
end
end L2
namespace HT
open PySem PyProof.Rows
section
open PySem.SeqAt
open PySem.AutoSeq1 (wpAny_loadPart')
open PySem.MeetsSeq PySem.MeetsSeq2 PySem.MeetsSeq3
end
section
noncomputable def sIx(n d:Nat):on Int->Nat
 | none=>d
 | some v=>if v<0 then(v+(n:Int)).toNat else min v.toNat n
theorem nX(n d:Nat)(b:d<=n)(o:on Int):sIx n d o<=n:=by
 cases o with
 | none=>exact b
 | some v=>
  show(if v<0 then(v+_).toNat else min v.toNat n)<=n;by_cases a:v<0
  ·rw[d6 a];omega
  ·rw[d9 a];exact Nat.min_le_right _ _
theorem eM(v:Int)(n d:Nat):(if v<0 then max (v+(n:Int)) 0 else min v (n:Int))=((sIx n d (some v):Nat):Int):=by
 show(if v<0 then max _ 0 else min v _)=(((if v<0 then(v+_).toNat else min v.toNat n):Nat):Int);by_cases a:v<0
 ·simp only[d6 a];omega
 ·simp only[d9 a];omega
theorem nY(a b:on Int)(n:Nat):Builtin.Slice.sliceAdjust a b 1 (n:Int)=(((sIx n 0 a:Nat):Int),((sIx n n b:Nat):Int)):=by
 have c:¬((1:Int)<0):=by omega
 unfold Builtin.Slice.sliceAdjust;simp only[c,if_false];refine Prod.ext ?_ ?_
 ·cases a with
  | none=>rfl
  | some v=>exact eM v n 0
 ·cases b with
  | none=>rfl
  | some v=>exact eM v n n
theorem nZ(i j:Nat):Builtin.Slice.slicePlaces (i:Int) (j:Int) 1=j - i:=by
 unfold Builtin.Slice.slicePlaces;have a:(1:Int)>0:=by omega
 simp only[a,if_true,Int.ediv_one];split<;>omega
theorem eN(p:IsPart v o)(h:Q o s):wpAny (model prog w) A (Builtin.Slice.slicePartIndex v) Q E s:=by
 cases p with
 | none=>exact slicePart_none h
 | int i t=>exact slicePart_int h
theorem og{n:Nat}(hs:s.heap.IsSliceOf g f e .none)(j:IsPart f a)(i:IsPart e d)
  (h:Q (((sIx n 0 a:Nat):Int),1,sIx n n d - sIx n 0 a) s):wpAny (model prog w) A (Builtin.Slice.sliceApplied (.ref g) (pure (n:Int))) Q E s:=by
 obtain⟨os,b,k,c⟩:=id hs;unfold Builtin.Slice.sliceApplied Builtin.Slice.sliceFields;refine d4 (d4 (wpAny_field b c rfl (d4 (wpAny_field b c rfl (d4 (wpAny_field b c rfl (d7 ?_)))))));refine d4 (slicePart_none ?_);show wpAny _ _ _ _ _ s;rw[d9 (by decide)];refine d4 (eN j (d4 (eN i (d4 (d7 ?_)))));show wpAny _ _ (match Builtin.Slice.sliceAdjust a d 1 (n:Int)with | (a,d)=>pure (a,_,Builtin.Slice.slicePlaces a d 1)) _ _ s;rw[nY a d n];show wpAny _ _ (pure _) _ _ s;rw[nZ];exact d7 h
theorem oh(xs:zr zk)(i k:Nat):((List.range k).filterMap λ (m:Nat)=>xs[((i:Int)+(m:Int)*1).toNat]?).toArray=((xs.toList.drop i).take k).toArray:=by
 have e:(λ (m:Nat)=>xs[((i:Int)+(m:Int)*1).toNat]?)=λ m=>xs[i+m]?:=by
  funext m
  have:((i:Int)+(m:Int)*1).toNat=i+m:=by omega
  rw[this]
 rw[e];have:=pick_run xs i k;rw[List.filterMap_map]at this;have a:(_ ∘ λ x=>i+x)=λ m=>xs[i+m]?:=rfl
 rw[a]at this;rw[this]
theorem getItem_tuple_cut(d:IsTup s.heap t items)(hs:s.heap.IsSliceOf k j i .none)(m:IsPart j a)(l:IsPart i b)
  (hw:¬(sIx items.size 0 a=0/\sIx items.size items.size b=items.size))
  (h:Q (.ref s.heap.objs.size) {s with heap:=s.heap.push {cls:=.type "tuple",data:=.seq ((items.toList.drop (sIx items.size 0 a)).take (sIx items.size items.size b - sIx items.size 0 a)).toArray}})
  (o:items.size<=sizeLine):wpAny (model prog w) A (getItem (.ref t) (.ref k)) Q E s:=by
 have c:=(by show((items.toList.drop (sIx items.size 0 a)).take (sIx items.size items.size b - sIx items.size 0 a)).toArray.size<=sizeLine;rw[p7,List.length_take,List.length_drop,t9];omega);have hj:sIx items.size items.size b<=items.size:=nX _ _ (i7 _) b;obtain⟨n,e,g,p⟩:=id hs;unfold getItem
 try with_reducible refine wpAny_holding ?_
 first | refine d4 (d7 ?_) | skip
 refine d4 (wpAny_sequenceKey d.typeIs (by decide) ?_);refine d4 (wpAny_callSpecial?_slot d.typeIs PyProof.Rows.slot_tuple_getitem
  (wpAny_call_entry PyProof.Rows.slot_tuple_getitem d.typeIs entry_tuple_getitem ?_ (args_tuple_getitem _ _)))
 show wpAny _ _ (Builtin.Tuple.tupleItemsOf _ >>= _) _ _ s;refine d4 (tupleItemsOf_ d ?_);refine d4 (wpAny_typeOf (⟨n,e,g⟩) ?_);rw[d6 (by decide)];refine d4 (og hs m l ?_);have f:¬((((sIx items.size 0 a:Nat):Int)==0&&(1:Int)==1&&(sIx items.size items.size b - sIx items.size 0 a)==items.size)=true):=by intro q;rw[d8,d8]at q;have q1:=eq_of_beq q.1.1;have q2:=eq_of_beq q.2;exact hw ⟨by omega,by omega⟩
 show wpAny _ _ (if(((sIx items.size 0 a:Nat):Int)==0&&(1:Int)==1&&(sIx items.size items.size b - sIx items.size 0 a)==items.size)=true then _ else _) _ _ s;rw[d9 f,oh]
 first
  | exact d4 (wpAny_newObj_type (d7 ⟨_,rfl,d7 h⟩) c)
  | exact d4 _
  | exact d4 _
  | exact d4 _
end
end HT
namespace L2
open PySem PySem.Spec PyProof.Rows
abbrev TO:=St->Hp->(on Int->Hp->Prop)->Prop
def PO(X:Cx)(e:on zq)(t:TO):Prop:=
 ∀(pins:ge (zn×Obj)) (s:zm) (σ:St) (H:Hp) (Q:on Int->Hp->Prop),Inv X pins σ H s->t σ H Q ->
  wpAny (model X.prog X.w) X.A (evalPart e X.env) (λ u s'=>∃o H',Inv X pins σ H' s'/\IsPart u o/\Q o H') X.xe s
noncomputable def oj:TO:=λ _ H Q=>Q none H
noncomputable def ol(t:TE):TO:=λ σ H Q=>t σ H λ x H1=>∃i,x=.int i/\Q (some i) H1
section
variable {X:Cx} {e:zq} {te:TE} {lo hi:on zq} {tl th:TO} {pos p2:Pos}
theorem N9:PO X none oj:=by
 intro a s σ H Q I h;rw[evalPart_none];exact d7 ⟨none,H,I,.none,h⟩
theorem eO(h:PE X e te):PO X (some e) (ol te):=by
 intro a s b H Q I f;rw[evalPart_some];refine thn (h a s b H _ I f) λ u s1 ⟨x,j,g,c,d⟩=>?_
 obtain⟨i,rfl,q⟩:=d;obtain⟨t,rfl⟩:=c;exact⟨some i,j,g,.int i t,q⟩
def SlR(X:Cx)(r:V->on Int->on Int->Hp->VK->Prop):Prop:=
 ∀(pins:ge (zn×Obj)) (s:zm) (σ:St) (H:Hp) (x:V) (v vl vu:zk) (lo hi:on Int) (sl:zn) (Q:VK),Inv X pins σ H s->RelV x v->s.heap.IsSliceOf sl vl vu .none->IsPart vl lo->IsPart vu hi->r x lo hi H Q ->
  ∃T id,typeLookup (.type T) "__getitem__" = pure (some (.builtin id))/\s.TypeIs v T/\wpAny (model X.prog X.w) X.A (getItem v (.ref sl)) (EP X pins σ Q) X.xe s
theorem SlR.or(h:SlR X r)(m:SlR X j):SlR X (λ x b c H Q=>r x b c H Q\/j x b c H Q):=by
 intro a s d H x v f e b c g Q I i hs l k q;rcases q with q | q
 ·exact h a s d H x v f e b c g Q I i hs l k q
 ·exact m a s d H x v f e b c g Q I i hs l k q
noncomputable def tSl(r:V->on Int->on Int->Hp->VK->Prop)(te:TE)(tl th:TO):TE:=λ σ H Q=>te σ H λ x H1=>tl σ H1 λ l H2=>th σ H2 λ u H3=>r x l u H3 Q
theorem F5(z:SlR X r)(C:PE X e te)(A:PO X lo tl)(w:PO X hi th):PE X (.Subscript e (.Slice lo hi none p2) pos) (tSl r te tl th):=by
 intro a s d H Q I h;refine Subscript_ (thn (C a s d H _ I h) λ v s1 ⟨x,N,K,j,n⟩=>?_);refine wpAny_Slice (thn (A a s1 d N _ K n) λ g i ⟨l,M,J,p,m⟩=>thn (w a i d M _ J m) λ f c ⟨u,L,F,o,k⟩=>?_);rw[evalPart_none];refine d7 ?_;obtain⟨T,id,E,y,B⟩:=z a {c with heap:=c.heap.push {cls:=.type "slice",data:=.fields #[g,f,.none]}} d L x v g f l u c.heap.objs.size Q (F.kept λ b ob q=>f9 _ q) j (Heap.IsSliceOf.new ..) p o k;show wpAny _ X.A _ _ X.xe {c with heap:=c.heap.push {cls:=.type "slice",data:=.fields #[g,f,.none]}};exact tail_any y E B (by with_unfolding_all rfl)
def cutV(xs:ge V)(lo hi:on Int):ge V:=(xs.drop (HT.sIx xs.length 0 lo)).take (HT.sIx xs.length xs.length hi - HT.sIx xs.length 0 lo)
theorem eP(xs:ge V)(a b:on Int):(cutV xs a b).length<=xs.length:=by
 unfold cutV;rw[List.length_take,List.length_drop];omega
def rSlT(K:zA):V->on Int->on Int->Hp->VK->Prop:=λ x lo hi H Q=>∃a xs,x=.ref a/\SqT K H a xs /\
 ¬(HT.sIx xs.length 0 lo=0/\HT.sIx xs.length xs.length hi=xs.length)/\∀p,H p=none->Q (.ref p) (upd H p (.tup (cutV xs lo hi)))
theorem ou:SlR X (rSlT X.K):=by
 intro f s σ H x v vl vu m p sl Q I j hs l k h;obtain⟨a,e,rfl,n,o,q⟩:=h;cases j;obtain⟨d,r,i,g⟩:=I.tuple n;have c:d.toArray.size=e.length:=by rw[p7];exact r.length.symm
 refine⟨"tuple",_,PyProof.Rows.slot_tuple_getitem.lookup,i.typeIs,?_⟩;refine HT.getItem_tuple_cut i hs l k (by rw[c];exact o) ?_ (by rw[c];exact g);rw[c];refine⟨.ref s.heap.objs.size,_,I.laid (λ b ob q=>f9 _ q) (i7 _) ?_,rfl,q _ (I.hok.fresh (i7 _))⟩;exact⟨g9 (eP e m p) g,_,(r.drop _).take _,G4.new _ _⟩
end
end L2
namespace L2
open PySem PySem.Spec PyProof.Rows
noncomputable def ixN(n:Nat)(i:Int):on Nat:=if 0<=i then(if i<n then some i.toNat else none)else if -(n:Int)<=i then some (i+n).toNat else none
def atI{α:Type}(xs:ge α)(i:Int):on α:=(ixN xs.length i).bind λ j=>xs[j]?
theorem eQ(h:ixN n i=some j):seqIndex? i n=some j/\j<n /\ -(n:Int)<=i/\i<n:=by
 unfold ixN at h;by_cases b:0<=i
 ·rw[d6 b]at h;by_cases a:i<n
  ·rw[d6 a]at h;have e:=Option.some.inj h;exact⟨by rw[seqIndex_of b a,e],by omega,by omega,a⟩
  ·rw[d9 a]at h;cases h
 ·rw[d9 b]at h;by_cases a : -(n:Int)<=i
  ·rw[d6 a]at h;have e:=Option.some.inj h;exact⟨by rw[seqIndex_neg (by omega) a,e],by omega,a,by omega⟩
  ·rw[d9 a]at h;cases h
theorem aZ(h:atI xs i=some v):∃j,seqIndex? i xs.length=some j/\xs[j]? = some v/\j<xs.length /\ -(xs.length:Int)<=i/\i<xs.length:=by
 unfold atI at h;cases e:ixN xs.length i with
 | none=>rw[e]at h;cases h
 | some j=>
  rw[e]at h;obtain⟨f,d,c,b⟩:=eQ e;exact⟨j,f,h,d,c,b⟩
def ow(b:zq):Prop:=∀o i,subscripted b false o i=operate [o,i] (getItem o i)
def IxR(X:Cx)(r:R2):Prop:=
 ∀(value slice:zq) (pins:ge (zn×Obj)) (s:zm) (σ:St) (H:Hp) (x y:V) (v u:zk) (Q:VK),Inv X pins σ H s->RelV x v->RelV y u->r x y H Q ->
  subscripted slice false v u=operate [v,u] (getItem v u)->wpAny (model X.prog X.w) X.A (subscriptTail value slice v u) (EP X pins σ Q) X.xe s
def MtR(X:Cx)(id:zE)(r:V->ge V->Hp->VK->Prop):Prop:=
 ∀(pins:ge (zn×Obj)) (s:zm) (σ:St) (H:Hp) (x:V) (xs:ge V) (v:zk) (us:ge zk) (Q:VK),Inv X pins σ H s->RelV x v->Vals xs us->r x xs H Q ->
  wpAny (model X.prog X.w) X.A (call (.builtin id) (v::us)) (EP X pins σ Q) X.xe s
section
variable {X:Cx} {a b:zq} {ta tb:TE} {pos:Pos}
theorem IxR.or(h:IxR X r)(i:IxR X g):IxR X (λ x y H Q=>r x y H Q\/g x y H Q):=by
 intro a b c s d H x y v u Q I f e q hs;rcases q with q | q
 ·exact h a b c s d H x y v u Q I f e q hs
 ·exact i a b c s d H x y v u Q I f e q hs
theorem eR(i:IxR X r)(k:PE X a ta)(j:PE X b tb)(hs:ow b):PE X (.Subscript a b pos) (tOp r ta tb):=by
 intro c s d H Q I h;exact Subscript_ (binT k j I h λ v u e x y m l g f q=>i a b c e d m x y v u Q l g f q (hs _ _))
def rIxL(K:zA):R2:=λ x y H Q=>∃p xs i v,x=.ref p/\y=.int i/\SqL K H p xs/\atI xs i=some v/\Q v H
def rIxT(K:zA):R2:=λ x y H Q=>∃p xs i v,x=.ref p/\y=.int i/\SqT K H p xs/\atI xs i=some v/\Q v H
def rIxS:R2:=λ x y H Q=>∃z i c,x=.str z/\y=.int i/\z.length<=sizeLine/\atI z.cps.toList i=some c/\Q (.str ⟨#[c]⟩) H
theorem ox:IxR X (rIxL X.K):=by
 intro d e a s o H x y v u Q I B A h hs;obtain⟨p,xs,i,z,rfl,rfl,C,F,q⟩:=h;cases B;obtain⟨t,rfl⟩:=A;obtain⟨k,r,g,hz⟩:=I.list C;obtain⟨j,c,L,h3,K,J⟩:=aZ F;obtain⟨w,n,f⟩:=r.get L;have E:=r.length;have hn:=N8;have b:EP X a o Q w s:=⟨z,H,I,f,q⟩;by_cases m:0<=i
 ·have l:i.toNat=j:=by
   rw[seqIndex_of m J]at c;exact Option.some.inj c
  exact item_listR g.isList m (by omega) (by rw[l];simpa using n) b hs
 ·have l:(i+(k.toArray.size:Int)).toNat=j:=by
   rw[seqIndex_neg (by omega) K]at c;rw[p7,←E];exact Option.some.inj c
  exact subscriptTail_builtinR g.isList.typeIs slot_list_getitem.lookup
   (wpAny_getItem_list_neg g.isList (by omega) (by rw[p7]<;>omega) (by omega) (by rw[l];simpa using n) ⟨rfl,b⟩) hs
theorem eS:IxR X (rIxT X.K):=by
 intro a b e s σ H x y v u Q I g f h hs;obtain⟨p,xs,i,z,rfl,rfl,l,m,q⟩:=h;cases g;obtain⟨t,rfl⟩:=f;obtain⟨k,r,d,hz⟩:=I.tuple l;obtain⟨j,o,n,h3,h4,h5⟩:=aZ m;obtain⟨w,A,c⟩:=r.get n;have hn:=N8;exact subscriptTail_builtinR d.typeIs slot_tuple_getitem.lookup
  (getItem_tuple d (by omega) (by omega) (by rw[p7,←r.length];exact o) (by simpa using A) ⟨rfl,(⟨z,H,I,c,q⟩)⟩) hs
theorem oy:IxR X rIxS:=by
 intro a b d s σ H x y v u Q I g f h hs;obtain⟨z,i,c,rfl,rfl,hz,l,q⟩:=h;obtain⟨t,rfl⟩:=g;obtain⟨t',rfl⟩:=f;obtain⟨j,e,o,h3,n,m⟩:=aZ l;have k:z.cps.toList.length=z.length:=by simp[Str.length]
 rw[k]at e n m;have hn:=N8;exact tail_any (typeIs_str s z t) slot_str_getitem.lookup (getItem_str (by
  rw[(decide_eq_false (by omega)),(decide_eq_false (by omega)),Bool.or_false]) (by rw[e];simpa using o) ⟨.str ⟨#[c]⟩,H,I.tok _,⟨_,rfl⟩,q⟩) hs
def rIx(K:zA):R2:=λ x y H Q=>rIxL K x y H Q\/rIxT K x y H Q\/rIxS x y H Q
theorem oz:IxR X (rIx X.K):=ox.or (eS.or oy)
theorem oA(a:ge zk)(n j:Nat)(u:zk):Obj.mapSeq (·.setIfInBounds j u) {cls:=.type "list",data:=.seq a.toArray n} = {cls:=.type "list",data:=.seq (a.set j u).toArray n}:=by
 simp[Obj.mapSeq]
theorem Inv.lst{b:ge (zn×Obj)}(I:Inv X b σ H s)(h:H p=some (.lst xs)) :
  ∃(a:ge zk) (n:Nat),Vals xs a/\s.heap.get? p=some {cls:=.type "list",data:=.seq a.toArray n} /\ xs.length<=sizeLine:=by
 obtain⟨z,a,n,r,e⟩:=I.hok p _ h;exact⟨a,n,r,e,z⟩
theorem Inv.lstUpd{d a:ge zk}(I:Inv X c σ H s)(h:H p=some (.lst xs))
  (l:s.heap.get? p=some {cls:=.type "list",data:=.seq d.toArray n}) (j:f {cls:=.type "list",data:=.seq d.toArray n} = {cls:=.type "list",data:=.seq a.toArray i}) (r:Vals g a) (k:g.length<=sizeLine) (t:Nat) :
  Inv X c σ (upd H p (.lst g)) {s with heap:=s.heap.update p f,toks:=t}:=by
 have e:(s.heap.update p f).get? p=some {cls:=.type "list",data:=.seq a.toArray i}:=(by rw[Heap.get?_update_self f l (by rw[j]<;>rfl),j]);refine I.write (by rw[h];trivial) (.inl rfl) (λ b u m q=>(Heap.get?_update_other _ _ (Ne.symm m)).trans q) ⟨_,e⟩ ?_;exact⟨k,a,i,r,e⟩
def oB:V->V->V->Hp->(Hp->Prop)->Prop:=λ o i v H Q=>∃p xs k j,o=.ref p/\i=.int k/\H p=some (.lst xs)/\ixN xs.length k=some j/\Q (upd H p (.lst (xs.set j v)))
theorem oC:PSet X oB:=by
 intro f s σ H o i v ov iv u Q I z A y h;obtain⟨p,xs,k,j,rfl,rfl,g,C,q⟩:=h;cases z;obtain⟨t,rfl⟩:=A;obtain⟨a,n,r,c,B⟩:=I.lst g;obtain⟨b,h2,m,l⟩:=eQ C;have d:=r.length;have hn:=N8;have x:=
  I.lstUpd g c (oA a n j u) (r.set y j) (by rw[v5];exact B) s.toks
 by_cases w:0<=k
 ·have e:k.toNat=j:=by
   rw[seqIndex_of w l]at b;exact Option.some.inj b
  exact PySem.W.ki_setAt c w (by omega) (by rw[p7,←d];exact l) (by rw[e];exact⟨_,x,q⟩)
 ·have e:(k+(a.toArray.size:Int)).toNat=j:=by
   rw[seqIndex_neg (by omega) m]at b;rw[p7,←d];exact Option.some.inj b
  exact PySem.W.ki_setBack c (by omega) (by rw[p7,←d];exact m) (by omega) (by rw[e];exact⟨_,x,q⟩)
theorem oE(a b:on Int)(n:Nat):(sliceBounds a b none n).1=((HT.sIx n 0 a:Nat):Int)/\(sliceBounds a b none n).2.1=((HT.sIx n n b:Nat):Int)/\(sliceBounds a b none n).2.2=1:=by
 refine⟨?_,?_,rfl⟩
 ·cases a with
  | none=>simp[sliceBounds,HT.sIx]
  | some i=>
   simp only[sliceBounds,HT.sIx,Option.getD_none,show(1:Int)>0 by decide,if_true];by_cases h:i<0
   ·simp only[h,if_true]<;>omega
   ·simp only[h,if_false]<;>omega
 ·cases b with
  | none=>simp[sliceBounds,HT.sIx]
  | some i=>
   simp only[sliceBounds,HT.sIx,Option.getD_none,show(1:Int)>0 by decide,if_true];by_cases h:i<0
   ·simp only[h,if_true]<;>omega
   ·simp only[h,if_false]<;>omega
theorem oF(a:ge zk)(b c:on Int):slicePick a.toArray b c none=((a.drop (HT.sIx a.length 0 b)).take (HT.sIx a.length a.length c - HT.sIx a.length 0 b)).toArray:=by
 obtain⟨f,e,d⟩:=oE b c a.toArray.size;unfold slicePick;rw[f,e,d];simp only[sliceRange_one,pick_run,p7]<;>rfl
def rSlL(K:zA):V->on Int->on Int->Hp->VK->Prop:=λ x lo hi H Q=>∃a xs,x=.ref a/\SqL K H a xs/\∀p,H p=none->Q (.ref p) (upd H p (.lst (cutV xs lo hi)))
theorem oG:SlR X (rSlL X.K):=by
 intro d s σ H x v vl vu k o sl Q I g hs j i h;obtain⟨a,f,rfl,n,q⟩:=h;cases g;obtain⟨l,r,e,m⟩:=I.list n;have c:=r.length;refine⟨"list",_,slot_list_getitem.lookup,e.isList.typeIs,?_⟩;refine wpAny_getItem_list_slice e.isList hs j i .none (by simp) ?_ (by rw[p7]<;>omega);rw[oF,←c];refine⟨.ref s.heap.objs.size,_,I.laid (λ b ob q=>f9 _ q) (i7 _) ?_,rfl,q _ (I.hok.fresh (i7 _))⟩;exact⟨g9 (eP f k o) m,_,0,(r.drop _).take _,n6 _ rfl⟩
theorem ba:x5 X (.builtin "len") (λ g H Q=>∃p b,g=[.ref p]/\(SqL X.K H p b\/SqT X.K H p b)/\Q (.int b.length) H):=by
 intro i s σ H g us Q I r h;obtain⟨p,b,rfl,c,q⟩:=h;obtain⟨u,rfl,j⟩:=C7 r;cases j;have hn:=N8;rcases c with c | c
 ·obtain⟨f,d,e,k⟩:=I.list c;have a:=d.length;exact Calls.call_len_list e.isList (by simp only[p7]<;>omega) ⟨.int b.length,H,I.tok _,⟨s.toks+1,by rw[p7,a]⟩,q⟩
 ·obtain⟨f,d,e,k⟩:=I.tuple c;have a:=d.length;exact len_tuple e (by simp only[p7]<;>omega) ⟨.int b.length,H,I.tok _,⟨s.toks+1,by rw[p7,a]⟩,q⟩
theorem bc:x5 X (.type "list") (λ A H Q=>∃p c,A=[.ref p]/\(SqL X.K H p c\/SqT X.K H p c)/\∀l,H l=none->Q (.ref l) (upd H l (.lst c))):=by
 intro g s B H A us Q I r h;obtain⟨p,c,rfl,k,q⟩:=h;obtain⟨u,rfl,C⟩:=C7 r;cases C;have v:∀(a:ge zk),Vals c a->c.length<=sizeLine->∀(b:zo) (f:Nat),_ ->
   b.get? s.heap.objs.size=some {cls:=.type "list",dict:=none,data:=.seq a.toArray f,slots:=#[]} -> EP X g B Q _ {s with heap:=b}:=λ a d j b f i e=>
  ⟨.ref s.heap.objs.size,_,I.laid i (i7 _) (show u5 X.prog X.w _ b _ (.lst c)from⟨j,a,f,d,e⟩),rfl,q _ (I.hok.fresh (i7 _))⟩
 rcases k with k | k
 ·obtain⟨a,d,w,j⟩:=I.list k;have m:=d.length;obtain⟨o,x,z,n,y⟩:=w.isList;exact call_list_seq p (.inl rfl) x z y (λ b f i e=>v a d j b f i e) (by simp only[p7]<;>omega)
 ·obtain⟨a,d,w,j⟩:=I.tuple k;have m:=d.length;obtain⟨o,x,z,n,y⟩:=w;exact call_list_seq p (.inr rfl) x z y (λ b f i e=>v a d j b f i e) (by simp only[p7]<;>omega)
theorem eT:x5 X (.type "tuple") (λ i H Q=>∃p a,i=[.ref p]/\((SqL X.K H p a/\∀l,H l=none->Q (.ref l) (upd H l (.tup a)))\/(SqT X.K H p a/\Q (.ref p) H))):=by
 intro j s σ H i us Q I r h;obtain⟨p,a,rfl,h⟩:=h;obtain⟨u,rfl,v⟩:=C7 r;cases v;rcases h with⟨g,q⟩ | ⟨g,q⟩
 ·obtain⟨c,d,f,k⟩:=I.list g;have m:=d.length;refine call_tuple_list f.isList (λ x w=>?_) (by simp only[p7]<;>omega);have n:=I.kept (t':=s.toks) w;have y:=
   n.laid (t':=s.toks) (λ b o e=>f9 _ e) (i7 _) (show u5 X.prog X.w _ _ _ (.tup a)from⟨k,c,d,G4.new _ _⟩)
  exact⟨.ref x.objs.size,_,y,rfl,q _ (n.hok.fresh (i7 _))⟩
 ·obtain⟨c,d,f,k⟩:=I.tuple g;exact call_tuple_same f ⟨.ref p,H,I,rfl,q⟩
def tyV(K:zA)(T:zE)(x:V)(H:Hp):Prop:=match x with
 | .str _=>T = "str"
 | .int _=>T = "int"
 | .ref p=>(T = "list" /\ ∃xs,SqL K H p xs)\/(T = "tuple" /\ ∃o,K.lookup p=some o/\o.cls=.type "tuple" /\ o.dict=none) \/
   (T = "dict" /\ ((∃kvs,H p=some (.dK kvs))\/∃kvs,H p=some (.dT kvs)))\/(T = "set" /\ ∃S n,H p=some (.set S n))
 | _=>False
theorem eU(I:Inv X d σ H s)(r:RelV x v)(ty:tyV X.K T x H) :
  s.TypeIs v T/\∀a,v=.ref a->∃k,s.heap.get? a=some k/\k.dict=none:=by
 cases x with
 | str z=>
  obtain⟨t,rfl⟩:=r;cases(ty);exact⟨typeIs_str s z t,λ _ e=>nomatch e⟩
 | int i=>
  obtain⟨t,rfl⟩:=r;cases(ty);exact⟨typeIs_int s i t,λ _ e=>nomatch e⟩
 | ref p=>
  cases r;rcases ty with⟨rfl,xs,m⟩ | ⟨rfl,o,b,hc,g⟩ | ⟨rfl,b⟩ | ⟨rfl,S,n,b⟩
  ·obtain⟨l,_,j,_⟩:=I.list m;refine⟨j.isList.typeIs,λ a e=>?_⟩;cases e;obtain⟨o,n,e,c,g,_⟩:=j;exact⟨o,e,g⟩
  ·refine⟨⟨o,I.kIn p o b,hc⟩,λ a e=>?_⟩;cases e;exact⟨o,I.kIn _ o b,g⟩
  ·have z:∃o,s.heap.get? p=some o/\o.ExactDict:=by
    rcases b with⟨f,b⟩ | ⟨f,b⟩
    ·obtain⟨_,_,_,_,o,_,_,e,ex,_⟩:=I.hok p _ b;exact⟨o,e,ex⟩
    ·obtain⟨_,_,_,_,o,_,_,e,ex,_⟩:=I.hok p _ b;exact⟨o,e,ex⟩
   obtain⟨o,e,ex⟩:=z;refine⟨⟨o,e,ex.1⟩,λ a h=>?_⟩;cases h;exact⟨o,e,ex.2.1⟩
  ·obtain⟨o,_,_,_,e,ex,_⟩:=I.hok p _ b;refine⟨⟨o,e,ex.1⟩,λ a h=>?_⟩;cases h;exact⟨o,e,ex.2.1⟩
 | _=>exact False.elim ty
noncomputable def tBM0(K:zA)(T:zE)(r:V->ge V->Hp->VK->Prop)(to:TE):TE:=λ σ H Q=>to σ H λ x H1=>tyV K T x H1/\r x [] H1 Q
noncomputable def tBM(K:zA)(T:zE)(r:V->ge V->Hp->VK->Prop)(to:TE)(t:TA):TE:=λ σ H Q=>to σ H λ x H1=>tyV K T x H1/\t σ H1 λ xs H2=>r x xs H2 Q
theorem oH{a:Str}(m:PlainAttrs T)(slot:Slot T a e)(f:typeOf (.builtin e)=pure (.type "method_descriptor"))(p:MtR X e r)(n:PE X o i)
  (d:attributeBase o a X.env (eval o X.env)=eval o X.env:=by rfl) (c:(apos.endLine==cpos.line)=true:=by rfl):PE X (.Call (.Attribute o a apos) [] [] cpos) (tBM0 X.K T r i):=by
 intro b s g H Q I h;refine wpAny_Call_method0_late d c (thn (n b s g H _ I h) λ v s1 ⟨x,w,k,j,ty,l⟩=>?_);obtain⟨u,q⟩:=eU k j ty;exact⟨T,e,m,slot,f,u,q,Calls.callWith_builtin rfl (PySem.evalArgs_none (p b s1 g w x [] v [] Q k j .nil l))⟩
theorem be{id:zE}(pa:PlainAttrs T)(slot:Slot T c id)(hty:typeOf (.builtin id)=pure (.type "method_descriptor"))(hm:MtR X id r)(ho:PE X o to)(ha:PA X (e::es) t)
  (hbase:attributeBase o c X.env (eval o X.env)=eval o X.env:=by rfl)
  (hfew:((backTo cpos (starEach (e::es) X.env)).all (λ x=>!x.1)&&(backToKw cpos (keywordEach [] X.env)).all (λ x=>x.1.isSome)
   && decide ((e::es).length+([]:ge Keyword).length+(if([]:ge Keyword).isEmpty then 0 else 1)<30))=true:=by rfl)
  (hline:(apos.endLine==cpos.line)=true:=by rfl) (hs:starEach (e::es) X.env=(false,eval e X.env)::starEach es X.env:=by rfl) (hplain:(backTo cpos (starEach es X.env)).any (·.1)=false:=by rfl) :
  PE X (.Call (.Attribute o c apos) (e::es) [] cpos) (tBM X.K T r to t):=by
 intro b s σ H Q I h;refine wpAny_Call_method_late hbase hfew hline rfl (thn (ho b s σ H _ I h) λ v s1 ⟨x,H1,I1,r1,ty,q1⟩=>?_);obtain⟨h1,h2⟩:=eU I1 r1 ty;refine⟨T,id,pa,slot,hty,h1,h2,?_⟩;have hA:=ha cpos b s1 σ H1 _ I1 q1;rw[hs]at hA ⊢;refine Calls.callWith_builtin (by show(false||(backTo cpos _).any (·.1))=false;rw[hplain]<;>rfl) (Calls.evalArgs_plain ?_);exact thn hA λ us s2 ⟨vs,H2,I2,r2,q2⟩=>hm b s2 σ H2 x vs v us Q I2 r1 r2 q2
end
end L2
namespace L2
open PySem PySem.Spec PyProof.Rows
def MtM(X:Cx)(id:zE)(r:V->ge V->Hp->VK->Prop):Prop:=
 ∀(pins:ge (zn×Obj)) (s:zm) (σ:St) (H:Hp) (x:V) (xs:ge V) (v:zk) (us:ge zk) (Q:VK),Inv X pins σ H s->RelV x v->Vals xs us->r x xs H Q ->
  wpAny (model X.prog X.w) X.A (call (.builtin id) (v::us)) (EP X pins σ Q) X.xe s
theorem Vals.unc(h:Vals (x::xs) b):∃u a,b=u::a/\RelV x u/\Vals xs a:=by
 cases h with
 | cons r t=>exact⟨_,_,rfl,r,t⟩
theorem Vals.nl(h:Vals [] a):a=[]:=by cases h;rfl
theorem Vals.one{x:V}{us:ge zk}(h:Vals [x] us):∃u,us=[u]/\RelV x u:=by
 obtain⟨u,ws,rfl,r,t⟩:=h.unc;cases t.nl;exact⟨_,rfl,r⟩
theorem Vals.two{x y:V}{us:ge zk}(h:Vals [x,y] us):∃u v,us=[u,v]/\RelV x u/\RelV y v:=by
 obtain⟨u,ws,rfl,r,t⟩:=h.unc;obtain⟨v,rfl,q⟩:=t.one;exact⟨_,_,rfl,r,q⟩
theorem Vals.rep(h:Vals xs a):∀k:Nat,Vals (List.replicate k xs).flatten (List.replicate k a).flatten
 | 0=>.nil
 | k+1=>by rw[List.replicate_succ,List.replicate_succ,List.flatten_cons,List.flatten_cons];exact Vals.append h (Vals.rep h k)
theorem eV(a:ge zk):∀(k:Nat) (b:ge zk),
  List.foldl (λ d c=>d++c) b.toArray (List.replicate k a.toArray)=(b++(List.replicate k a).flatten).toArray
 | 0,b=>by simp
 | k+1,b=>by
  have e:b.toArray++a.toArray=(b++a).toArray:=by simp
  have f:_++(List.replicate k a).flatten=b++(List.replicate (k+1) a).flatten:=(by rw[List.replicate_succ,List.flatten_cons,List.append_assoc]);rw[←f,←eV a k _,←e,List.replicate_succ,List.foldl_cons]
section
theorem Inv.lset{c:ge zk}(I:Inv X b σ H s)(m:H l=some (.lst xs))
  (e:s.heap.get? l=some {cls:=.type "list",data:=.seq c.toArray n}) (j:f c.toArray=a.toArray) (h:Vals d a) (g:d.length<=sizeLine) :
  Inv X b σ (upd H l (.lst d)) {s with heap:=s.heap.update l (Obj.mapSeq f),toks:=t'}:=by
 have q:=PySem.IsL.update e f;rw[j]at q;refine I.write (by rw[m];exact trivial) (.inl rfl) (λ b' u k i=>(Heap.get?_update_other s.heap _ (Ne.symm k)).trans i) ⟨_,q⟩ ?_;exact⟨g,a,_,h,q⟩
theorem Inv.lnew(I:Inv X a σ H s)(e:Vals c b)(d:c.length<=sizeLine) :
  Inv X a σ (upd H s.heap.objs.size (.lst c)) {s with heap:=s.heap.push {cls:=.type "list",data:=.seq b.toArray},toks:=t'}:=
 I.laid (λ _ _ q=>f9 _ q) (i7 _) ⟨d,b,0,e,n6 _ rfl⟩
theorem Inv.fresh(I:Inv X a σ H s):H s.heap.objs.size=none:=I.hok.fresh (i7 _)
theorem Inv.lstM(I:Inv X b σ H s)(c:H l=some (.lst xs)):xs.length<=sizeLine/\∃(a:ge zk) (n:Nat),Vals xs a/\xs.length=a.length/\s.heap.get? l=some {cls:=.type "list",data:=.seq a.toArray n}:=by
 obtain⟨z,a,n,r,e⟩:=I.hok l _ c;exact⟨z,a,n,r,r.length,e⟩
theorem eW(h:n<=sizeLine):Builtin.List.listTooLong n=false:=by
 unfold Builtin.List.listTooLong;exact decide_eq_false (by omega)
end
section
def oI:V->ge V->Hp->VK->Prop:=λ x vs H Q=>∃l xs y,x=.ref l/\vs=[y]/\H l=some (.lst xs)/\xs.length<sizeLine/\Q .non (upd H l (.lst (xs++[y])))
theorem eX:MtM X "list.append" oI:=by
 intro b s σ H x vs v us Q I d f h;obtain⟨l,xs,y,rfl,rfl,c,hz,q⟩:=h;cases d;obtain⟨u,rfl,g⟩:=f.one;obtain⟨z,a,n,r,hl,e⟩:=I.lstM c;refine call_meets F.slot_list_append ⟨_,e,rfl⟩ F.entry_list_append (F.args_list_append_2 _ _) (PySem.list_append l a.toArray n u (by rw[p7];omega)) ⟨e,?_⟩;refine⟨.non,_,I.lset c e (by simp) (r.append (.cons g .nil)) ?_,rfl,q⟩;rw[v0,List.length_singleton];omega
def rCat:R2:=λ x y H Q=>∃l b xs zs,x=.ref l/\y=.ref b/\H l=some (.lst xs)/\H b=some (.lst zs)/\xs.length+zs.length<=sizeLine/\∀p,H p=none->Q (.ref p) (upd H p (.lst (xs++zs)))
theorem oJ:OpR X (binaryOp .Add) rCat:=by
 intro d s σ H x y v u Q I g f h;obtain⟨l,b,xs,zs,rfl,rfl,k,m,hz,q⟩:=h;cases g;cases f;obtain⟨z,c,n,r,hl,e⟩:=I.lstM k;obtain⟨z2,a,n2,i,j,p⟩:=I.lstM m;refine PySem.P.add_list e p ?_ (by rw[p7,p7];omega);have o:c.toArray++a.toArray=(c++a).toArray:=by simp
 rw[o];exact⟨.ref _,_,I.lnew (r.append i) (by rw[v0];omega),rfl,q _ I.fresh⟩
def rRep:R2:=λ x y H Q=>∃l k xs,x=.ref l/\y=.int k/\H l=some (.lst xs) /\ -(2^63)<=k/\k<2^63/\xs.length*k.toNat<=sizeLine /\
 ∀p,H p=none->Q (.ref p) (upd H p (.lst (List.replicate k.toNat xs).flatten))
theorem oK(xs:ge a)(k:Nat):(List.replicate k xs).flatten.length=k*xs.length:=by
 induction k with
 | zero=>simp
 | succ k b=>rw[List.replicate_succ,List.flatten_cons,v0,b,Nat.succ_mul,Nat.add_comm]
theorem oM:OpR X (binaryOp .Mult) rRep:=by
 intro g s σ H x y v u Q I A w h;obtain⟨l,k,xs,rfl,rfl,C,J,E,i,q⟩:=h;cases A;obtain⟨t,rfl⟩:=w;obtain⟨z,b,n,r,B,e⟩:=I.lstM C;have d:b.toArray.size*k.toNat<=sizeLine:=by rw[p7,←B];exact i
 have f:¬b.toArray.size*k.toNat>(2^63 - 1)/8:=by
  have:(sizeLine:Nat)<=(2^63 - 1)/8:=by decide
  omega
 have c:List.foldl (λ o j=>o++j) #[] (List.replicate (if b.toArray.isEmpty=true then 0 else k.toNat) b.toArray)=(List.replicate k.toNat b).flatten.toArray:=by
  have K:=λ m=>by have:=eV b m [];rw[List.nil_append]at this;exact this
  rw[K];cases b with
  | nil=>simp
  | cons a r'=>rw[d9 (by simp)]
 refine wpAny_binaryOp_repeat_ref (by decide) ⟨_,e,rfl⟩ (λ p=>typeIs_int p k t) noFill_list_mul F.fills_int_mul F.slot_int_rmul repeat_list F.slot_int_index.lookup
  (call_meets F.slot_int_rmul (typeIs_int s k t) F.entry_int_rmul (F.args_int_rmul_2 _ _) (int___rmul___int_list k t l b.toArray n)
   ⟨e,rfl,⟨_,e,rfl⟩,call_meets F.slot_list_mul ⟨_,e,rfl⟩ F.entry_list_mul (F.args_list_mul_2 _ _) (AutoListH.list___mul___list_int_3 l b.toArray n k t ((by rw[fitsIndex_both J E];exact y8)) f ((by rw[eW d];exact y8))) ⟨e,?_⟩⟩)
 rw[c];exact⟨.ref _,_,I.lnew (r.rep k.toNat) (by rw[oK,Nat.mul_comm];exact i),rfl,q _ I.fresh⟩
end
section
end
section
end
end L2
namespace Att
open PySem PySem.W PySem.Calls PyProof.Rows
theorem oN:∀(c:ge Int) (vs:ge zk),WellAll P h vs (c.map WData.int)->IntsAre vs c:=by
 intro c
 induction c with
 | nil=>
  intro vs w;rw[List.map_nil]at w;cases w;exact .nil
 | cons n c d=>
  intro vs w;rw[u0]at w;cases w with
  | cons a b=>
   cases a;exact .cons _ _ (d _ b)
theorem oO{l:OpenLaw}(w:l.most=some n)
  (f:l.row.toRowW.claim.pre b=true) (m:WellAll P h c b) :
  ∃a vs e,c=[Value.ref a]/\b=[WData.list (e.map WData.int)]/\h.get? a=some {cls:=.type "list",data:=.seq vs.toArray} /\ IntsAre vs e/\e.length<=n:=by
 have o:l.pre.holds [] {args:=b} = true:=(pre_splitW f).2;obtain⟨d,r,rfl,z,y⟩:=hasAllW_cons ((pre_splitW f).1);obtain rfl:=hasAllW_nil y;obtain⟨xs,rfl,x⟩:=hasW_list z;obtain⟨e,rfl⟩:=items_int x;have g:e.length<=n:=by
  unfold OpenLaw.pre at o;have k:(WTm.not (.lt (.lit (.int (n:Int))) (.len (.arg 0)))).holds [] {args:=[.list (e.map .int)]} = true:=by have k:=(holds_andW o).1;rw[w]at k;exact k
  have j:=condW_of k (w_not (w_lt w_lit (w_len_list (w_arg rfl))));rw[e7]at j;refine Nat.le_of_not_lt λ q=>?_
  first
   | (rw[decide_eq_true (by omega)]at j;exact absurd j (by decide))
   | (simp at j;omega)
 cases m with
 | cons u p=>
  cases p;cases u with
  | list v i=>exact⟨_,_,e,rfl,rfl,v,oN e _ i,g⟩
theorem oP(l:OpenLaw)(a:ge WData):l.row.toRowW.claim.post a (.bool true) a=true:=
 postW_of
  (by first | rfl | decide | simp[WShape.has,WShape.arms,WShape.armsAll])
  (show(WTm.eq .res _).value [] {args:=a,res:=some _,after:=a} = some (.bool _)from w_eq_bool (w_res rfl) w_lit) rfl
theorem attach_call{l:OpenLaw}
  (J:l.most=some n) (y:d.params.defaults=[])
  (call:∀(w:zt) (c b:zm) (mg u:Str->on zk) (k:zn) (o:Obj) (pm cd g:zk) (a:zn) (vs:ge zk) (p:ge Int),
   Ground q loose [] XP w c mg u b.heap->YP w b.heap ->
   b.heap.get? k=some o->o.data=.func (docDef d.name d.params d.body d.scope pm cd g)->b.heap.CodeRec cd d.name->mg d.name=some (.ref k) ->
   b.heap.get? a=some {cls:=.type "list",data:=.seq vs.toArray} -> IntsAre vs p->p.length<=n->b.gens = #[] ->
   codeAny (model l.prog w) callerA (.call (.ref k) ⟨[.ref a],[]⟩) (λ r m=>r=.ok (.ret (.bool true))/\OldK b.heap m.heap/\m.os=b.os/\AllBare m.gens) b) :
  WalkO q loose XP YP l.row.toRowW d [] (λ f vs=>PySem.call f vs):=by
 intro w c b mg u G Y k o pm cd g R kV I N z C x M E A as h B F v L;obtain rfl:R=.none:=Dflts.none C y;obtain rfl:kV=.none:=Dflts.noKw C;obtain⟨a,vs,p,rfl,rfl,i,e,j⟩:=oO J h v;refine enter_call (codeAny_mono (call w c b mg u k o pm cd g a vs p G Y I (fd_plain N) z x i e j M) λ r m H=>?_);obtain⟨rfl,Q,P,O⟩:=H;exact⟨.inl ⟨.bool true,.bool true,[],rfl,λ _=>rfl,.bool true,oP l _,λ _=>⟨List.Pairwise.nil,λ _ K=>(nomatch K)⟩⟩,Q,P,O⟩
section
end
end Att
namespace L2
open PySem PySem.Spec PyProof.Rows
theorem eY:∀{vs:ge zk} {ns:ge Int},IntsAre vs ns->Vals (ns.map V.int) vs
 | _,_,.nil=>.nil
 | _,_,.cons n t h=>.cons ⟨t,rfl⟩ (eY h)
def Only(H:Hp):Prop:=∀b,H b=none\/(∃o xs,H b=some (.frz o (.lst xs)))\/∃q,H b=some (.tbl q)
theorem T2{a:Type}:∀{l:ge (zn×a)} {c:a},l.lookup x=some c->(x,c)∈l
 | (y,v)::l,c,h=>by
  rw[List.lookup_cons]at h;split at h
  ·rename_i e;cases h;rw[f7.mp e];exact i9
  ·exact i8 _ (T2 h)
theorem eZ{a:Type}:∀{l:ge (zn×a)} {c:a},l.lookup x=none->(x,c)∉l
 | (y,v)::l,c,h,m=>by
  rw[List.lookup_cons]at h;split at h
  ·cases h
  ·rename_i e;rcases e8.mp m with z | z
   ·cases z;simp at e
   ·exact eZ h z
theorem oQ{l:ge (e×d)}(f:(l.map (·.1)).Nodup)(g:(p.1,q)∈l)(i:p∈l):q=p.2:=by
 induction l with
 | nil=>cases g
 | cons y l h=>
  rw[u0]at f;have a:=List.nodup_cons.mp f;rcases e8.mp g with c | c<;>rcases e8.mp i with b | b
  ·rw[b,←c]
  ·exact absurd (k8.mpr ⟨p,b,by rw[←c]⟩) a.1
  ·exact absurd (k8.mpr ⟨_,c,by rw[b]⟩) a.1
  ·exact h a.2 c b
theorem oR{K:zA}
  (KX:K.In c.heap) (S:c.heap.Ns mainGlobals mg) (j:c.heap.Ns builtinsNs mb) (a6:∀x:Str,x ≠ "__name__" -> mb x=bootBuiltins x) (W:c.heap.NoLimit) (hg:c.gens = #[])
  (O:c.heap.get? a=some {cls:=.type "list",data:=.seq vs.toArray}) (hi:IntsAre vs Q) (hl:Q.length<=sizeLine) (hr:Room k callerA)
  (F:∀y:zo,K.In y->y.Ns mainGlobals mg->FnOk P w K mg y CX k fa fd [x] sp) (N:∀(s:zm) (u:zk),BindsTo s fd ⟨[u],[]⟩ [(x,u)])
  (a4:∀H:Hp,Only H->SqL K H a (Q.map V.int)->sp [.ref a] H (λ v _=>v=.bl true) λ _ _ _=>False)
  (i:∀p∈u6 K,K.lookup p.1=none/\c.heap.get? p.1=some {cls:=.none,data:=.fields #[]} /\ isCodeTable c.heap p.1) (a3:((u6 K).map (·.1)).Nodup)
  (a5:∃L E,mg "__builtins__" = some (.ref L)/\L≠builtinsNs/\c.heap.get? L=some E/\E.cls=.type "module" /\ E.dict=some builtinsNs/\E.data=.plain)
  (a8:∀H e l,CX [] H c (λ _ _ _=>False) e l->False) :
  codeAny (model P w) callerA (.call (.ref fa) ⟨[.ref a],[]⟩) (λ r l=>r=.ok (.ret (.bool true))/\OldK c.heap l.heap/\l.os=c.os/\AllBare l.gens) c:=by
 have rv:=eY hi;have R:=hi.length;have J:∀H:Hp,Only H->SqL K H a (Q.map V.int)->HOk P w H c.heap->(∀b,H b≠none->b=a\/((∃q,(b,q)∈u6 K)/\∃q,H b=some (.tbl q)))->(H a≠none->K.lookup a=none)->R8 K H ->
   codeAny (model P w) callerA (.call (.ref fa) ⟨[.ref a],[]⟩) (λ r l=>r=.ok (.ret (.bool true))/\OldK c.heap l.heap/\l.os=c.os/\AllBare l.gens) c:=by
  intro H hO hS M hA hK hT;have g:∀{b:zn} {o:Obj},c.heap.get? b=some o->H b=none->(hidT c.heap H).get? b=some o:=λ e n=>mE e n
  have a2:∀{b:zn} {o:Obj} {es:zr DictEntry} {ep:Nat},c.heap.get? b=some o->o.data=.dict es ep->H b=none:=λ {b o es ep} e d=>by
   cases q:H b with
   | none=>rfl
   | some u=>
    rcases hA b (by rw[q];simp)with e' | ⟨⟨qq,e'⟩,_⟩
    ·subst e';rw[O]at e;cases e;have d':=d;cases d'
    ·rw[(i _ e').2.1]at e;cases e;have d':=d;cases d'
  have A:∀{b:zn} {m:Str->on zk},c.heap.Ns b m->(hidT c.heap H).Ns b m:=λ {b m} ⟨o,es,ep,e,d,r⟩=>⟨o,es,ep,g e (a2 e d),d,r⟩;have X:=λ b o e=>g (KX b o e) (by
   cases q:H b with
   | none=>rfl
   | some u=>
    rcases hA b (by rw[q];simp)with e' | ⟨⟨qq,e'⟩,_⟩
    ·subst e';rw[hK (by rw[q];simp)]at e;cases e
    ·rw[(i _ e').1]at e;cases e)
  have hM:Mod K mg (hidT c.heap H):=by
   refine⟨X,A S,⟨mb,A j,a6⟩,let ⟨mc,Y,h2⟩:=W;⟨mc,A Y,h2⟩,?L⟩;obtain⟨L,E,b1,b2,b3,b4,b5,b6⟩:=a5;refine⟨L,E,b1,b2,g b3 ?_,b4,b5,b6⟩;cases q:H L with
   | none=>rfl
   | some u=>
    rcases hA L (by rw[q];simp)with e' | ⟨⟨qq,e'⟩,_⟩
    ·subst e';rw[O]at b3;cases b3;exact absurd (Value.type.inj (show Value.type "list" = Value.type "module" from b4)) (by decide)
    ·rw[(i _ e').2.1]at b3;cases b3;cases b4
  have e0:Env0 P w K mg (hidT c.heap H) callerA [] c H:=⟨rfl,hM,λ b o e=>mF e,Nat.le_of_eq (mD _ _),trivial,⟨λ b j=>absurd (show b∈([]:ge zn)from j) (by simp),hT⟩,M,.of_eq hg⟩;refine codeAny_mono ((F _ X (A S)).run callerA [] c H ⟨[.ref a],[]⟩ [.ref a] [.ref a] _ _ hr e0 (N c (.ref a)) (.cons rfl .nil) (a4 H hO hS)) λ r l h=>?_;cases r with
  | error e=>exact(a8 H e l h).elim
  | ok fl=>
   cases fl with
   | next=>exact False.elim h
   | brk=>exact False.elim h
   | cont=>exact False.elim h
   | ret u=>
    obtain⟨v,H',os,a0,un,I,r',q⟩:=h;have q':v=.bl true:=q;subst q';obtain rfl:u=Value.bool true:=r';refine⟨rfl,⟨λ b o e=>?_,λ b o e=>un.there b o e (by simp)⟩,os,a0⟩;cases q:H b with
    | none=>exact .inl (un.keep b o e q (by intro z;exact absurd (show b∈([]:ge zn)from z) (by simp)) (by simp))
    | some u=>
     rcases hO b with z | ⟨E,xs,z⟩ | ⟨qq,z⟩
     ·rw[q]at z;cases z
     ·have z2:=un.frzs b E _ z;obtain⟨Z,_⟩:=M b _ z;obtain⟨e2,_⟩:=I b _ z2;rw[e]at Z;cases Z;exact .inl e2
     ·rcases hA b (by rw[q];simp)with e' | ⟨⟨q2,e'⟩,_⟩
      ·subst e';obtain⟨ps,Z,_⟩:=M b _ z;rw[O]at Z;have:=congrArg Obj.data (Option.some.inj Z);cases this
      ·have t:=i _ e';rw[t.2.1]at e;cases e;obtain⟨ps,e2,_⟩:=I b _ (un.tbls b _ z);exact .inr (.inl ⟨t.2.2,rfl,#[],ps,rfl,by simpa using e2⟩)
 have C:∀f:Hp,(∀p∈u6 K,f p.1=none)->∃H:Hp,(∀b,(∃q,(b,q)∈u6 K/\H b=some (.tbl q))\/((∀q,(b,q)∉u6 K)/\H b=f b)):=λ f hf=>by
  refine⟨λ b=>match(u6 K).lookup b with | some q=>some (.tbl q) | none=>f b,λ b=>?_⟩;cases z:(u6 K).lookup b with
  | some q=>exact .inl ⟨q,T2 z,by simp only[z]⟩
  | none=>exact .inr ⟨λ q hq=>eZ z hq,by simp only[z]⟩
 have B:∀{H:Hp} {f:Hp},(∀b,(∃q,(b,q)∈u6 K/\H b=some (.tbl q))\/((∀q,(b,q)∉u6 K)/\H b=f b))->R8 K H:=λ {H f} h p hp=>by
  rcases h p.1 with⟨q,Y,h2⟩ | ⟨Y,_⟩
  ·rw[h2,oQ a3 Y hp]
  ·exact absurd hp (Y p.2)
 cases hk:K.lookup a with
 | some o=>
  have e:=KX a o hk;rw[O]at e;cases e;obtain⟨H,h⟩:=C (λ _=>none) λ _ _=>rfl;refine J H (λ b=>?_) (.inr ⟨_,vs.toArray,_,hk,rfl,rfl,rfl,by rw[p7,R];exact hl,by simpa using rv⟩) (λ b u z=>?_) (λ b z=>?_) (λ z=>?_) (B h)
  ·rcases h b with⟨q,_,e⟩ | ⟨_,e⟩
   ·exact .inr (.inr ⟨q,e⟩)
   ·exact .inl e
  ·rcases h b with⟨q,m,e⟩ | ⟨_,e⟩
   ·rw[e]at z;cases z;exact⟨#[],(i _ m).2.1,trivial,λ a1 cv z=>by cases z⟩
   ·rw[e]at z;cases z
  ·rcases h b with⟨q,m,e⟩ | ⟨_,e⟩
   ·exact .inr ⟨⟨q,m⟩,q,e⟩
   ·exact absurd e z
  ·rcases h a with⟨q,m,e⟩ | ⟨_,e⟩
   ·have:=(i _ m).1;rw[hk]at this;cases this
   ·exact absurd e z
 | none=>
  have U:∀q,(a,q)∉u6 K:=λ q m=>by have:=(i _ m).2.1;rw[O]at this;have:=congrArg Obj.data (Option.some.inj this);cases this
  obtain⟨H,h⟩:=C (λ b=>if b=a then some (.frz {cls:=.type "list",data:=.seq vs.toArray} (.lst (Q.map V.int)))else none) λ p hp=>d9 λ z=>U p.2 (by rw[←z];exact hp)
  have a7:H a=some (.frz {cls:=.type "list",data:=.seq vs.toArray} (.lst (Q.map V.int))):=by
   rcases h a with⟨q,m,_⟩ | ⟨_,e⟩
   ·exact absurd m (U q)
   ·rw[e];exact d6 rfl
  refine J H (λ b=>?_) (.inl (.inr ⟨{cls:=.type "list",data:=.seq vs.toArray},a7⟩)) (λ b u z=>?_) (λ b z=>?_) (λ _=>hk) (B h)
  ·rcases h b with⟨q,_,e⟩ | ⟨_,e⟩
   ·exact .inr (.inr ⟨q,e⟩)
   ·by_cases j:b=a
    ·exact .inr (.inl ⟨_,_,e.trans (d6 j)⟩)
    ·exact .inl (e.trans (d9 j))
  ·rcases h b with⟨q,m,e⟩ | ⟨_,e⟩
   ·rw[e]at z;cases z;exact⟨#[],(i _ m).2.1,trivial,λ a1 cv z=>by cases z⟩
   ·rw[e]at z;by_cases j:b=a
    ·have z':=(d6 j).symm.trans z;cases z';subst j;exact⟨O,by rw[e7];exact hl,vs,_,rv,O⟩
    ·have z':=(d9 j).symm.trans z;cases z'
  ·rcases h b with⟨q,m,e⟩ | ⟨_,e⟩
   ·exact .inr ⟨⟨q,m⟩,q,e⟩
   ·by_cases j:b=a
    ·exact .inl j
    ·exact absurd (e.trans (d9 j)) z
end L2
namespace L2
open PySem PySem.Spec PyProof.Rows
theorem walk_of{l:PySem.W.OpenLaw}{n k:Nat}{q:zu}{XP:(Str->on zk)->zo->Prop}{d:DefRec}{K:Params->zA}{O:zt->CXT}{M:zt->Sp}{x:Str}
  (Q:l.most=some n) (B:n<=sizeLine) (E:d.params.defaults=[]) (P:Room k callerA)
  (W:∀(w:zt) (h:zo),YP w h->(K w.params).In h) (j:∀(w:zt) (h:zo),YP w h->(∀p∈u6 (K w.params),(K w.params).lookup p.1=none/\h.get? p.1=some {cls:=.none,data:=.fields #[]} /\ isCodeTable h p.1)/\((u6 (K w.params)).map (·.1)).Nodup)
  (F:∀(w:zt) (mg:Str->on zk) (y:zn) (h:zo),(K w.params).In h->h.Ns mainGlobals mg->mg d.name=some (.ref y) ->
   ∃fd:zy,(∀(s:zm) (u:zk),BindsTo s fd ⟨[u],[]⟩ [(x,u)]) /\
    ∀b:zo,(K w.params).In b->b.Ns mainGlobals mg->FnOk l.prog w (K w.params) mg b (O w) k y fd [x] (M w))
  (A:∀(w:zt) (H:Hp) (a:zn) (r:ge Int),r.length<=n->Only H->SqL (K w.params) H a (r.map V.int)->M w [.ref a] H (λ v _=>v=.bl true) λ _ _ _=>False)
  (I:∀(w:zt) (H:Hp) (s:zm) (e:zk) (z:zm),O w [] H s (λ _ _ _=>False) e z->False) :
  PySem.W.WalkO q loose XP YP l.row.toRowW d [] (λ f J=>PySem.call f J):=by
 refine Att.attach_call Q E λ w L i mg mb y o pm cd doc a J r G Y ho hd S C m g c R=>?_;have N:=W w _ Y;obtain⟨fd,U,hF⟩:=F w mg y _ N G.T.g C;exact oR N G.T.g G.T.b G.T.builtins G.T.nolimit R m g (g9 c B) P hF U (λ H Z X=>A w H a r c Z X) (j w _ Y).1 (j w _ Y).2 G.T.bmain λ H e z=>I w H i e z
end L2
namespace L2
open PySem PySem.Spec PyProof.Rows
abbrev CX0:CXT:=λ _ _ _ _ _ _=>False
abbrev E0:XK:=λ _ _ _=>False
section
end
section
end
theorem iteF{B:Prop}(h:B):if false=true then A else B:=by
 rw[d9 y8];exact h
theorem iteT{B:Prop}(h:A):if true=true then A else B:=by
 rw[d6 rfl];exact h
def Same(H H':Hp):Prop:=∀b o,H b=some o->H' b=some o
theorem Same.refl(H:Hp):Same H H:=λ _ _ h=>h
theorem Same.trans(a:Same H e)(b:Same e d):Same H d:=λ c o h=>b c o (a c o h)
theorem Same.free(e:Same H H')(h:H' l=Option.none):H l=Option.none:=by
 cases q:H l with
 | none=>rfl
 | some o=>
  rw[e l o q]at h;cases h
theorem Same.seq{K:zA}(e:Same H H')(h:SqL K H a xs):SqL K H' a xs:=by
 rcases h with(h | ⟨o,h⟩) | h
 ·exact .inl (.inl (e _ _ h))
 ·exact .inl (.inr ⟨o,e _ _ h⟩)
 ·exact .inr h
end L2
end
noncomputable section
namespace L2
open PySem PySem.Spec PyProof.Rows
noncomputable def F2(o:Obj):on zk:=match o.data with
 | .fields vs=>vs[2]?
 | _=>none
theorem F2.freed(h:F2 o=some c):o.isFreed=false:=by
 unfold F2 at h;split at h
 ·rename_i vs e;exact Obj.isFreed_of_fields e
 ·cases h
def St2(h h':zo):Prop:=∀a o c,h.get? a=some o->F2 o=some c->∃o',h'.get? a=some o'/\F2 o'=some c
theorem St2.refl(h:zo):St2 h h:=λ a o c e q=>⟨o,e,q⟩
theorem St2.trans(x:St2 h d)(y:St2 d b):St2 h b:=λ a o c e q=>by
 obtain⟨g,i,f⟩:=x a o c e q;exact y a g c i f
theorem St2.of_keeps(k:∀b o,h.get? b=some o->d.get? b=some o):St2 h d:=λ a o c e q=>⟨o,k a o e,q⟩
theorem St2.push(h:zo)(o:Obj):St2 h (h.push o):=.of_keeps λ b o e=>f9 _ e
theorem St2.upd(d:∀o,F2 (f o)=F2 o):St2 h (h.update a f):=λ b o c e q=>by
 by_cases z:a=b
 ·subst z;exact⟨f o,Heap.get?_update_self f e (F2.freed (by rwa [d])),by rwa [d]⟩
 ·exact⟨o,by rwa [Heap.get?_update_other _ _ z],q⟩
inductive Kp2:{α:Type} -> Sem α->Prop
 | pure {α:Type} (a:α):Kp2 (.pure a)
 | raise {α:Type} (e:Value):Kp2 (.raise e:Sem α)
 | unsupported {α:Type} (w:String):Kp2 (.unsupported w:Sem α)
 | rule {α:Type} (t:String) (k:Unit->Sem α):Kp2 (k ())->Kp2 (.rule t k)
 | at{α:Type} (p:Pos) (k:Unit->Sem α):Kp2 (k ())->Kp2 (.at p k)
 | load {α:Type} (a:Addr) (p:Option Value) (k:Obj->Sem α):(∀o,Kp2 (k o))->Kp2 (.load a p k)
 | update {α:Type} (a:Addr) (p:Option Value) (f:Obj->Obj) (k:Unit->Sem α):(∀o,F2 (f o)=F2 o)->Kp2 (k ())->Kp2 (.update a p f k)
 | alloc {α:Type} (o:Obj) (k:Addr->Sem α):(∀a,Kp2 (k a))->Kp2 (.alloc o k)
 | point {α:Type} (l:List Value) (k:Unit->Sem α):Kp2 (k ())->Kp2 (.point l k)
 | ask {α:Type} (k:Setting->Sem α):(∀a,Kp2 (k a))->Kp2 (.ask k)
 | stack {α:Type} (k:List (Code×Pos)->Sem α):(∀a,Kp2 (k a))->Kp2 (.stack k)
theorem Kp2.wp{m:Sem i}(k:Kp2 m):∀{Q:i->Pos->zm->Prop} {E:zk->Pos->zm->Prop} {p:Pos} {s:zm},Sem.wp M g m Q E p s->Sem.wp M g m (λ a c d=>Q a c d/\St2 s.heap d.heap) (λ e c d=>E e c d/\St2 s.heap d.heap) p s:=by
 induction k with
 | pure a=>intro Q E p s h;exact⟨h,.refl _⟩
 | raise e=>intro Q E p s h;exact⟨h,.refl _⟩
 | unsupported w=>intro Q E p s h;exact h
 | rule t k _ b=>intro Q E p s h;exact b h
 | «at» c k _ b=>intro Q E p s h;exact b h
 | load a c k _ b=>intro Q E p s h;obtain⟨o,e,q⟩:=h;exact⟨o,e,b o q⟩
 | update a c f k j _ b=>
  intro Q E p s h;rw[Sem.wp]at h ⊢;refine⟨h.1,?_⟩;have st:St2 s.heap (s.heap.update a f):=.upd j;have:=b h.2;exact Sem.wp_mono M g _ (λ a c d q=>⟨q.1,st.trans q.2⟩) (λ e c d q=>⟨q.1,st.trans q.2⟩) _ _ this
 | alloc o k _ b=>
  intro Q E p s h;rw[Sem.wp]at h ⊢;have st:St2 s.heap (s.heap.push o):=.push _ _;have:=b _ h;exact Sem.wp_mono M g _ (λ a c d q=>⟨q.1,st.trans q.2⟩) (λ e c d q=>⟨q.1,st.trans q.2⟩) _ _ this
 | point l k _ b=>intro Q E p s h;exact b h
 | ask k _ b=>intro Q E p s h;exact b _ h
 | stack k _ b=>intro Q E p s h;exact b _ h
theorem Kp2.any(k:Kp2 m)(h:wpAny M A m Q E s):wpAny M A m (λ a b=>Q a b/\St2 s.heap b.heap) (λ e b=>E e b/\St2 s.heap b.heap) s:=
 λ f p c=>k.wp (h f p c)
theorem Kp2.bind(h:Kp2 m)(j:∀a,Kp2 (f a)):Kp2 (m.bind f):=by
 induction h with
 | pure a=>exact j a
 | raise e=>exact .raise e
 | unsupported w=>exact .unsupported w
 | rule t k _ b=>exact .rule t _ b
 | «at» p k _ b=>exact .at p _ b
 | load a p k _ b=>exact .load a p _ b
 | update a p g k i _ b=>exact .update a p g _ i b
 | alloc o k _ b=>exact .alloc o _ b
 | point l k _ b=>exact .point l _ b
 | ask k _ b=>exact .ask _ b
 | stack k _ b=>exact .stack _ b
theorem F2.fields(b:i≠2)(o:Obj):F2 (Obj.mapFields (·.setIfInBounds i x) o)=F2 o:=by
 obtain⟨c,d,e,sl⟩:=o;cases e with
 | fields a=>
  show _[2]? = a[2]?;rw[Array.getElem?_setIfInBounds_ne b]
 | _=>rfl
theorem bf(a:zn):Kp2 (PySem.load a):=.load a none _ λ o=>.pure o
theorem oS(v:zk):Kp2 (fieldsOf v):=by
 unfold fieldsOf;split
 ·refine .bind (bf _) λ o=>?_;split
  ·exact .pure _
  ·exact .unsupported _
 ·exact .unsupported _
theorem Y5(v:zk)(i:Nat):Kp2 (field v i):=by
 unfold field;refine .bind (oS v) λ vs=>?_
 split
 ·exact .pure _
 ·exact .unsupported _
theorem bg(v:zk)(a:i≠2)(x:zk):Kp2 (setField v i x):=by
 unfold setField;split
 ·unfold updateField;refine .bind (bf _) λ o=>?_
  split
  ·split
   ·exact .update _ _ _ _ (F2.fields a) (.pure _)
   ·exact .unsupported _
  ·exact .unsupported _
 ·exact .unsupported _
theorem oT(e:zk)(fr:on zn):Kp2 (setFlight e fr):=by
 unfold setFlight;refine .bind (Y5 e 1) λ a=>?_
 split
 ·exact bg a (by decide) _
 ·exact .pure _
theorem oU(env:Env)(a:ge Env):Kp2 (behindIsImport env a):=by
 unfold behindIsImport;split
 ·exact .pure _
 ·split
  ·exact .pure _
  ·exact .bind (Y5 _ _) λ _=>.pure _
theorem bh:Kp2 PySem.stack:=.stack _ λ a=>.pure a
theorem oV:Kp2 underTheClaimsCaller:=by
 unfold underTheClaimsCaller
 repeat (first | exact .pure _ | exact .unsupported _ | refine .bind bh λ _=>?_ | split)
theorem oW(env:Env)(i:Bool)(l:ge Env):Kp2 (keptBack env i l):=by
 cases l with
 | nil=>
  show Kp2 (if env.scope.isGenerator||env.scope.isCoroutine then _ else do return if ←underTheClaimsCaller then Value.notImplemented else Value.none);split
  ·exact .pure _
  ·exact .bind oV λ _=>.pure _
 | cons c r=>exact .pure _
theorem fb:∀l:ge Env,Kp2 (readyFrames l)
 | []=>.pure _
 | d::a=>by
  unfold readyFrames;split
  ·refine .bind (bf _) λ o=>?_;split
   ·exact .pure _
   ·refine .bind (oU _ _) λ b=>.bind (oW _ _ _) λ c=>?_;exact .update _ _ _ _ (λ o=>rfl) (fb a)
  ·exact .unsupported _
theorem oX(l:ge Env):Kp2 (frameObject l):=by
 cases l with
 | nil=>exact .pure _
 | cons e r=>
  unfold frameObject;exact .bind (fb _) λ _=>.pure _
theorem oY(env:Env):Kp2 (PySem.frameOf env):=by
 unfold PySem.frameOf frameEnvs;refine .bind (.bind bh λ _=>.pure _) λ l=>.bind (oX _) λ o=>?_
 split
 ·exact .pure _
 ·exact .unsupported _
theorem oZ(f:zn)(b:Bool):Kp2 (entryPlaceOf f b):=by
 unfold entryPlaceOf;refine .bind bh λ a=>?_
 split<;>exact .pure _
theorem pb(ty:zE)(vs:ge zk):Kp2 (newFields ty vs):=by
 unfold newFields newObj;dsimp;split
 ·exact .unsupported _
 ·unfold newObjAsIs;exact .bind (.alloc _ _ λ a=>.pure a) λ _=>.pure _
theorem pd(a b c d e:zk)(p:ge zk):Kp2 (EntryCells.newEntry a b c d e p):=pb _ _
theorem pf(e:zk)(env:Env):Kp2 (noteFrame e env):=by
 unfold noteFrame;split
 ·refine .bind (Y5 e 1) λ a=>?_;have b:∀f:zn,Kp2 (do setField e 1 (←EntryCells.newEntry a (←PySem.frameOf env) .none (rawInt f) .none (←entryPlaceOf f (a != .none)))):=λ f=>
   .bind (oY env) λ _=>.bind (oZ _ _) λ _=>.bind (pd _ _ _ _ _ _) λ _=>bg e (by decide) _
  split
  ·refine .bind (Y5 a 3) λ fl=>?_;split
   ·exact .pure _
   ·exact .bind (bg a (by decide) _) λ _=>b _
  ·exact b _
 ·exact .unsupported _
theorem fe(env:Env)(e:zk):Kp2 (leaving env e):=by
 unfold leaving;exact .bind (pf e env) λ _=>oT e none
def Cx2(h:zo):Nat->zn->Prop
 | 0,a=>∃o,h.get? a=some o/\F2 o=some .none
 | n+1,a=>∃o,h.get? a=some o/\(F2 o=some .none\/∃b,F2 o=some (.ref b)/\Cx2 h n b)
theorem Cx2.st(x:St2 h i):∀{n:Nat} {a:zn},Cx2 h n a->Cx2 i n a
 | 0,a,c=>by obtain⟨o,e,q⟩:=c;exact x a o _ e q
 | n+1,a,c=>by
  obtain⟨o,e,q⟩:=c;rcases q with q | ⟨b,q,c⟩
  ·obtain⟨f,g,d⟩:=x a o _ e q;exact⟨f,g,.inl d⟩
  ·obtain⟨f,g,d⟩:=x a o _ e q;exact⟨f,g,.inr ⟨b,d,c.st x⟩⟩
def Ctxd(h:zo)(a:zn):Prop:=∃n,Cx2 h n a
theorem Ctxd.st(c:Ctxd h a)(x:St2 h b):Ctxd b a:=let ⟨n,q⟩:=c;⟨n,q.st x⟩
theorem Ctxd.made(b:Heap.MadeExcOf h a e C vs):Ctxd a e:=by
 obtain⟨t,c,_⟩:=b.there;exact⟨0,_,c,rfl⟩
theorem u5.there(x:u5 P w H h a o):∃b,h.get? a=some b:=by
 cases o with
 | lst d=>obtain⟨_,_,_,_,e⟩:=x;exact⟨_,e⟩
 | tup d=>obtain⟨_,_,_,b,e,_⟩:=x;exact⟨_,e⟩
 | dK c=>obtain⟨_,_,_,_,o,_,_,e,_⟩:=x;exact⟨_,e⟩
 | dT c=>obtain⟨_,_,_,_,o,_,_,e,_⟩:=x;exact⟨_,e⟩
 | set S n=>obtain⟨o,_,_,_,e,_⟩:=x;exact⟨_,e⟩
 | ins C dx fs=>obtain⟨_,_,_,e,_⟩:=x;exact⟨_,e⟩
 | own y=>obtain⟨_,e⟩:=x;exact⟨_,e⟩
 | xd fs=>obtain⟨_,⟨_,_,_,e,_⟩,_⟩:=x;exact⟨_,e⟩
 | rng lo hi=>obtain⟨_,_,_,e⟩:=x;exact⟨_,e⟩
 | frz b u=>obtain⟨e,_⟩:=x;exact⟨_,e⟩
 | tbl q=>obtain⟨_,e,_⟩:=x;exact⟨_,e⟩
 | met f y=>exact⟨_,(x)⟩
 | ext φ=>obtain⟨_,⟨_,e⟩,_⟩:=x;exact⟨_,e⟩
structure Fly(P:Program)(w:World)(base:Heap)(l:List Env)(ea:Addr)(C:Value)(H:Hp)(B h:Heap):Prop where
 fly:∃a0,Heap.FlyingW B l ea C a0 h
 bas:∀b o,base.get? b=some o->B.get? b=some o
 hok:HOk P w H B
 ctx:Ctxd h ea
theorem Fly.stays(F:Fly P w base l a C H B h):∀b o,B.get? b=some o->h.get? b=some o:=by
 obtain⟨a0,f⟩:=F.fly;exact f.1
theorem Fly.newE(F:Fly P w base l a C H B h):B.get? a=none:=by
 obtain⟨a0,f⟩:=F.fly;exact f.2.1
theorem Fly.untr(F:Fly P w base l a C H B h):H a=none:=by
 cases q:H a with
 | none=>rfl
 | some o=>
  obtain⟨ob,e⟩:=(F.hok a o q).there;rw[F.newE]at e;cases e
def CXx(P:zu)(w:zt)(base:zo):CXT:=λ outer H s E e s'=>∃(ea:zn) (C:zk) (H':Hp) (B:zo),e=.ref ea/\s'.os=s.os/\AllBare s'.gens/\Un (frs outer) [] H H' s.heap s'.heap /\
 Fly P w base outer ea C H' B s'.heap/\(∀b o,s.heap.get? b=some o->b∉frs outer->∃o',B.get? b=some o')/\E C none H'
noncomputable def n7(cells:ge (Str×zn)):ge (Str×NameKind)->ge (Str×zn)->ge (Str×zn)
 | [],acc=>acc
 | (n,k)::r,acc=>if(k==NameKind.free)=true then n7 cells r ((n,(cells.lookup n).getD 0)::acc)else n7 cells r acc
theorem bj:∀(d:ge (Str×NameKind)) (b:ge (Str×zn)),(∀y∈d,y.2=NameKind.free->∃c,env.cells.lookup y.1=some c) ->
  (forIn d b (λ (x:Str×NameKind) (cs:ge (Str×zn))=>(match x with | (e,f)=>if(f==NameKind.free)=true then(do let a ←cellOf env e;pure (ForInStep.yield ((e,a)::cs)))else pure (ForInStep.yield cs):Sem (ForInStep (ge (Str×zn))))):Sem (ge (Str×zn)))=pure (n7 env.cells d b)
 | [],b,_=>rfl
 | (n,k)::r,b,h=>by
  have j:=λ y m=>h y (i8 _ m);rw[List.forIn_cons];by_cases g:(k==NameKind.free)=true
  ·obtain⟨c,l⟩:=h (n,k) i9 (f7.mp g);have o:cellOf env n=pure c:=by unfold cellOf;rw[l]
   have i:n7 env.cells ((n,k)::r) b=n7 env.cells r ((n,c)::b):=(by show(if(k==NameKind.free)=true then n7 env.cells r (_::b)else n7 env.cells r b)=_;rw[d6 g,l];rfl);rw[i,←bj r _ j];simp only[g,if_true,o];rfl
  ·have i:n7 env.cells ((n,k)::r) b=n7 env.cells r b:=by
    show(if(k==NameKind.free)=true then n7 env.cells r (_::b)else n7 env.cells r b)=_;rw[d9 g]
   rw[i,←bj r b j];simp only[g,if_false];rfl
theorem bn(h:∀y∈scope.names,y.2=NameKind.free->∃c,env.cells.lookup y.1=some c):closureFor scope env=pure (n7 env.cells scope.names []):=by
 unfold closureFor
 first
  | exact _.trans rfl
  | (simp only[(bj scope.names [] h)];rfl)
theorem T3:∀{a:ge (Str×NameKind)} {d:ge (Str×zn)} {x:Str} {c:zn},(∀y∈a,y.2=NameKind.free->∃c,b.lookup y.1=some c) ->
  (x,c)∈n7 b a d->(x,c)∈d\/(b.lookup x=some c/\(x,NameKind.free)∈a)
 | [],d,x,c,_,h=>.inl h
 | (n,k)::r,d,x,c,g,h=>by
  have f:=λ y i=>g y (i8 _ i);unfold n7 at h;by_cases e:(k==NameKind.free)=true
  ·rw[d6 e]at h;obtain⟨c',j⟩:=g (n,k) i9 (f7.mp e);rcases T3 f h with z | ⟨z1,z2⟩
   ·rcases e8.mp z with z | z
    ·cases z;exact .inr ⟨by rw[j];rfl,by rw[←f7.mp e];exact i9⟩
    ·exact .inl z
   ·exact .inr ⟨z1,i8 _ z2⟩
  ·rw[d9 e]at h;rcases T3 f h with z | ⟨z1,z2⟩
   ·exact .inl z
   ·exact .inr ⟨z1,i8 _ z2⟩
theorem bo:∀{a:ge (Str×NameKind)} {c:ge (Str×zn)} {y:Str×zn},y∈c->y∈n7 b a c
 | [],_,_,h=>h
 | (n,k)::r,c,y,h=>by
  unfold n7;split
  ·exact bo (i8 _ h)
  ·exact bo h
theorem Y6:∀{a:ge (Str×NameKind)} {d:ge (Str×zn)} {x:Str} {c:zn},(x,NameKind.free)∈a->b.lookup x=some c->(x,c)∈n7 b a d
 | (n,k)::r,d,x,c,h,e=>by
  unfold n7;rcases e8.mp h with z | z
  ·cases z;rw[d6 (show(NameKind.free==NameKind.free)=true from rfl),e];exact bo i9
  ·split
   ·exact Y6 z e
   ·exact Y6 z e
theorem T4:∀(a:ge (Str×NameKind)) (n:Nat) (b:ge (Str×zn)),cellsFrom n a b=cellsFrom n a []++b
 | [],_,_=>rfl
 | (x,k)::r,n,b=>by
  unfold cellsFrom;split
  ·rw[T4 r _ _,T4 r _ [(x,n)],List.append_assoc];rfl
  ·exact T4 r n b
theorem bp:∀{a:ge (Str×NameKind)} {n:Nat} {x:Str} {c:zn},(x,c)∈cellsFrom n a []->(x,NameKind.cell)∈a
 | [],_,_,_,h=>nomatch h
 | (y,k)::r,n,x,c,h=>by
  unfold cellsFrom at h;by_cases b:(k==NameKind.cell)=true
  ·rw[d6 b,T4]at h;rcases List.mem_append.mp h with z | z
   ·exact i8 _ (bp z)
   ·have d:(x,c)=(y,n):=by simpa using z
    cases d;rw[f7.mp b];exact i9
  ·rw[d9 b]at h;exact i8 _ (bp h)
theorem T5{a:Type}:∀{l r:ge (Str×a)},(l++r).lookup x=(l.lookup x).or (r.lookup x)
 | [],r=>by simp
 | (y,v)::l,r=>by
  rw[List.cons_append,List.lookup_cons,List.lookup_cons];cases hb:x==y with
  | true=>rfl
  | false=>exact T5
theorem ff{a:Type}:∀{l:ge (Str×a)},(∀c,(x,c)∉l)->l.lookup x=none
 | [],_=>rfl
 | (y,v)::l,h=>by
  rw[List.lookup_cons];cases hb:x==y with
  | true=>exact absurd (by grind) (h v)
  | false=>exact ff λ c b=>h c (i8 _ b)
theorem bq{a:Type}:∀{l:ge (Str×a)} {c:a},(x,c)∈l->∃d,l.lookup x=some d
 | (y,v)::l,c,h=>by
  rw[List.lookup_cons];cases b:x==y with
  | true=>exact⟨v,rfl⟩
  | false=>
   rcases e8.mp h with z | z
   ·cases z;rw[beq_self_eq_true]at b;cases b
   ·exact bq z
theorem L5{b:Type}:∀{l:ge (Str×b)} {c:b},(l.map (·.1)).Nodup->(x,c)∈l->l.lookup x=some c
 | (y,v)::l,c,d,h=>by
  rw[List.lookup_cons];rw[u0]at d;have a:=List.nodup_cons.mp d;rcases e8.mp h with z | z
  ·cases z;rw[beq_self_eq_true]
  ·have:x≠y:=λ e=>a.1 (by rw[←e];exact k8.mpr ⟨_,z,rfl⟩);rw[u9.mpr this];exact L5 a.2 z
theorem br:(relabel scope env).names.lookup x=(scope.names.lookup x).map λ k=>if(k==NameKind.free&&env.scope.kind == .function&&env.kindOf x==some .cell)=true then NameKind.cell else k:=by
 unfold relabel;show(scope.names.map _).lookup x=_;generalize scope.names=l
 induction l with
 | nil=>rfl
 | cons y r a=>
  obtain⟨n,k⟩:=y;rw[u0];show List.lookup x ((if _=true then _ else(n,k))::_)=_;have e:(if(k==NameKind.free&&env.scope.kind == .function&&env.kindOf n==some .cell)=true then(n,NameKind.cell)else(n,k))=(n,if(k==NameKind.free&&env.scope.kind == .function&&env.kindOf n==some .cell)=true then NameKind.cell else k):=by split<;>rfl
  rw[e,List.lookup_cons,List.lookup_cons];cases b:x==n with
  | true=>rw[f7.mp b];rfl
  | false=>exact a
theorem pg
  (e:Q (newEnv scope s.heap.objs.size g (cellsFrom (s.heap.objs.size+1) scope.names cl) q none .none (some env) builtinsNs) {s with heap:=pushCells (s.heap.push {cls:=.type "dict",data:=.dict #[]}) scope.names}) :
  wpAny M A (newFunctionEnv scope g cl [] q none .none (some env)) Q E s:=by
 simp only[newFunctionEnv,Option.isSome_some,if_true];refine d4 (wpAny_alloc ?_);refine d4 (wpAny_layCells _ (λ d a c=>by cases b:a==NameKind.cell<;>simp[b]) _ _ _ _ ?_);rw[show({s with heap:=s.heap.push {cls:=.type "dict",data:=.dict #[]}}:zm).heap.objs.size=s.heap.objs.size+1 from Heap.size_push ..];exact d4 (d7 (d7 e))
theorem ph(I:Nat->zm->Prop)
  (turn:∀n s,I n s->wpAny (model prog w) A (pyNext it) (λ r f=>match r with
   | none=>R (.ok .next) f
   | some v=>wpAny (model prog w) A (letOwnedTupleGo a it v) (λ _ d=>wpAny (model prog w) A (assign a env v) (λ _ l=>
     wpAny (model prog w) A (forIn y true λ c r=>if r=true then do let ok ←isTrue c env (eval c env);pure (ForInStep.yield ok)else pure (ForInStep.yield r)) (λ ok b=>
      if ok=true then wpAny (model prog w) A (eval elt env) (λ x k=>
       wpAny (model prog w) A (call (.builtin "list.append") [E,x]) (λ _ j=>∃m,m<n/\I m j) (notedBy (model prog w) A env λ e g=>R (.error e) g) k) (notedBy (model prog w) A env λ e g=>R (.error e) g) b
      else ∃m,m<n/\I m b) (notedBy (model prog w) A env λ e g=>R (.error e) g) l) (notedBy (model prog w) A env λ e g=>R (.error e) g) d) (notedBy (model prog w) A env λ e g=>R (.error e) g) f) (notedBy (model prog w) A env λ e g=>R (.error e) g) s)
  (n:Nat) (h:I n s) :
  codeAny (model prog w) A (.compLoop (.ListComp elt [⟨a,u,y,0⟩] scope pos) 0 it E env) R s:=by
 refine codeAny_loop rfl I (λ n s F=>?_) n h;show wpAny _ A _ _ _ s;refine wpAny_noted ?_;rw[compTurn_list];refine d4 (wpAny_standAt (d4 (wpAny_mono (turn n s F) (λ r f p=>?_) λ _ _ i=>i)));cases r with
 | none=>exact d7 p
 | some v=>
  refine d4 (wpAny_mono p (λ _ d q=>?_) λ _ _ i=>i);refine d4 (wpAny_mono q (λ _ l C=>d4 (wpAny_mono C (λ ok b o=>?_) λ _ _ i=>i)) λ _ _ i=>i);cases ok with
  | false=>exact d7 ⟨rfl,o⟩
  | true=>
   exact d4 (d4 (wpAny_mono o (λ x k B=>d4 (wpAny_mono B (λ _ j z=>d7 (d7 ⟨rfl,z⟩)) λ _ _ i=>i)) λ _ _ i=>i))
theorem HOk.track(x:HOk P w H h)(d:H a=none)(new:u5 P w (upd H a o) h a o):HOk P w (upd H a o) h:=λ b u e=>by
 by_cases f:b=a
 ·subst f;rw[v6]at e;cases e;exact new
 ·rw[j4 f]at e;exact(x b u e).stay (λ c v _ q=>q) (λ c q=>by rwa [j4 (A0 q d)]) (λ c xs q=>by rwa [j4 (A0 q d)]) λ c _ _ _ _ q=>by rwa [j4 (A0 q d)]
theorem Un.track{fs ex:ge zn}{H H':Hp}{h h':zo}{a:zn}{o:HO}(u:Un fs ex H H' h h')(hn:H' a=none)(hh:h.get? a=none):Un fs ex H (upd H' a o) h h' where
 keep:=u.keep
 slot:=u.slot
 free:=λ b ob q n hx=>by
  have:b≠a:=λ z=>by rw[z,hh]at q;cases q
  rw[j4 this];exact u.free b ob q n hx
 there:=u.there
 tups:=λ b xs q=>by have z:=u.tups b xs q;rw[j4 (A0 z hn)];exact z
 frzs:=λ b ob xs q=>by have z:=u.frzs b ob xs q;rw[j4 (A0 z hn)];exact z
 tbls:=λ b ps q=>by have z:=u.tbls b ps q;rw[j4 (A0 z hn)];exact z
structure CompScope(N N':List Str)(sc osc:Scope)(fr:List (Option Nat)):Prop where
 kind:sc.kind=.function
 nd:N'.Nodup
 snd:(sc.names.map (·.1)).Nodup
 len:fr.length=N'.length
 fre:∀(j i:Nat),fr[j]? = some (some i)->∃x,N'[j]? = some x/\N[i]? = some x/\(x,NameKind.free)∈sc.names
 out:∀y∈sc.names,y.2=NameKind.free->osc.names.lookup y.1=some .cell\/osc.names.lookup y.1=some .free
noncomputable def inner(fr:ge (on Nat))(σ:St):St:=fr.map λ o=>o.bind λ i=>(σ[i]?).join
noncomputable def fg(X:Cx)(scope:zB)(N':ge Str)(C:zn)(cells:ge (Str×zn))(s₂:zm)(H₂:Hp)(fp:ge zn):Cx:=
 {X with N:=N',s₀:=s₂,H₀:=H₂,env:=compEnvC scope cells C X.env,outer:=X.stack,stack:=X.stack,ex:=fp,fn:=λ x=>scope.names.lookup x==some .cell,pn:=[],xe:=λ _ _=>False}
def o7 (X : Cx) (scope : zB) (N' : ge Str) (C : zn) (cells : ge (Str × zn)) (s₂ : zm) (H₂ : Hp) (fp : ge zn) (x1 : XK) : Cx :=
  { X with N := N', s₀ := s₂, H₀ := H₂, env := compEnvC scope cells C X.env, outer := X.stack, stack := X.stack, ex := fp, fn := λ x => scope.names.lookup x == some .cell, pn := [],
           xe := λ e s' => ∃ pins σ H s, Inv (fg X scope N' C cells s₂ H₂ fp) pins σ H s /\ CXx X.prog X.w X.base X.stack H s x1 e s' }
theorem Inv.comp0{X:Cx}{scope:zB}{N':ge Str}{C:zn}{cells:ge (Str×zn)}{s₂:zm}{H₂:Hp}{fp:ge zn}{x1:XK}{pins:ge (zn×Obj)}{σ:St}{H:Hp}{s:zm}(I:Inv (o7 X scope N' C cells s₂ H₂ fp x1) pins σ H s):Inv (fg X scope N' C cells s₂ H₂ fp) pins σ H s:=
 ⟨⟨I.ok.mod,I.ok.kind,I.ok.glob,I.ok.blt,I.ok.above,I.ok.inj,I.ok.has,I.ok.cab,I.ok.hd,I.ok.frames,I.ok.stk,I.ok.exf,I.ok.bs,I.ok.bsz,I.ok.noex,I.ok.exfs,I.ok.funs,I.ok.frf⟩,I.os,I.bare,I.base,I.loc,I.cell,I.free,I.freeC,I.pin,I.hok,I.len⟩
abbrev bt:zE:="comprehension.variables-let-go"
def Y7(X:Cx)(E:St->XK):Prop:=∀(scope:zB) (N':ge Str) (cells:ge (Str×zn)) (C:Nat) (pins:ge (zn×Obj)) (σ:St) (H:Hp) (s₂:zm) (fp:ge zn) (e:zk) (s':zm),
 Inv X pins σ H s₂->(∀b∈fp,FpOk X pins H b)->C=s₂.heap.objs.size+1->(o7 X scope N' C cells s₂ H fp (E σ)).xe e s' ->
 notedBy (model X.prog X.w) X.A (compEnvC scope cells C X.env) (λ e s'=>∃m,s'.heap.Ns C m/\∀h',Heap.SameBut C s'.heap h'->∀cenv:Env,cenv.locals=C->cenv.frame=X.env.frame->wpAny (model X.prog X.w) X.A (passOn bt e cenv:Sem zk) (λ _ _=>False) X.xe {s' with heap:=h'}) e s'
theorem fh:Y7 X λ _ _ _ _=>False:=by
 intro a N' b C d σ H c fp e s' I f hC z;obtain⟨_,_,_,_,_,_,_,_,_,_,_,_,_,_,_,q⟩:=z;exact q.elim
section
abbrev C9:Obj:={cls:=.type "list",dict:=none,data:=.seq ([]:ge zk).toArray}
abbrev T6:Obj:={cls:=.type "dict",data:=.dict #[]}
theorem pi(S:CompScope X.N N' scope X.env.scope fr)(I:Inv X O σ H d)(f:∀b∈fp,FpOk X O H b)(ho:∀b∈fp,@LT.lt Nat _ b d.heap.objs.size)(hC:C=d.heap.objs.size+1)(M:U=pushCells ((d.heap.push C9).push T6) scope.names) :
  Inv (o7 X scope N' C (cellsFrom (C+1) scope.names (n7 X.env.cells scope.names [])) d H fp x1) [] (inner fr σ) H {d with heap:=U} /\ U.get? d.heap.objs.size=some C9/\(∀b o,d.heap.get? b=some o->U.get? b=some o):=by
 have Q:(d.heap.push C9).objs.size=d.heap.objs.size+1:=Heap.size_push ..;have P:((d.heap.push C9).push T6).objs.size=C+1:=by rw[Heap.size_push,Q,hC]
 have keep:∀b o,d.heap.get? b=some o->U.get? b=some o:=λ b o e=>by rw[M];exact pushCells_keeps _ _ b o (f9 _ (f9 _ e))
 have hD:U.get? d.heap.objs.size=some C9:=by rw[M];exact pushCells_keeps _ _ _ _ (f9 _ (n6 _ rfl))
 have a4:U.Ns C λ _=>none:=by have q:=(Heap.Ns.new (d.heap.push C9) (.type "dict")).keeps (pushCells_keeps scope.names _);rw[Q,←hC]at q;rw[M];exact q
 have ok:=cellsFrom_ok scope.names ((d.heap.push C9).push T6) (C+1) [] ⟨λ _ _ A=>(nomatch A),List.Pairwise.nil⟩ (by rw[P];exact i7 _);rw[P,←M]at ok;have J:∀y∈scope.names,y.2=NameKind.free->∃c,X.env.cells.lookup y.1=some c:=λ y hy hk=>I.ok.has y.1 (S.out y hy hk);generalize Z:n7 X.env.cells scope.names []=cl;have F:∀{x:Str} {c:zn},(x,c)∈cl->X.env.cells.lookup x=some c/\(x,NameKind.free)∈scope.names:=λ {x c} A=>by
  rw[←Z]at A;rcases T3 J A with z | z
  ·exact nomatch z
  ·exact z
 generalize n:cellsFrom (C+1) scope.names []=own at ok;have a6:cellsFrom (C+1) scope.names cl=own++cl:=by rw[T4,n]
 rw[a6];have L:∀{x:Str} {c:zn},(x,c)∈own->(x,NameKind.cell)∈scope.names:=λ {x c} A=>by rw[←n]at A;exact bp A
 have L1:∀x c,(own++cl).lookup x=some c->((x,c)∈own)\/(X.env.cells.lookup x=some c/\(x,NameKind.free)∈scope.names/\own.lookup x=none):=λ x c e=>by
  rw[T5]at e;cases q:own.lookup x with
  | some c'=>rw[q]at e;cases e;exact .inl (PySem.mem_of_lookup q)
  | none=>rw[q]at e;have z:=F (PySem.mem_of_lookup (show cl.lookup x=some c from e));exact .inr ⟨z.1,z.2,rfl⟩
 have g:∀{x:Str} {c:Nat},(x,c)∈own->@LE.le Nat _ (C+1) c:=λ {x c} A=>(ok.empty x c A).2;have h:∀{x:Str} {c:Nat},X.env.cells.lookup x=some c->@LT.lt Nat _ c d.heap.objs.size:=λ {x c} e=>by obtain⟨v,z⟩:=I.cell x c e;exact z.lt
 have K:∀{x:Str},(x,NameKind.free)∈scope.names->own.lookup x=none:=λ {x} A=>by refine ff λ c Y=>?_;have a:=L5 S.snd A;have b:=L5 S.snd (L Y);rw[a]at b;cases b
 have B:∀{x:Str} {c:zn},(x,NameKind.free)∈scope.names->X.env.cells.lookup x=some c->(own++cl).lookup x=some c:=λ {x c} A Y=>by rw[T5,K A];obtain⟨c',e⟩:=bq (l:=cl) (by rw[←Z];exact Y6 A Y);have z:=(F (PySem.mem_of_lookup e)).1;rw[Y]at z;cases z;exact e
 have hX:(o7 X scope N' C (own++cl) d H fp x1).Ok:=by
  refine⟨I.ok.mod,S.kind,I.ok.glob,I.ok.blt,?_,λ x y c h1 h2=>?_,λ x hx=>?_,λ x c hf Y=>?_,I.ok.hd,I.ok.frames,.inl rfl,λ b R=>⟨?_,λ x c e=>?_⟩,I.bs,g9 I.ok.bsz I.sz,λ b o e R=>?_,λ b R hs=>?_,I.stack,⟨I.stkFree,I.tabs⟩⟩
  ·show d.heap.objs.size<=C;rw[hC];exact Nat.le_succ _
  ·have h1:(own++cl).lookup x=some c:=h1;have h2:(own++cl).lookup y=some c:=h2;rcases L1 x c h1 with a | ⟨a,_⟩<;>rcases L1 y c h2 with b | ⟨b,_⟩
   ·exact name_of_addr ok.apart a b
   ·exfalso;have q1:=g a;have q2:=h b;omega
   ·exfalso;have q1:=g b;have q2:=h a;omega
   ·exact I.ok.inj x y c a b
  ·have E:(relabel scope X.env).names.lookup x=some .cell\/(relabel scope X.env).names.lookup x=some .free:=hx;show ∃c,(own++cl).lookup x=some c;rw[br]at E;cases q:scope.names.lookup x with
   | none=>rw[q]at E;rcases E with z | z<;>cases z
   | some k=>
    have km:=PySem.mem_of_lookup q;by_cases k1:k=.cell
    ·subst k1;have z:=PySem.W.cellsFrom_some scope.names (C+1) [] (.inl q);rw[n]at z;obtain⟨c,z⟩:=Option.isSome_iff_exists.mp z;exact⟨c,by rw[T5,z];rfl⟩
    ·by_cases k2:k=.free
     ·subst k2;obtain⟨c,e⟩:=J _ km rfl;exact⟨c,B km e⟩
     ·exfalso;rw[q]at E;have e0:(k==NameKind.free)=false:=u9.mpr k2;simp only[Option.map_some,e0,Bool.false_and]at E;rcases E with z | z
      ·exact k1 (by simpa using z)
      ·exact k2 (by simpa using z)
  ·have a5:(scope.names.lookup x==some .cell)=true:=hf;have q:scope.names.lookup x=some .cell:=by simpa using a5
   have z:=PySem.W.cellsFrom_some scope.names (C+1) [] (.inl q);rw[n]at z;obtain⟨c',z⟩:=Option.isSome_iff_exists.mp z;have a0:(own++cl).lookup x=some c:=Y;rw[T5,z]at a0;have e:c'=c:=Option.some.inj a0;subst e;have:=g (PySem.mem_of_lookup z);show @LE.le Nat _ d.heap.objs.size c';omega
  ·have:=ho b R;show @Ne Nat b C;omega
  ·rcases L1 x c e with a | ⟨a,_⟩
   ·have:=g a;have:=ho b R;show @Ne Nat c b;omega
   ·exact(f b R).2.2.2.2.1 x c a
  ·rcases(f b R).2.2.2.1 with z | z
   ·exact I.ok.noex b o e z
   ·exact absurd (p6 (i5 e) (g9 I.ok.bsz z)) (Nat.lt_irrefl _)
  ·rcases e8.mp (I.stkSub b hs)with z | z
   ·exact(f b R).2.1 z
   ·exact(f b R).2.2.1 z
 refine⟨⟨hX,rfl,I.bare,Un.kept keep,⟨_,a4,λ i x v e1 W e3=>?_⟩,λ x c e=>?_,I.hok.fresh (by show @LE.le Nat _ d.heap.objs.size C;omega),λ x c e=>?_,λ p hp=>absurd (show p∈([]:ge (zn×Obj))from hp) (by simp),I.hok.kept keep,?_⟩,hD,keep⟩
 ·have e1:N'[i]? = some x:=e1;unfold inner at W;rw[u4]at W;cases q:fr[i]? with
  | none=>rw[q]at W;cases W
  | some o=>
   rw[q]at W;cases o with
   | none=>cases W
   | some j=>
    have N:(σ[j]?).join=some v:=Option.some.inj W;have hv:σ[j]? = some (some v):=by
     cases z:σ[j]? with
     | none=>rw[z]at N;cases N
     | some o=>rw[z]at N;rw[show o=some v from N]
    obtain⟨x',a1,a2,a3⟩:=S.fre i j q;rw[e1]at a1;cases a1;obtain⟨m,hn,hl⟩:=I.loc;have ko:=S.out _ a3 rfl;obtain⟨u,r,l⟩:=hl j x v a2 hv (ko.elim (λ z=>.inr (.inl z)) λ z=>.inr (.inr z));rcases l with⟨k,_⟩ | ⟨k,c,e,z⟩
    ·have k':X.env.scope.names.lookup x=some .local:=k;rcases ko with w | w<;>(rw[show X.env.scope.names.lookup x=_ from w]at k';cases k')
    ·refine⟨u,r,.inr ⟨?_,c,B a3 e,z.keeps keep⟩⟩;show(relabel scope X.env).names.lookup x=some .cell\/(relabel scope X.env).names.lookup x=some .free;rw[br,L5 S.snd a3];simp only[Option.map_some];split
     ·exact .inl rfl
     ·exact .inr rfl
 ·rcases L1 x c e with a | ⟨a,_⟩
  ·exact⟨none,(ok.empty x c a).1⟩
  ·obtain⟨v,z⟩:=I.cell x c a;exact⟨v,z.keeps keep⟩
 ·rcases L1 x c e with a | ⟨a,_⟩
  ·exact I.hok.fresh (by have:=g a;show @LE.le Nat _ d.heap.objs.size c;omega)
  ·exact I.freeC x c a
 ·show(inner fr σ).length=N'.length;unfold inner;rw[e7,S.len]
end
def PTs(X:Cx)(ifs:ge zq)(t:TT):Prop:=
 ∀(pins:ge (zn×Obj)) (s:zm) (σ:St) (H:Hp) (Q:Bool->Hp->Prop),Inv X pins σ H s->t σ H Q ->
  wpAny (model X.prog X.w) X.A (forIn ifs true λ c r=>if r=true then do let ok ←isTrue c X.env (eval c X.env);pure (ForInStep.yield ok)else pure (ForInStep.yield r)) (TP X pins σ Q) X.xe s
noncomputable def tYes:TT:=λ _ H Q=>Q true H
theorem pj:PTs X [] tYes:=λ _ _ _ H _ I h=>wpAny_tests_nil ⟨H,I,h⟩
theorem pk(h:PT X c t):PTs X [c] t:=λ a s b H Q I d=>wpAny_tests_one (h a s b H Q I d)
def bu(J:It)(g:TG)(tc:TT)(te:TE)(Fin:ge V->Hp->Prop)(σ:St)(H:Hp):Prop:=
 ∃W:Nat->Nat->ge V->St->Hp->Prop,(∃m,W 0 m [] σ H)/\∀i m ys σ H,W i m ys σ H ->
  (J.stop i H/\Fin ys H)\/(J.go i H/\ys.length<sizeLine/\∀x H',J.yld i H x H'->g x σ H' λ σ2 H2=>tc σ2 H2 λ b H3=>
   if b=true then te σ2 H3 λ y H4=>∃m',m'<m/\W (i+1) m' (ys++[y]) σ2 H4 else ∃m',m'<m/\W (i+1) m' ys σ2 H3)
theorem Vals.snoc(r:Vals xs a)(q:RelV x u):Vals (xs++[x]) (a++[u]):=r.append (.cons q .nil)
theorem fj{X:Cx}{M:ge (zn×Obj)}{σ:St}{H:Hp}{a:zm}{K:ge Str}{scope:zB}{fr:ge (on Nat)}{fp:ge zn}{Z elt tg:zq}{a2:ge zq}{pos:Pos}{g:TG}{te:TE}{tc:TT}{it:zn}{tn:Nat->zo->Prop}{J:It}
     {b9:ge V->Hp->Prop} {RR:zk->Env->Result->zm->Prop} {x1:XK}
    (S:CompScope X.N K scope X.env.scope fr) (hc:X.calm=true)
    (hg:∀C j a F fp,PG (o7 X scope K C j a F fp x1) tg g) (ht:∀C j a F fp,PTs (o7 X scope K C j a F fp x1) a2 tc) (he:∀C j a F fp,PE (o7 X scope K C j a F fp x1) elt te)
    (I:Inv X M σ H a) (T:Turn X.prog X.w X.K tg J fp it tn) (st:tn 0 a.heap) (f:∀b∈fp,FpOk X M H b) (h:bu J g tc te b9 (inner fr σ) H)
    (hX:∀j (C:Nat) e A,C=a.heap.objs.size+1->(o7 X scope K C j a H fp x1).xe e A->notedBy (model X.prog X.w) X.A (compEnvC scope j C X.env) (λ e A=>RR (.ref a.heap.objs.size) (compEnvC scope j C X.env) (.error e) A) e A)
    (c3:∀D C j H' A m P,Inv X M σ (upd H' D (.lst P)) A->H' D=none->A.heap.Ns C m->upd H' D (.lst P) C=none->C≠X.env.locals->X.s₀.heap.objs.size<=C->(∀x c,X.env.cells.lookup x=some c->c≠C)->(∀p∈X.pn++M,p.1≠C)->b9 P H'->RR (.ref D) (compEnvC scope j C X.env) (.ok .next) A) :
    wpAny (model X.prog X.w) X.A (newList []) (λ b7 a7=>wpAny (model X.prog X.w) X.A (newFunctionEnv scope X.env.globals (n7 X.env.cells scope.names []) [] X.env.qual none .none (some X.env)) (λ a0 a6=>
      codeAny (model X.prog X.w) X.A (.compStart (.ListComp elt [⟨tg,Z,a2,0⟩] scope pos) 0 (.ref it) b7 {a0 with scope:=relabel scope X.env}) (RR b7 {a0 with scope:=relabel scope X.env}) a6) E a7) E a:=by
  have ho:∀b∈fp,b<a.heap.objs.size:=λ b w=>by obtain⟨o,e,_⟩:=T.obj _ _ st b w;exact i5 e
  refine wpAny_newObj_type (pg ?_);have a9:(a.heap.push C9).objs.size=a.heap.objs.size+1:=Heap.size_push ..;obtain⟨I4,b5,keep⟩:=pi (x1:=x1) (C:=a.heap.objs.size+1) S I f ho rfl rfl;show codeAny _ _ (.compStart _ 0 (.ref it) (.ref a.heap.objs.size) (compEnvC scope (cellsFrom ((a.heap.push C9).objs.size+1) scope.names (n7 X.env.cells scope.names [])) (a.heap.push C9).objs.size X.env)) (RR (.ref a.heap.objs.size) (compEnvC scope (cellsFrom ((a.heap.push C9).objs.size+1) scope.names (n7 X.env.cells scope.names [])) (a.heap.push C9).objs.size X.env)) {a with heap:=pushCells ((a.heap.push C9).push T6) scope.names};rw[a9];have a4:=λ j e A=>hX j _ e A rfl
  clear hX
  generalize b3:a.heap.objs.size=D at *;generalize cellsFrom (D+1+1) scope.names (n7 X.env.cells scope.names [])=j at *;generalize pushCells ((a.heap.push C9).push T6) scope.names=h4 at *;have a3:∀{B:ge (zn×Obj)} {H':Hp},(∀b∈fp,H' b=none)->(∀p∈B,p.1=D)->∀b∈fp,FpOk (o7 X scope K (D+1) j a H fp x1) B H' b:=λ {B H'} hn O b w=>
    ⟨hn b w,(I4.ok.exf b w).1,I4.ok.exfs b w,.inl w,(I4.ok.exf b w).2,λ p R z=>by
      have R:p∈([]:ge (zn×Obj))++B:=R;rw[List.nil_append]at R;have:=ho b w;rw[←z,O p R]at this;exact Nat.lt_irrefl _ this⟩
  obtain⟨W,⟨m0,w0⟩,turn⟩:=h;have b4:D≠(o7 X scope K (D+1) j a H fp x1).env.locals:=by show D≠D+1;omega
  have U:∀x c,(o7 X scope K (D+1) j a H fp x1).env.cells.lookup x=some c->c≠D:=λ x c e z=>by
    obtain⟨v,o,c0,hd⟩:=I4.cell x c e;have q:h4.get? D=some o:=by rw[←z];exact c0
    rw[b5]at q;cases q;cases hd
  have b2:D∉(o7 X scope K (D+1) j a H fp x1).fs:=λ z=>by
    obtain⟨_,o,c1,_⟩:=I4.ok.funs.mem z
    have:=i5 c1;have e:a.heap.objs.size=D:=b3;exact absurd this (by show ¬D<a.heap.objs.size;omega)
  have Y:codeAny (model X.prog X.w) X.A (.compLoop (.ListComp elt [⟨tg,Z,a2,0⟩] scope pos) 0 (.ref it) (.ref D) (compEnvC scope j (D+1) X.env)) (RR (.ref D) (compEnvC scope j (D+1) X.env)) {a with heap:=h4}:=by
    refine ph (λ n A=>∃i P l k a5 H',Inv (o7 X scope K (D+1) j a H fp x1) [] a5 H' A/\tn i A.heap/\(∀b∈fp,H' b=none)/\H' D=none /\
      A.heap.get? D=some {cls:=.type "list",data:=.seq (l:ge zk).toArray k} /\ Vals P l/\P.length<=sizeLine/\W i n P a5 H') ?_ m0
      ⟨0,[],[],_,_,H,I4,T.keep _ _ _ st λ b _ o e=>keep b o e,λ b w=>(f b w).1,I.hok.fresh (by omega),b5,.nil,Nat.zero_le _,w0⟩
    rintro n s3 ⟨i,P,l,k,σ3,H3,I3,st3,fr3,hD3,oD3,rv,hl,w3⟩
    have b8:Inv (o7 X scope K (D+1) j a H fp x1) [(D,{cls:=.type "list",data:=.seq l.toArray k})] σ3 H3 s3:=I3.pins_of λ p O=>by
      have e:p=(D,{cls:=.type "list",data:=.seq l.toArray k}):=by simpa using O
      subst e;exact⟨oD3,hD3,b4,b2,λ v z=>by cases z⟩
    have Q:∀p∈[((D:zn),({cls:=.type "list",data:=.seq l.toArray k}:Obj))],p.1=D:=λ p O=>by
      have e:p=(D,{cls:=.type "list",data:=.seq l.toArray k}):=by simpa using O
      subst e;rfl
    rcases turn i n P σ3 H3 w3 with⟨a8,c7⟩ | ⟨go,hlt,step⟩
    · refine thn (T.done (o7 X scope K (D+1) j a H fp x1) rfl rfl rfl hc i _ s3 σ3 H3 _ b8 (a3 fr3 Q) st3 a8) λ r s4 ⟨hr,L⟩=>?_
      subst hr;have oD:=(L.pin (D,_) (v9 _ i9)).1;have un:Un (frs X.stack) fp H H3 a.heap s4.heap:=L.base;have hn:a.heap.get? D=none:=Heap.get?_none_of_le (by rw[b3];exact i7 _);obtain⟨mC,c2,_⟩:=L.loc;refine c3 D (D+1) j H3 s4 mC P (I.call' L.os (un.track hD3 hn) (L.hok.track hD3 ⟨hl,l,k,rv,oD⟩) L.bare λ b w=>?_) hD3 c2 ?_ ?_ ?_ (λ x c e=>?_) (λ p O=>?_) c7
      · obtain⟨_,f1,f2,f3,f4,f5⟩:=f b w
        exact⟨f3,f1,f4,f5⟩
      · rw[j4 (show @Ne Nat (D+1) D by omega)];exact L.free
      · have q:@LT.lt Nat _ X.env.locals a.heap.objs.size:=I.lt
        show @Ne Nat (D+1) X.env.locals;omega
      · have q:@LE.le Nat _ X.s₀.heap.objs.size a.heap.objs.size:=I.sz
        show @LE.le Nat _ X.s₀.heap.objs.size (D+1);omega
      · obtain⟨v,z⟩:=I.cell x c e
        have q:@LT.lt Nat _ c a.heap.objs.size:=z.lt;show @Ne Nat c (D+1);omega
      · have q:@LT.lt Nat _ p.1 a.heap.objs.size:=i5 (I.pin p O).1
        show @Ne Nat p.1 (D+1);omega
    · refine thn (T.item (o7 X scope K (D+1) j a H fp x1) rfl rfl rfl hc i _ s3 σ3 H3 _ b8 (a3 fr3 Q) st3 go) λ r s4 ⟨u,hr,c5⟩=>?_
      subst hr;refine thn c5 λ _ s5 ⟨x,H5,I5,r5,y5,a1,c6⟩=>?_
      have c8:=I5.pinned (a3 c6 Q) (T.obj _ _ a1);refine wpAny_mono (hg (D+1) j a H fp _ s5 σ3 H5 x u _ c8 r5 (step x H5 y5)) (λ _ s6 ⟨N,H6,I6,q6⟩=>?_) λ e' s9 z=>a4 j e' s9 z;refine wpAny_mono (ht (D+1) j a H fp _ s6 N H6 _ I6 q6) (λ b s7 ⟨H7,I7,q7⟩=>?_) λ e' s9 z=>a4 j e' s9 z;have b6:∀{H':Hp} {A:zm},Inv (o7 X scope K (D+1) j a H fp x1) ([(D,{cls:=.type "list",data:=.seq l.toArray k})]++Y1 fp s5.heap) N H' A->tn (i+1) A.heap/\(∀b∈fp,H' b=none)/\A.heap.get? D=some {cls:=.type "list",data:=.seq l.toArray k} /\ H' D=none:=λ {H' A} J'=>by
        refine⟨T.keep _ _ _ a1 λ b w o e=>(J'.pin (b,o) (v9 _ (v9 _ (N7 w e)))).1,λ b w=>?_,?_,?_⟩
        · obtain⟨o,e,d⟩:=T.obj _ _ a1 b w
          exact(J'.pin (b,o) (v9 _ (v9 _ (N7 w e)))).2.1
        · exact(J'.pin (D,_) (v9 _ (w4 _ i9))).1
        · exact(J'.pin (D,_) (v9 _ (w4 _ i9))).2.1
      cases b with
      | false=>
        rw[d9 y8]at q7 ⊢;obtain⟨m',hm,w7⟩:=q7;obtain⟨k1,k2,k3,k4⟩:=b6 I7;exact⟨m',hm,i+1,P,l,k,N,H7,I7.pins_of (λ p O=>(nomatch O)),k1,k2,k4,k3,rv,hl,w7⟩
      | true=>
        rw[d6 rfl]at q7 ⊢;refine wpAny_mono (he (D+1) j a H fp _ s7 N H7 _ I7 q7) (λ y s8 ⟨v8,H8,I8,r8,q8⟩=>?_) λ e' s9 z=>a4 j e' s9 z
        obtain⟨m',hm,w8⟩:=q8;obtain⟨k1,k2,k3,k4⟩:=b6 I8;have b1:l.length<=sizeLine:=by rw[←rv.length];exact hl
        refine append_at k3 (λ h9 b0 c4=>?_) (by rw[p7];exact b1);have I9:Inv (o7 X scope K (D+1) j a H fp x1) [] N H8 s8:=I8.pins_of λ p O=>(nomatch O);refine⟨m',hm,i+1,P++[v8],l++[y],k+1,N,H8,I9.turned (it:=D) (t':=s8.toks) (λ b o w e=>(b0.2 b w).trans e) k4 b4 (.inr (by show a.heap.objs.size<=D;omega)) U (λ p O=>(nomatch O)),?_,k2,k4,?_,rv.snoc r8,?_,w8⟩
        · exact T.keep _ _ _ k1 λ b w o e=>(b0.2 b (by have q:@LT.lt Nat _ b D:=ho b w;show @Ne Nat b D;omega)).trans e
        · rw[c4,List.push_toArray]
        · rw[v0,List.length_singleton];omega
  exact codeAny_compStart_list Y (T.self X.A 0 _ _ _ (T.keep _ _ _ st λ b _ o e=>keep b o e) Y)
def po(M:Model)(A:zw)(E:zk->zm->Prop)(use:on (zk->Sem Unit))(Q:zk->zm->Prop)(acc:zk)(cenv:Env)(r:Result)(s':zm):Prop:=
 match r,use with
 | .ok _,none=>∃m,s'.heap.Ns cenv.locals m/\∀h',Heap.SameBut cenv.locals s'.heap h'->Q acc {s' with heap:=h'}
 | .ok _,some u=>wpAny M A (u acc) (λ _ s''=>∃m,s''.heap.Ns cenv.locals m/\∀h',Heap.SameBut cenv.locals s''.heap h'->Q .none {s'' with heap:=h'}) E s'
 | .error x,_=>∃m,s'.heap.Ns cenv.locals m/\∀h',Heap.SameBut cenv.locals s'.heap h'->wpAny M A (passOn bt x cenv:Sem zk) (λ _ _=>False) E {s' with heap:=h'}
theorem fq
     (hcl:clausesOf e=g::gs) (hs:∀x,foldedSetIterable g.iter env x=pure x) (hclos:closureFor scope env=pure cl)
    (hkind:scope.kind=.function) (hnames:∀x∈scope.names,x.2=NameKind.local->scope.names.lookup x.1=some NameKind.local)
    (h:wpAny M A fst1 (λ x s₁=>wpAny M A (pyIter x) (λ it s₂=>wpAny M A newAcc (λ acc s₃=>
      wpAny M A (newFunctionEnv scope env.globals cl [] env.qual none .none (some env)) (λ cenv s₄=>
        codeAny M A (.compStart e 0 it acc {cenv with scope:=relabel scope env}) (po M A E use Q acc {cenv with scope:=relabel scope env}) s₄) E s₃) E s₂) E s₁) E s) :
    wpAny M A (comprehension e scope env pos newAcc false fst1 use) Q E s:=by
  unfold comprehension;rw[hclos,hcl];refine d4 (wpAny_mono h (λ x s₁ h₁=>d4 (wpAny_standAt (d4 (wpAny_of_eq (hs x) (d4 (wpAny_holding (wpAny_mono h₁ (λ it s₂ h₂=>
    wpAny_standIf (d4 (wpAny_mono h₂ (λ acc s₃ h₃=>d4 (d7 (d4 (wpAny_mono h₃ (λ cenv s₄ h₄=>?_) λ _ _ z=>z)))) λ _ _ z=>z)))
      λ _ _ z=>z))))))) λ _ _ z=>z)
  dsimp only;have rel:∀{l:ge (Str×NameKind)},(∀x∈l,x∈scope.names)->∀x∈l,x.2=NameKind.local->Env.kindOf {cenv with scope:=relabel scope env} x.1=some NameKind.local:=λ hl x hx hq=>lookup_relabel_local (hnames x (hl x hx) hq)
  have in0:∀x∈(scope.names.filter λ x=>(x.2==NameKind.local||x.2==NameKind.cell)&&x.1 != (".0" : Str)).reverse,x∈scope.names:=λ x hx=>(j6.mp (List.mem_reverse.mp hx)).1;have hv:=rel in0;have hv':=rel (l:=(scope.names.filter λ x=>(x.2==NameKind.local||x.2==NameKind.cell)&&x.1 != (".0" : Str)).reverse.drop 1++(scope.names.filter λ x=>(x.2==NameKind.local||x.2==NameKind.cell)&&x.1 != (".0" : Str)).reverse.take 1) λ x hx=>
    (List.mem_append.mp hx).elim (λ z=>in0 x (List.mem_of_mem_drop z)) λ z=>in0 x (List.mem_of_mem_take z)
  refine wpAny_holding (d4 (wpAny_attempt (wpAny_holding (wpAny_run (codeAny_mono h₄ λ r s' hr=>?_)))));cases r with
  | ok f=>
    cases use with
    | none=>
      obtain⟨m,hn,hr⟩:=hr;exact d4 (wpAny_holding (wpAny_comp_letGo (cenv:={cenv with scope:=relabel scope env}) hkind _ s' m hv hn λ h' m' _ hs'=>d7 (hr h' hs')))
    | some u=>
      refine d4 (wpAny_rule (d4 (wpAny_holding (wpAny_mono hr (λ _ s'' ⟨m,hn,hr'⟩=>?_) λ _ _ z=>z))));exact d4 (wpAny_comp_letGo (cenv:={cenv with scope:=relabel scope env}) hkind _ s'' m hv' hn λ h' m' _ hs'=>d7 (hr' h' hs'))
  | error x=>
    have hr':∃m,s'.heap.Ns cenv.locals m/\∀h',Heap.SameBut cenv.locals s'.heap h'->wpAny M A (passOn bt x {cenv with scope:=relabel scope env}:Sem zk) (λ _ _=>False) E {s' with heap:=h'}:=by cases use<;>exact hr
    obtain⟨m,hn,hr⟩:=hr';exact d4 (wpAny_holding (wpAny_comp_letGo (cenv:={cenv with scope:=relabel scope env}) hkind _ s' m hv hn λ h' m' _ hs'=>wpAny_mono (hr h' hs') (λ _ _ f=>f.elim) λ _ _ y=>y))
def bv(fr:ge (on Nat))(wi:TI)(g:TG)(tc:TT)(te:TE):TE:=λ σ H Q=>wi σ H λ J H1=>bu J g tc te (λ ys H'=>∀p,H' p=none->Q (.ref p) (upd H' p (.lst ys))) (inner fr σ) H1
theorem pq{U:XK->TE}(S:CompScope X.N u scope X.env.scope fr)(hc:X.calm=true)(Z:Y7 X E)(hi:PI X tg i wi)
  (hg:∀C a c d f p,PG (o7 X scope u C a c d f p) tg g) (ht:∀C a c d f p,PTs (o7 X scope u C a c d f p) r W) (he:∀C a c d f p,PE (o7 X scope u C a c d f p) elt (U p))
  (hs:∀x,foldedSetIterable i X.env x=pure x:=by intro _;rfl):PE X (.ListComp elt [⟨tg,i,r,0⟩] scope pos) (λ k=>bv fr wi g W (U (E k)) k):=by
 intro l s k H Q I h;rw[eval_ListComp];refine fq rfl hs (bn (λ y hy hk=>I.ok.has y.1 (S.out y hy hk))) S.kind (λ x Z hl=>L5 S.snd (by grind)) (thn (hi l s k H _ I h) λ v s1 h1=>thn h1 λ itv s2 h2=>?_);obtain⟨it,f,tn,J,H2,e,I2,T,B,f2,w⟩:=h2;subst e;refine fj S hc (λ C a c d f=>hg C a c d f (E k)) (λ C a c d f=>ht C a c d f (E k)) (λ C a c d f=>he C a c d f (E k)) I2 T B f2 w (λ a C e Y hC z=>?_) ?_
 ·refine wpAny_mono (Z scope u a C l k H2 s2 f e Y I2 f2 hC z) (λ _ F ⟨m,n,q⟩=>⟨m,n,λ A j=>q A j _ rfl rfl⟩) λ e' F ⟨m,n,q⟩=>⟨m,n,λ A j=>q A j _ rfl rfl⟩
 intro D C a H' Y m ys I' hD K N P L O M R;exact⟨m,K,λ A j=>⟨.ref D,_,I'.turned (λ b o hb e=>(j.2 b hb).trans e) N P (.inr L) O M,rfl,R D hD⟩⟩
theorem pu{te:XK->TE}(S:CompScope X.N M scope X.env.scope fr)(hc:X.calm=true)(hx:Y7 X E)(hN:X.N.Nodup)(Y:X.N[i]? = some y)
  (N:X.env.scope.names.lookup y=some .local) (hi:PI X tg j wi)
  (hg:∀C c d f k F,PG (o7 X scope M C c d f k F) tg g) (ht:∀C c d f k F,PTs (o7 X scope M C c d f k F) B tc) (he:∀C c d f k F,PE (o7 X scope M C c d f k F) elt (te F))
  (R:swapsWith (.ListComp elt [⟨tg,j,B,0⟩] scope pos) (some (.Name y py)) r.line X.env=pure true:=by rfl)
  (hs:∀x,foldedSetIterable j X.env x=pure x:=by intro _;rfl):PS X (.Assign [.Name y py] (.ListComp elt [⟨tg,j,B,0⟩] scope pos) r) (tAsg (λ p=>bv fr wi g tc (te (E p)) p) (S4 i)):=by
 intro u s p H Dn I h;rw[exec_Assign_Name_used _ _ _ _ R];refine d4 (wpAny_standAt (d4 ?_));show wpAny _ _ _ _ _ s;refine d4 (wpAny_mono (fq rfl hs (bn (λ y N hk=>I.ok.has y.1 (S.out y N hk))) S.kind (λ x hx hl=>L5 S.snd (by grind))
  (thn (hi u s p H _ I h) λ v s1 h1=>thn h1 λ itv s2 h2=>?_)) (λ _ Q hq=>d7 (d7 hq)) λ _ _ e=>e)
 obtain⟨it,k,tn,J,H2,e,I2,T,P,f2,w⟩:=h2;subst e;refine fj S hc (λ C c d f k=>hg C c d f k (E p)) (λ C c d f k=>ht C c d f k (E p)) (λ C c d f k=>he C c d f k (E p)) I2 T P f2 w (λ c C e Q hC z=>?_) ?_
 ·refine wpAny_mono (hx scope M c C u p H2 s2 k e Q I2 f2 hC z) (λ _ A ⟨m,n,q⟩=>⟨m,n,λ O l=>q O l _ rfl rfl⟩) λ e' A ⟨m,n,q⟩=>⟨m,n,λ O l=>q O l _ rfl rfl⟩
 intro D C c H' Q m ys I' hD W a1 L Z K a0 a2;refine wpAny_assign_Name (dY (v:=.ref D) I' hN Y (Or.inl N) rfl (λ A a3 ⟨a,U,ha⟩=>⟨m,W.sameBut U ?_,λ O l=>⟨_,_,a3.turned (λ b o hb e=>(l.2 b hb).trans e) a1 L (.inr Z) K a0,a2 D hD⟩⟩) (.inr N));rcases ha with z | z
 ·rw[z];exact L
 ·exact Ne.symm (K y a z)
theorem Un.flown{fs ex:ge zn}{H H':Hp}{h0 h1 h2 B:zo}(u:Un fs ex H H' h0 h1)(cov:∀b o,h0.get? b=some o->b∉fs->b∉ex->∃o',B.get? b=some o')(s1:∀b o,B.get? b=some o->h1.get? b=some o)(s2:∀b o,B.get? b=some o->h2.get? b=some o)
  (up:h1.UpToSlots h2) (fd:∀b∈fs,b∉ex/\H b=none/\∀o,h0.get? b=some o->∀vs,o.data ≠ .fields vs):Un fs ex H H' h0 h2:=by
 have keep:∀b o,h0.get? b=some o->H b=none->b∉fs->b∉ex->h2.get? b=some o:=λ b o e n hb hx=>by have e1:=u.keep b o e n hb hx;obtain⟨o',q⟩:=cov b o e hb hx;have q1:=s1 b o' q;rw[e1]at q1;cases q1;exact s2 b o q
 have slot:∀b o,h0.get? b=some o->H b=none->b∈fs->b∉ex->∃sl,h2.get? b=some {o with slots:=sl}:=λ b o e n hb hx=>by obtain⟨sl,e1⟩:=u.slot b o e n hb hx;obtain⟨sl',e2⟩:=up b _ e1 ((fd b hb).2.2 o e);exact⟨sl',e2⟩
 refine⟨keep,slot,u.free,λ b o e hx=>?_,u.tups,u.frzs,u.tbls⟩;by_cases hb:b∈fs
 ·obtain⟨sl,q⟩:=slot b o e (fd b hb).2.1 hb hx;exact⟨_,q⟩
 ·obtain⟨o',q⟩:=cov b o e hb hx;exact⟨o',s2 b o' q⟩
section
theorem Inv.frameData(I:Inv X pins σ H s):∀b∈X.fs,b∉X.ex/\X.H₀ b=none/\∀o,X.s₀.heap.get? b=some o->∀f,o.data ≠ .fields f:=λ b a=>by
 refine⟨λ z=>I.ok.exfs b z a,I.ok.frf.1 b a,λ o e=>?_⟩;obtain⟨_,o',c,d⟩:=I.ok.funs.mem a
 rw[e]at c;cases c;exact d
theorem Inv.notStk(I:Inv X pins σ H s)(e:X.s₀.heap.get? b=some o)(a:b∉X.fs):b∉frs X.stack:=λ z=>by
 rcases e8.mp (I.stkSub b z)with q | q
 ·exact absurd (p6 (i5 e) I.ok.above) (by grind)
 ·exact a q
theorem Inv.flown(I:Inv X pins σ H s)(F:Fly X.prog X.w X.base l O C H B s.heap)(cov:∀b o,X.s₀.heap.get? b=some o->b∉frs X.stack->b∉X.ex->∃f,B.get? b=some f)
  (A:∀p∈X.pn++pins,∃f,B.get? p.1=some f) (st:∀b o,B.get? b=some o->g.get? b=some o) (h:s.heap.UpToSlots g):Inv X pins σ H {s with heap:=g,toks:=t'}:=by
 have a:∀c v,s.heap.IsCell c v->g.IsCell c v:=λ c v ⟨o,K,y⟩=>by obtain⟨sl,q⟩:=h c o K (λ vs z=>by rw[y]at z;cases z);exact⟨_,q,y⟩
 refine⟨I.ok,I.os,I.bare,I.base.flown (λ b o e N J=>cov b o e (I.notStk e N) J) F.stays st h I.frameData,?_,λ x c e=>?_,I.free,I.freeC,λ p w=>?_,F.hok.kept st,I.len⟩
 ·obtain⟨m,L,M⟩:=I.loc;refine⟨m,h.ns L,λ i x v R Q P=>?_⟩;obtain⟨u,r,l⟩:=M i x v R Q P;refine⟨u,r,?_⟩;rcases l with l | ⟨k,c,e,z⟩
  ·exact .inl l
  ·exact .inr ⟨k,c,e,a c _ z⟩
 ·obtain⟨v,z⟩:=I.cell x c e;exact⟨v,a c v z⟩
 ·obtain⟨e,n,ne,E,d⟩:=I.pin p w;obtain⟨f,q⟩:=A p w;have j:=F.stays _ _ q;rw[e]at j;cases j;exact⟨st _ _ q,n,ne,E,d⟩
end
section
variable {P:zu} {w:zt} {K:zA} {mg:Str->on zk} {base:zo} {N:ge Str} {qual:Str} {scope:zB} {f:zn} {cd:zk} {A:zw} {outer:ge Env} {s:zm} {H:Hp} {E:XK}
abbrev cxD(P:zu)(w:zt)(K:zA)(mg:Str->on zk)(base:zo)(N:ge Str)(qual:Str)(scope:zB)(f:zn)(cd:zk)(A:zw)(outer:ge Env)(s:zm)(H:Hp)(E:XK):Cx:=
 cxOf (CXx P w base) P w K mg base N qual scope f cd A outer s H E
theorem pv(I:Inv (cxD P w K mg base N qual scope f cd A outer s H E) j σ p s1)(v:Heap.MadeExcOf s1.heap x n C vs)(O:E C none p) :
  (cxD P w K mg base N qual scope f cd A outer s H E).xe (.ref n) {s1 with heap:=x}:=by
 have c:=I.stack;have l:∀b o,(PySem.W.hideAll s1.heap (frs (cxD P w K mg base N qual scope f cd A outer s H E).stack)).get? b=some o->s1.heap.get? b=some o:=λ b o q=>PySem.W.of_hideAll _ q;have k:∀b u,p b≠none->s1.heap.get? b=some u->(PySem.W.hideAll s1.heap (frs (cxD P w K mg base N qual scope f cd A outer s H E).stack)).get? b=some u:=λ b u g q=>PySem.W.hideAll_get _ q λ z=>g (I.stkFree b z);refine wpAny_mono ((fe _ _).any (wpAny_leaves_madeW (Q:=λ _ B=>∃i t,B = {s1 with heap:=i} /\ Heap.FlyingW (PySem.W.hideAll s1.heap (frs (cxD P w K mg base N qual scope f cd A outer s H E).stack)) outer n C (.ref t) i/\x.UpToSlots i) (E:=λ _ _=>False) (h:=s1.heap) I.ok.frames rfl l (PySem.W.funFrames_hide c (λ y L b g=>List.mem_filterMap.mpr ⟨y,L,g⟩)) v λ i t m tup nt r=>⟨i,t,rfl,m,r⟩)) (λ _ B ⟨⟨i,t,S,m,r⟩,st⟩=>?_) (λ _ _ q=>q.1.elim);subst S;have d:∀b o,s.heap.get? b=some o->b∉frs outer->∃J,(PySem.W.hideAll s1.heap (frs (cxD P w K mg base N qual scope f cd A outer s H E).stack)).get? b=some J:=λ b o e g=>by obtain⟨F,R⟩:=I.base.there b o e (by intro z;exact nomatch z);exact⟨F,PySem.W.hideAll_get _ R (I.notStk e g)⟩
 refine⟨n,C,p,_,rfl,I.os,I.bare,I.base.flown (λ b o e g _=>d b o e g) l m.1 ((Heap.UpToSlots.of_keeps v.keeps).trans r) I.frameData,⟨⟨_,m⟩,λ b o e=>?_,λ a o q=>?_,(Ctxd.made v).st st⟩,d,O⟩
 ·refine PySem.W.hideAll_get _ (I.bk b o e) λ z=>?_;have q:base.get? b=none:=(c.mem z).1;rw[q]at e;cases e
 ·refine(I.hok a o q).stay (λ b u M e=>k b u ?_ e) (λ _ z=>z) (λ _ _ z=>z) λ _ _ _ _ _ z=>z;rcases M with z | z
  ·subst z;rw[q];intro z;cases z
  ·rw[z];intro z;cases z
theorem pw(I:Inv (cxD P w K mg base N qual scope f cd A outer s H E) g σ i s1)(F:Fly P w base (cxD P w K mg base N qual scope f cd A outer s H E).stack h C i B s1.heap)
  (cov:∀b o,s.heap.get? b=some o->b∉frs (cxD P w K mg base N qual scope f cd A outer s H E).stack->∃m,B.get? b=some m) (n:E C none i):(cxD P w K mg base N qual scope f cd A outer s H E).xe (.ref h) s1:=by
 obtain⟨u,p⟩:=F.fly;refine wpAny_mono ((fe _ _).any (wpAny_leaves_onW (Q:=λ _ l=>∃d,l = {s1 with heap:=d} /\ Heap.FlyingW B outer h C u d/\s1.heap.UpToSlots d) (E:=λ _ _=>False) I.ok.frames rfl p λ d a j=>⟨d,rfl,a,j⟩)) (λ _ l ⟨⟨d,r,a,j⟩,st⟩=>?_) (λ _ _ q=>q.1.elim);subst r;have c:=λ b o e k=>cov b o e (I.notStk e k)
 exact⟨h,C,i,B,rfl,I.os,I.bare,I.base.flown (λ b o e k _=>c b o e k) F.stays a.1 j I.frameData,⟨⟨_,a⟩,F.bas,F.hok,F.ctx.st st⟩,c,n⟩
theorem pz:aY (CXx P w base) (cxD P w K mg base N qual scope f cd A outer s H E) E:=by
 intro g σ H0 s0 e s' I c;obtain⟨ea,C,H',B,rfl,h,a,un,F,cov,j⟩:=c;refine pw (I.call' h un (F.hok.kept F.stays) a λ b d=>nomatch d) F (λ b o e d=>?_) j;obtain⟨i,k⟩:=I.base.there b o e (by intro z;exact nomatch z);exact cov b i k d
end
noncomputable def excO(ea:zn)(C:zk):HO:=.ext λ h=>∃oe vs,h.get? ea=some oe/\oe.cls=C/\oe.data=.fields vs
theorem pA(x:∃a b,h.get? f=some a/\a.cls=C/\a.data=.fields b):u5 P w H h f (excO f C):=by
 refine⟨x,?_,λ h1 h2 p k=>?_⟩
 ·obtain⟨a,_,e,_⟩:=x;exact⟨a,e⟩
 ·obtain⟨a,b,e,c,d⟩:=p;exact⟨a,b,k a e,c,d⟩
def XP(X:Cx)(pins:ge (zn×Obj))(E:St->zk->Hp->Prop)(e:zk)(s':zm):Prop:=∃(ea:zn) (C:zk) (σ':St) (H':Hp) (B:zo),e=.ref ea/\Inv X pins σ' H' s'/\Fly X.prog X.w X.base X.stack ea C H' B s'.heap /\
 (∀b o,X.s₀.heap.get? b=some o->b∉frs X.stack->b∉X.ex->∃o',B.get? b=some o')/\(∀p∈X.pn++pins,∃o',B.get? p.1=some o')/\E σ' C H'
abbrev Cx.tryIn(X:Cx)(pins:ge (zn×Obj))(E:St->zk->Hp->Prop):Cx:={X with pn:=X.pn++pins,xe:=XP X pins E}
abbrev Cx.inExc(X:Cx)(ea:zn):Cx:={X with A:=X.A.mark (some (.ref ea)),calm:=false,xe:=λ _ _=>False}
section
theorem Cx.Ok.tryIn{X:Cx}(k:X.Ok):(X.tryIn pins E).Ok:=⟨k.mod,k.kind,k.glob,k.blt,k.above,k.inj,k.has,k.cab,k.hd,k.frames,k.stk,k.exf,k.bs,k.bsz,k.noex,k.exfs,k.funs,k.frf⟩
theorem Cx.Ok.untry{X:Cx}(k:(X.tryIn pins E).Ok):X.Ok:=⟨k.mod,k.kind,k.glob,k.blt,k.above,k.inj,k.has,k.cab,k.hd,k.frames,k.stk,k.exf,k.bs,k.bsz,k.noex,k.exfs,k.funs,k.frf⟩
theorem Cx.Ok.inExc{X:Cx}(k:X.Ok):(X.inExc ea).Ok:=⟨k.mod,k.kind,k.glob,k.blt,k.above,k.inj,k.has,k.cab,nofun,k.frames,k.stk,k.exf,k.bs,k.bsz,k.noex,k.exfs,k.funs,k.frf⟩
theorem Inv.tryIn(I:Inv X (a++pins') σ H s):Inv (X.tryIn a E) pins' σ H s:=
 ⟨I.ok.tryIn,I.os,I.bare,I.base,I.loc,I.cell,I.free,I.freeC,λ p b=>I.pin p (by have b:=b;rw[List.append_assoc]at b;exact b),I.hok,I.len⟩
theorem Inv.untry(I:Inv (X.tryIn pins E) pins' σ H s):Inv X (pins++pins') σ H s:=
 ⟨I.ok.untry,I.os,I.bare,I.base,I.loc,I.cell,I.free,I.freeC,λ p hp=>I.pin p (by grind),I.hok,I.len⟩
theorem Inv.inExc(I:Inv X a σ H s):Inv (X.inExc b) a σ H s:=⟨I.ok.inExc,I.os,I.bare,I.base,I.loc,I.cell,I.free,I.freeC,I.pin,I.hok,I.len⟩
theorem Inv.unExc(I:Inv (X.inExc b) a σ H s)(k:X.Ok):Inv X a σ H s:=⟨k,I.os,I.bare,I.base,I.loc,I.cell,I.free,I.freeC,I.pin,I.hok,I.len⟩
theorem Inv.track(I:Inv X pins σ H s)(f:H a=none)(k:X.s₀.heap.get? a=none)(j:a≠X.env.locals)(i:∀x c,X.env.cells.lookup x=some c->c≠a)(h:∀p∈X.pn++pins,p.1≠a)(new:u5 X.prog X.w (upd H a o) s.heap a o) :
  Inv X pins σ (upd H a o) s:=
 ⟨I.ok,I.os,I.bare,I.base.track f k,I.loc,I.cell,by rw[j4 j.symm];exact I.free,λ x c e=>by rw[j4 (i x c e)];exact I.freeC x c e,λ p b=>by
  obtain⟨e,n,ne,g,d⟩:=I.pin p b;exact⟨e,by rwa [j4 (h p b)],ne,g,d⟩,I.hok.track f new,I.len⟩
theorem Y8(I:Inv X pins σ H s)(hN:X.N.Nodup)(L:X.N[i]? = some x)(f:X.env.scope.names.lookup x=some .local)
  (h:∀K,Inv X pins (σ.set i none) H K->Q () K):wpAny M A (do bindName X.env x .none;unbindBehindTheSuite X.env x pos) Q EE s:=by
 obtain⟨m,Z,hl⟩:=id I.loc;have r:(X.env.scope.kind == .class||(X.env.scope.kind == .module&&X.env.locals != X.env.globals))=false:=by rw[I.ok.kind];rfl
 have l:i<σ.length:=by rw[I.len];exact(t6.mp L).1
 have cne:=I.cne;have a:∀{w:zo},Heap.SameBut X.env.locals s.heap w->HOk X.prog X.w H w:=λ {w} hs b S e=>by
  refine(I.hok b S e).stay (λ c J u q=>(hs.2 c ?_).trans q) (λ _ q=>q) (λ _ _ q=>q) λ _ _ _ _ _ q=>q
  rintro rfl
  rcases u with rfl | u
  ·rw[I.free]at e;cases e
  ·rw[I.free]at u;cases u
 refine wpAny_nameGoes_keeps f Z r λ w v C hs=>?_;refine h _ ⟨I.ok,I.os,I.bare,⟨λ b o e n F f=>?_,λ b o e n F f=>?_,I.base.free,λ b o e f=>?_,I.base.tups,I.base.frzs,I.base.tbls⟩,⟨_,C,λ j y N g B e3=>?_⟩,λ y c e=>?_,I.free,I.freeC,λ p Y=>?_,a hs,by simpa using I.len⟩
 ·exact(hs.2 b (j7 (p6 (i5 e) I.ok.above))).trans (I.base.keep b o e n F f)
 ·obtain⟨P,g⟩:=I.base.slot b o e n F f;exact⟨P,(hs.2 b (j7 (p6 (i5 e) I.ok.above))).trans g⟩
 ·obtain⟨U,g⟩:=I.base.there b o e f;exact⟨U,(hs.2 b (j7 (p6 (i5 e) I.ok.above))).trans g⟩
 ·by_cases E:j=i
  ·subst E;rw[A8 l]at B;cases B
  ·rw[i4 (Ne.symm E)]at B;obtain⟨O,R,q⟩:=hl j y N g B e3;refine⟨O,R,?_⟩;rcases q with⟨k,e⟩ | ⟨k,c,e,z⟩
   ·refine .inl ⟨k,?_⟩;have:y≠x:=λ e=>E (X7 hN g (e▸L));simp[this,e]
   ·exact .inr ⟨k,c,e,z.sameBut hs (cne y c e)⟩
 ·obtain⟨J,z⟩:=I.cell y c e;exact⟨J,z.sameBut hs (cne y c e)⟩
 ·obtain⟨e,n,ne,W,d⟩:=I.pin p Y;exact⟨(hs.2 p.1 ne).trans e,n,ne,W,d⟩
end
def O0(CX:CXT)(X:Cx)(E:St->XK):Prop:=∀(pins:ge (zn×Obj)) (σ:St) (H:Hp) (s:zm) (e:zk) (s':zm),Inv X pins σ H s->CX X.stack H s (E σ) e s'->X.xe e s'
theorem aY.s(h:aY b X E):O0 b X λ _=>E:=λ a c H s e d I q=>h a c H s e d I q
theorem pB{X:Cx}:O0 (CXx X.prog X.w X.base) (X.tryIn a E) (λ f C _ H=>E f C H):=by
 intro g f H0 s0 e s' I i;obtain⟨u,C,x,B,rfl,k,c,un,F,cov,r⟩:=i;have w:=I.call' k un (F.hok.kept F.stays) c λ b j=>nomatch j
 have J:=w.untry;refine⟨u,C,f,x,B,rfl,J.pins_of λ p h=>J.pin p (v9 _ (w4 _ h)),F,λ b o e j q=>?_,λ p h=>?_,r⟩
 ·obtain⟨l,v⟩:=I.base.there b o e q;exact cov b l v j
 ·obtain⟨e,n,ne,m,d⟩:=I.pin p (w4 _ h);exact cov p.1 p.2 e λ z=>(e8.mp (I.stkSub _ z)).elim ne m
section
variable {X:Cx} {CX:CXT} {k:Nat} {f C:zn} {fd:zy} {ps:ge Str} {sp:Sp} {dvs:ge V} {ds:ge zk} {E:St->XK} {x m:Str} {p pos apos:Pos} {e o:zq} {es:ge zq} {ta:TE} {t:TA}
theorem pC(F:FnOk X.prog X.w X.K X.mg X.base CX k f fd ps sp)(j:Room k X.A)(n:J2 X.K fd ps ds)(m:Vals dvs ds)(i:O0 CX X E)
  (I:Inv X a σ H s) (r:Vals vs b) (h:sp (vs++dvs) H Q (E σ)):wpAny (model X.prog X.w) X.A (call (.ref f) b) (EP X a σ Q) X.xe s:=by
 have d:=r.append m;have l:(b++ds).length=ps.length:=by rw[←d.length];exact F.len _ _ _ _ h
 refine wpAny_call (codeAny_mono (F.run X.A X.stack s H ⟨b,[]⟩ _ _ Q (E σ) j I.env0 (n s b I.kIn l) d h) λ r g c=>?_);cases r with
 | error e=>exact i a σ H s e g I c
 | ok o=>
  cases o with
  | ret u=>exact I.after c
  | next=>exact False.elim c
  | brk=>exact False.elim c
  | cont=>exact False.elim c
noncomputable def fv(sp:Sp)(dvs:ge V)(E:St->XK)(t:TA):TE:=λ σ H Q=>t σ H λ vs H1=>sp (vs++dvs) H1 Q (E σ)
theorem fw(F:FnOk X.prog X.w X.K X.mg X.base CX k f fd ps sp)(j:Room k X.A)(n:Gl X x)(l:X.mg x=some (.ref f))(m:PySem.W.keepIn X.K (.ref f)=true)(v:J2 X.K fd ps ds)(u:Vals dvs ds)(i:O0 CX X E)
  (w:PA X (e::es) t) (c:(x==("__debug__" : Str))=false:=by decide) (o:starEach (e::es) X.env=(false,eval e X.env)::starEach es X.env:=by rfl) (b:(backTo pos (starEach es X.env)).any (·.1)=false:=by rfl) :
  PE X (.Call (.Name x p) (e::es) [] pos) (fv sp dvs E t):=by
 intro a s g H Q I h;refine wpAny_Call_Name_kw (X9 I n l ?_ c);refine PySem.W.callWith_K I.ok.mod.kin m (thn (w pos a s g H _ I h) λ us s1 ⟨vs,H1,d,r,q⟩=>⟨d.kIn,?_⟩) o b;exact pC F j v u i d r q
end
def tTry(K:zA)(cv:zk)(i:Nat)(tb:(St->zk->Hp->Prop)->TS)(ts:TS):TS:=λ D σ H=>
 tb (λ σ' C H'=>PySem.W.exmOne K C cv=some true/\∀ea,H' ea=none->ts {nx:=λ σ2 H2=>D.nx (σ2.set i none) H2,rt:=D.rt,bk:=λ σ2 H2=>D.bk (σ2.set i none) H2,ct:=λ σ2 H2=>D.ct (σ2.set i none) H2} (σ'.set i (some (.ref ea))) (upd H' ea (excO ea C))) D σ H
theorem pE(a1:X.stack=X.env::X.outer)(b4:X.env.frame=some X.env.locals)(b5:X.ex=[])(b3:Gl X c)(hm:X.mg c=some cv)
  (hN:X.N.Nodup) (hi:X.N[i]? = some n) (Z:X.env.scope.names.lookup n=some .local) (hb:∀a E,PSs (X.tryIn a E) body (tb E)) (hs:∀g,PSs (X.inExc g) (N::r) ts) (hd:(c==("__debug__" : Str))=false:=by decide) :
  PS X (.Try body [.ExceptHandler (some (.Name c np)) (some n) (N::r) a2] [] [] pos) (tTry X.K cv i tb ts):=by
 intro a s σ H D I h;refine wpAny_Try_except ?_;have un:∀{b:St} {k:Hp} {s1:zm} {E:St->zk->Hp->Prop},Inv (X.tryIn a E) [] b k s1->Inv X a b k s1:=λ {b k s1 E} J=>by have q:=J.untry;rw[List.append_nil]at q;exact q
 refine wpAny_mono (hb a _ [] s σ H D (Inv.tryIn (pins':=[]) (by rw[List.append_nil];exact I)) h) (λ f s1 q=>?_) (λ e s1 q=>?_)
 ·cases f with
  | next=>obtain⟨b,k,A,Q⟩:=q;exact wpAny_execs_nil ⟨b,k,un A,Q⟩
  | brk=>obtain⟨b,k,A,Q⟩:=q;exact⟨b,k,un A,Q⟩
  | cont=>obtain⟨b,k,A,Q⟩:=q;exact⟨b,k,un A,Q⟩
  | ret u=>obtain⟨v,b,k,A,r1,Q⟩:=q;exact⟨v,b,k,un A,r1,Q⟩
 ·obtain⟨g,C,b,k,B,rfl,A,F,cov,pc,hE,L⟩:=q;obtain⟨a0,fl⟩:=F.fly;have b6:Heap.FlyingW B (X.env::X.outer) g C a0 s1.heap:=by rw[←a1];exact fl
  refine wpAny_looks_onW (by rw[←a1];exact A.ok.frames) b4 b6 λ h4 a4 b0=>?_;refine wpAny_landsW a4 λ h5 S a9=>?_;have up:=b0.trans a9;have I5:Inv X a b k {s1 with heap:=h5}:=A.flown (t':=s1.toks) F cov pc S.1 up;have J5:Inv (X.inExc g) a b k {s1 with heap:=h5}:=I5.inExc;obtain⟨oe,ws,b2,a3,b7,b8⟩:=S.first
  refine wpAny_handleBy_cons (codeAny_handlers_test ?_) (by intro q;cases q);refine X9 J5 b3 hm ?_ hd;have LT:PySem.W.Looks (model X.prog X.w) h5 (typeOf (.ref g)) C:=a3▸(PySem.W.Looks.ld b2).andThen .now;refine(PySem.W.exm_one (M:=model X.prog X.w) (K:=X.K) (h:=h5) J5.kIn LT hE).here ?_;show codeAny _ _ _ _ _;refine codeAny_handlers_suite_as ?_;refine lands_againW S λ h6 a5 a8=>?_;have I6:Inv X a b k {s1 with heap:=h6}:=A.flown (t':=s1.toks) F cov pc a5.1 (up.trans a8);obtain⟨b1,a7,l,R,j,_⟩:=a5.first
  have hn:k g=none:=F.untr;have h0:X.s₀.heap.get? g=none:=by
   cases q:X.s₀.heap.get? g with
   | none=>rfl
   | some o=>
    exfalso;by_cases hf:g∈frs X.stack
    ·obtain⟨_,o',e',d⟩:=I6.stack.mem hf;have a6:h6.get? g=some o':=e';rw[l]at a6;cases a6;exact d _ j
    ·obtain⟨o',z⟩:=cov g o q hf (by rw[b5];intro z;exact nomatch z);rw[F.newE]at z;cases z
  have hL:g≠X.env.locals:=λ z=>by
   obtain⟨m,⟨o,es,ep,ho,y,_⟩,_⟩:=I6.loc;have w:h6.get? g=some o:=by rw[z];exact ho
   rw[l]at w;cases w;rw[j]at y;cases y
  have hc:∀x c,X.env.cells.lookup x=some c->c≠g:=λ x c e z=>by
   obtain⟨v,o,ho,y⟩:=I6.cell x c e;have w:h6.get? g=some o:=by rw[←z];exact ho
   rw[l]at w;cases w;rw[j]at y;cases y
  have hp:∀p∈X.pn++a,p.1≠g:=λ p hp z=>by obtain⟨o',q⟩:=pc p hp;rw[z,F.newE]at q;cases q
  refine X8 (X:=X.inExc g) (i:=i) (v:=.ref g) ((I6.track hn h0 hL hc hp (pA ⟨b1,a7,l,R,j⟩)).inExc) hN hi (Or.inl Z) rfl (λ s7 I7=>?_) (.inr Z);refine wpAny_mono (hs g a s7 _ _ _ I7 (L g hn)) (λ f s8 q=>?_) λ _ _ z=>z.elim;cases f with
  | next=>obtain⟨O,Y,W,P⟩:=q;exact Y8 (W.unExc I.ok) hN hi Z λ s9 U=>⟨_,Y,U,P⟩
  | brk=>obtain⟨O,Y,W,P⟩:=q;exact Y8 (W.unExc I.ok) hN hi Z λ s9 U=>⟨_,Y,U,P⟩
  | cont=>obtain⟨O,Y,W,P⟩:=q;exact Y8 (W.unExc I.ok) hN hi Z λ s9 U=>⟨_,Y,U,P⟩
  | ret u=>obtain⟨v,O,Y,W,r8,P⟩:=q;exact Y8 (W.unExc I.ok) hN hi Z λ s9 U=>⟨v,_,Y,U,r8,P⟩
theorem pF{K:zA}(X:K.In b)(g:mg x=some (.ref C))(q:PySem.W.excIn K C f a=true):OwnCls x C f a mg b:=by
 refine⟨g,?_⟩;unfold PySem.W.excIn at q;split at q
 ·rename_i F H i A;split at q
  ·rename_i C' I p o m k n j g hs;simp[d8,f7,t5]at q;obtain⟨⟨⟨⟨⟨rfl,rfl⟩,c⟩,z⟩,d⟩,e⟩:=q;obtain⟨w,bs,y,v,u,B,r,sub,J,col,E⟩:=H;dsimp at g c d e;subst g c;have h:i = #[p,o,m,k,some (.builtin n),j]:=by obtain⟨l⟩:=i;simp at hs;rw[hs]
   subst h;exact⟨I,v,w,u,bs,B,r,sub,J,col,F,p,o,m,k,j,_,X _ _ A,.of_isNs (PySem.W.isNs_of_in X d),PySem.W.nsMap_none_of_in X d e,PySem.W.tail_of_in X z⟩
  ·cases q
 ·cases q
def Y9(X:Cx)(E:St->XK):Prop:=∀(pins:ge (zn×Obj)) (σ:St) (H:Hp) (s:zm) (h':zo) (ea:zn) (C:zk) (vs:ge zk),Inv X pins σ H s->Heap.MadeExcOf s.heap h' ea C vs->E σ C none H->X.xe (.ref ea) {s with heap:=h'}
theorem pG{K:zA} :
  Y9 (cxD P w K mg base N b scope f cd A a s H E) λ _=>E:=λ c σ H1 s1 h' ea C vs I d e=>pv I d e
noncomputable def pH(C:zn)(E:St->XK)(t:TA):TS:=λ _ σ H=>t σ H λ vs H1=>vs.length<=sizeLine/\E σ (.ref C) none H1
theorem pI{rest:ge zq}(u:ExcBaseFacts B b c i)(S:X.calm=true)(Q:Gl X x)(p:X.mg x=some (.ref C))(O:PySem.W.excIn X.K C i b=true)
  (W:Y9 X E) (U:PA X (a::rest) t) (R:(x==("__debug__" : Str))=false:=by decide) (r:starEach (a::rest) X.env=(false,eval a X.env)::starEach rest X.env:=by rfl) (k:(backTo cpos (starEach rest X.env)).any (·.1)=false:=by rfl) :
  PS X (.Raise (some (.Call (.Name x np) (a::rest) [] cpos)) none pos) (pH C E t):=by
 intro d s n H D I h;obtain⟨tl,N,z,q,bs,g,w,sub,ab,col,dd,M,L,K,J,F,A,hC,Y,l,T⟩:=(pF I.mod.kin p O).obj;refine wpAny_Raise_call_subT (nm:=z) (q:=q) (N:=N) (bs:=bs) (hdct:=g) (sn:=w) (sub:=sub) (ab:=ab) (col:=col) (dd:=dd) (k0:=M) (k1:=L) (k2:=K) (k3:=J) (k5:=F)
  u (T.hasType u.hasBase) (I.ok.hd S) (by rw[r];show(false||(backTo cpos _).any (·.1))=false;rw[k];rfl) l (X9 I Q p ⟨rfl,?_⟩ R)
 have o:=U cpos d s n H _ I h;rw[r]at o ⊢;exact Calls.evalArgs_plain (thn o λ v f ⟨xs,H2,j,y,P,Z⟩=>⟨rfl,by show v.length<=sizeLine;rw[←y.length];exact P,j.bk _ _ hC,Y.keeps j.bk,T.keeps j.bk,λ h' e m=>W d n H2 f h' e _ _ j m Z⟩)
open PySem.W PySem.Calls PySem.Builtin PySem.Builtin.ObjectAttr PySem.Builtin.Getset_descriptor
def J3(x D:zn)(h:zo):Prop:=∃o,h.get? x=some o/\o.cls=.ref D
section
variable {prog:zu} {w:zt} {K:Frag} {x D:zn} {M:Model} {h:zo}
theorem J3.ty(p:J3 x D h):Looks M h (typeOf (.ref x)) (.ref D):=by
 obtain⟨o,e,c⟩:=p;exact c▸(Looks.ld e).andThen .now
theorem pJ(X:K.In h)(d:findIn K (.ref D) n=some (some a))(c:specialIn K a "__get__" = some (some g))(b:takesIn K a=some true):Looks M h (find (.ref x) (.ref D) n) (.bind g a):=by
 have T:Looks M h (dataDescriptor? (some a) (some g)) _:=(looks_takesIn X b).andThen .now;exact(looks_findIn X d).andThen ((looks_specialIn X c).andThen (T.andThen (Looks.tag .now)))
structure ClsK(K:Frag)(D:Addr):Prop where
 ga:findIn K (.ref D) "__getattribute__" = some (some (.builtin "BaseException.__getattribute__"))
 gt:findIn K (.ref D) "__getattr__" = some none
 mb:mroIn K D (.type "BaseException")=some true
 hd:hasDictIn K D=true
 fc:findIn K (.ref D) "__class__" = some (some (.builtin "object.__class__"))
 sg:specialIn K (.builtin "object.__class__") "__get__" = some (some (.builtin "getset_descriptor.__get__"))
 tk:takesIn K (.builtin "object.__class__")=some true
 mo:mroIn K D (.type "object")=some true
theorem pK(X:K.In s.heap)(p:J3 x D s.heap)(b:mroIn K D (.type "object")=some true)(q:R (.ok (.ret (.ref D))) s) :
  codeAny (model prog w) A (.call (.builtin "getset_descriptor.__get__") ⟨[.builtin "object.__class__",.ref x,a],[]⟩) R s:=by
 obtain⟨h0,g0,d0,t0,o0⟩:=s;have T0:=p.ty (M:=model prog w);have T1:=looks_mroIn (M:=model prog w) X b;refine codeAny_call_builtin KF.slot_gs.plain KF.entry_gs (KF.slot_gs.check _ _ _ _ _ _ _ _ KF.type_class (KF.args_gs _ _ _) ?_);unfold Builtin.«getset_descriptor.__get__»;unfold descrGet;rw[dga_obj];refine d4 (d7 ?_);unfold descrGetter;unfold descrCheckInstance;unfold descrNameAndClass;unfold isInstance;simp only[KF.owner_class]
 repeat lk
 refine⟨Code.quiet_builtin _ (by decide +kernel),codeAny_builtin KF.entry_class ?_⟩;unfold Builtin.«object.__class__»;unfold shownTypeOf
 repeat lk
 exact q
theorem pL(C:ClsK K D)(X:K.In s.heap)(p:J3 x D s.heap)(q:Q () s):wpAny (model prog w) A (checkBuiltinCall "BaseException.__getattribute__" ⟨[.ref x,nm],[]⟩) Q E s:=by
 obtain⟨h0,g0,d0,t0,o0⟩:=s;have b:builtinKind "BaseException.__getattribute__" = some .slot:=by decide +kernel
 have a:splitId "BaseException.__getattribute__" = some ("BaseException","__getattribute__"):=by decide +kernel
 have c:=looks_mroIn (M:=model prog w) X C.mb;have ha:=F.args_bexc_ga (.ref x) nm;simp[checkBuiltinCall,b,a];refine d4 (((p.ty).andThen c).at ?_)
 repeat (any_goals (first | assumption | wp_step))
theorem pM(C:ClsK K D)(X:K.In s.heap)(p:J3 x D s.heap)(q:Q (.done (.ret (.ref D))) s):wpAny (model prog w) A (Builtin.«object.__getattribute__» ⟨[.ref x,.str "__class__" tk],[]⟩) Q E s:=by
 obtain⟨h0,g0,d0,t0,o0⟩:=s;unfold Builtin.«object.__getattribute__»
 repeat (any_goals (first | assumption | with_reducible refine (p.ty).at ?_ | with_reducible refine (pJ X C.fc C.sg C.tk).at ?_ | wp_step))
 refine pK X p C.mo ?_
 repeat (any_goals (first | assumption | wp_step))
theorem pN(C:ClsK K D)(X:K.In s.heap)(p:J3 x D s.heap)(q:Q (some (.ref D)) {s with toks:=s.toks+1}):wpAny (model prog w) A (getAttr? (.ref x) "__class__") Q E s:=by
 obtain⟨h0,g0,d0,t0,o0⟩:=s;have f3:=F.attr_ValueError.ga.bind (.ref x);unfold getAttr?;unfold getAttrBy?;unfold getAttrBy;refine d4 (wpAny_mkText (d4 (wpAny_attempt (wpAny_holding (d4 ((p.ty).at (d4 ((looks_findIn X C.ga).at ?_))))))));dsimp only;have ne:(onTheHeap (Value.ref D)&&Value.builtin "BaseException.__getattribute__" == Value.builtin "object.__getattribute__")=false:=(by rw[show(Value.builtin "BaseException.__getattribute__" == Value.builtin "object.__getattribute__")=false by decide +kernel,Bool.and_false]);rw[d9 (by grind)];unfold getAttrByItsOwn;unfold hookBefore;rw[d6 (show onTheHeap _=true from rfl)];refine d4 ((looks_findIn X C.gt).at ?_);refine d4 (wpAny_attempt (wpAny_holding ?_));unfold callGetattribute;rw[d9 (by decide)]
 repeat (any_goals (first | assumption | wp_step))
 refine codeAny_call_builtin F.attr_ValueError.ga.plain F.entry_bexc_ga (pL C X p (pM C X p ?_));exact handed_on rfl (d7 q)
theorem pO(C:ClsK K D):KitX K (.ref x) (.ref D) (J3 x D) where
 ty:=λ _ _ _ p=>p.ty
 it:=λ M h X _=>by
  obtain⟨i,e,_⟩:=any_some C.hd;unfold clsIn at e;split at e
  ·rename_i a;intro A1 Q1 E1 s1 c b;unfold isType;unfold loadHead;exact d4 (wpAny_loadPart (c _ _ (X _ _ a)) (d7 b))
  ·cases e
 ne:=λ h tp dd d n sl X f=>by
  obtain⟨i,e,_⟩:=any_some C.hd;rw[Bool.eq_false_iff];intro z;have g:=Value.ref.inj (f7.mp z);subst g;unfold clsIn at e;split at e
  ·rename_i a;cases(X _ _ a).symm.trans f
  ·cases e
 ca:=λ X p k=>pN C X p k
theorem pP(C:ClsK K D)(X:K.In s.heap)(p:J3 x D s.heap)(e:kitOne K (.ref D) c=some b)(q:∀a,Q (.bool b) {s with toks:=a}):wpAny (model prog w) A (call (.builtin "isinstance") [.ref x,c]) Q E s:=
 kia_one (pO C) X p e nofun q
end
structure Src(P:Program)(w:World)(ia la:Addr)(vs:Array Value)(S:Nat->Heap->Prop):Prop where
 keep:∀k h h',S k h->(∀o,h.get? ia=some o->h'.get? ia=some o)->(∀o,h.get? la=some o->h'.get? la=some o)->S k h'
 there:∀k h,S k h->∃o xs,h.get? ia=some o/\o.data=.fields xs
 step:∀{A:Around} {E:Value->Shared->Prop} {s:Shared} {Q:Value->Shared->Prop} (k:Nat) (x:Value),S k s.heap->vs[k]? = some x->(∀h',S (k+1) h'->Heap.SameBut ia s.heap h'->Q x {s with heap:=h'}) ->
  wpAny (model P w) A (Builtin.SmallTypes.nextOf (.ref ia)) Q E s
 stop:∀{A:Around} {E:Value->Shared->Prop} {s:Shared} {Q:Value->Shared->Prop} (k:Nat),A.handled=none->S k s.heap->vs[k]? = none ->
  (∀h' e,Heap.ExtBut ia s.heap h'->(∃o,h'.get? e=some o/\o.cls=.type "StopIteration")->E (.ref e) {s with heap:=h'})->wpAny (model P w) A (Builtin.SmallTypes.nextOf (.ref ia)) Q E s
noncomputable def sL(ia la:zn)(vs:zr zk):Nat->zo->Prop:=λ k h=>h.IsListIter ia la k/\h.IsList la vs
noncomputable def sT(ia la:zn)(vs:zr zk):Nat->zo->Prop:=λ k h=>h.IsTupleIter ia la k/\h.IsTuple la vs
theorem pQ(ne:a≠b):Src P w b a vs (sL b a vs) where
 keep:=λ k h i ⟨p,q⟩ n m=>⟨p.at n,q.at m⟩
 there:=λ k h ⟨p,q⟩=>by obtain⟨o,e,_,d⟩:=p;exact⟨o,_,e,d⟩
 step:=λ k x ⟨p,q⟩ c f=>wpAny_nextOf_list_item p q c λ i j g=>f i ⟨j,q.extBut g.extBut ne⟩ g
 stop:=λ k l ⟨p,q⟩ c f=>wpAny_nextOf_list_end l p q c f
section
theorem pR(p:s.heap.IsTupleIter b a k)(q:s.heap.IsTuple a vs)(f:vs[k]? = some x)(g:∀e,e.IsTupleIter b a (k+1)->Heap.SameBut b s.heap e->Q x {s with heap:=e}) :
  wpAny (model P w) A (Builtin.SmallTypes.nextOf (.ref b)) Q E s:=by
 obtain⟨ob,d,j,c⟩:=id p;obtain⟨ot,i,_,nn,h⟩:=q;unfold Builtin.SmallTypes.nextOf;refine d4 (wpAny_callSpecial?_slot p.typeIs F.slot_tuple_iterator_next (wpAny_call_entry F.slot_tuple_iterator_next p.typeIs F.entry_tuple_iterator_next ?_ (F.args_tuple_iterator_next_1 _)));show wpAny _ _ (field (.ref b) 0 >>= _) _ _ s;refine d4 (wpAny_field d c (x:=.ref a) rfl ?_);show wpAny _ _ _ _ _ s;rw[d9 (show ¬((Value.ref a==Value.none)=true)from y8)];show wpAny _ _ (field (.ref b) 1 >>= _) _ _ s;refine d4 (wpAny_field d c (x:=.int k 0) rfl ?_);show wpAny _ _ (seqItems? (.ref a) >>= _) _ _ s;refine d4 (wpAny_seqItems i h ?_);simp only[z0,f];refine d4 (wpAny_setField d c (by simp) (d7 ⟨x,rfl,d7 (g _ ?_ (Heap.SameBut.update ..))⟩));exact⟨_,Heap.get?_update_self _ d (Obj.isFreed_of_fields (Obj.data_mapFields c _)),(Obj.cls_mapFields ..).trans j,by rw[Obj.data_mapFields c];simp[rawInt]⟩
theorem pS(g:A.handled=none)(p:s.heap.IsTupleIter b a k)(q:s.heap.IsTuple a vs)(h:vs[k]? = none)(i:∀c e,Heap.ExtBut b s.heap c->(∃o,c.get? e=some o/\o.cls=.type "StopIteration")->E (.ref e) {s with heap:=c}) :
  wpAny (model P w) A (Builtin.SmallTypes.nextOf (.ref b)) Q E s:=by
 obtain⟨ob,f,e2,d⟩:=id p;obtain⟨ot,l,_,nn,j⟩:=q;unfold Builtin.SmallTypes.nextOf;refine d4 (wpAny_callSpecial?_slot p.typeIs F.slot_tuple_iterator_next (wpAny_call_entry F.slot_tuple_iterator_next p.typeIs F.entry_tuple_iterator_next ?_ (F.args_tuple_iterator_next_1 _)));show wpAny _ _ (field _ 0 >>= _) _ _ s;refine d4 (wpAny_field f d (x:=.ref a) rfl ?_);show wpAny _ _ _ _ _ s;rw[d9 (show ¬((Value.ref a==Value.none)=true)from y8)];show wpAny _ _ _ _ _ s;refine d4 (wpAny_field f d rfl ?_);show wpAny _ _ _ _ _ s;refine d4 (wpAny_seqItems l j ?_);simp only[z0,h];refine d4 (wpAny_rule (d4 (wpAny_setField f d (by simp) ?_)));show wpAny _ _ _ _ _ _;refine d4 ?_;simp only[newExc,newTuple];refine d4 (wpAny_newObj_type ?_ (by size_fits));refine d4 (wpAny_of_eq (by first | rfl | (simp only[firstArgMember];rfl)) ?_);refine wpAny_newObj_type ?_ (by size_fits);refine d4 (wpAny_handled ?_)
 first | rw[show A.in1.handled=none from g] | rw[g]
 refine d4 (d7 (wpAny_throw (i _ _ (((Heap.SameBut.update ..).extBut.push _).push _) ⟨_,n6 _ rfl,rfl⟩)))
theorem pT(ne:a≠b):Src P w b a vs (sT b a vs) where
 keep:=λ k h i ⟨p,q⟩ n m=>⟨by obtain⟨o,e,r⟩:=p;exact⟨o,n o e,r⟩,by obtain⟨o,e,r⟩:=q;exact⟨o,m o e,r⟩⟩
 there:=λ k h ⟨p,q⟩=>by obtain⟨o,e,_,d⟩:=p;exact⟨o,_,e,d⟩
 step:=λ k x ⟨p,q⟩ c f=>pR p q c λ i j g=>f i ⟨j,q.extBut g.extBut ne⟩ g
 stop:=λ k l ⟨p,q⟩ c f=>pS l p q c f
theorem Src.ext(R:Src P w c b vs S)(q:S k h)(hs:Heap.ExtBut e h a)(f:c≠e)(d:b≠e):S k a:=R.keep k h a q (λ o z=>hs _ _ f z) (λ o z=>hs _ _ d z)
theorem pU{S1:Nat->zo->Prop}{Q:zk->zm->Prop}(D:ZipApart Z U W a b l1 l2)(i:Src P w a l1 vs1 S1)(R2:Src P w b l2 vs2 S2)(u:IsZip s.heap Z U W .none)(hU:IsPair s.heap U (.ref a) (.ref b))(hW:IsPair s.heap W c d)(h1:S1 k s.heap)(h2:S2 k s.heap)(hx:vs1[k]? = some x)(hy:vs2[k]? = some y)
  (hQ:∀g,IsZip g Z U W (rawInt s.heap.objs.size)->IsPair g W x y->S1 (k+1) g->S2 (k+1) g->IsPair g s.heap.objs.size x y->g.objs.size=s.heap.objs.size+1->(∀e o,e≠Z->e≠W->e≠a->e≠b->s.heap.get? e=some o->g.get? e=some o)->Q (.ref s.heap.objs.size) {s with heap:=g}) :
  wpAny (model P w) A (Builtin.«zip.__next__» ⟨[.ref Z],[]⟩) (λ S s'=>∃v,S=.done (.ret v)/\Q v s') E s:=by
 show wpAny _ _ (field (.ref Z) 2 >>= _) _ _ _;refine d4 (wpAny_field u rfl rfl ?_);show wpAny _ _ _ _ _ _;refine d4 (wpAny_field u rfl rfl (d4 (wpAny_seqItems hU rfl ?_)));show wpAny _ _ _ _ _ _;refine d4 ?_;unfold Builtin.SmallTypes.ownedTupleIsFree;refine d4 (wpAny_field u rfl rfl (d7 ?_));simp only[if_true];refine d4 (wpAny_rule (d4 (wpAny_field u rfl rfl ?_)));refine d4 (wpAny_setField_rec u (by simp) λ g1 K r=>?_)
 replace K:IsZip g1 Z U W .ellipsis:=K
 refine d4 ?_;simp only[List.zipIdx_cons,List.zipIdx_nil,List.forIn_cons,List.forIn_nil];refine d4 (d4 (wpAny_onRaise ?_));show wpAny _ _ _ _ _ _;refine d4 (i.step k x (i.ext h1 r.extBut D.i1z D.l1z) hx λ g2 r2 q=>d7 ?_);have w2:=q.extBut _ _ D.TOi1 (r.extBut _ _ D.TOz hW);refine d4 (wpAny_seqItems w2 rfl (d4 (wpAny_updateSeq_pair w2 λ g3 L p=>?_)))
 replace L:IsPair g3 W x d:=L
 refine d4 (wpAny_letGo (d7 ?_));refine d4 (d4 (wpAny_onRaise ?_));show wpAny _ _ _ _ _ _;refine d4 (R2.step k y (R2.ext (R2.ext (R2.ext h2 r.extBut D.i2z D.l2z) q.extBut D.i12.symm D.l2i1) p.extBut D.TOi2.symm D.l2TO) hy λ g4 r4 m=>d7 ?_);have Y:=m.extBut _ _ D.TOi2 L;refine d4 (wpAny_seqItems Y rfl (d4 (wpAny_updateSeq_pair Y λ f F l=>?_)))
 replace F:IsPair f W x y:=F
 refine d4 (wpAny_letGo (d7 (d7 (d4 (wpAny_seqItems F rfl (d4 (wpAny_newTuple ?_)))))));have sz:f.objs.size=s.heap.objs.size:=by rw[l.1,m.1,p.1,q.1,r.1]
 have X:=l.extBut _ _ D.TOz.symm (m.extBut _ _ D.i2z.symm (p.extBut _ _ D.TOz.symm (q.extBut _ _ D.i1z.symm K)));have j:=i5 X;show wpAny _ _ _ _ _ _;refine d4 ?_;unfold Builtin.SmallTypes.ownedTupleHandOut;refine d4 (wpAny_setField_rec (f9 _ X) (by simp) λ g7 J N=>?_)
 replace J:IsZip g7 Z U W _:=J
 refine wpAny_setField_rec J (by simp) λ B C M=>?_
 replace C:IsZip B Z U W _:=C
 have h:∀e o,e≠Z->f.get? e=some o->B.get? e=some o:=λ e o n z=>M.extBut _ _ n (N.extBut _ _ n (f9 _ z));have T8:=M.extBut _ _ (Nat.ne_of_gt j) (N.extBut _ _ (Nat.ne_of_gt j) (n6 _ rfl));have s8:B.objs.size=f.objs.size+1:=by rw[M.1,N.1,Heap.size_push]
 rw[sz]at C T8 s8;refine d7 ⟨_,rfl,?_⟩;show Q _ _;rw[sz];exact hQ B C (h _ _ D.TOz F) (i.keep _ _ _ (i.ext (i.ext (i.ext r2 p.extBut D.TOi1.symm D.l1TO) m.extBut D.i12 D.l1i2) l.extBut D.TOi1.symm D.l1TO) (λ o z=>h _ o D.i1z z) (λ o z=>h _ o D.l1z z)) (R2.keep _ _ _ (R2.ext r4 l.extBut D.TOi2.symm D.l2TO) (λ o z=>h _ o D.i2z z) (λ o z=>h _ o D.l2z z)) T8 s8 λ e o I H R O z=>h e o I ((λ e o I H R O z=>l.extBut _ _ H (m.extBut _ _ O (p.extBut _ _ H (q.extBut _ _ R (r.extBut _ _ I z))))) e o I H R O z)
theorem pV{P:zu}{w:zt}{A:zw}{s:zm}{k:Nat}{S1 S2:Nat->zo->Prop}{c d:zk}(Y:A.handled=none)(D:ZipApart Z U W a b X S)(y:Src P w a X i S1)(R2:Src P w b S g S2)(r:IsZip s.heap Z U W .none)(hU:IsPair s.heap U (.ref a) (.ref b))(hW:IsPair s.heap W c d)(h1:S1 k s.heap)(h2:S2 k s.heap)(u:i[k]? = none\/g[k]? = none)
  (hE:∀I e,(∀f o,f≠Z->f≠W->f≠a->f≠b->s.heap.get? f=some o->I.get? f=some o)->(∃o,I.get? e=some o/\o.cls=.type "StopIteration")->E (.ref e) {s with heap:=I}) :
  wpAny (model P w) A (Builtin.«zip.__next__» ⟨[.ref Z],[]⟩) Q E s:=by
 show wpAny _ _ (field (.ref Z) 2 >>= _) _ _ _;refine d4 (wpAny_field r rfl (x:=.bool false) rfl ?_);show wpAny _ _ (field (.ref Z) 3 >>= _) _ _ _;refine d4 (wpAny_field r rfl (x:=.ref U) rfl (d4 (wpAny_seqItems hU rfl ?_)));show wpAny _ _ (Builtin.SmallTypes.ownedTupleIsFree (.ref Z) >>= _) _ _ _;refine d4 ?_;unfold Builtin.SmallTypes.ownedTupleIsFree;refine d4 (wpAny_field r rfl (x:=.none) rfl (d7 ?_));simp only[if_true];refine d4 (wpAny_rule (d4 (wpAny_field r rfl (x:=.ref W) rfl ?_)));refine d4 (wpAny_setField_rec r (by simp) λ g1 v n=>?_)
 replace v:IsZip g1 Z U W .ellipsis:=v
 refine d4 ?_;simp only[List.zipIdx_cons,List.zipIdx_nil,List.forIn_cons,List.forIn_nil];refine d4 (d4 (wpAny_onRaise ?_));show wpAny _ _ (Builtin.SmallTypes.nextOf (.ref a) >>= _) _ _ _;cases F:i[k]? with
 | none=>
  refine d4 (y.stop k Y (y.ext h1 n.extBut D.i1z D.l1z) F λ J e j H=>?_);obtain⟨B,l,p⟩:=H;have M:IsZip J Z U W .ellipsis:=j _ _ D.i1z.symm v;have K:e≠Z:=λ z=>by subst z;rw[M]at l;cases l;simp at p
  exact wpAny_setField_rec M (by simp) λ g3 _ m=>hE g3 e (λ f o q _ C _ z=>m.extBut _ _ q (j _ _ C (n.extBut _ _ q z))) ⟨B,m.extBut _ _ K l,p⟩
 | some x=>
  have hy:g[k]? = none:=by rcases u with h | h;rw[F]at h;cases h;exact h
  refine d4 (y.step k x (y.ext h1 n.extBut D.i1z D.l1z) F λ J r2 j=>d7 ?_);have N:IsPair J W c d:=j.extBut _ _ D.TOi1 (n.extBut _ _ D.TOz hW);refine d4 (wpAny_seqItems N rfl (d4 (wpAny_updateSeq_pair N λ g3 w3 m=>?_)));refine d4 (wpAny_letGo (d7 ?_));refine d4 (d4 (wpAny_onRaise ?_));show wpAny _ _ (Builtin.SmallTypes.nextOf (.ref b) >>= _) _ _ _;refine d4 (R2.stop k Y (R2.ext (R2.ext (R2.ext h2 n.extBut D.i2z D.l2z) j.extBut D.i12.symm D.l2i1) m.extBut D.TOi2.symm D.l2TO) hy λ g4 e R H=>?_);obtain⟨B,l,p⟩:=H;have L:IsZip g4 Z U W .ellipsis:=R _ _ D.i2z.symm (m.extBut _ _ D.TOz.symm (j.extBut _ _ D.i1z.symm v));have K:e≠Z:=λ z=>by subst z;rw[L]at l;cases l;simp at p
  exact wpAny_setField_rec L (by simp) λ g5 _ O=>hE g5 e (λ f o q n2 C n4 z=>O.extBut _ _ q (R _ _ n4 (m.extBut _ _ n2 (j.extBut _ _ C (n.extBut _ _ q z))))) ⟨B,O.extBut _ _ K l,p⟩
theorem pW{S1:Nat->zo->Prop}(D:ZipApart Z U W a b l1 l2)(H:Src P w a l1 vs1 S1)(R2:Src P w b l2 vs2 S2)(g:IsZip s.heap Z U W .none)(l:IsPair s.heap U (.ref a) (.ref b))(j:IsPair s.heap W c d)(p:S1 k s.heap)(n:S2 k s.heap)(i:vs1[k]? = some x)(h:vs2[k]? = some y)
  (m:∀f,IsZip f Z U W (rawInt s.heap.objs.size)->IsPair f W x y->S1 (k+1) f->S2 (k+1) f->IsPair f s.heap.objs.size x y->f.objs.size=s.heap.objs.size+1->(∀e o,e≠Z->e≠W->e≠a->e≠b->s.heap.get? e=some o->f.get? e=some o)->Q (some (.ref s.heap.objs.size)) {s with heap:=f}) :
  wpAny (model P w) A (pyNext (.ref Z)) Q E s:=by
 have T:s.TypeIs (.ref Z) "zip":=⟨_,g,rfl⟩;unfold pyNext;exact d4 (wpAny_attempt (wpAny_callSpecial?_slot T F.slot_zip_next (wpAny_call_entry F.slot_zip_next T F.entry_zip_next (pU D H R2 g l j p n i h λ f C B z v u r q=>d7 (m f C B z v u r q)) (F.args_zip_next_1 _))))
theorem pX{S1:Nat->zo->Prop}(n:A.handled=none)(D:ZipApart Z U W a b l1 l2)(y:Src P w a l1 vs1 S1)(R2:Src P w b l2 vs2 S2)(i:IsZip s.heap Z U W .none)(r:IsPair s.heap U (.ref a) (.ref b))(q:IsPair s.heap W c d)(x:S1 k s.heap)(v:S2 k s.heap)(g:vs1[k]? = none\/vs2[k]? = none)
  (u:∀h,(∀f o,f≠Z->f≠W->f≠a->f≠b->s.heap.get? f=some o->h.get? f=some o)->Q none {s with heap:=h}):wpAny (model P w) A (pyNext (.ref Z)) Q E s:=by
 have T:s.TypeIs (.ref Z) "zip":=⟨_,i,rfl⟩;unfold pyNext;refine d4 (wpAny_attempt (wpAny_callSpecial?_slot T F.slot_zip_next (wpAny_call_entry F.slot_zip_next T F.entry_zip_next (pV n D y R2 i r q x v g λ h e m p=>?_) (F.args_zip_next_1 _))));obtain⟨o,l,j⟩:=p;exact d4 (wpAny_isInstance ⟨o,l,j⟩ isSubtype_stop (d7 (u _ m)))
end
def SqK(t:Bool)(h:zo)(l:zn)(vs:zr zk):Prop:=match t with | false=>h.IsList l vs | true=>h.IsTuple l vs
def sK(t:Bool)(ia la:zn)(vs:zr zk):Nat->zo->Prop:=match t with | false=>sL ia la vs | true=>sT ia la vs
theorem O1(t:Bool)(ne:a≠b):Src P w b a vs (sK t b a vs):=by
 cases t
 ·exact pQ ne
 ·exact pT ne
noncomputable def itN:Bool->zE | false=>"list_iterator" | true=>"tuple_iterator"
abbrev itO(t:Bool)(l:zn):Obj:={cls:=.type (itN t),data:=.fields #[.ref l,.int 0 0]}
abbrev zH1(h:zo)(t1:Bool)(l1:zn):zo:=h.push (itO t1 l1)
abbrev zH2(h:zo)(t1 t2:Bool)(l1 l2:zn):zo:=(zH1 h t1 l1).push (itO t2 l2)
abbrev zH3(h:zo)(t1 t2:Bool)(l1 l2:zn):zo:=(zH2 h t1 t2 l1 l2).push {cls:=.type "tuple",data:=.seq #[.ref h.objs.size,.ref (zH1 h t1 l1).objs.size]}
abbrev zH4(h:zo)(t1 t2:Bool)(l1 l2:zn):zo:=(zH3 h t1 t2 l1 l2).push {cls:=.type "tuple",data:=.seq #[.none,.none]}
abbrev zH5(h:zo)(t1 t2:Bool)(l1 l2:zn):zo:=(zH4 h t1 t2 l1 l2).push {cls:=.type "zip",data:=.fields #[.none,.bool false,.bool false,.ref (zH2 h t1 t2 l1 l2).objs.size,.ref (zH3 h t1 t2 l1 l2).objs.size]}
theorem pY(t1 t2:Bool)(l1 l2:zn)(vs1 vs2:zr zk):Meets (Builtin.«zip.__new__» ⟨[.type "zip",.ref l1,.ref l2],[]⟩) (λ _ R s=>SqK t1 s.heap l1 vs1/\SqK t2 s.heap l2 vs2/\R (.ok (.ret (.ref (zH4 s.heap t1 t2 l1 l2).objs.size))) {s with heap:=zH5 s.heap t1 t2 l1 l2}):=
 .of_wp λ P w A R s h=>by
  obtain⟨h0,g0,d0,k0,o0⟩:=s;obtain⟨q1,q2,h⟩:=h;have hsub:=sub_zip;cases t1<;>cases t2
  ·have e1:Heap.IsList (Shared.heap ⟨h0,g0,d0,k0,o0⟩) l1 vs1:=q1;have e2:Heap.IsList (Shared.heap ⟨h0.push {cls:=.type "list_iterator",data:=.fields #[.ref l1,.int 0 0]},g0,d0,k0,o0⟩) l2 vs2:=Heap.IsList.push q2 _
   wp_walk using wpAny_pyIter_list e1,wpAny_pyIter_list e2
   exact⟨_,rfl,h⟩
  ·have e1:Heap.IsList (Shared.heap ⟨h0,g0,d0,k0,o0⟩) l1 vs1:=q1;have e2:Heap.IsTuple (Shared.heap ⟨h0.push {cls:=.type "list_iterator",data:=.fields #[.ref l1,.int 0 0]},g0,d0,k0,o0⟩) l2 vs2:=Heap.IsTuple.push q2 _
   wp_walk using wpAny_pyIter_list e1,wpAny_pyIter_tuple e2
   exact⟨_,rfl,h⟩
  ·have e1:Heap.IsTuple (Shared.heap ⟨h0,g0,d0,k0,o0⟩) l1 vs1:=q1;have e2:Heap.IsList (Shared.heap ⟨h0.push {cls:=.type "tuple_iterator",data:=.fields #[.ref l1,.int 0 0]},g0,d0,k0,o0⟩) l2 vs2:=Heap.IsList.push q2 _
   wp_walk using wpAny_pyIter_tuple e1,wpAny_pyIter_list e2
   exact⟨_,rfl,h⟩
  ·have e1:Heap.IsTuple (Shared.heap ⟨h0,g0,d0,k0,o0⟩) l1 vs1:=q1;have e2:Heap.IsTuple (Shared.heap ⟨h0.push {cls:=.type "tuple_iterator",data:=.fields #[.ref l1,.int 0 0]},g0,d0,k0,o0⟩) l2 vs2:=Heap.IsTuple.push q2 _
   wp_walk using wpAny_pyIter_tuple e1,wpAny_pyIter_tuple e2
   exact⟨_,rfl,h⟩
theorem bw(e:b.get? d=some (itO t a))(q:SqK t h a vs)(k:∀c o,h.get? c=some o->b.get? c=some o):sK t d a vs 0 b:=by
 cases t
 ·exact⟨⟨_,e,rfl,rfl⟩,Heap.IsList.at q λ o z=>k _ o z⟩
 ·exact⟨⟨_,e,rfl,rfl⟩,by obtain⟨o,z,r⟩:=q;exact⟨o,k _ o z,r⟩⟩
theorem pZ(b e:Bool)(u:SqK b s.heap a i)(r:SqK e s.heap d g)
  (h:∀f,IsZip f (s.heap.objs.size+4) (s.heap.objs.size+2) (s.heap.objs.size+3) .none->IsPair f (s.heap.objs.size+2) (.ref s.heap.objs.size) (.ref (s.heap.objs.size+1))->IsPair f (s.heap.objs.size+3) .none .none->sK b s.heap.objs.size a i 0 f->sK e (s.heap.objs.size+1) d g 0 f->f.objs.size=s.heap.objs.size+5 ->
   (∀c o,s.heap.get? c=some o->f.get? c=some o)->Q (.ref (s.heap.objs.size+4)) {s with heap:=f}):wpAny (model P w) A (call (.type "zip") [.ref a,.ref d]) Q E s:=by
 refine callType_new F.called_zip (by decide) (F.typeCall_zip_2 _ _) (F.newCall_zip_2 _ _) (λ j=>F.args_object_init_3 j _ _) F.entry_zip_new (pY b e a d i g) ⟨u,r,?_⟩;have n:(zH1 s.heap b a).objs.size=s.heap.objs.size+1:=Heap.size_push ..;have m:(zH2 s.heap b e a d).objs.size=s.heap.objs.size+2:=by rw[Heap.size_push,n]
 have l:(zH3 s.heap b e a d).objs.size=s.heap.objs.size+3:=by rw[Heap.size_push,m]
 have k:(zH4 s.heap b e a d).objs.size=s.heap.objs.size+4:=by rw[Heap.size_push,l]
 have q:(zH5 s.heap b e a d).get? (zH4 s.heap b e a d).objs.size=some _:=n6 _ rfl;have v:(zH5 s.heap b e a d).get? (zH3 s.heap b e a d).objs.size=some _:=f9 _ (n6 _ rfl);have x:(zH5 s.heap b e a d).get? (zH2 s.heap b e a d).objs.size=some _:=f9 _ (f9 _ (n6 _ rfl));have y:(zH5 s.heap b e a d).get? (zH1 s.heap b a).objs.size=some _:=f9 _ (f9 _ (f9 _ (n6 _ rfl)));have p:∀c o,s.heap.get? c=some o->(zH5 s.heap b e a d).get? c=some o:=λ c o z=>f9 _ (f9 _ (f9 _ (f9 _ (f9 _ z))));show _/\_;rw[m,l,k]at q;rw[n,m]at x;rw[l]at v;rw[n]at y;rw[k];exact⟨⟨_,q,rfl⟩,h _ q x v (bw (f9 _ (f9 _ (f9 _ (f9 _ (n6 _ rfl))))) u p) (bw y r p) (by rw[Heap.size_push,k]) p⟩
end L2
end
noncomputable section
namespace PySem.SeqAt
open AutoSeq1 (wpAny_loadPart')
open MeetsSeq MeetsSeq2 MeetsSeq3 SeqRoads2
theorem qa(f:Nat->β->Sem (ForInStep β))(I:ge Nat->β->zm->Prop)(Q:β->zm->Prop)
   (turn:∀x rest b s,I (x::rest) b s->wpAny M A (f x b) (λ r c=>match r with | .yield b'=>I rest b' c | .done b'=>Q b' c) E s)
  (fin:∀b s,I [] b s->Q b s) (h:I (List.range' 0 n 1) b s):wpAny M A (forIn [:n] b f) Q E s:=by
 rw[Std.Legacy.Range.forIn_eq_forIn_range'];have a:([:n]:Std.Legacy.Range).size=n:=by simp[Std.Legacy.Range.size]
 show wpAny M A _ Q E s;rw[a];exact wpAny_forIn_list f I Q turn fin _ b h
theorem qb(l:zn)(items:zr zk)(n:Nat)(dd:on zn)(v:zr (on zk))(x:zk)(e:zk->Bool)(j:Nat)(hj:j<items.size)
  (p:e items[j]=true) (o:∀m (f:m<items.size),m<j->e items[m]=false) :
  Meets (Builtin.«tuple.index» ⟨[.ref l,x],[]⟩)
   (λ A R s=>s.heap.get? l=some {cls:=.type "tuple",dict:=dd,data:=.seq items n,slots:=v} /\ (∀y,y∈items->EqAt A.in1 s y x (e y))/\R (.ok (.ret (.int j s.toks))) {s with toks:=s.toks+1}):=
 .of_wp λ c w A R s h=>by
  obtain⟨B,g,d,u,z⟩:=s;obtain⟨C,E,h⟩:=h
  wp_walk using wpAny_loadPart' C,qa _ (λ rest b k=>b.1=none/\k=⟨B,g,d,u,z⟩/\∃i,i<=j/\rest=List.range' i (items.size - i) 1) _
  case turn=>
   rintro i rest b k ⟨hb,rfl,r,hi',hr⟩
   obtain⟨m,f⟩:∃m,items.size - r=m+1:=⟨items.size - r - 1,by omega⟩;rw[f,List.range'_succ]at hr;obtain⟨rfl,rfl⟩:=List.cons.inj hr;have a:i<items.size:=by omega
   rw[show items[i]? = some items[i] by simp[a]];refine d4 (E _ (Array.getElem_mem a) c w _ _ ?_);by_cases q:i=j
   ·subst q;rw[p]
    wp_walk
    exact⟨_,rfl,h⟩
   ·rw[o i a (by omega)]
    wp_walk
    exact⟨rfl,rfl,i+1,by omega,by congr 1;omega⟩
  case fin=>
   rintro⟨b1,b2⟩ k ⟨hb,rfl,i,hi,hr⟩
   obtain⟨m,f⟩:∃m,items.size - i=m+1:=⟨items.size - i - 1,by omega⟩;rw[f,List.range'_succ]at hr;cases hr
  case h=>
   exact⟨rfl,rfl,0,Nat.zero_le _,by simp⟩
section
theorem fx:∀(a:ge PyData) (b:ge zk) (c:ge zn),PyData.canLayAll0 a=true->ReadsAll h b a c->b.length=a.length/\∀m (i:m<b.length) (g:m<a.length),PyData.eqv (readOf h b[m]) d=PyData.eqv a[m] d:=by
 intro a b c f r;have e:=readsAll_map a b c f r;refine⟨(by rw[←e,e7]),λ m i g=>?_⟩
 congr 1
 subst e;rw[List.getElem_map]
theorem index_list_reads(B:Reads s.heap c (.list xs) O)(z:Reads s.heap x d bs)(a:PyData.canLayAll0 xs=true)(K:d.canLay0=true)
  (C:A.units+1+min (PyData.depthAll xs) d.depth<cLine) (J:j<xs.length) (b:(j:Int)<2^63 - 1) (i:PyData.eqv xs[j] d=true) (f:∀m (F:m<xs.length),m<j->PyData.eqv xs[m] d=false) (h:Q (.int j s.toks) {s with toks:=s.toks+1}):wpAny (model prog w) A (call (.builtin "list.index") [c,x]) Q E s:=by
 cases B with
 | list u r q p=>
  rename_i l o e n N;obtain⟨M,L,v,y⟩:=o;simp at r q;subst r q;obtain⟨I,k⟩:=fx xs e.toList _ a p;have H:e.size=xs.length:=by rw[←I];simp
  refine PySem.call_meets PySem.F.slot_list_index ⟨_,u,rfl⟩ PySem.F.entry_list_index (PySem.F.args_list_index_2 _ _)
   (list_indexAt l e _ L y x _ j (by omega) b ?_ ?_) ⟨u,items_eqAt p z a K C,h⟩
  ·rw[←i];exact k j (by omega) J
  ·intro m F g;rw[←f m (by omega) g];exact k m (by omega) (by omega)
theorem index_tuple_reads(B:Reads s.heap c (.tuple xs) M)(z:Reads s.heap x d bs)(a:PyData.canLayAll0 xs=true)(J:d.canLay0=true)
  (C:A.units+1+min (PyData.depthAll xs) d.depth<cLine) (I:j<xs.length) (g:PyData.eqv xs[j] d=true) (e:∀m (i:m<xs.length),m<j->PyData.eqv xs[m] d=false) (h:Q (.int j s.toks) {s with toks:=s.toks+1}):wpAny (model prog w) A (call (.builtin "tuple.index") [c,x]) Q E s:=by
 cases B with
 | tuple u r q p=>
  rename_i l o b n;obtain⟨L,K,v,y⟩:=o;simp only at r q;subst r q;obtain⟨H,k⟩:=fx xs b.toList _ a p;have F:b.size=xs.length:=by rw[←H];simp
  refine PySem.call_meets PySem.F.slot_tuple_index ⟨_,u,rfl⟩ PySem.F.entry_tuple_index (PySem.F.args_tuple_index_2 _ _)
   (qb l b _ K y x _ j (by omega) ?_ ?_) ⟨u,items_eqAt p z a J C,h⟩
  ·rw[←g];exact k j (by simpa using(by omega:j<b.size)) I
  ·intro m i f;rw[←e m (by omega) f];exact k m (by simpa using i) (by omega)
end
end PySem.SeqAt
end
noncomputable section
namespace L2
open PySem
set_option genInjectivity true in
inductive DKey where
 | i (n:Int) | s (x:Str) | t (l:List (Sum Int Str))
 deriving DecidableEq
inductive Bi where
 | len | min | sum | all | sset | int | list | tuple
 deriving DecidableEq
inductive Mt where
 | bitLength | index | get
 deriving DecidableEq
inductive Tg where
 | one (i:Nat) | many (is:List Nat)
inductive ME where
  | var (i:Nat) | int (i:Int) | bl (b:Bool) | str (x:Str) | non | glb (x:Str)
  | bin (op:Operator) (a b:ME)   | not (a:ME)
  | cmp (op:CmpOp) (a b:ME)
  | and (es:List ME) | or (es:List ME)
  | lst (es:List ME) | tup (es:List ME)
  | ix (a b:ME) | sl (a lo hi:ME) | slf (a lo:ME) | slt (a hi:ME)
   | call (f:Nat) (es:List ME)    | bi (f:Bi) (es:List ME) | isi (a:ME) (ts:List Str) | isx (a:ME) (t:Str) | meth (m:Mt) (a:ME) (es:List ME)
  | comp (elt:ME) (tg:Tg) (it:ME) (fr:List (Option Nat)) | compi (elt:ME) (tg:Tg) (it c:ME) (fr:List (Option Nat))
  | srd (i:Nat)
  | srtk (a:ME) (N:List Str) (np:Nat) (lb:ME) (fr:List Nat)
  | idx (a b:ME)
  | rng (es:List ME) | enu (a:ME) | zp (a b:ME)
structure LamD where
 N:List Str
 np:Nat
 body:ME
 fn:List Str
 bl:List Str
 cl:List Str
set_option genInjectivity true in
inductive DV where
 | non | bl (b:Bool) | int (i:Int) | str (x:Str) | tup (ds:List DV) | lst (ds:List DV) | dct (ks:List DKey) (vs:List DV)
 | exc (c:Str) | fn (x:Str)
 | lam (m:LamD) (ds:List DV)
 | scr (ns:List Int)
inductive Cl where
 | weak | top | strong | fresh | ft
 deriving DecidableEq
set_option genInjectivity true in
inductive Re where
 | ok (d:DV) (c:Cl) | ex (c:Str)
inductive Rs where
 | ok (l:List (DV×Cl)) | ex (c:Str)
inductive Rt where
 | ok (b:Bool) | ex (c:Str)
inductive Sv where
 | no | val (d:DV) | own (d:DV) | ot (d:DV)
 | od (d:DV)
noncomputable def otD:DV->DV
 | .dct _ ds=>.tup ds
 | d=>d
inductive Ou where
 | v (d:DV) (fr:Bool) | x (c:Str) | t (d:DV)
inductive Out where
 | nx (δ:List Sv) | rt (d:DV) (fr:Bool) | ex (c:Str) (δ:List Sv) | rtt (d:DV)
inductive MS where
 | set (i:Nat) (own:Bool) (e:ME)   | aug (i:Nat) (e:ME)
 | app (i:Nat) (e:ME) | ext (i:Nat) (e:ME) | seti (i:Nat) (k e:ME)
 | exp (e:ME) | ret (e:ME)  | iff (c:ME) (a b:List MS) | fo (tg:Tg) (it:ME) (body:List MS) | wh (c:ME) (body:List MS)
 | rt3 (es:List ME) | app2 (i:Nat) (e:ME) | hld (h i f:Nat) (e:ME)
 | ses (i:Nat) | dpt (i:Nat) (ks:List ME) (e:ME)
 | rse (c:Str) (e:ME) | tryc (body:List MS) (c:Str) (ie ic:Nat)
 | unk
 | frz (i:Nat)
structure FD where
 n:Nat
 np:Nat
 body:List MS
noncomputable def Re.thn(r:on Re)(k:DV->Cl->on Re):on Re:=match r with
 | none=>none
 | some (.ex c)=>some (.ex c)
 | some (.ok d c)=>k d c
def Rs.thn(r:on Rs)(k:ge (DV×Cl)->on Re):on Re:=match r with
 | none=>none
 | some (.ex c)=>some (.ex c)
 | some (.ok l)=>k l
noncomputable def Re.thnT(r:on Re)(k:DV->Cl->on Rt):on Rt:=match r with
 | none=>none
 | some (.ex c)=>some (.ex c)
 | some (.ok d c)=>k d c
mutual
noncomputable def DV.immut:DV->Bool
 | .non=>true | .bl _=>true | .int _=>true | .str _=>true | .exc _=>true | .fn _=>true | .scr _=>true
 | .tup ds=>DV.immuts ds
 | .lst _=>false
 | .lam _ _=>false
 | .dct _ vs=>DV.immuts vs
noncomputable def DV.immuts:ge DV->Bool
 | []=>true
 | d::r=>d.immut&&DV.immuts r
end
mutual
noncomputable def DV.nolam:DV->Bool
 | .lam _ _=>false
 | .tup ds=>DV.nolams ds
 | .lst ds=>DV.nolams ds
 | .dct _ vs=>DV.nolams vs
 | _=>true
noncomputable def DV.nolams:ge DV->Bool
 | []=>true
 | d::r=>d.nolam&&DV.nolams r
end
def stro(d:DV):Cl->Bool
 | .strong=>true | .fresh=>true | .ft=>true | _=>d.immut
def stros(l:ge (DV×Cl)):Bool:=l.all λ p=>stro p.1 p.2
noncomputable def Cl.item:Cl->Cl
 | .weak=>.weak | _=>.strong
noncomputable def Cl.anew:Cl->Cl->Cl
 | .weak,_=>.weak | _,.weak=>.weak | _,_=>.fresh
def k9:Nat:=1000000
mutual
noncomputable def deq:DV->DV->Bool
 | .non,.non=>true
 | .bl a,.bl b=>a==b
 | .bl a,.int j=>(if a then 1 else 0)==j
 | .int i,.bl b=>i==(if b then 1 else 0)
 | .int i,.int j=>i==j
 | .str a,.str b=>decide (a=b)
 | .tup a,.tup b=>deqs a b
 | .lst a,.lst b=>deqs a b
 | _,_=>false
noncomputable def deqs:ge DV->ge DV->Bool
 | [],[]=>true
 | a::r,b::s=>deq a b&&deqs r s
 | _,_=>false
end
mutual
noncomputable def DV.plain:Nat->DV->Bool
 | _,.non=>true | _,.bl _=>true | _,.int _=>true
 | _,.str x=>x.cps.all (· < 0x110000)
 | 0,_=>false
 | n+1,.tup ds=>DV.plains n ds | n+1,.lst ds=>DV.plains n ds
 | _,_=>false
noncomputable def DV.plains:Nat->ge DV->Bool
 | _,[]=>true
 | n,d::r=>d.plain n&&DV.plains n r
end
noncomputable def D0:DV->on Bool
 | .non=>some false
 | .bl b=>some b
 | .int i=>some (i != 0)
 | .str x=>some (x.cps.size != 0)
 | .tup ds=>some (!ds.isEmpty)
 | .lst ds=>some (!ds.isEmpty)
 | _=>none
noncomputable def A9(n:Nat)(i:Int):on Nat:=if 0<=i then(if i<n then some i.toNat else none)else if -(n:Int)<=i then some (i+n).toNat else none
def atD(ds:ge DV)(i:Int):on DV:=(A9 ds.length i).bind λ j=>ds[j]?
def ixD(a b:DV):on DV:=match a,b with
 | .scr ns,.int i=>((A9 ns.length i).bind λ j=>ns[j]?).map DV.int
 | .lst ds,.int i=>atD ds i
 | .tup ds,.int i=>atD ds i
 | _,_=>none
noncomputable def slIx(n d:Nat):on Int->Nat
 | none=>d
 | some v=>if v<0 then(v+(n:Int)).toNat else min v.toNat n
def cutD(ds:ge DV)(lo hi:on Int):ge DV:=(ds.drop (slIx ds.length 0 lo)).take (slIx ds.length ds.length hi - slIx ds.length 0 lo)
def slD(a:DV)(lo hi:on Int):on DV:=match a with
 | .scr ns=>some (.lst (cutD (ns.map DV.int) lo hi))
 | .lst ds=>some (.lst (cutD ds lo hi))
 | .tup ds=>if slIx ds.length 0 lo=0/\slIx ds.length ds.length hi=ds.length then none else some (.tup (cutD ds lo hi))
 | _=>none
def slCl(a:DV)(c:Cl):Cl:=match a with
 | .scr _=>.fresh
 | .lst _=>Cl.anew c c
 | _=>c.item
noncomputable def D7(i j:Int):Bool:=(decide (-(2^64)<i)&&decide (i<2^64))||(decide (-(2^64)<j)&&decide (j<2^64))||(decide (i.natAbs<2^2000)&&decide (j.natAbs<2^2000))
def binD(op:Operator)(a b:DV)(ca cb:Cl):on Re:=match op,a,b with
 | .Add,.int i,.int j=>some (.ok (.int (i+j)) .strong)
 | .Sub,.int i,.int j=>some (.ok (.int (i - j)) .strong)
 | .Mult,.int i,.int j=>if D7 i j then some (.ok (.int (i*j)) .strong)else none
 | .Mod,.int i,.int j=>if 0<j then some (.ok (.int (i%j)) .strong)else if j≠0 then some (.ok (.int (i.fmod j)) .strong)else none
 | .FloorDiv,.int i,.int j=>if 0<j/\j<2^200 then some (.ok (.int (i/j)) .strong)else none
 | .LShift,.int i,.int j=>if 0<=j/\j<=1000000/\i.natAbs<2^64 then some (.ok (.int (i*2^j.toNat)) .strong)else none
 | .RShift,.int i,.int j=>if 0<=j then some (.ok (.int (i/2^j.toNat)) .strong)else none
 | .BitAnd,.int i,.int j=>some (.ok (.int (Builtin.bitAnd i j)) .strong)
 | .Add,.lst x,.lst y=>if x.length+y.length<=k9 then some (.ok (.lst (x++y)) (Cl.anew ca cb))else none
 | _,_,_=>none
noncomputable def isN:DV->Bool
 | .non=>true
 | _=>false
def cmpD(op:CmpOp)(a b:DV):on Bool:=match op,a,b with
 | .Lt,.int i,.int j=>some (decide (i<j))
 | .LtE,.int i,.int j=>some (decide (i<=j))
 | .Eq,a,b=>if a.plain 60&&b.plain 60 then some (deq a b)else none
 | .NotEq,a,b=>if a.plain 60&&b.plain 60 then some (!deq a b)else none
 | .Is,a,.non=>some (isN a)
 | .IsNot,a,.non=>some (!isN a)
 | .NotIn,a,.lst ds=>if a.plain 60&&DV.plains 60 ds then some (!ds.any λ d=>deq d a)else none
 | _,_,_=>none
noncomputable def ints?:ge DV->on (ge Int)
 | []=>some []
 | .int i::r=>(ints? r).map (i :: ·)
 | _=>none
noncomputable def bools?:ge DV->on (ge Bool)
 | []=>some []
 | .bl i::r=>(bools? r).map (i :: ·)
 | _=>none
noncomputable def minI:Int->ge Int->Int
 | m,[]=>m
 | m,x::r=>minI (if x<m then x else m) r
noncomputable def insI(x:Int):ge Int->ge Int
 | []=>[x]
 | y::r=>if x<y then x::y::r else y::insI x r
def F6:ge Int->ge Int
 | []=>[]
 | x::r=>insI x (F6 r)
noncomputable def dk(σ:ge Int)(k:Int):ge Int:=if k∈σ then σ else σ++[k]
noncomputable def O3(i:Int):Int:=if i=0 then 0 else(i.natAbs.log2:Int)+1
noncomputable def lenD:ge (DV×Cl)->on Re
 | [(.lst ds,_)]=>some (.ok (.int ds.length) .strong)
 | [(.tup ds,_)]=>some (.ok (.int ds.length) .strong)
 | [(.scr ns,_)]=>some (.ok (.int ns.length) .strong)
 | _=>none
def minD:ge (DV×Cl)->on Re
 | [(.int i,_),(.int j,_)]=>some (.ok (.int (if j<i then j else i)) .strong)
 | [(.lst ds,c)]=>match ints? ds with
  | some (n::r)=>some (.ok (.int (minI n r)) .strong)
  | _=>none
 | [(.tup ds,_)]=>match ints? ds with
  | some (n::r)=>some (.ok (.int (minI n r)) .strong)
  | _=>none
 | _=>none
noncomputable def ltP(p q:Int×Int):Bool:=decide (p.1<q.1)||(p.1==q.1&&decide (p.2<q.2))
def L6:ge (Int×Int)->Bool
 | []=>true
 | p::r=>match r with
  | []=>true
  | q::_=>ltP p q&&L6 r
noncomputable def kRun{α:Type}(n:Nat)(c:Nat->Nat->Bool):PySem.W.KasT α->on α
 | .ret a=>some a
 | .ask i j k=>if i<n/\j<n then kRun n c (k (c i j))else none
def F7(ks:ge Int):on (ge Nat):=if ks.length<2 then some (List.range ks.length)else(kRun ks.length (λ i j=>decide (ks.getD i 0<ks.getD j 0)) (PySem.W.kas_sort ks.length)).map Array.toList
noncomputable def putIx{α:Type}(x:α)(ix:ge Nat)(l:ge α):ge α:=ix.map λ i=>l.getD i x
def Z0(ps:ge (Int×Int)):on (ge Nat):=if ps.length<2 then some (List.range ps.length)else(kRun ps.length (λ i j=>ltP (ps.getD i (0,0)) (ps.getD j (0,0))) (PySem.W.kas_sort ps.length)).map Array.toList
def bx:ge (DV×Cl)->on Re
 | [(.lst ds,_)]=>match ints? ds with
  | some ns=>if ns.length<4000/\(ns.foldl dk []).length<64 then some (.ok (.lst ((F6 (ns.foldl dk [])).map DV.int)) .fresh)else none
  | none=>none
 | _=>none
def sumD:ge (DV×Cl)->on Re
 | [(.lst ds,_)]=>(ints? ds).map λ ns=>.ok (.int ns.sum) .strong
 | _=>none
def allD:ge (DV×Cl)->on Re
 | [(.lst ds,_)]=>(bools? ds).map λ bs=>.ok (.bl (bs.all id)) .strong
 | _=>none
noncomputable def intD:ge (DV×Cl)->on Re
 | [(.int i,_)]=>some (.ok (.int i) .strong)
 | [(.bl b,_)]=>some (.ok (.int (if b then 1 else 0)) .strong)
 | _=>none
def T7:ge (DV×Cl)->on Re
 | [(.scr ns,_)]=>some (.ok (.lst (ns.map DV.int)) .fresh)
 | [(.lst ds,c)]=>some (.ok (.lst ds) (Cl.anew c c))
 | [(.tup ds,c)]=>some (.ok (.lst ds) (Cl.anew c c))
 | _=>none
def T9:ge (DV×Cl)->on Re
 | [(.lst ds,c)]=>some (.ok (.tup ds) c.item)
 | [(.tup ds,c)]=>some (.ok (.tup ds) c)
 | _=>none
def biD(f:Bi)(l:ge (DV×Cl)):on Re:=match f with
 | .len=>lenD l
 | .min=>minD l
 | .int=>intD l
 | .list=>T7 l
 | .tuple=>T9 l
 | .sset=>bx l
 | .sum=>sumD l
 | .all=>allD l
noncomputable def biOk:Bi->Bool
 | .len=>true | .min=>true | .int=>true | .list=>true | .tuple=>true | .sset=>true | .sum=>true | .all=>true
def mtD(m:Mt)(a:DV):on Re:=match m,a with
 | .bitLength,.int i=>some (.ok (.int (O3 i)) .strong)
 | _,_=>none
structure Gs where
 con:List (Str×DV)
 cls:List (Str×List Str)
 fnl:List Str:=[]
 bll:List Str:=[]
 cll:List Str:=[]
noncomputable def E9(G:Gs)(c c':Str):Bool:=c==c'||((G.cls.lookup c).getD []).contains c'
def isxD(G:Gs)(d:DV)(t:Str):on Bool:=match d with
 | .exc c=>if(G.cls.lookup c).isSome then some (E9 G c t)else none
 | _=>none
noncomputable def tyOf:DV->ge Str
 | .non=>["NoneType"]
 | .bl _=>["bool","int"]
 | .int _=>["int"]
 | .str _=>["str"]
 | .tup _=>["tuple"]
 | .lst _=>["list"]
 | .dct _ _=>["dict"]
 | _=>[]
noncomputable def J4:ge Str:=["int","bool","str","list","tuple","dict"]
def isiD(G:Gs)(d:DV)(ts:ge Str):on Bool:=match d with
 | .scr _=>none
 | .exc _=>none
 | .fn _=>none
 | .lam _ _=>none
 | d=>match ts with
  | [t]=>if J4.contains t then some ((tyOf d).contains t)else none
  | _=>none
noncomputable def upTo(lo:Int)(n:Nat):ge DV:=(List.range n).map λ (i:Nat)=>DV.int (lo+i)
noncomputable def B3(i:Int):Bool:=decide (-(2^62)<=i)&&decide (i<2^62)
def D8(y:DV):ge DV->on Nat
 | []=>none
 | d::r=>if deq d y then some 0 else(D8 y r).map (· + 1)
noncomputable def seqB:DV->Bool
 | .lst _=>true | .tup _=>true | _=>false
def idxD(x y:DV):on DV:=match x with
 | .lst ds=>if y.plain 60&&DV.plains 60 ds&&decide (ds.length<=k9)then(D8 y ds).map λ (j:Nat)=>DV.int (j:Int)else none
 | .tup ds=>if y.plain 60&&DV.plains 60 ds&&decide (ds.length<=k9)then(D8 y ds).map λ (j:Nat)=>DV.int (j:Int)else none
 | _=>none
def rngD(l:ge (DV×Cl)):on (ge DV):=match l with
 | [(.int j,_)]=>if B3 j&&decide (j<=k9)then some (upTo 0 j.toNat)else none
 | [(.int i,_),(.int j,_)]=>if B3 i&&B3 j&&decide (j - i<=k9)then some (upTo i (j - i).toNat)else none
 | _=>none
noncomputable def enuD:Nat->ge DV->ge DV
 | _,[]=>[]
 | k,d::r=>.tup [.int k,d]::enuD (k+1) r
noncomputable def zpD:ge DV->ge DV->ge DV
 | a::r,b::s=>.tup [a,b]::zpD r s
 | _,_=>[]
def Cl.meet:Cl->Cl->Cl
 | .weak,_=>.weak | _,.weak=>.weak | .top,_=>.top | _,.top=>.top | _,_=>.strong
noncomputable def G6:DV->on (Bool×ge DV)
 | .lst ds=>some (false,ds)
 | .tup ds=>some (true,ds)
 | _=>none
def Z1(x:DV)(c:Cl):on Re:=match G6 x with
 | some (_,xs)=>some (.ok (.lst (enuD 0 xs)) (Cl.meet c c))
 | _=>none
def zipD(x y:DV)(c c':Cl):on Re:=match G6 x,G6 y with
 | some (_,xs),some (_,ys)=>some (.ok (.lst (zpD xs ys)) (Cl.meet c c'))
 | _,_=>none
noncomputable def addK(k:DKey)(ks:ge DKey):ge DKey:=if k∈ks then ks else ks++[k]
def dptD(i:Nat)(δ:ge Sv)(ks:ge DKey)(l:ge (DV×Cl))(d:DV):on (ge Sv):=match l,d with
 | [(.int a,_),(.int b,_)],.bl true=>if ks.length<k9 then some (δ.set i (.od (.tup [.dct (addK (.t [.inl a,.inl b]) ks) [],.non])))else none
 | _,_=>none
def insP(p:Int×Int):ge (Int×Int)->ge (Int×Int)
 | []=>[p]
 | q::l=>if ltP p q then p::q::l else q::insP p l
def L7(ps:ge (Int×Int)):ge (Int×Int):=ps.foldr insP []
noncomputable def prK:ge DKey->on (ge (Int×Int))
 | []=>some []
 | .t [.inl a,.inl b]::ks=>(prK ks).map ((a,b) :: ·)
 | _::_=>none
def srdD(ks:ge DKey):on Re:=match prK ks with
 | some ps=>if L6 (L7 ps)=true/\ps.length<=63 then some (.ok (.lst ((L7 ps).map λ p=>.tup [.int p.1,.int p.2])) .fresh)else none
 | none=>none
noncomputable def seqD:DV->on (ge DV)
 | .scr ns=>some (ns.map DV.int)
 | .lst ds=>some ds
 | .tup ds=>some ds
 | _=>none
noncomputable def O4(δ:ge Sv):ge Nat->ge DV->on (ge Sv)
 | [],[]=>some δ
 | i::is,d::ds=>O4 (δ.set i (.val d)) is ds
 | _,_=>none
def Tg.bind(tg:Tg)(d:DV)(δ:ge Sv):on (ge Sv):=match tg with
 | .one i=>some (δ.set i (.val d))
 | .many is=>match d with
  | .tup ds=>O4 δ is ds
  | _=>none
def Sv.plain:Sv->Sv
 | .ot _=>.no
 | s=>s
def z7(fr:ge (on Nat))(δ:ge Sv):ge Sv:=fr.map λ o=>match o with
 | some i=>(δ.getD i .no).plain
 | none=>.no
inductive Rc where
 | skip | item (d:DV)
def x6(g:DV->on Rc):ge DV->on (ge DV)
 | []=>some []
 | d::r=>match g d with
  | none=>none
  | some .skip=>x6 g r
  | some (.item x)=>match x6 g r with
   | none=>none
   | some xs=>some (x::xs)
noncomputable def J6(r:on (ge DV)):on Re:=match r with
 | none=>none
 | some xs=>some (.ok (.lst xs) .fresh)
def Rc.of(r:on Re):on Rc:=match r with
 | some (.ok d c)=>if stro d c then some (.item d)else none
 | _=>none
noncomputable def Rc.test(t:on Rt)(r:on Rc):on Rc:=match t with
 | some (.ok true)=>r
 | some (.ok false)=>some .skip
 | _=>none
inductive Ri where
 | ok (ds:List DV) (c:Cl) | ex (c:Str)
def Ri.thn(r:on Ri)(k:ge DV->Cl->on Re):on Re:=match r with
 | none=>none
 | some (.ex c)=>some (.ex c)
 | some (.ok ds c)=>k ds c
noncomputable def Re.thnI(r:on Re)(k:DV->Cl->on Ri):on Ri:=match r with
 | none=>none
 | some (.ex c)=>some (.ex c)
 | some (.ok d c)=>k d c
def qc(d:DV)(c:Cl):on Ri:=(seqD d).map λ ds=>.ok ds c
def imL:DV->Bool
 | .lst ds=>DV.immuts ds
 | _=>false
def B4(F:Nat->ge DV->on Ou)(f:Nat)(l:ge (DV×Cl)):on Re:=match F f (l.map (·.1))with
 | none=>none
 | some (.x c)=>some (.ex c)
 | some (.t (.dct _ ds))=>some (.ok (.tup ds) .strong)
 | some (.t d)=>some (.ok d (if l.all λ p=>p.2 == .strong||p.2 == .fresh then(match d with | .lst _=>.fresh | _=>.ft)else .weak))
 | some (.v d fr)=>some (.ok d (if l.all λ p=>p.2 == .strong||p.2 == .fresh then(if fr then .fresh else .strong)else if fr&&imL d then .fresh else .weak))
def z8:Nat:=1001
def capD(δ:ge Sv):ge Nat->on (ge DV)
 | []=>some []
 | i::r=>match δ[i]?,capD δ r with
  | some (.val d),some ds=>if d.nolam then some (d::ds)else none
  | _,_=>none
noncomputable def tT:DV->on (ge DV) | .tup l=>some l | _=>none
noncomputable def G7(F:Nat->ge DV->on Ou)(m:DV):ge DV->on (ge Int)
 | []=>some []
 | d::r=>match F z8 [m,d]with
  | some (.v (.int k) false)=>(G7 F m r).map (k :: ·)
  | _=>none
def srtL(F:Nat->ge DV->on Ou)(m:DV)(x:DV)(c:Cl):on Re:=match x with
 | .lst ds=>if(c == .strong||c == .fresh||c == .top)=true/\ds.length<64 then(G7 F m ds).bind λ ks=>(F7 ks).map λ ix=>.ok (.lst (putIx .non ix ds)) .fresh else none
 | _=>none
def andD(x:DV)(c:Cl)(r:on Re):on Re:=match D0 x with
 | none=>none
 | some true=>r
 | some false=>some (.ok x c)
def orD(x:DV)(c:Cl)(r:on Re):on Re:=match D0 x with
 | none=>none
 | some true=>some (.ok x c)
 | some false=>r
def tstD(r:on Re):on Rt:=Re.thnT r λ x _=>(D0 x).map Rt.ok
def q5(r:on Re):on Ri:=Re.thnI r λ x c=>qc x c
mutual
def evE(G:Gs)(F:Nat->ge DV->on Ou):ME->ge Sv->on Re
 | .var i,δ=>match δ[i]? with
  | some (.val d)=>some (.ok d .strong)
  | some (.own d)=>some (.ok d .top)
  | some (.ot d)=>some (.ok (otD d) .weak)
  | _=>none
 | .int i,_=>some (.ok (.int i) .strong)
 | .bl i,_=>some (.ok (.bl i) .strong)
 | .str i,_=>some (.ok (.str i) .strong)
 | .non,_=>some (.ok .non .strong)
 | .glb x,_=>(G.con.lookup x).map λ d=>.ok d .strong
 | .bin op a b,δ=>Re.thn (evE G F a δ) λ x cx=>Re.thn (evE G F b δ) λ y cy=>binD op x y cx cy
 | .not a,δ=>Re.thn (evE G F a δ) λ x _=>(D0 x).map λ k=>.ok (.bl (!k)) .strong
 | .cmp op a b,δ=>Re.thn (evE G F a δ) λ x _=>Re.thn (evE G F b δ) λ y _=>(cmpD op x y).map λ k=>.ok (.bl k) .strong
 | .and es,δ=>D9 G F es δ
 | .or es,δ=>evOr G F es δ
 | .lst es,δ=>Rs.thn (evEs G F es δ) λ l=>if l.length<=k9 then some (.ok (.lst (l.map (·.1))) (if stros l then .fresh else .weak))else none
 | .tup es,δ=>Rs.thn (evEs G F es δ) λ l=>if l.length<=k9 then some (.ok (.tup (l.map (·.1))) (if stros l then .strong else .weak))else none
 | .ix a b,δ=>Re.thn (evE G F a δ) λ x cx=>Re.thn (evE G F b δ) λ y _=>(ixD x y).map λ d=>.ok d cx.item
 | .sl a lo hi,δ=>Re.thn (evE G F a δ) λ x cx=>Re.thn (evE G F lo δ) λ l _=>match l with
  | .int l=>Re.thn (evE G F hi δ) λ h _=>(match h with
   | .int h=>(slD x (some l) (some h)).map λ d=>.ok d (slCl x cx)
   | _=>none)
  | _=>none
 | .slf a lo,δ=>Re.thn (evE G F a δ) λ x cx=>Re.thn (evE G F lo δ) λ l _=>match l with
  | .int l=>(slD x (some l) none).map λ d=>.ok d (slCl x cx)
  | _=>none
 | .slt a hi,δ=>Re.thn (evE G F a δ) λ x cx=>Re.thn (evE G F hi δ) λ h _=>match h with
  | .int h=>(slD x none (some h)).map λ d=>.ok d (slCl x cx)
  | _=>none
 | .call f es,δ=>Rs.thn (evEs G F es δ) λ l=>B4 F f l
 | .bi f es,δ=>if biOk f then Rs.thn (evEs G F es δ) λ l=>biD f l else none
 | .isi a ts,δ=>Re.thn (evE G F a δ) λ x _=>(isiD G x ts).map λ k=>.ok (.bl k) .strong
 | .isx a t,δ=>Re.thn (evE G F a δ) λ x _=>(isxD G x t).map λ k=>.ok (.bl k) .strong
 | .meth m a _,δ=>if m=.bitLength then Re.thn (evE G F a δ) λ x _=>mtD m x else none
 | .comp elt tg it fr,δ=>Ri.thn (q5 (evE G F it δ)) λ ds c=>if c=.weak\/k9<ds.length then none else J6 (x6 (λ d=>(tg.bind d (z7 fr δ)).bind λ δ'=>Rc.of (evE G F elt δ')) ds)
 | .compi elt tg it cd fr,δ=>Ri.thn (q5 (evE G F it δ)) λ ds c=>if c=.weak\/k9<ds.length then none else J6 (x6 (λ d=>(tg.bind d (z7 fr δ)).bind λ δ'=>Rc.test (tstD (evE G F cd δ')) (Rc.of (evE G F elt δ'))) ds)
 | .idx a b,δ=>Re.thn (evE G F a δ) λ x _=>if seqB x then Re.thn (evE G F b δ) λ y _=>(idxD x y).map λ d=>.ok d .strong else none
 | .rng es,δ=>Rs.thn (evEs G F es δ) λ l=>(rngD l).map λ ds=>.ok (.lst ds) .fresh
 | .zp a b,δ=>Re.thn (evE G F a δ) λ x c=>Re.thn (evE G F b δ) λ y c'=>zipD x y c c'
 | .enu a,δ=>Re.thn (evE G F a δ) λ x c=>Z1 x c
 | .srd i,δ=>match δ[i]? with
  | some (.od (.tup [.dct ks [],.non]))=>srdD ks
  | _=>none
 | .srtk a N np lb fr,δ=>match capD δ fr with
  | some cs=>if G.fnl.isEmpty then none else Re.thn (evE G F a δ) λ x cx=>srtL F (.lam ⟨N,np,lb,G.fnl,G.bll,G.cll⟩ cs) x cx
  | none=>none
def evEs(G:Gs)(F:Nat->ge DV->on Ou):ge ME->ge Sv->on Rs
 | [],_=>some (.ok [])
 | e::es,δ=>match evE G F e δ with
  | none=>none
  | some (.ex c)=>some (.ex c)
  | some (.ok d c)=>match evEs G F es δ with
   | none=>none
   | some (.ex c)=>some (.ex c)
   | some (.ok l)=>some (.ok ((d,c)::l))
def D9(G:Gs)(F:Nat->ge DV->on Ou):ge ME->ge Sv->on Re
 | [],_=>none
 | e::es,δ=>if es.isEmpty then evE G F e δ else Re.thn (evE G F e δ) λ x c=>andD x c (D9 G F es δ)
def evOr(G:Gs)(F:Nat->ge DV->on Ou):ge ME->ge Sv->on Re
 | [],_=>none
 | e::es,δ=>if es.isEmpty then evE G F e δ else Re.thn (evE G F e δ) λ x c=>orD x c (evOr G F es δ)
end
def bz:Nat:=1000
noncomputable def Re.thnS(δ:ge Sv)(r:on Re)(k:DV->Cl->on Out):on Out:=match r with
 | none=>none
 | some (.ex c)=>some (.ex c δ)
 | some (.ok d c)=>k d c
def Rs.thnS(δ:ge Sv)(r:on Rs)(k:ge (DV×Cl)->on Out):on Out:=match r with
 | none=>none
 | some (.ex c)=>some (.ex c δ)
 | some (.ok l)=>k l
def Rt.thnS(δ:ge Sv)(r:on Rt)(k:Bool->on Out):on Out:=match r with
 | none=>none
 | some (.ex c)=>some (.ex c δ)
 | some (.ok b)=>k b
def Ri.thnS(δ:ge Sv)(r:on Ri)(k:ge DV->Cl->on Out):on Out:=match r with
 | none=>none
 | some (.ex c)=>some (.ex c δ)
 | some (.ok ds c)=>k ds c
def u7(tg:Tg)(body:ge Sv->on Out):ge DV->ge Sv->on Out
 | [],δ=>some (.nx δ)
 | d::r,δ=>match tg.bind d δ with
  | none=>none
  | some δ1=>match body δ1 with
   | some (.nx δ2)=>u7 tg body r δ2
   | o=>o
def D6(test:ge Sv->on Rt)(body:ge Sv->on Out):Nat->ge Sv->on Out
 | 0,_=>none
 | n+1,δ=>match test δ with
  | none=>none
  | some (.ex c)=>some (.ex c δ)
  | some (.ok false)=>some (.nx δ)
  | some (.ok true)=>match body δ with
   | some (.nx δ2)=>D6 test body n δ2
   | o=>o
def frD:DV->Cl->Bool
 | .lst _,.fresh=>true | .lst _,.top=>true
 | _,_=>false
noncomputable def noOt(i:Nat)(δ:ge Sv):Bool:=(List.range δ.length).all λ j=>j==i||(match δ[j]? with | some (.ot _)=>false | some (.od _)=>false | _=>true)
def J7(i:Nat)(δ:ge Sv)(d:DV)(c:Cl):on Out:=match c with
 | .fresh=>some (.nx (δ.set i (.own d)))
 | .ft=>if noOt i δ then some (.nx (δ.set i (.ot d)))else none
 | _=>match d with
  | .non=>some (.nx (δ.set i (.val .non)))
  | _=>none
def retD(d:DV)(c:Cl):Out:=match c with
 | .ft=>.rtt d
 | _=>.rt d (frD d c)
noncomputable def caL:Nat->ge DV->Bool
 | 0,ds=>ds.isEmpty
 | n+1,ds=>!ds.isEmpty&&ds.all λ d=>match d with
  | .tup [.int _,.int _,.lst es]=>caL n es
  | _=>false
noncomputable def c3(c:Int×Int×ge DV):DV:=.tup [.int c.1,.int c.2.1,.lst c.2.2]
noncomputable def asC3:DV->on (Int×Int×ge DV)
 | .tup [.int a,.int b,.lst ds]=>some (a,b,ds)
 | _=>none
noncomputable def asIv:on Sv->on Int
 | some (.val (.int a))=>some a
 | _=>none
noncomputable def augD(i:Nat)(a:Int)(δ:ge Sv):DV->on Out
 | .int b=>some (.nx (δ.set i (.val (.int (a+b)))))
 | _=>none
noncomputable def asOt:on Sv->on DV
 | some (.ot d)=>some d
 | _=>none
noncomputable def asT:on Ou->on DV
 | some (.t d)=>some d
 | _=>none
noncomputable def asFr:on Re->on (ge DV)
 | some (.ok (.lst ds) .fresh)=>some ds
 | _=>none
noncomputable def rt3D(l:ge (DV×Cl)):on Out:=match l with
 | [(.int a,_),(.int b,_),(.lst ds,.fresh)]=>some (.rtt (.tup [.int a,.int b,.lst ds]))
 | _=>none
def tryD(G:Gs)(c:Str)(ie ic:Nat)(r:on Out):on Out:=match r with
 | some (.ex c' δ')=>if(G.cls.lookup c').isSome/\E9 G c' c/\ie<δ'.length/\ie≠ic then some (.nx ((δ'.set ic (.val (.exc c'))).set ie .no))else none
 | o=>o
mutual
def evS(G:Gs)(F:Nat->ge DV->on Ou)(fu:Nat):MS->ge Sv->on Out
 | .set i own e,δ=>Re.thnS δ (evE G F e δ) λ d c=>if own then J7 i δ d c else(if stro d c then some (.nx (δ.set i (.val d)))else none)
 | .aug i e,δ=>(asIv δ[i]?).bind λ a=>Re.thnS δ (evE G F e δ) λ d _=>augD i a δ d
 | .app i e,δ=>match δ[i]? with
  | some (.own (.lst ds))=>Re.thnS δ (evE G F e δ) λ d c=>if stro d c/\ds.length<k9 then some (.nx (δ.set i (.own (.lst (ds++[d])))))else none
  | _=>none
 | .ext i e,δ=>match δ[i]? with
  | some (.own (.lst ds))=>Re.thnS δ (evE G F e δ) λ d c=>if c=.strong\/c=.fresh then(match G6 d with
   | some (_,ys)=>if ds.length+ys.length<=k9 then some (.nx (δ.set i (.own (.lst (ds++ys)))))else none
   | none=>none)else none
  | _=>none
 | .seti i k e,δ=>match δ[i]? with
  | some (.own (.lst ds))=>Re.thnS δ (evE G F e δ) λ d c=>Re.thnS δ (evE G F k δ) λ k _=>(match k with
   | .int k=>(match A9 ds.length k with
    | some j=>if stro d c then some (.nx (δ.set i (.own (.lst (ds.set j d)))))else none
    | none=>none)
   | _=>none)
  | _=>none
 | .exp e,δ=>Re.thnS δ (evE G F e δ) λ _ _=>some (.nx δ)
 | .ret e,δ=>Re.thnS δ (evE G F e δ) λ d c=>some (retD d c)
 | .rt3 es,δ=>Rs.thnS δ (evEs G F es δ) λ l=>rt3D l
 | .hld h i f e,δ=>((asOt δ[i]?).bind asC3).bind λ c=>(asFr (evE G F e δ)).bind λ gs=>((asT (F f [c3 c])).bind asC3).bind λ c'=>((List.range 30).find? λ m=>caL m c.2.2&&caL m c'.2.2).map λ _=>.nx (δ.set h (.val (.lst [.lst gs,c3 c'])))
 | .app2 i e,δ=>match δ[i]? with
  | some (.ot (.tup (.int _ :: .int _ :: .lst ds::_)))=>Re.thnS δ (evE G F e δ) λ d c=>if stro d c/\ds.length<k9/\noOt i δ=true then some (.nx (δ.set i .no))else none
  | _=>none
 | .iff c a b,δ=>Rt.thnS δ (tstD (evE G F c δ)) λ k=>if k then evSs G F fu a δ else evSs G F fu b δ
 | .fo tg it body,δ=>Ri.thnS δ (q5 (evE G F it δ)) λ ds c=>if c=.strong\/c=.fresh then u7 tg (λ δ'=>evSs G F fu body δ') ds δ else none
 | .wh c body,δ=>D6 (λ δ'=>tstD (evE G F c δ')) (λ δ'=>evSs G F fu body δ') fu δ
 | .unk,_=>none
 | .ses i,δ=>if noOt i δ then some (.nx (δ.set i (.od (.tup [.dct [] [],.non]))))else none
 | .dpt i ks e,δ=>match δ[i]? with
  | some (.od (.tup [.dct kk [],.non]))=>Re.thnS δ (evE G F e δ) λ d _=>Rs.thnS δ (evEs G F ks δ) λ l=>(dptD i δ kk l d).map Out.nx
  | _=>none
 | .rse c e,δ=>if(G.cls.lookup c).isSome then Re.thnS δ (evE G F e δ) λ _ _=>some (.ex c δ)else none
 | .tryc body c ie ic,δ=>tryD G c ie ic (evSs G F fu body δ)
 | .frz i,δ=>match δ[i]? with
  | some (.own d)=>some (.nx (δ.set i (.val d)))
  | _=>some (.nx δ)
def evSs(G:Gs)(F:Nat->ge DV->on Ou)(fu:Nat):ge MS->ge Sv->on Out
 | [],δ=>some (.nx δ)
 | s::r,δ=>match evS G F fu s δ with
  | some (.nx δ')=>evSs G F fu r δ'
  | o=>o
end
noncomputable def j0(n:Nat)(ds:ge DV):ge Sv:=ds.map Sv.val++List.replicate (n - ds.length) .no
def Ou.of(o:on Out):on Ou:=match o with
 | some (.nx _)=>some (.v .non false)
 | some (.rt d fr)=>some (.v d fr)
 | some (.rtt d)=>some (.t d)
 | some (.ex c _)=>some (.x c)
 | none=>none
def lamR(ev:ME->ge Sv->on Re)(ds:ge DV):on Ou:=match ds with
 | .lam m cs::args=>if args.length=m.np/\args.length+cs.length=m.N.length/\DV.nolams args=true/\DV.nolams cs=true then(match ev m.body ((args++cs).map Sv.val)with
  | some (.ok d .strong)=>if d.nolam then some (.v d false)else none
  | _=>none)else none
 | _=>none
def run(G:Gs)(T:ge FD)(fu:Nat):Nat->Nat->ge DV->on Ou
 | 0,_,_=>none
 | k+1,f,ds=>match T[f]? with
  | none=>if f=z8 then lamR (evE G (run G T fu k)) ds else none
  | some fd=>if ds.length=fd.np then Ou.of (evSs G (run G T fu k) fu fd.body (j0 fd.n ds))else none
section
theorem A4:Re.thn (some (.ok d c)) k=k d c:=rfl
theorem O5:Rs.thn (some (.ok l)) k=k l:=rfl
theorem U0:Ri.thn (some (.ok ds c)) k=k ds c:=rfl
theorem fy:Re.thnS δ (some (.ok d c)) k=k d c:=rfl
theorem qd:Ri.thnS δ (some (.ok ds c)) k=k ds c:=rfl
theorem qe{G:Gs}{F:Nat->ge DV->on Ou}{fu:Nat}{δ:ge Sv}{m:MS}{r:ge MS}{δ':ge Sv}(h:evS G F fu m δ=some (.nx δ')):evSs G F fu (m::r) δ=evSs G F fu r δ':=by
 rw[show evSs G F fu (m::r) δ=(match evS G F fu m δ with | some (.nx δ')=>evSs G F fu r δ' | o=>o)from rfl,h]
theorem qf(h:evS G F fu m δ=some (.rt d fr)):evSs G F fu (m::r) δ=some (.rt d fr):=by
 rw[show evSs G F fu _ δ=(match evS G F fu m δ with | some (.nx δ')=>evSs G F fu r δ' | o=>o)from rfl,h]
theorem m7(h:T[f]? = some fd)(a:ds.length=fd.np):run G T fu (k+1) f ds=Ou.of (evSs G (run G T fu k) fu fd.body (j0 fd.n ds)):=by
 show(match T[f]? with | none=>if f=z8 then lamR _ ds else none | some fd=>if ds.length=fd.np then Ou.of (evSs G _ fu fd.body _)else none)=_;rw[h];exact d6 a
end
end L2
namespace L2
open PySem
theorem fz:∀{a:ge DV},(∀d∈a,g d=some (if p d then .item d else .skip))->x6 g a=some (a.filter p)
 | [],_=>rfl
 | d::r,h=>by
  have b:=fz (λ d e=>h d (i8 _ e));unfold x6;rw[(h d (i9 ..))];cases c:p d with
  | false=>rw[List.filter_cons_of_neg (by grind)];exact b
  | true=>
   rw[List.filter_cons_of_pos c];show(match x6 g r with | none=>none | some xs=>some _)=_;rw[b]
theorem bA:∀{a:ge DV},(∀d∈a,g d=some (.item (f d)))->x6 g a=some (a.map f)
 | [],_=>rfl
 | d::r,h=>by unfold x6;rw[(h d (i9 ..))];show(match x6 g r with | none=>none | some xs=>some _)=_;rw[(bA (λ d b=>h d (i8 _ b)))];rfl
theorem fA(h:d∈upTo a n):∃j:Nat,j<n/\d=.int (a+j):=by
 unfold upTo at h;rw[k8]at h;obtain⟨j,b,rfl⟩:=h;exact⟨j,k6.mp b,rfl⟩
end L2
namespace L2
open PySem
section
theorem o4(h:evSs G F fu r δ=some (.rt d fr)):Ou.of (evSs G F fu r δ)=some (.v d fr):=by rw[h];rfl
theorem qg(h:evSs G F fu r δ=some (.nx δ')):Ou.of (evSs G F fu r δ)=some (.v .non false):=by rw[h];rfl
theorem f8(h:evS G F fu m δ=some (.nx δ'))(a:evSs G F fu r δ'=o):evSs G F fu (m::r) δ=o:=(qe h).trans a
theorem k7(h:evS G F fu m δ=some (.rt d fr)):evSs G F fu (m::r) δ=some (.rt d fr):=qf h
theorem O6(d:tstD (evE G F c δ)=some (.ok bb)):evS G F fu (.iff c a b) δ=if bb then evSs G F fu a δ else evSs G F fu b δ:=by
 show Rt.thnS δ _ _=_;rw[d];rfl
theorem G8(d:tstD (evE G F c δ)=some (.ok true))(h:evSs G F fu a δ=some (.nx δ'))(e:evSs G F fu r δ'=o):evSs G F fu (.iff c a b::r) δ=o:=f8 ((O6 d).trans h) e
theorem bB(d:tstD (evE G F c δ)=some (.ok false))(h:evSs G F fu b δ=some (.nx δ'))(e:evSs G F fu r δ'=o):evSs G F fu (.iff c a b::r) δ=o:=f8 ((O6 d).trans h) e
theorem L8(e:tstD (evE G F c δ)=some (.ok true))(h:evSs G F fu a δ=some (.rt d fr)):evSs G F fu (.iff c a b::r) δ=some (.rt d fr):=k7 ((O6 e).trans h)
theorem p5(b:tstD (evE G F c δ)=some (.ok false))(d:evSs G F fu r δ=o):evSs G F fu (.iff c a []::r) δ=o:=bB b rfl d
theorem E2(b:q5 (evE G F it δ)=some (.ok ds cl))(c:cl=.strong\/cl=.fresh)(h:u7 tg (λ δ'=>evSs G F fu body δ') ds δ=some (.nx δ'))(d:evSs G F fu r δ'=o):evSs G F fu (.fo tg it body::r) δ=o:=by
 refine f8 ?_ d;show Ri.thnS δ _ _=_;rw[b];show(if cl=.strong\/cl=.fresh then u7 tg _ ds δ else none)=_
 rwa [d6 c]
theorem j3(h:evE G F e δ=some (.ok d cl))(hs:stro d cl=true):evS G F fu (.set i false e) δ=some (.nx (δ.set i (.val d))):=by
 show Re.thnS δ _ _=_;rw[h];show(if stro d cl then some _ else none)=_;rw[d6 hs]
theorem O7(h:evE G F e δ=some (.ok d .fresh)):evS G F fu (.set i true e) δ=some (.nx (δ.set i (.own d))):=by
 show Re.thnS δ _ _=_;rw[h];rfl
theorem p8(h:evE G F e δ=some (.ok d cl))(a:cl ≠ .ft:=by first | decide | (intro z;cases z)):evS G F fu (.ret e) δ=some (.rt d (frD d cl)):=by
 show Re.thnS δ _ _=_;rw[h];show some _=_;cases cl<;>first | rfl | exact absurd rfl a
theorem qh(h:evE G F e δ=some (.ok d .ft)):evS G F fu (.ret e) δ=some (.rtt d):=by
 show Re.thnS δ _ _=_;rw[h];rfl
theorem j1(a:evEs G F es δ=some (.ok l))(hs:(l.all λ p=>p.2 == .strong||p.2 == .fresh)=true)(h:F f (l.map (·.1))=some (.v d fr)):evE G F (.call f es) δ=some (.ok d (if fr then .fresh else .strong)):=by
 show Rs.thn _ _=_;rw[a];show B4 F f l=_;unfold B4;rw[h,hs];rfl
theorem i0(h:evE G F e δ=some (.ok (.bl x) cl)):tstD (evE G F e δ)=some (.ok x):=by rw[h];rfl
theorem J8(h:evE G F e δ=some (.ok (.bl x) cl)):evE G F (.not e) δ=some (.ok (.bl (!x)) .strong):=by
 show Re.thn _ _=_;rw[h];rfl
end
end L2
namespace L2
open PySem
section
theorem B5(d:evE G F a δ=some (.ok x cx))(c:evE G F b δ=some (.ok y cy))(h:binD op x y cx cy=r):evE G F (.bin op a b) δ=r:=by
 show Re.thn _ _=_;rw[d,A4,c,A4,h]
theorem C3(d:evE G F a δ=some (.ok x cx))(c:evE G F b δ=some (.ok y cy))(h:cmpD op x y=some t):evE G F (.cmp op a b) δ=some (.ok (.bl t) .strong):=by
 show Re.thn _ _=_;rw[d,A4,c,A4,h];rfl
theorem w5(e:evE G F a δ=some (.ok x cx))(c:evE G F b δ=some (.ok y cy))(h:ixD x y=some d):evE G F (.ix a b) δ=some (.ok d cx.item):=by
 show Re.thn _ _=_;rw[e,A4,c,A4,h];rfl
theorem j5:evEs G F [] δ=some (.ok []):=rfl
theorem e9(b:evE G F a δ=some (.ok x cx))(h:evEs G F es δ=some (.ok l)):evEs G F (a::es) δ=some (.ok ((x,cx)::l)):=by
 unfold evEs;rw[b,h]
end
end L2
namespace L2
open PySem
section
theorem bC(b:δ[i]? = some (.own (.lst ds)))(h:evE G F e δ=some (.ok d cl))(hs:stro d cl=true)(a:ds.length<k9):evS G F fu (.app i e) δ=some (.nx (δ.set i (.own (.lst (ds++[d]))))):=by
 unfold evS;rw[b];show Re.thnS δ _ _=_;rw[h];exact d6 ⟨hs,a⟩
theorem qi(c:δ[i]? = some (.own (.lst ds)))(h:evE G F e δ=some (.ok d cl))(a:evE G F k δ=some (.ok (.int n) cx))(hs:stro d cl=true)(b:A9 ds.length n=some j):evS G F fu (.seti i k e) δ=some (.nx (δ.set i (.own (.lst (ds.set j d))))):=by
 unfold evS;rw[c];show Re.thnS δ _ _=_;rw[h,fy,a,fy];show(match A9 ds.length n with | some j=>if stro d cl then some _ else none | none=>none)=_;rw[b];exact d6 hs
theorem qj(h:test δ=some (.ok false)):D6 test body (n+1) δ=some (.nx δ):=by
 unfold D6;rw[h]
theorem qm(h:test δ=some (.ok true))(a:body δ=some (.nx δ'))(hr:D6 test body n δ'=o):D6 test body (n+1) δ=o:=by
 unfold D6
 rwa [h,a]
theorem qo(h:D6 (λ δ'=>tstD (evE G F c δ')) (λ δ'=>evSs G F fu body δ') fu δ=some (.nx δ'))(b:evSs G F fu r δ'=o):evSs G F fu (.wh c body::r) δ=o:=f8 h b
end
end L2
namespace L2
open PySem
section
theorem L9{I:Nat->ge Sv->Prop}:∀(n:Nat) (c:Int) {δ:ge Sv},(∀j<n,∀δ,I j δ->∃b,body (δ.set i (.val (.int (c+j))))=some (.nx b)/\I (j+1) b)->I 0 δ->∃d,u7 (.one i) body (upTo c n) δ=some (.nx d)/\I n d
 | 0,_,δ,_,g=>⟨δ,rfl,g⟩
 | n+1,c,δ,h,g=>by
  have e:upTo c (n+1)=.int c::upTo (c+1) n:=by
   unfold upTo;rw[List.range_succ_eq_map,u0,List.map_map]
   congr 1
   ·congr 1;omega
   ·apply List.map_congr_left;intro a _;show DV.int _=DV.int _
    congr 1
    push_cast
    omega
  obtain⟨b,k,r⟩:=h 0 (by omega) δ g;rw[show c+_=c by omega]at k;obtain⟨d,u,p⟩:=L9 n (c+1) (λ j hj δ q=>by
   obtain⟨f,m,l⟩:=h (j+1) (by omega) δ q;refine⟨f,?_,l⟩;rw[show c+1+_=c+((j+1:Nat):Int) by push_cast;omega];exact m) r
  refine⟨d,?_,p⟩;rw[e];show(match body (δ.set i _)with | some (.nx b)=>u7 _ body _ b | o=>o)=_;rw[k];exact u
theorem qp(b:q5 (evE G F it δ)=some (.ok ds cl))(hc:cl ≠ .weak)(hl:ds.length<=k9)
  (h:∀d∈ds,∃a,tg.bind d (z7 fr δ)=some a/\tstD (evE G F cd a)=some (.ok (p d))/\evE G F elt a=some (.ok d .strong)):evE G F (.compi elt tg it cd fr) δ=some (.ok (.lst (ds.filter p)) .fresh):=by
 show Ri.thn _ _=_;rw[b,U0,d9 (by grind),fz (λ d c=>?_)]
 ·rfl
 ·obtain⟨a,g,f,e⟩:=h d c;rw[g,Option.bind_some,f,e];cases p d<;>rfl
theorem qr(b:q5 (evE G F it δ)=some (.ok ds cl))(hc:cl ≠ .weak)(hl:ds.length<=k9)
  (h:∀d∈ds,∃a,tg.bind d (z7 fr δ)=some a/\evE G F elt a=some (.ok (f d) .strong)):evE G F (.comp elt tg it fr) δ=some (.ok (.lst (ds.map f)) .fresh):=by
 show Ri.thn _ _=_;rw[b,U0,d9 (by grind),bA (λ d c=>?_)]
 ·rfl
 ·obtain⟨a,g,e⟩:=h d c;rw[g,Option.bind_some,e];rfl
theorem qu{l:ge Int}(h:j<l.length):ixD (.lst (l.map DV.int)) (.int j)=some (.int l[j]):=by
 have a:(j:Int)<((l.map DV.int).length:Int):=by rw[e7];exact_mod_cast h
 simp only[ixD,atD,A9,d6 (y9 j),d6 a,Option.bind_some,z0,u4,j8 h,Option.map_some]
theorem fB{l:ge Int}{i:Int}(a:0<=i)(h:i<l.length):∃v,ixD (.lst (l.map DV.int)) (.int i)=some (.int v):=by
 obtain⟨j,rfl⟩:=Int.eq_ofNat_of_zero_le a;exact⟨_,qu (by omega)⟩
end
end L2
namespace L2
open PySem
section
end
end L2
namespace L2
open PySem
section
theorem g8:evE G F (.int i) δ=some (.ok (.int i) .strong):=rfl
theorem d5(h:δ[n]? = some (.val d)):evE G F (.var n) δ=some (.ok d .strong):=by unfold evE;rw[h]
theorem Z2(h:δ[n]? = some (.own d)):evE G F (.var n) δ=some (.ok d .top):=by unfold evE;rw[h]
theorem E3(d:evE G F a δ=some (.ok (.int i) cx))(c:evE G F b δ=some (.ok (.int j) cy)):evE G F (.bin .Add a b) δ=some (.ok (.int (i+j)) .strong):=B5 d c rfl
theorem O8(d:evE G F a δ=some (.ok (.int i) cx))(c:evE G F b δ=some (.ok (.int j) cy)):evE G F (.bin .Sub a b) δ=some (.ok (.int (i - j)) .strong):=B5 d c rfl
theorem M0(d:evE G F a δ=some (.ok (.int i) cx))(c:evE G F b δ=some (.ok (.int j) cy))(h:D7 i j=true):evE G F (.bin .Mult a b) δ=some (.ok (.int (i*j)) .strong):=B5 d c (d6 h)
theorem y6(d:evE G F a δ=some (.ok (.int i) cx))(c:evE G F b δ=some (.ok (.int j) cy))(h:0<j):evE G F (.bin .Mod a b) δ=some (.ok (.int (i%j)) .strong):=B5 d c (d6 h)
theorem U1(d:evE G F a δ=some (.ok (.int i) cx))(c:evE G F b δ=some (.ok (.int j) cy))(h:0<j/\j<1073741824):evE G F (.bin .FloorDiv a b) δ=some (.ok (.int (i/j)) .strong):=B5 d c (d6 ⟨h.1,Int.lt_trans h.2 (by decide)⟩)
theorem b_eq(d:evE G F a δ=some (.ok (.int i) cx))(c:evE G F b δ=some (.ok (.int j) cy)):evE G F (.cmp .Eq a b) δ=some (.ok (.bl (i==j)) .strong):=C3 d c rfl
theorem b_lt(d:evE G F a δ=some (.ok (.int i) cx))(c:evE G F b δ=some (.ok (.int j) cy)):evE G F (.cmp .Lt a b) δ=some (.ok (.bl (decide (i<j))) .strong):=C3 d c rfl
end
end L2
namespace L2
open PySem
section
end
end L2
namespace L2
open PySem
end L2
namespace L2
open PySem
section
end
def Rise(xs:zr Nat):Prop:=∀(i k x y:Nat),i<k->xs[i]? = some x->xs[k]? = some y->x<y
theorem fC(v:Rise xs):∀(c b a:Nat),b<=a->a<=xs.size->a - b<=c ->
  (∀i x,i<b->xs[i]? = some x->x<j)->(∀i x,a<=i->xs[i]? = some x->j<=x) ->
  (∀i x,i<SetTable.below.go xs j c b a->xs[i]? = some x->x<j)/\(∀i x,SetTable.below.go xs j c b a<=i->xs[i]? = some x->j<=x):=by
 intro c
 induction c with
 | zero=>
  intro b a z w y l k;have:b=a:=by omega
  subst this;exact⟨l,k⟩
 | succ n u=>
  intro b a z w y l k;unfold SetTable.below.go;by_cases g:b<a
  ·rw[d6 g];have hm:(b+a)/2<a:=by omega
   have o:b<=(b+a)/2:=by omega
   have m:(b+a)/2<xs.size:=by omega
   have h:=C6 m;have r:xs.getD ((b+a)/2) j=xs[(b+a)/2]:=(by rw[A7,h];rfl);dsimp only;rw[r];by_cases f:xs[(b+a)/2]<j
   ·rw[d6 f];refine u _ _ (by omega) w (by omega) (λ i x p d=>?_) k;rcases Nat.lt_or_ge i ((b+a)/2)with q | q
    ·exact Nat.lt_trans (v i _ x _ q d h) f
    ·have e:i=(b+a)/2:=by omega
     subst e;rw[h]at d;cases d;exact f
   ·rw[d9 f];refine u _ _ o (by omega) (by omega) l λ i x p d=>?_
    rcases Nat.lt_or_ge ((b+a)/2) i with q | q
    ·exact g9 (Nat.le_of_not_lt f) (Nat.le_of_lt (v _ i _ x q h d))
    ·have e:i=(b+a)/2:=by omega
     subst e;rw[h]at d;cases d;exact Nat.le_of_not_lt f
  ·rw[d9 g];have:b=a:=by omega
   subst this;exact⟨l,k⟩
theorem bD(b:Rise xs)(h:i<SetTable.below xs j)(a:xs[i]? = some x):x<j:=
 (fC b xs.size 0 xs.size (Nat.zero_le _) (i7 _) (by omega) (λ i x h=>by omega) λ i x h a=>by
  rw[Array.getElem?_eq_none h]at a;cases a).1 i x h a
theorem Z3(b:Rise xs)(h:SetTable.below xs j<=i)(a:xs[i]? = some x):j<=x:=
 (fC b xs.size 0 xs.size (Nat.zero_le _) (i7 _) (by omega) (λ i x h=>by omega) λ i x h a=>by
  rw[Array.getElem?_eq_none h]at a;cases a).2 i x h a
theorem qv:∀(a c b:Nat),c<=b->SetTable.below.go xs j a c b<=b:=by
 intro a
 induction a with
 | zero=>intro c b h;exact h
 | succ n d=>
  intro c b h;unfold SetTable.below.go;dsimp;split
  ·split
   ·exact d _ _ (by omega)
   ·exact g9 (d _ _ (by omega)) (by omega)
  ·exact h
theorem fE:SetTable.below xs j<=xs.size:=qv _ _ _ (Nat.zero_le _)
theorem qw(d:Rise xs)(c:xs[i]? = some x):SetTable.below xs (x+1)=i+1:=by
 have hi:i<xs.size:=by
  rcases Nat.lt_or_ge i xs.size with h | h
  ·exact h
  ·rw[Array.getElem?_eq_none h]at c;cases c
 rcases Nat.lt_trichotomy _ _ with h | h | h
 ·have:=Z3 d (j:=x+1) (Nat.le_of_lt_succ h) c;omega
 ·exact h
 ·have h2:SetTable.below xs (x+1)<=xs.size:=fE;have f:i+1<xs.size:=by omega
  have e:=C6 f;have a:=bD d h e;have b:=d i _ x _ (Nat.lt_succ_self _) c e;omega
theorem qx(b:Rise xs):SetTable.below xs 0=0:=by
 rcases Nat.eq_zero_or_pos _ with h | h
 ·exact h
 ·have h2:SetTable.below xs 0<=xs.size:=fE;have a:=bD b h (C6 (by omega));omega
theorem Rise.empty:Rise #[]:=λ i k x y _ a=>by simp at a
theorem Rise.range(n:Nat):Rise (Array.range n):=λ i k x y h b a=>by
 rw[Array.getElem?_range]at b a;split at b
 ·split at a
  ·cases b;cases a;exact h
  ·cases a
 ·cases b
theorem fF{l:ge Nat}(h:l.Pairwise (· < ·)):Rise l.toArray:=λ i k x y a c b=>by
 obtain⟨e,g⟩:=t6.mp (by simpa using c);obtain⟨d,f⟩:=t6.mp (by simpa using b);rw[←g,←f];exact List.pairwise_iff_getElem.mp h i k e d a
theorem qy(h:Rise xs):xs.toList.Pairwise (· < ·):=by
 refine List.pairwise_iff_getElem.mpr λ i k c b a=>?_;exact h i k _ _ a (by rw[←Array.getElem?_toList];exact j8 c) (by rw[←Array.getElem?_toList];exact j8 b)
structure Tab(t:SetTable)(b:Bool):Prop where
 rise:Rise t.place
 dum:t.dummies = #[]
 led:t.led=b
theorem Tab.fresh(b:Bool):Tab (SetTable.fresh 0 0 b) b:=⟨Rise.empty,rfl,rfl⟩
theorem Tab.standIn(h:Tab t b)(n:Nat):Tab (t.standIn n) b:=⟨Rise.range n,rfl,h.led⟩
theorem fG(j:Nat):SetTable.has #[] j=false:=by
 unfold SetTable.has;simp
theorem qz(h:Tab t b)(f:Nat->Int)(z:Int):∀(a:Nat) (p:SetTable.Probe) (j:Nat) (d:on Nat),p.dummy=none->SetTable.probe.go t f z a p=some (.empty j d)->d=none/\t.slot j=.empty:=by
 intro a
 induction a with
 | zero=>intro p j d c e;cases e
 | succ n g=>
  intro p j d c e;unfold SetTable.probe.go at e;cases hs:t.slot p.j with
  | empty=>rw[hs]at e;cases e;exact⟨c,hs⟩
  | dummy=>
   unfold SetTable.slot at hs;rw[h.dum,fG]at hs;dsimp at hs;split at hs
   ·cases hs
   ·cases hs
  | live i=>
   rw[hs]at e;dsimp at e;split at e
   ·cases e
   ·refine g _ j d ?_ e;unfold SetTable.advance;split
    ·exact c
    ·exact c
theorem qA(h:Tab t b)(e:t.freeSlot z=some (j,w)):t.slot j=.empty:=by
 unfold SetTable.freeSlot at e;split at e
 ·rename_i j' d a;obtain⟨c,hs⟩:=qz h _ _ _ _ _ _ rfl a;subst c;cases e;exact hs
 ·cases e
theorem Tab.put(h:Tab t b)(hs:t.slot j=.empty):Tab (t.put j).1 b:=by
 have m:t.place[SetTable.below t.place j]? ≠ some j:=λ z=>by unfold SetTable.slot at hs;dsimp only at hs;rw[z]at hs;simp at hs
 refine⟨?_,?_,h.led⟩
 ·show Rise _;have g:=qy h.rise;have:(SetTable.insertAt t.place (SetTable.below t.place j) j).toList.Pairwise (· < ·):=by
   rw[(SetTable.toList_insertAt _ _ _),List.pairwise_append];refine⟨g.sublist (List.take_sublist _ _),A3.mpr ⟨λ y f=>?_,g.sublist (List.drop_sublist _ _)⟩,λ x l y f=>?_⟩
   ·obtain⟨i,d⟩:=List.mem_iff_getElem?.mp f;rw[List.getElem?_drop,Array.getElem?_toList]at d;rcases Nat.lt_or_eq_of_le (Z3 h.rise (Nat.le_add_right _ _) d)with q | q
    ·exact q
    ·exfalso;subst q;rcases Nat.eq_zero_or_pos i with z | z
     ·subst z;exact m d
     ·have n:SetTable.below t.place j<t.place.size:=by
       rcases Nat.lt_or_ge (SetTable.below t.place j+i) t.place.size with q | q
       ·omega
       ·rw[Array.getElem?_eq_none q]at d;cases d
      have k:=C6 n;have a:=Z3 h.rise (i7 _) k;have c:=h.rise _ _ _ _ (by omega) k d;omega
   ·have e:x<j:=by
     obtain⟨i,d⟩:=List.mem_iff_getElem?.mp l;rw[List.getElem?_take]at d;split at d
     ·rw[Array.getElem?_toList]at d;exact bD h.rise (by omega) d
     ·cases d
    rcases e8.mp f with q | q
    ·rw[q];exact e
    ·obtain⟨i,d⟩:=List.mem_iff_getElem?.mp q;rw[List.getElem?_drop,Array.getElem?_toList]at d;exact p6 e (Z3 h.rise (Nat.le_add_right _ _) d)
  have r:=fF this
  rwa [Array.toArray_toList]at r
 ·show(if SetTable.has t.dummies j then _ else t.dummies) = #[];rw[h.dum,fG];rfl
theorem Tab.orStandIn(h:Tab t b)(n:Nat):Tab (t.orStandIn n) b:=by
 unfold SetTable.orStandIn;split
 ·exact h
 ·exact h.standIn n
theorem Tab.layNew{t:zD}{b:Bool}(h:Tab t b)(es:zr (Int×zk))(z:Int)(x:zk):Tab (layNew t es z x).2.1 b:=by
 unfold PySem.layNew;split
 ·rename_i j w e;exact(h.put (qA h e)).orStandIn _
 ·exact h.standIn _
theorem fH{f:Nat->on Nat}:∀{l:ge Nat},l.Pairwise (· < ·)->((l.filterMap λ j=>(f j).map (j,·)).map (·.1)).Pairwise (· < ·)
 | [],_=>.nil
 | a::l,h=>by
  obtain⟨o,n⟩:=A3.mp h;have d:=fH (f:=f) n;rw[List.filterMap_cons];cases e:f a with
  | none=>exact d
  | some c=>
   refine A3.mpr ⟨λ y i=>?_,d⟩;obtain⟨p,k,rfl⟩:=k8.mp i;obtain⟨j,m,b⟩:=List.mem_filterMap.mp k;cases g:f j with
   | none=>rw[g]at b;cases b
   | some c2=>rw[g]at b;cases b;exact o j m
theorem Tab.relayAll{t:zD}{b:Bool}(h:Tab t b)(es:zr (Int×zk))(n:Nat):Tab (relayAll t es n).2.1 b:=by
 unfold PySem.relayAll;split
 ·rename_i t' order e;dsimp only;split
  ·show Tab t' b;unfold SetTable.relaid SetTable.laid at e;cases hl:SetTable.layClean (SetTable.sizeAbove n - 1) (es.map (·.1))with
   | none=>rw[hl]at e;cases e
   | some owner=>
    rw[hl]at e;cases e;exact⟨fF (fH (List.pairwise_lt_range)),rfl,h.led⟩
  ·exact h.standIn _
 ·exact h.standIn _
theorem bE{b:Type}{x:b}:∀{l:ge b} {i:Nat} (h:i<l.length),l[i]=x->(x::l.eraseIdx i).Perm l
 | [],i,h,_=>by cases h
 | a::l,0,_,e=>by have e:=e;subst e;exact .rfl
 | a::l,i+1,h,e=>by rw[List.eraseIdx_cons_succ];exact(List.Perm.swap a x _).trans (List.Perm.cons a (bE (by simpa using h) (by simpa using e)))
theorem qB(d:Nat->Nat):∀(c k:Nat) (b:ge i) (f:zr i),b.length<=c->(pickOrder.go d c k b f).toList.Perm (f.toList++b):=by
 intro c
 induction c with
 | zero=>
  intro k b f h;have:b=[]:=List.length_eq_zero_iff.mp (by omega);subst this;unfold pickOrder.go;rw[List.append_nil]
 | succ n j=>
  intro k b f h;unfold pickOrder.go;cases e:b[d k%b.length]? with
  | none=>
   have:b=[]:=by
    cases b with
    | nil=>rfl
    | cons a r=>
     have g:d k%(a::r).length<(a::r).length:=Nat.mod_lt _ (by simp);rw[j8 g]at e;cases e
   subst this;rw[List.append_nil]
  | some x=>
   obtain⟨g,l⟩:=t6.mp e;refine(j _ _ _ ((by rw[List.length_eraseIdx,d6 g];omega))).trans ?_;rw[Array.toList_push,List.append_assoc];refine List.Perm.append_left _ ?_;exact bE g l
theorem fI(a:Nat->Nat)(xs:zr b):(pickOrder a xs).toList.Perm xs.toList:=by
 unfold pickOrder;exact(qB a xs.size 0 xs.toList #[] (by simp)).trans (by simp)
noncomputable def E4:zk->Int
 | .int n _=>n
 | _=>0
noncomputable def z9(w:zt):Bool:=w.params.followText "set-order"
def SetI(prog:zu)(w:zt)(h:zo)(a:zn)(ks:ge Int):Prop:=
 ∃o es ep t,h.get? a=some o/\o.ExactSet/\o.data=.set es ep t/\ElemsOf (intKind prog w) es.toList/\(es.toList.map λ e=>E4 e.2).Perm ks/\es.size<scanBound/\t.fits es.size=true/\Tab t (!z9 w)
section
theorem fJ(h:ElemsOf (intKind prog w) es)(b:e∈es):∃t,e.2=.int (E4 e.2) t:=by
 obtain⟨⟨k,a,_⟩,_⟩:=h e b;obtain⟨t,q⟩:=Value.isInt_shape a;exact⟨t,by rw[q];rfl⟩
theorem fK(h:ElemsOf (intKind prog w) es)(a:e∈es)(k:Int):(intKind prog w).is k e.2=true↔E4 e.2=k:=by
 obtain⟨t,q⟩:=fJ h a;rw[q];show Value.isInt k (.int _ t)=true↔_;simp[Value.isInt,E4]
theorem SetI.at(x:SetI prog w h a ks)(k:∀o,h.get? a=some o->b.get? a=some o):SetI prog w b a ks:=by
 obtain⟨o,es,d,t,c,r⟩:=x;exact⟨o,es,d,t,k o c,r⟩
theorem fL{h:zo}(c:h.get? a=some o)(b:o.data=.set es ep t) :
  (h.update a (Obj.putSet es' t')).get? a=some {o with data:=.set es' (ep+1) t'}:=by
 have q:=Heap.get?_update_self (Obj.putSet es' t') c (by rw[putSet_of es' t' b];rfl)
 rwa [putSet_of es' t' b]at q
theorem qC{prog:zu}{w:zt}{A:zw}{s:zm}{a:zn}{j:ge Int}{k:Int}{tk:Tok}{o:Obj}{ep:Nat}{t:zD}(r:s.heap.get? a=some o)(q:o.ExactSet)(u:o.data=.set es ep t)
    (l:ElemsOf (intKind prog w) es.toList) (H:(es.toList.map λ e=>E4 e.2).Perm j) (hb:es.size+1<scanBound) (ht:Tab t (!z9 w))
     {d:zD} (p1:c.toList.Perm (es.toList++[(hashInt k,Value.int k tk)])) (J:d.fits c.size=true) (x:Tab d (!z9 w)) (F:Bool) {g:Bool->Sem Unit}
    (I:∀(b:Bool) (f:zm) (Q':Unit->zm->Prop),Q' () f->wpAny (model prog w) A (g b) Q' E f)
    (h:∀m,Heap.SameBut a s.heap m->SetI prog w m a (j++[k])->Q (some true) {s with heap:=m}) :
    wpAny (model prog w) A (do
      storeSet a c d
      if(!F&&d.tooFull)=true then do
        g (relayAll d c (SetTable.grown c.size)).2.2
        storeSet a (relayAll d c (SetTable.grown c.size)).1 (relayAll d c (SetTable.grown c.size)).2.1
        pure (some true)
      else pure (some true)) Q E s:=by
  have z1:c.size=es.size+1:=(by have:=p1.length_eq;rw[v0,t9,t9]at this;exact this);have z:ElemsOf (intKind prog w) c.toList:=(l.push (intKind_is prog w k tk) rfl).perm p1;have p:(c.toList.map λ e=>E4 e.2).Perm (j++[k]):=(by refine(p1.map _).trans ?_;rw[List.map_append];exact H.append_right _);have C:c.size<scanBound:=by omega
  refine d4 (wpAny_storeSet_of r u ?_ (fits_of_scanBound C));have i:=fL (es':=c) (t':=d) r u;have n:=Heap.SameBut.update s.heap a (Obj.putSet c d);split
  · have p2:=relayAll_perm d c (SetTable.grown c.size)
    have y:=relayAll_fits d c (SetTable.grown c.size);have v:=x.relayAll c (SetTable.grown c.size);generalize relayAll d c (SetTable.grown c.size)=R at p2 y v ⊢;have z2:R.1.size=c.size:=by
      have:=p2.length_eq
      rwa [t9,t9]at this
    have B:R.1.size<scanBound:=by omega
    refine d4 (I _ _ _ ?_);refine d4 (wpAny_storeSet_of i rfl ?_ (fits_of_scanBound B));refine d7 (h _ (n.trans (Heap.SameBut.update _ a _)) ?_);exact⟨_,R.1,_,R.2.1,fL i rfl,q,rfl,z.perm p2,(p2.map _).trans p,B,y,v⟩
  · refine d7 (h _ n ?_)
    exact⟨_,c,_,d,i,q,rfl,z,p,C,J,x⟩
theorem qE(Z:SetI prog w s.heap a ks)(hr:ks.length+1<scanBound)
  (h:∀n b,Heap.SameBut a s.heap n->SetI prog w n a (dk ks k)->Q b {s with heap:=n}) :
  wpAny (model prog w) A (setAddHashed a (.int k tk) (hashInt k)) Q E s:=by
 obtain⟨o,es,ep,t,B,W,F,f,u,Y,P,K⟩:=id Z;have hz:es.size=ks.length:=by
  have:=u.length_eq
  rwa [e7,t9]at this
 have M:∀(b:Bool) (d:zm) (H:Unit->zm->Prop),H () d->wpAny (model prog w) A (match b with | true=>rule "set.scan.the-table-gave-way" | false=>pure ()) H E d:=λ b d H q=>by
  cases b with
  | true=>exact wpAny_rule q
  | false=>exact d7 q
 unfold setAddHashed setAddHashedIn;refine wpAny_holding (d4 (wpAny_setState_of B F P ?_));dsimp only;rw[byScan_of rfl Y f,d6 rfl];unfold setAddByScan;refine d4 (d4 (wpAny_rule (d4 ?_)));refine wpAny_setScan_of (intKind_is prog w k tk) B F P f ?_;cases O:es.toList.findIdx? _ with
 | some j=>
  obtain⟨N,X,_⟩:=List.findIdx?_eq_some_iff_getElem.mp O;have C:=u.mem_iff.mp (k8.mpr ⟨es.toList[j],List.getElem_mem N,(fK f (List.getElem_mem N) k).mp X⟩);have m:dk ks k=ks:=by unfold dk;rw[d6 C]
  refine d7 (d7 ?_);have:=h s.heap false (Heap.SameBut.refl a s.heap) (by grind);exact this
 | none=>
  have C:k∉ks:=λ z=>by obtain⟨e,R,q⟩:=k8.mp (u.mem_iff.mpr z);have:=List.findIdx?_eq_none_iff.mp O e R;rw[(fK f R k).mpr q]at this;cases this
  have m:dk ks k=ks++[k]:=(by unfold dk;rw[d9 C]);rw[m]at h;dsimp only;have p1:=layNew_perm t es (hashInt k) (.int k tk);have y:=layNew_fits t es (hashInt k) (.int k tk);have v:=K.layNew es (hashInt k) (.int k tk);show wpAny _ _ _ _ _ _
  change wpAny _ A (match layNew t es (hashInt k) (.int k tk)with | _=>_) _ _ _
  generalize layNew t es _ _=L at p1 y v ⊢;obtain⟨c,J,I,gv⟩:=L;rw[Array.toList_push]at p1;dsimp only at p1 y v ⊢;refine d4 (M gv _ _ ?_);have p:∀g:zD,g.fits c.size=true->Tab g (!z9 w)->wpAny (model prog w) A (do
   storeSet a c g
   if(!I&&g.tooFull)=true then do
    (λ b:Bool=>match b with | true=>rule "set.scan.the-table-gave-way" | false=>pure ()) (relayAll g c (SetTable.grown c.size)).2.2
    storeSet a (relayAll g c (SetTable.grown c.size)).1 (relayAll g c (SetTable.grown c.size)).2.1
    pure (some true)
   else pure (some true)) (λ r U=>wpAny (model prog w) A (match r with | some l=>pure l | none=>setAddHashedIn a (.int k tk) (hashInt k) 99999) Q E U) E s:=λ g f2 g2=>
   qC B W F f u (by omega) K p1 f2 g2 I M λ n S S'=>d7 (h n true S S')
  split
  ·refine d4 ?_;rw[hashByValue_scannable 8 rfl];refine d7 ?_;exact p J y v
  ·refine d4 (d7 ?_);exact p J y v
end
open PySem.Spec PyProof.Rows
def fm(val:Nat->Int)(i:Nat):ge Int:=((List.range i).map val).foldl dk []
theorem fM(val:Nat->Int)(i:Nat):fm val (i+1)=dk (fm val i) (val i):=by
 unfold fm;rw[List.range_succ,List.map_append,List.foldl_append];rfl
theorem Z4(σ:ge Int)(k:Int):(dk σ k).length<=σ.length+1:=by
 unfold dk;split
 ·exact Nat.le_succ _
 ·rw[v0];exact i7 _
theorem fN(val:Nat->Int):∀i,(fm val i).length<=i
 | 0=>i7 _
 | i+1=>by rw[fM];exact g9 (Z4 _ _) (Nat.succ_le_succ (fN val i))
section
theorem SetI.moved(x:SetI prog w s.heap S ks)(b:Moved wr G s a)(c:S∉wr):SetI prog w a.heap S ks:=x.at λ o e=>b.heap S o c e
theorem qF{prog:zu}{w:zt}{A:zw}{I:zn}{n:Nat}{St:Nat->zm->Prop}(W:WalksS prog w A.in1 I fp f G n P St)(S:zn)(j:S∉fp)(val:Nat->Int)(g:∀i v,P i v->∃t,v=.int (val i) t)(d:n+1<scanBound) :
  ∀(k i:Nat) (s:zm),i+k=n->St i s->SetI prog w s.heap S (fm val i) ->
   (∀a,Moved (S::f) G s a->SetI prog w a.heap S (fm val n)->R (.ok (.ret .none)) a)->codeAny (model prog w) A (.builtin "set.update.loop" ⟨[.ref S,.ref I],[]⟩) R s:=by
 have u:S∉f:=λ z=>j (W.sub S z);have r:∀b∈f,b∈S::f:=λ b z=>i8 S z;intro k
 induction k with
 | zero=>
  intro i s e st hs q;have e:i=n:=e;subst e;refine codeAny_builtin F.entry_set_update_loop ?_;rw[Around.under_plainId F.plain_set_update_loop];show wpAny (model prog w) A.in1 (pyNext (.ref I) >>= _) _ _ s;refine d4 (W.done s _ _ st λ a h=>?_);show wpAny (model prog w) A.in1 (ret Value.none) _ _ a;exact d7 (q a (h.mono r) (hs.moved h u))
 | succ k C=>
  intro i s e st hs q;have H:i<n:=by omega
  refine codeAny_builtin F.entry_set_update_loop ?_;rw[Around.under_plainId F.plain_set_update_loop];show wpAny (model prog w) A.in1 (pyNext (.ref I) >>= _) _ _ s;refine d4 (W.item i s _ _ H st λ v a J l h=>?_);obtain⟨t,E⟩:=g i v J;subst E;have m:=hs.moved h u;show wpAny (model prog w) A.in1 _ _ _ a;refine d4 (wpAny_holding ?_);unfold setAdd;refine wpAny_holding (d4 ((intKind prog w).pyHash (k:=val i) (intKind_is prog w (val i) t) ?_));have hl:=fN val i;refine qE (s:={a with toks:=a.toks+1}) (k:=val i) (tk:=t) m (by omega) λ x b y L=>?_;have c:∀b o,b≠S->a.heap.get? b=some o->x.get? b=some o:=λ b o d e=>by rw[y.2 b d];exact e
  refine d7 ⟨plainId_quiet F.plain_set_update_loop _,C (i+1) _ (by omega) (W.frame (i+1) a x _ l (Nat.le_succ _) λ b d o e=>c b o (λ z=>j (z▸d)) e) (by rw[fM];exact L) λ B p K=>?_⟩;refine q B (Moved.trans W.gtrans ((h.mono r).then_heap (Nat.le_succ _) λ b o d e=>c b o (λ z=>d (z▸i9)) e) p) K
end
noncomputable def set0(w:zt):Obj:={cls:=.type "set",dict:=none,data:=.set #[] 0 (.fresh 0 0 (!z9 w))}
section
theorem qG(e:h.get? a=some (set0 w)):SetI prog w h a []:=
 ⟨_,#[],0,_,e,⟨rfl,rfl,rfl⟩,rfl,λ _ z=>by simp at z,by simp,by decide,by rfl,Tab.fresh _⟩
theorem qH(v:zk)(h:Q (.ref s.heap.objs.size) {s with heap:=s.heap.push (set0 w)}) :
  codeAny (model prog w) A (.call (.builtin "set.__new__") ⟨[.type "set",v],[]⟩) (wants Q E) s:=by
 refine codeAny_of_tree ?_;show wpAny _ A.in1 _ _ _ s;refine d4 (wpAny_of_eq (F.newCall_set_1 v) ?_);refine d7 ⟨plainId_quiet F.plain_set_new _,codeAny_builtin F.entry_set_new ?_⟩;rw[Around.under_plainId F.plain_set_new];unfold Builtin.«set.__new__» Builtin.Frozenset.newClass;have q:=sub_set_self;obtain⟨h0,g0,d0,t0,o0⟩:=s
 wp_walk
 refine wpAny_askSetting (d7 ?_);simp[newObj];exact d4 (wpAny_alloc (d7 (d7 h)))
theorem qI{prog:zu}{w:zt}{A:zw}{E:zk->zm->Prop}{s:zm}{l:zn}{items:zr zk}{ns:ge Int}{Q:zk->zm->Prop}(hh:A.handled=none)(hl:s.heap.IsList l items)(hi:IntsAre items.toList ns)(hb:items.size+1<scanBound)
  (h:∀h' tk,SetI prog w h' s.heap.objs.size (fm (λ i=>ns.getD i 0) items.size)->(∀b o,s.heap.get? b=some o->h'.get? b=some o)->Q (.ref s.heap.objs.size) {s with heap:=h',toks:=tk}) :
  wpAny (model prog w) A (call (.type "set") [.ref l]) Q E s:=by
 have m0:=F.called_set.mro;obtain⟨c0,r0,m1⟩:=m0;have m2:=F.called_set.made;have m3:=F.called_set.sub;have m4:=F.called_set.notType;have m5:=F.called_set.canCreate;have m6:=F.typeCall_set_1 (.ref l);refine wpAny_call (codeAny_of_tree ?_);show wpAny (model prog w) _ (callAny (.type "set") _) _ _ _;refine d7 ⟨Code.quiet_builtin _ (by decide +kernel),codeAny_builtin F.entry_type_call ?_⟩;rw[Around.under_plain (weight_type_call_type "set" [.ref l] []) rfl]
 repeat (any_goals (first | assumption | wp_step))
 refine codeAny_mono (qH (.ref l) (E:=E) (Q:=λ v s1=>v=.ref s.heap.objs.size/\s1 = {s with heap:=s.heap.push (set0 w)}) ⟨rfl,rfl⟩) λ r s1 q=>?_;cases r with
 | error e=>exact q
 | ok f=>
  cases f with
  | ret v=>
   obtain⟨e1,e2⟩:=q;subst e1;subst e2;have g0:(s.heap.push (set0 w)).get? s.heap.objs.size=some (set0 w):=n6 _ rfl;have ty:Shared.TypeIs {s with heap:=s.heap.push (set0 w)} (.ref s.heap.objs.size) "set":=⟨_,g0,rfl⟩;have n1:=F.called_set.init.lookup;have n2:=F.called_set.init.bind (.ref s.heap.objs.size)
   repeat (any_goals (first | assumption | wp_step))
   refine codeAny_mono (codeAny_call_builtin (R:=wants (λ v s2=>v=.none/\∃h' tk,s2 = {s with heap:=h',toks:=tk} /\ SetI prog w h' s.heap.objs.size (fm (λ i=>ns.getD i 0) items.size) /\
     ∀b o,s.heap.get? b=some o->h'.get? b=some o) E) F.called_set.init.plain F.entry_set_init (check_set_init_1 ty ?_)) λ r2 s2 q2=>?_
   ·obtain⟨⟨k1,k2,k3,k4⟩,kl,kc,kn,kd⟩:=hl;dsimp only at kc kd;subst kc;subst kd;have kl':(s.heap.push (set0 w)).get? l=some {cls:=.type "list",dict:=k2,data:=.seq items kn,slots:=k4}:=f9 _ kl;have il:(s.heap.push (set0 w)).IsList l items:=⟨_,kl',rfl,kn,rfl⟩;have p1:=F.sub_list_set;have p2:=F.sub_list_frozenset;have p3:(Value.type "list" == Value.type "dict")=false:=by decide
    unfold Builtin.«set.__init__» noKeywords Builtin.Frozenset.updateFrom;generalize hP:pyIter=PI
    wp_walk
    subst hP;refine wpAny_pyIter_list il (d4 (wpAny_runValue ?_));have l0:l<s.heap.objs.size:=i5 kl;have z1:(s.heap.push (set0 w)).objs.size=s.heap.objs.size+1:=Heap.size_push _ _;have a1:l≠(s.heap.push (set0 w)).objs.size:=by rw[z1];exact j7 (Nat.lt_succ_of_lt l0)
    have a2:s.heap.objs.size∉[(s.heap.push (set0 w)).objs.size,l]:=by
     rw[z1];intro z;rcases e8.mp z with z | z
     ·exact absurd z (j7 (Nat.lt_succ_self _))
     ·exact absurd (v4.mp z) (Nat.ne_of_gt l0)
    refine qF ((Walks.list (by show A.handled=none;exact hh) _ l a1 items).toS) s.heap.objs.size a2 (λ i=>ns.getD i 0) (λ i v e=>IntsAre.int_at hi i v (by rw[Array.getElem?_toList];exact e)) hb
     items.size 0 _ (Nat.zero_add _) ⟨⟨_,n6 _ rfl,rfl,rfl⟩,il.push _⟩ (qG (f9 _ g0)) λ s3 hm S3=>?_
    obtain⟨h3,g3,d3,t3,o3⟩:=s3;have b1:g3=s.gens:=hm.gens;have b2:d3=s.drawn:=hm.drawn;have b3:o3=s.os:=hm.os;subst b1;subst b2;subst b3;show wpAny (model prog w) _ _ _ _ _;refine d7 ?_;show wpAny (model prog w) _ (ret Value.none) _ _ _;refine d7 ⟨rfl,h3,t3,rfl,S3,λ b o e=>?_⟩;have b4:=i5 e;refine hm.heap b o (λ z=>?_) (f9 _ (f9 _ e));rcases e8.mp z with z | z
    ·exact absurd z (j7 b4)
    ·have:=v4.mp z;rw[z1]at this;exact absurd this (j7 (Nat.lt_succ_of_lt b4))
   ·cases r2 with
    | error e=>exact q2
    | ok f2=>
     cases f2 with
     | ret v2=>
      obtain⟨c1,h',tk,c2,c3,c4⟩:=q2;subst c1;subst c2
      repeat (any_goals (first | assumption | wp_step))
      exact h h' tk c3 c4
     | _=>exact q2.elim
  | _=>exact q.elim
end
def A5(h:zo)(I a:zn)(f:zk)(i n ep:Nat):Prop:=∃o,h.get? I=some o/\o.cls=.type "set_iterator" /\ o.data=.fields #[f,.int i 0,.ref a,.int n 0,.int ep 0]
def B6(h:zo)(a:zn)(es:zr (Int×zk))(ep:Nat)(t:zD):Prop:=∃o,h.get? a=some o/\o.ExactSet/\o.data=.set es ep t
theorem A5.typeIs{s:zm}(x:A5 s.heap I a f i n ep):s.TypeIs (.ref I) "set_iterator":=let ⟨o,e,c,_⟩:=x;⟨o,e,c⟩
theorem A5.at(x:A5 h I a f i n ep)(k:∀o,h.get? I=some o->b.get? I=some o):A5 b I a f i n ep:=let ⟨o,e,c⟩:=x;⟨o,k o e,c⟩
theorem B6.at(x:B6 h a es ep t)(k:∀o,h.get? a=some o->b.get? a=some o):B6 b a es ep t:=let ⟨o,e,c⟩:=x;⟨o,k o e,c⟩
theorem B6.typeIs{s:zm}(x:B6 s.heap a es ep t):s.TypeIs (.ref a) "set":=let ⟨o,e,c,_⟩:=x;⟨o,e,c.1⟩
theorem F0:Slot "set_iterator" "__next__" "set_iterator.__next__":=
 .of (owner:="set_iterator") (n:="__next__") (by rw[typeLookup_type,builtinLookup_eq_fast];kernel_rfl) (by decide +kernel) (by decide +kernel) (by decide +kernel)
  (by first | exact .inl (by decide +kernel) | exact .inr (by decide +kernel)) (by rw[isSubtype_type];kernel_rfl)
theorem Z5:entryFor table "set_iterator.__next__" = some Builtin.«set_iterator.__next__»:=entryFor_of_tree (by kernel_rfl)
theorem Z6(v:zk):argsOk "set_iterator.__next__" ⟨[v],[]⟩:=by unfold argsOk;kernel_rfl
theorem qJ:entryFor table "set.__iter__" = some Builtin.«frozenset.__iter__»:=entryFor_alias (id':="frozenset.__iter__") (by kernel_rfl) rfl (by decide +kernel) (by kernel_rfl)
section
theorem fO{ep:Nat}{h:zo}{i:Nat}{n:Nat}(e:h.get? I=some o)(c:o.cls=.type "set_iterator")(d:o.data=.fields #[f,.int i 0,.ref a,.int n 0,.int ep 0]) :
  A5 (h.update I (Obj.mapFields (·.setIfInBounds 1 (rawInt ((i:Int)+1))))) I a f (i+1) n ep:=by
 refine⟨_,Heap.get?_update_self _ e (Obj.isFreed_of_fields (Obj.data_mapFields d _)),(Obj.cls_mapFields ..).trans c,?_⟩;rw[Obj.data_mapFields d];simp[rawInt]
theorem fP{ep:Nat}{h:zo}(g:zk){i:Nat}{n:Nat}(e:h.get? I=some o)(c:o.cls=.type "set_iterator")(d:o.data=.fields #[f,.int i 0,.ref a,.int n 0,.int ep 0]) :
  A5 (h.update I (Obj.mapFields (·.setIfInBounds 0 g))) I a g i n ep:=by
 refine⟨_,Heap.get?_update_self _ e (Obj.isFreed_of_fields (Obj.data_mapFields d _)),(Obj.cls_mapFields ..).trans c,?_⟩;rw[Obj.data_mapFields d];simp
theorem fQ{prog:zu}{w:zt}{A:zw}{E:zk->zm->Prop}{s:zm}{I a:zn}{es:zr (Int×zk)}{ep:Nat}{t:zD}{Q:on zk->zm->Prop}{slot i j:Nat}{x:zk}(hI:A5 s.heap I a (.int slot 0) i es.size ep)(hS:B6 s.heap a es ep t)(hf:t.fits es.size=true)
  (hn:∀(A:zw) (E':zk->zm->Prop) (Q':on (zk×Nat)->zm->Prop),Q' (some (x,j)) s->wpAny (model prog w) A (setNext a slot i ep) Q' E' s)
  (hQ:∀h',A5 h' I a (.int j 0) (i+1) es.size ep->Heap.SameBut I s.heap h'->Q (some x) {s with heap:=h'}):wpAny (model prog w) A (pyNext (.ref I)) Q E s:=by
 obtain⟨o,ho,hc,hd⟩:=id hI;obtain⟨p,hp,hx,hq⟩:=id hS;unfold pyNext;refine d4 (wpAny_attempt (wpAny_callSpecial?_slot (name:=Str.ofString "__next__") hI.typeIs F0 (wpAny_call_entry F0 hI.typeIs Z5 ?_ (Z6 _))));unfold Builtin.«set_iterator.__next__»;refine d4 (d7 ?_);dsimp only;refine d4 (wpAny_fieldsOf ho hd ?_);dsimp only;refine d4 (wpAny_setEntries_of hp hq hf ?_);rw[show(((es.size:Nat):Int) != ((es.size:Nat):Int))=false by simp,d9 y8];simp only[z0];refine d4 (hn _ _ _ ?_);dsimp only;refine d4 (wpAny_setField ho hd (by simp) ?_);have I1:=fP (ep:=ep) (rawInt j) ho hc hd;obtain⟨o1,ho1,hc1,hd1⟩:=id I1;refine d4 (wpAny_setField ho1 hd1 (by simp) (d7 ⟨x,rfl,d7 (hQ _ (fO ho1 hc1 hd1) ?_)⟩));exact(Heap.SameBut.update ..).trans (Heap.SameBut.update ..)
theorem fR{prog:zu}{w:zt}{A:zw}{E:zk->zm->Prop}{s:zm}{I a:zn}{es:zr (Int×zk)}{ep:Nat}{t:zD}{Q:on zk->zm->Prop}{slot i:Nat}(hh:A.handled=none)(hI:A5 s.heap I a (.int slot 0) i es.size ep)(hS:B6 s.heap a es ep t)(hf:t.fits es.size=true)
  (hn:∀(A:zw) (E':zk->zm->Prop) (Q':on (zk×Nat)->zm->Prop),Q' none s->wpAny (model prog w) A (setNext a slot i ep) Q' E' s)
  (hQ:∀h',Heap.ExtBut I s.heap h'->Q none {s with heap:=h'}):wpAny (model prog w) A (pyNext (.ref I)) Q E s:=by
 obtain⟨o,ho,hc,hd⟩:=id hI;obtain⟨p,hp,hx,hq⟩:=id hS;unfold pyNext;refine d4 (wpAny_attempt (wpAny_callSpecial?_slot (name:=Str.ofString "__next__") hI.typeIs F0 (wpAny_call_entry F0 hI.typeIs Z5 ?_ (Z6 _))));unfold Builtin.«set_iterator.__next__»;refine d4 (d7 ?_);dsimp only;refine d4 (wpAny_fieldsOf ho hd ?_);dsimp only;refine d4 (wpAny_setEntries_of hp hq hf ?_);rw[show(((es.size:Nat):Int) != ((es.size:Nat):Int))=false by simp,d9 y8];simp only[z0];refine d4 (hn _ _ _ ?_);dsimp only;refine d4 (wpAny_setField ho hd (by simp) ?_);refine d4 ?_;simp only[newExc,newTuple];refine d4 (wpAny_newObj_type ?_ (by size_fits));refine d4 (m:=firstArgMember _ _) (wpAny_of_eq (a:=Value.none) (by first | rfl | (simp only[firstArgMember];rfl)) ?_);refine wpAny_newObj_type ?_ (by size_fits);simp only[raiseNew];refine d4 (wpAny_handled ?_);rw[show A.in1.handled=none from hh];refine d4 (d7 (wpAny_throw ?_));refine d4 (wpAny_isInstance (T:="StopIteration") (b:=true) ⟨_,n6 _ rfl,rfl⟩ isSubtype_stop ?_);exact d7 (hQ _ (((Heap.SameBut.update ..).extBut.push _).push _))
theorem qK{k:Nat}(f:A5 s.heap I a (.ref q) i es.size ep)(B:B6 s.heap a es ep t)(l:t.fits es.size=true)(r:IsTup s.heap q ps)(u:ps[i]? = some (.int k 0))(n:es[k]? = some (z,x))
  (C:∀g,A5 g I a (.ref q) (i+1) es.size ep->Heap.SameBut I s.heap g->Q (some x) {s with heap:=g}):wpAny (model prog w) A (pyNext (.ref I)) Q E s:=by
 obtain⟨o,c,y,e⟩:=id f;obtain⟨p,j,m,h⟩:=id B;unfold pyNext;refine d4 (wpAny_attempt (wpAny_callSpecial?_slot f.typeIs F0 (wpAny_call_entry F0 f.typeIs Z5 ?_ (Z6 _))));unfold Builtin.«set_iterator.__next__»;refine d4 (d7 ?_);refine d4 (wpAny_fieldsOf c e ?_);refine d4 (wpAny_setEntries_of j h l ?_);rw[show(_ != _)=false by simp,d9 y8];simp[z0];obtain⟨oq,b,v,nq,d⟩:=r;refine d4 (wpAny_seqItems b d ?_);dsimp only;rw[u];unfold setNextDrawn;simp only[z0];refine d4 (d4 (wpAny_setState_of j h l ?_));rw[show(ep != ep)=false by simp,d9 y8];rw[n];refine d7 ?_;refine d4 (wpAny_setField c e (by simp) (d7 ⟨x,rfl,d7 (C _ (fO c y e) (Heap.SameBut.update ..))⟩))
theorem qL(v:A.handled=none)(j:A5 s.heap I a (.ref q) i es.size ep)(C:B6 s.heap a es ep t)(x:t.fits es.size=true)(l:IsTup s.heap q ps)(u:ps[i]? = none)
  (F:∀k,Heap.ExtBut I s.heap k->Q none {s with heap:=k}):wpAny (model prog w) A (pyNext (.ref I)) Q E s:=by
 obtain⟨o,e,B,h⟩:=id j;obtain⟨p,r,hx,n⟩:=id C;unfold pyNext;refine d4 (wpAny_attempt (wpAny_callSpecial?_slot j.typeIs F0 (wpAny_call_entry F0 j.typeIs Z5 ?_ (Z6 _))));unfold Builtin.«set_iterator.__next__»;refine d4 (d7 ?_);dsimp only;refine d4 (wpAny_fieldsOf e h ?_);dsimp only;refine d4 (wpAny_setEntries_of r n x ?_);rw[show(((es.size:Nat):Int) != ((es.size:Nat):Int))=false by simp,d9 y8];simp only[z0];obtain⟨oq,c,y,nq,f⟩:=l;refine d4 (wpAny_seqItems c f ?_);dsimp only;rw[u];dsimp only;refine d4 (wpAny_setField e h (by simp) ?_);obtain⟨o1,d,z,g⟩:=fP (ep:=ep) (rawInt 0) e B h;refine d4 (wpAny_setField d g (by simp) ?_);refine d4 ?_;simp only[newExc,newTuple];refine d4 (wpAny_newObj_type ?_ (by size_fits));refine d4 (m:=firstArgMember _ _) (wpAny_of_eq (a:=Value.none) (by first | rfl | (simp only[firstArgMember];rfl)) ?_);refine wpAny_newObj_type ?_ (by size_fits);simp only[raiseNew];refine d4 (wpAny_handled ?_);rw[show A.in1.handled=none from v];refine d4 (d7 (wpAny_throw ?_));refine d4 (wpAny_isInstance (T:="StopIteration") (b:=true) ⟨_,n6 _ rfl,rfl⟩ isSubtype_stop ?_);exact d7 (F _ ((((Heap.SameBut.update ..).trans (Heap.SameBut.update ..)).extBut.push _).push _))
end
section
variable {prog:zu} {w:zt} {A:zw} {E:zk->zm->Prop} {s:zm} {I a:zn} {es:zr (Int×zk)} {ep:Nat} {t:zD}
theorem fS(d:z9 w=true)(g:B6 s.heap a es ep t)(f:t.fits es.size=true)
  (h:Q (((pickOrder (w.params.setOrder a ep) es)[i]?).map λ e=>(e.2,slot)) s):wpAny (model prog w) A (setNext a slot i ep) Q E s:=by
 obtain⟨p,c,hx,b⟩:=id g;unfold setNext;refine d4 (wpAny_setState_of c b f ?_);dsimp only;unfold setsByText;refine d4 (d4 (wpAny_askSetting (d7 ?_)));show wpAny _ A (if z9 w=true then _ else _) Q E s;rw[d6 d];rw[show(ep != ep)=false by simp,d9 y8];refine d4 ?_;unfold setWalk;refine d4 (wpAny_setState_of c b f ?_);dsimp only;unfold setsByText;refine d4 (d4 (wpAny_askSetting (d7 ?_)));show wpAny (model prog w) A (if z9 w=true then _ else _) _ E s;rw[d6 d];exact d4 (wpAny_askSetting (d7 (d7 h)))
theorem fT(d:z9 w=false)(g:(!t.plain&&decide (es.size>1))=false)(e:t.led=true)(k:B6 s.heap a es ep t)(f:t.fits es.size=true)
  (h:Q (match es[SetTable.below t.place slot]?,t.place[SetTable.below t.place slot]? with | some (_,x),some j=>some (x,j+1) | _,_=>none) s):wpAny (model prog w) A (setNext a slot i ep) Q E s:=by
 obtain⟨p,c,hx,b⟩:=id k;unfold setNext;refine d4 (wpAny_setState_of c b f ?_);dsimp only;unfold setsByText;refine d4 (d4 (wpAny_askSetting (d7 ?_)));show wpAny _ A (if z9 w=true then _ else _) Q E s;rw[d9 (by rw[d];exact y8)];show wpAny _ A (if(!t.plain&&decide (es.size>1))=true then _ else _) Q E s;rw[g,d9 y8];refine d4 ?_;show wpAny (model prog w) A (if(!t.led && !es.isEmpty)=true then _ else _) _ E s;rw[e];exact d7 (d7 h)
theorem qM:∀(n:Nat) (a:ge e) (s:zm),a.length=n->(∀l d,l.Perm a->Q l {s with drawn:=d})->wpAny (model prog w) A (drawOrder n a) Q E s:=by
 intro n
 induction n generalizing Q with
 | zero=>
  intro a s c h;have:=List.length_eq_zero_iff.mp c;subst this;exact d7 (h [] s.drawn .rfl)
 | succ n g=>
  intro a s c h;cases a with
  | nil=>cases c
  | cons y r=>
   show wpAny _ A _ Q E s;have b:∀i,i<(y::r).length->wpAny _ A (match _[i]? with
     | some x=>do return x::(←drawOrder n ((y::r).eraseIdx i))
     | none=>unsupported "internal:drawOrder") Q E {s with drawn:=s.drawn.bump .order}:=λ i f=>by
    rw[(j8 f)];refine d4 (g _ _ (by grind) λ l d p=>d7 (h _ d ?_));exact(List.Perm.cons _ p).trans (bE f rfl)
   refine d4 λ Γ p j=>⟨by simp,?_⟩;exact b _ (Nat.mod_lt _ (by simp))
noncomputable def Z7(f:zk)(a:zn)(n ep:Nat):Obj:={cls:=.type "set_iterator",data:=.fields #[f,.int 0 0,.ref a,.int n 0,.int ep 0]}
noncomputable def Z8(l:ge Nat):Obj:={cls:=.type "tuple",data:=.seq (l.map λ (i:Nat)=>Value.int i 0).toArray}
theorem bF{h:zo}:A5 (h.push (Z7 f a n ep)) h.objs.size a f 0 n ep:=⟨_,n6 _ rfl,rfl,rfl⟩
theorem qN(h:B6 s.heap a es ep t)(f:t.fits es.size=true)(hb:es.size<=sizeLine)
  (m:(!z9 w&&(!t.plain&&decide (es.size>1)))=false->Q (.ref s.heap.objs.size) {s with heap:=s.heap.push (Z7 (.int 0 0) a es.size ep)})
  (k:∀l d,z9 w=false->l.Perm (List.range es.size)->Q (.ref (s.heap.objs.size+1)) {s with heap:=(s.heap.push (Z8 l)).push (Z7 (.ref s.heap.objs.size) a es.size ep),drawn:=d}) :
  wpAny (model prog w) A (pyIter (.ref a)) Q E s:=by
 obtain⟨p,c,hx,b⟩:=id h;refine wpAny_pyIter_slot h.typeIs F.slot_set_iter (wpAny_call_entry F.slot_set_iter h.typeIs qJ ?_ (F.args_set_iter_1 _));unfold Builtin.«frozenset.__iter__» Builtin.Frozenset.slot0 slotArgs;simp only[List.isEmpty_nil,Bool.not_true,Bool.false_eq_true,↓reduceIte,bind_assoc,List.length_nil,bne_self_eq_false];unfold Builtin.Frozenset.addrOf Builtin.Frozenset.sizeOf;refine d4 (d7 ?_)
 try refine d4 (d7 ?_)
 refine d4 (d4 (wpAny_setEntries_of c b f (d7 ?_)));unfold setDrawn;refine d4 (d4 (wpAny_setState_of c b f ?_));unfold setsByText;refine d4 (d4 (wpAny_askSetting (d7 (d7 ?_))));show wpAny _ _ (if(!z9 w&&(!t.plain&&decide _))=true then _ else _) _ _ _;by_cases g:(!z9 w&&(!t.plain&&decide (es.size>1)))=true
 ·rw[d6 g];have j:z9 w=false:=by
   cases e:z9 w with
   | false=>rfl
   | true=>rw[e]at g;cases g
  refine d4 (qM es.size _ s (p4) λ l d i=>?_);have hl:l.length=es.size:=by rw[i.length_eq,p4]
  unfold newTuple;refine d4 (wpAny_newObj_type ?_ (by show(l.map _).toArray.size<=_;simp;omega));refine d4 (wpAny_setEpoch_of (f9 _ c) b f ?_);refine d4 (wpAny_newObj_type (d7 ⟨_,rfl,"set_iterator",_,⟨_,n6 _ rfl,rfl⟩,F0.lookup,?_⟩));have:=k l d j i;rw[←(Heap.size_push _ _)]at this;exact this
 ·rw[d9 g];refine d4 (d7 ?_);refine d4 (wpAny_setEpoch_of c b f ?_);refine d4 (wpAny_newObj_type (d7 ⟨_,rfl,"set_iterator",_,⟨_,n6 _ rfl,rfl⟩,F0.lookup,?_⟩));exact m (by grind)
end
section
variable {prog:zu} {w:zt} {A:zw} {E:zk->zm->Prop} {s:zm} {I a:zn} {es:zr (Int×zk)} {ep:Nat} {t:zD}
abbrev Nx(prog:zu)(w:zt)(I:zn)(fp:ge zn)(n:Nat)(ws:ge zk)(St:Nat->zo->Prop):Prop:=
 ∀A:zw,A.handled=none->WalksS prog w A I fp [I] (λ a b=>b=a) n (λ i v=>ws[i]? = some v) (λ i s=>St i s.heap)
theorem bG {fp : ge zn} {n : Nat} {ws : ge zk} {St : Nat -> zo -> Prop} (hI : I ∈ fp) (hz : ws.length = n)
    (fr : ∀ i h h', St i h -> (∀ b ∈ fp, ∀ o, h.get? b = some o -> h'.get? b = some o) -> St i h')
    (it : ∀ (A : zw) (E : zk -> zm -> Prop) (Q : on zk -> zm -> Prop) (s : zm) i v, A.handled = none -> ws[i]? = some v -> St i s.heap -> (∀ h', St (i + 1) h' -> Heap.SameBut I s.heap h' -> Q (some v) { s with heap := h' }) -> wpAny (model prog w) A (pyNext (.ref I)) Q E s)
    (dn : ∀ (A : zw) (E : zk -> zm -> Prop) (Q : on zk -> zm -> Prop) (s : zm), A.handled = none -> St n s.heap -> (∀ h', Heap.ExtBut I s.heap h' -> Q none { s with heap := h' }) -> wpAny (model prog w) A (pyNext (.ref I)) Q E s)
    (sf : ∀ (A : zw) (E : zk -> zm -> Prop) (Q : zk -> zm -> Prop) (s : zm) i, St i s.heap -> Q (.ref I) s -> wpAny (model prog w) A (pyIter (.ref I)) Q E s) : Nx prog w I fp n ws St := λ A hh =>
  { sub := λ b hb => by rw [v4.mp hb]; exact hI
    grefl := λ _ => rfl
    gtrans := λ _ _ _ h1 h2 => h2.trans h1
    frame := λ i s h' tk st _ k => fr i s.heap h' st k
    item := λ i s Q E hi st hQ => by have hg : ws[i]? = some ws[i] := j8 (by omega);exact it A E Q s i _ hh hg st λ h' st' sb => hQ _ _ hg st' ⟨λ b o hb e => sb.extBut b o (λ z => hb (v4.mpr z)) e, rfl, rfl, rfl, i7 _⟩
    done := λ s Q E st hQ => dn A E Q s hh st λ h' eb => hQ _ ⟨λ b o hb e => eb b o (λ z => hb (v4.mpr z)) e, rfl, rfl, rfl, i7 _⟩
    self := λ i s Q E st hQ => sf A E Q s i st hQ }
theorem Z9{a:zo}(c:Heap.SameBut I h a)(d:b≠I):∀o,h.get? b=some o->a.get? b=some o:=λ o e=>c.extBut b o d e
theorem fU:Slot "set_iterator" "__iter__" "set_iterator.__iter__":=
 .of (owner:="set_iterator") (n:="__iter__") (by rw[typeLookup_type,builtinLookup_eq_fast];kernel_rfl) (by decide +kernel) (by decide +kernel) (by decide +kernel)
  (by first | exact .inl (by decide +kernel) | exact .inr (by decide +kernel)) (by rw[isSubtype_type];kernel_rfl)
theorem qO:entryFor table "set_iterator.__iter__" = some Builtin.«dict_keyiterator.__iter__»:=entryFor_alias (id':="dict_keyiterator.__iter__") (by kernel_rfl) rfl (by decide +kernel) (by kernel_rfl)
theorem qP(v:zk):argsOk "set_iterator.__iter__" ⟨[v],[]⟩:=by unfold argsOk;kernel_rfl
theorem bH(b:A5 s.heap I a f i n ep)(h:Q (.ref I) s):wpAny (model prog w) A (pyIter (.ref I)) Q E s:=by
 refine wpAny_pyIter_slot b.typeIs fU (wpAny_call_entry fU b.typeIs qO ?_ (qP _));show wpAny _ _ _ _ _ s;exact d7 ⟨_,rfl,"set_iterator",_,b.typeIs,F0.lookup,h⟩
theorem qQ(l:z9 w=true)(c:t.fits es.size=true)(f:a≠I) :
  Nx prog w I [I,a] es.size ((pickOrder (w.params.setOrder a ep) es).toList.map (·.2)) (λ i h=>A5 h I a (.int (0:Nat) 0) i es.size ep/\B6 h a es ep t):=by
 have hz:(pickOrder (w.params.setOrder a ep) es).size=es.size:=by
  have:=(fI (w.params.setOrder a ep) es).length_eq
  rwa [t9,t9]at this
 refine bG (by simp) (by grind) (λ i h n st k=>⟨st.1.at (k I (by simp)),st.2.at (k a (by simp))⟩) (λ A E Q s i v m b st g=>?_) (λ A E Q s m st g=>?_) λ A E Q s i st h=>bH st.1 h
 ·obtain⟨e,he,hev⟩:∃e,(pickOrder (w.params.setOrder a ep) es)[i]? = some e/\e.2=v:=by
   rw[u4,Array.getElem?_toList]at b;cases q:(pickOrder _ es)[i]? with
   | none=>rw[q]at b;cases b
   | some e=>rw[q]at b;cases b;exact⟨e,rfl,rfl⟩
  refine fQ st.1 st.2 c (λ A p o q=>fS l st.2 c (by rwa [he,Option.map_some,hev])) λ n d j=>?_;exact g n ⟨d,st.2.at (Z9 j f)⟩ j
 ·refine fR m st.1 st.2 c (λ A p o q=>fS l st.2 c (by grind)) g
noncomputable def U2(t:zD):Nat->Nat
 | 0=>0
 | i+1=>t.place.getD i 0+1
theorem fV(a:Rise t.place):∀{i:Nat},i<=t.place.size->SetTable.below t.place (U2 t i)=i
 | 0,_=>qx a
 | i+1,h=>by have b:t.place[i]? = some t.place[i]:=C6 (by omega);show SetTable.below t.place (t.place.getD i 0+1)=i+1;rw[A7,b];exact qw a b
theorem qR(g:z9 w=false)(y:(!t.plain&&decide (es.size>1))=false)(f:Tab t (!z9 w))(b:t.fits es.size=true)(l:a≠I) :
  Nx prog w I [I,a] es.size (es.toList.map (·.2)) (λ i h=>A5 h I a (.int (U2 t i:Nat) 0) i es.size ep/\B6 h a es ep t/\i<=es.size):=by
 have p:t.led=true:=by rw[f.led,g];rfl
 have hz:t.place.size=es.size:=(by unfold SetTable.fits at b;rw[d8]at b;exact f7.mp b.1);refine bG (by simp) (by rw[e7,t9]) (λ i h B st k=>⟨st.1.at (k I (by simp)),st.2.1.at (k a (by simp)),st.2.2⟩) (λ A E Q s i v r c st n=>?_) (λ A E Q s r st n=>?_) λ A E Q s i st h=>bH st.1 h
 ·obtain⟨z,he⟩:∃z,es[i]? = some (z,v):=by
   rw[u4,Array.getElem?_toList]at c;cases q:es[i]? with
   | none=>rw[q]at c;cases c
   | some e=>rw[q]at c;cases c;exact⟨e.1,rfl⟩
  have F:i<es.size:=by
   rcases Nat.lt_or_ge i es.size with h | h
   ·exact h
   ·rw[Array.getElem?_eq_none h]at he;cases he
  have u:t.place[i]? = some t.place[i]:=C6 (by omega);have m:=fV f.rise (i:=i) (by omega);have C:U2 t (i+1)=t.place[i]+1:=(by show t.place.getD i 0+1=_;rw[A7,u];rfl);refine fQ (slot:=U2 t i) (j:=U2 t (i+1)) (x:=v) st.1 st.2.1 b (λ A J H q=>fT g y p st.2.1 b (by rw[m,he,u];rw[C]at q;exact q)) λ B d o=>?_;exact n B ⟨d,st.2.1.at (Z9 o l),F⟩ o
 ·have m:=fV f.rise (i:=es.size) (by omega);refine fR r st.1 st.2.1 b (λ A J H q=>fT g y p st.2.1 b (by rw[m,Array.getElem?_eq_none (i7 _)];exact q)) n
theorem qS{l:ge Nat}(n:l.Perm (List.range es.size))(u:t.fits es.size=true)(g:a≠I)(B:q≠I) :
  Nx prog w I [I,a,q] es.size (l.map λ i=>(es.getD i (0,.none)).2) (λ i h=>A5 h I a (.ref q) i es.size ep/\B6 h a es ep t/\IsTup h q (l.map λ (i:Nat)=>Value.int i 0).toArray):=by
 have hl:l.length=es.size:=by rw[n.length_eq,p4]
 refine bG (by simp) (by grind) (λ i h z st k=>⟨st.1.at (k I (by simp)),st.2.1.at (k a (by simp)),let ⟨o,e,r⟩:=st.2.2;⟨o,k q (by simp) o e,r⟩⟩) (λ A E Q s i v p b st m=>?_) (λ A E Q s p st m=>?_) λ A E Q s i st h=>bH st.1 h
 ·obtain⟨k,hk,hkv⟩:∃k,l[i]? = some k/\(es.getD k _).2=v:=by
   rw[u4]at b;cases q:l[i]? with
   | none=>rw[q]at b;cases b
   | some k=>rw[q]at b;cases b;exact⟨k,rfl,rfl⟩
  have j:=(by have:=n.mem_iff.mp (List.mem_iff_getElem?.mpr ⟨i,hk⟩);exact k6.mp this);have y:=C6 j;have f:es[k].2=v:=(by rw[←hkv,A7,y];rfl);refine qK (x:=v) st.1 st.2.1 u st.2.2 (by rw[←Array.getElem?_toList,List.toList_toArray,u4,hk];rfl) (by rw[y,←f]) λ z c d=>?_;exact m z ⟨c,st.2.1.at (Z9 d g),let ⟨o,e,r⟩:=st.2.2;⟨o,Z9 d B o e,r⟩⟩ d
 ·refine qL p st.1 st.2.1 u st.2.2 (Array.getElem?_eq_none (by grind)) m
end
section
variable {prog:zu} {w:zt} {A:zw} {E:zk->zm->Prop} {s:zm} {I a:zn} {es:zr (Int×zk)} {ep:Nat} {t:zD} {ks:ge Int}
theorem qU(d:s.TypeIs (.ref a) "set")(h:Q false s):wpAny (model prog w) A (Builtin.List.listLengthHint (.ref a)) Q E s:=by
 unfold Builtin.List.listLengthHint;refine d4 (wpAny_specialOf d F.slot_set_len.lookup ?_);generalize c:("set.__len__" : zE)=id0
 wp_delta
 rw[show splitId id0=some ("set","__len__")from by subst c;decide +kernel];subst c;refine d4 (wpAny_isInstance (b:=true) d (by rw[isSubtype_type];kernel_rfl) ?_);refine wpAny_ite_split (λ z=>absurd z (by decide)) λ _=>?_
 refine wpAny_ite_split (λ _=>?_) λ z=>absurd (by decide +kernel) z;exact d4 (wpAny_typeOf d (d7 h))
theorem fW{S:zn}{fp:ge zn}{n c0:Nat}{ws:ge zk}{St:Nat->zo->Prop}{c:Bool->Bool}{s1:zm}{res:zk}{R:Result->zm->Prop}{EE:zk->zm->Prop}(W:Nx prog w I fp n ws St)(hh:A.handled=none)(hn:n<=sizeLine)(hSf:S∉fp)
  (hT:s1.TypeIs (.ref a) "set") (st:St 0 s1.heap) (hS:s1.heap.get? S=some {cls:=.type "list",data:=.seq #[] c0})
  (hR:∀h' tk acc c',(∀b o,b≠S->b≠I->s1.heap.get? b=some o->h'.get? b=some o)->h'.get? S=some {cls:=.type "list",dict:=none,data:=.seq acc c',slots:=#[]} -> acc.toList=ws->R (.ok (.ret res)) {s1 with heap:=h',toks:=tk}) (hw:ws.length=n) :
  wpAny (model prog w) A.in1 (do
   let room ←holding [Value.ref I] (Builtin.List.listLengthHint (.ref a))
   if c room=true then do
    rule "list.extend.makes-room"
    Builtin.List.listTouch (.ref S)
    again (.builtin "list.extend.loop" ⟨[.ref S,.ref I,res],[]⟩)
   else again (.builtin "list.extend.loop" ⟨[.ref S,.ref I,res],[]⟩))
   (λ fin s'=>match fin with | .done f=>R (.ok f) s' | .again c'=>c'.quiet=true/\codeAny (model prog w) A c' R s') EE s1:=by
 have loop:∀(h:zo) (c1 tk:Nat),St 0 h->(∀b o,b≠S->s1.heap.get? b=some o->h.get? b=some o)->h.get? S=some {cls:=.type "list",data:=.seq #[] c1} ->
   codeAny (model prog w) A (.builtin "list.extend.loop" ⟨[.ref S,.ref I,res],[]⟩) R {s1 with heap:=h,toks:=tk}:=λ h c1 tk st1 k e=>by
  refine codeAny_extend_loopS (W A.in1 hh) hn S hSf res n 0 _ #[] c1 rfl (Nat.zero_le _) st1 e (ItemsOf.nil _) λ s' acc c' hm e' ac=>?_;have b1:s' = {s1 with heap:=s'.heap,toks:=s'.toks}:=(by have q1:s'.gens=s1.gens:=hm.gens;have q2:s'.drawn=s1.drawn:=hm.drawn;have q3:s'.os=s1.os:=hm.os;obtain⟨h',g',d',t',o'⟩:=s';dsimp only at q1 q2 q3;subst q1;subst q2;subst q3;rfl);rw[b1];refine hR s'.heap s'.toks acc c' (λ b o hb hi q=>hm.heap b o (λ z=>?_) (k b o hb q)) e' ?_
  ·rcases e8.mp z with z | z
   ·exact hb z
   ·exact hi (v4.mp z)
  ·refine List.ext_getElem? λ j=>?_;by_cases hj:j<n
   ·have hj':j<acc.size:=by rw[ac.1];exact hj
    have q1:acc[j]? = some acc[j]:=C6 hj';rw[Array.getElem?_toList,q1];exact(ac.2 j _ q1).symm
   ·rw[List.getElem?_eq_none (by rw[t9,ac.1];omega),List.getElem?_eq_none (by omega)]
 refine d4 (wpAny_holding (qU hT ?_));refine wpAny_ite_split (λ _=>?_) λ _=>d7 ⟨plainId_quiet F.plain_extend_loop _,loop s1.heap c0 s1.toks st (λ b o _ e=>e) hS⟩;refine d4 (wpAny_rule (d4 ?_));show wpAny (model prog w) A.in1 (updateSeq S (·.push .none) >>= λ _=>updateSeq S (·.pop)) _ _ _;refine d4 (wpAny_updateSeq hS rfl ?_);have e2:=Heap.get?_update_self (Obj.mapSeq (·.push Value.none)) hS rfl;refine wpAny_updateSeq (hz:=by seq_fits) e2 rfl ?_;have e3:=Heap.get?_update_self (Obj.mapSeq (·.pop)) e2 rfl;have oth:∀b o,b≠S->s1.heap.get? b=some o->((s1.heap.update S (Obj.mapSeq (·.push Value.none))).update S (Obj.mapSeq (·.pop))).get? b=some o:=λ b o hb e=>
  (Heap.get?_update_other _ _ (Ne.symm hb)).trans ((Heap.get?_update_other _ _ (Ne.symm hb)).trans e)
 refine d7 ⟨plainId_quiet F.plain_extend_loop _,loop _ _ s1.toks ?_ oth e3⟩;exact(W A.in1 hh).frame 0 s1 _ s1.toks st (i7 _) λ b hb o e=>oth b o (λ z=>hSf (z▸hb)) e
def EndC(s:zm)(a:zn)(ws:ge zk)(I:zn)(d:Drawn)(r:Result)(s':zm):Prop:=
 ∃h' tk acc c',r=.ok (.ret (.ref s.heap.objs.size))/\s' = {s with heap:=h',toks:=tk,drawn:=d} /\ h'.get? s.heap.objs.size=some {cls:=.type "list",dict:=none,data:=.seq acc c',slots:=#[]} /\ acc.toList=ws /\
  ∀b o,b≠s.heap.objs.size->b≠I->s.heap.get? b=some o->h'.get? b=some o
theorem qV(hh:A.handled=none)(hS:SetI prog w s.heap a ks)
  (h:∀K m g d,IntsAre K (K.map E4)->(K.map E4).Perm ks->(∀b o,s.heap.get? b=some o->m.get? b=some o)->s.heap.objs.size<m.objs.size->Q K {s with heap:=m,toks:=g,drawn:=d}):wpAny (model prog w) A (collect (.ref a)) Q E s:=by
 obtain⟨o,es,P,t,ho,hx,hd,a2,hp,hb,hf,ht⟩:=id hS;have hz:es.size<=sizeLine:=fits_of_scanBound hb;have M:∀K:ge zk,K.Perm (es.toList.map (·.2))->IntsAre K (K.map E4)/\(K.map E4).Perm ks:=λ K p=>by
  refine⟨?_,(p.map _).trans (by rw[List.map_map];exact hp)⟩;have all:∀v∈K,∃g,v=.int (E4 v) g:=λ v hv=>by obtain⟨e,he,q⟩:=k8.mp (p.mem_iff.mp hv);obtain⟨g,y⟩:=fJ a2 he;exact⟨g,by rw[←q];exact y⟩
  clear p
  induction K with
  | nil=>exact .nil
  | cons v r ih=>
   obtain⟨g,e⟩:=all v (i9 ..);rw[u0];have q:=ih λ u hu=>all u (i8 _ hu)
   generalize hn:E4 v=n at e;subst e;exact .cons n g q
 have L:a<s.heap.objs.size:=i5 ho;unfold collect;refine d4 (wpAny_runValue (codeAny_builtin F.entry_proto_collect ?_));rw[Around.under_plainId F.plain_proto_collect];show wpAny (model prog w) A.in1 _ _ _ s;refine d4 (wpAny_newObj_type ?_);refine d7 ⟨plainId_quiet F.plain_list_iadd _,codeAny_builtin F.entry_list_iadd ?_⟩;rw[Around.under_plainId F.plain_list_iadd];have a0:(s.heap.push {cls:=.type "list",data:=.seq ([]:ge zk).toArray}).get? s.heap.objs.size=some {cls:=.type "list",data:=.seq ([]:ge zk).toArray}:=n6 _ rfl;have O:B6 (s.heap.push {cls:=.type "list",data:=.seq ([]:ge zk).toArray}) a es P t:=⟨o,f9 _ ho,hx,hd⟩;show wpAny (model prog w) A.in1 (Builtin.List.listExtendWith (.ref s.heap.objs.size) (.ref a) (.ref s.heap.objs.size)) _ _ _;unfold Builtin.List.listExtendWith;refine d4 (wpAny_typeOf (T:="set") ⟨o,f9 _ ho,hx.1⟩ ?_);have h1:Builtin.List.listSameRef (.ref s.heap.objs.size) (.ref a)=false:=(by unfold Builtin.List.listSameRef;exact u9.mpr (Nat.ne_of_gt L));have h2:(Value.type "set" == Value.type "list")=false:=by decide
 have h3:(Value.type "set" == Value.type "tuple")=false:=by decide
 simp only[h1,h2,h3,Bool.or_false,Bool.false_eq_true,if_false];refine d4 (qN (t:=t) O hf hz ?_ ?_)
 ·intro a1;have N:a≠(s.heap.push {cls:=.type "list",data:=.seq ([]:ge zk).toArray}).objs.size:=by rw[Heap.size_push];exact j7 (Nat.lt_succ_of_lt L)
  have X:s.heap.objs.size∉[(s.heap.push {cls:=.type "list",data:=.seq ([]:ge zk).toArray}).objs.size,a]:=λ z=>by
   rw[Heap.size_push]at z;rcases e8.mp z with z | z
   ·exact absurd z (j7 (Nat.lt_succ_self _))
   ·exact absurd (v4.mp z) (Nat.ne_of_gt L)
  obtain⟨S,St,p,W,st⟩:∃S St,S.Perm (es.toList.map (·.2))/\Nx prog w (s.heap.push {cls:=.type "list",data:=.seq ([]:ge zk).toArray}).objs.size _ es.size S St /\
    St 0 _:=by
   by_cases I:z9 w=true
   ·exact⟨_,_,(fI _ es).map _,qQ (t:=t) (ep:=P) I hf N,bF,O.at λ _=>f9 _⟩
   ·have I:z9 w=false:=by simpa using I
    rw[I]at a1;exact⟨_,_,.rfl,qR (ep:=P) I (by grind) ht hf N,bF,O.at λ _=>f9 _,Nat.zero_le _⟩
  refine wpAny_mono (fW (A:=A) (a:=a) (c0:=0) (R:=EndC s a S (s.heap.push {cls:=.type "list",data:=.seq ([]:ge zk).toArray}).objs.size s.drawn)
   W hh hz X ⟨o,f9 _ (f9 _ ho),hx.1⟩ st (f9 _ a0) (λ m g c B k e Z=>⟨m,g,c,B,rfl,rfl,e,Z,λ b u h1 h2 q=>k b u h1 h2 (f9 _ (f9 _ q))⟩) (by rw[p.length_eq,e7,t9])) ?_ λ _ _ e=>e
  have x:∀r H,EndC s a S (s.heap.push {cls:=.type "list",data:=.seq ([]:ge zk).toArray}).objs.size s.drawn r H->∃m g c B,r=.ok (.ret (.ref s.heap.objs.size))/\H = {s with heap:=m,toks:=g} /\ m.get? s.heap.objs.size=some {cls:=.type "list",dict:=none,data:=.seq c B,slots:=#[]} /\ Q c.toList H:=λ r H ⟨m,g,c,B,J,y,e,Z,k⟩=>by obtain⟨q1,q2⟩:=M S p;refine⟨m,g,c,B,J,y,e,?_⟩;rw[Z,y];refine h S m g s.drawn q1 q2 (λ b u q=>k b u (j7 (i5 q)) ?_ q) (i5 e);rw[Heap.size_push];exact j7 (Nat.lt_succ_of_lt (i5 q))
  intro Y H C;cases Y with
  | done f=>
   obtain⟨m,g,c,B,J,y,e,U⟩:=x _ _ C;cases J;subst y;exact d4 (wpAny_load e (d7 U))
  | again B=>
   refine⟨C.1,codeAny_mono C.2 λ r H hr=>?_⟩;obtain⟨m,g,c,B,J,y,e,U⟩:=x _ _ hr;subst J;subst y;exact d4 (wpAny_load e (d7 U))
 ·intro l d I pl;have z1:(s.heap.push {cls:=.type "list",data:=.seq ([]:ge zk).toArray}).objs.size=s.heap.objs.size+1:=Heap.size_push _ _;have hl:l.length=es.size:=by rw[pl.length_eq,p4]
  have p:(l.map λ i=>(es.getD i (0,.none)).2).Perm (es.toList.map (·.2)):=by
   refine(pl.map _).trans (List.Perm.of_eq ?_);refine List.ext_getElem? λ j=>?_;have J:es.toList[j]? = es[j]?:=Array.getElem?_toList;rw[u4,u4,J];by_cases hj:j<es.size
   ·rw[List.getElem?_range hj,Option.map_some,A7,C6 hj];rfl
   ·have y:(List.range es.size)[j]? = none:=List.getElem?_eq_none (by grind);rw[y,Array.getElem?_eq_none (by omega)];rfl
  have N:a≠(s.heap.push {cls:=.type "list",data:=.seq ([]:ge zk).toArray}).objs.size+1:=by rw[z1];exact j7 (Nat.lt_succ_of_lt (Nat.lt_succ_of_lt L))
  have X:s.heap.objs.size∉[(s.heap.push {cls:=.type "list",data:=.seq ([]:ge zk).toArray}).objs.size+1,a,(s.heap.push {cls:=.type "list",data:=.seq ([]:ge zk).toArray}).objs.size]:=λ z=>by
   rw[z1]at z;rcases e8.mp z with z | z
   ·exact absurd z (j7 (Nat.lt_succ_of_lt (Nat.lt_succ_self _)))
   ·rcases e8.mp z with z | z
    ·exact absurd z (Nat.ne_of_gt L)
    ·exact absurd (v4.mp z) (j7 (Nat.lt_succ_self _))
  have W:=qS (prog:=prog) (w:=w) (ep:=P) (t:=t) pl hf N (j7 (Nat.lt_succ_self _));have hI:A5 (((s.heap.push {cls:=.type "list",data:=.seq ([]:ge zk).toArray}).push (Z8 l)).push (Z7 (.ref (s.heap.push {cls:=.type "list",data:=.seq ([]:ge zk).toArray}).objs.size) a es.size P))
    ((s.heap.push {cls:=.type "list",data:=.seq ([]:ge zk).toArray}).objs.size+1) a (.ref (s.heap.push {cls:=.type "list",data:=.seq ([]:ge zk).toArray}).objs.size) 0 es.size P:=by
   have:=bF (a:=a) (ep:=P) (h:=(s.heap.push {cls:=.type "list",data:=.seq ([]:ge zk).toArray}).push (Z8 l)) (f:=.ref (s.heap.push {cls:=.type "list",data:=.seq ([]:ge zk).toArray}).objs.size) (n:=es.size);have z2:((s.heap.push {cls:=.type "list",data:=.seq ([]:ge zk).toArray}).push (Z8 l)).objs.size=(s.heap.push {cls:=.type "list",data:=.seq ([]:ge zk).toArray}).objs.size+1:=Heap.size_push _ _;rw[z2]at this;exact this
  refine wpAny_mono (fW (A:=A) (a:=a) (c0:=0) (R:=EndC s a (l.map λ i=>(es.getD i (0,.none)).2) ((s.heap.push {cls:=.type "list",data:=.seq ([]:ge zk).toArray}).objs.size+1) d)
   W hh hz X ⟨o,f9 _ (f9 _ (f9 _ ho)),hx.1⟩ ⟨hI,O.at λ _ e=>f9 _ (f9 _ e),⟨_,f9 _ (n6 _ rfl),rfl,_,rfl⟩⟩ (f9 _ (f9 _ a0)) (λ m g c B k e Z=>⟨m,g,c,B,rfl,rfl,e,Z,λ b u h1 h2 q=>k b u h1 h2 (f9 _ (f9 _ (f9 _ q)))⟩) (by grind)) ?_ λ _ _ e=>e
  have x:∀r H,EndC s a (l.map λ i=>(es.getD i (0,.none)).2) ((s.heap.push {cls:=.type "list",data:=.seq ([]:ge zk).toArray}).objs.size+1) d r H->∃m g c B,r=.ok (.ret (.ref s.heap.objs.size))/\H = {s with heap:=m,toks:=g,drawn:=d} /\ m.get? s.heap.objs.size=some {cls:=.type "list",dict:=none,data:=.seq c B,slots:=#[]} /\ Q c.toList H:=λ r H ⟨m,g,c,B,J,y,e,Z,k⟩=>by obtain⟨q1,q2⟩:=M _ p;refine⟨m,g,c,B,J,y,e,?_⟩;rw[Z,y];refine h _ m g d q1 q2 (λ b u q=>k b u (j7 (i5 q)) ?_ q) (i5 e);rw[z1];exact j7 (Nat.lt_succ_of_lt (Nat.lt_succ_of_lt (i5 q)))
  intro Y H C;cases Y with
  | done f=>
   obtain⟨m,g,c,B,J,y,e,U⟩:=x _ _ C;cases J;subst y;exact d4 (wpAny_load e (d7 U))
  | again B=>
   refine⟨C.1,codeAny_mono C.2 λ r H hr=>?_⟩;obtain⟨m,g,c,B,J,y,e,U⟩:=x _ _ hr;subst J;subst y;exact d4 (wpAny_load e (d7 U))
theorem qW(B:A.handled=none)(F:SetI prog w s.heap a ks)(H:ks.length<64)
  (h:∀k g d p c f e,(∀b o,s.heap.get? b=some o->k.get? b=some o)->s.heap.objs.size<=p->k.get? p=some (seqObj "list" c e)->IntsAre c.toList f->f.Perm ks->f.Pairwise (· <= ·)->Q (.ref p) {s with heap:=k,toks:=g,drawn:=d}) :
  wpAny (model prog w) A (call (.builtin "sorted") [.ref a]) Q E s:=by
 refine Calls.call_function_entry kind_sorted plain_sorted entry_sorted (args_sorted1 _) ?_
 unfold Builtin.«sorted»;refine d4 (d7 ?_);refine d4 (qV (B) F λ c n g d y p1 l r=>?_);have z:c.length<64:=by have:=p1.length_eq;rw[e7]at this;omega
 refine d4 (wpAny_newList ?_ (by rw[sizeLine_eq];omega));have j:(n.push (seqObj "list" c.toArray 0)).get? n.objs.size=some _:=n6 _ rfl;refine d4 (wpAny_holding (wpAny_call_entry slot_list_sort ⟨_,j,rfl⟩ entry_list_sort (list_sort_tree j y z λ i f x v u=>⟨_,rfl,?_⟩) (args_list_sort _)));refine d7 ⟨_,rfl,?_⟩;obtain⟨e,C⟩:=sortedHeap_at j;refine h _ g d _ i f e (λ b o q=>?_) (Nat.le_of_lt r) C x (v.trans p1) u;have m:=i5 (l b o q);rw[sortedHeap_old (j7 m) (by rw[size_push'];exact Nat.lt_succ_of_lt m)];exact f9 _ (l b o q)
end
section
theorem fX{l:ge Int}(h:i<l.length):l.getD i 0∈l:=by
 rw[u8,j8 h];exact List.getElem_mem h
theorem minL(u:A.handled=none)(f:s.heap.IsList l vs.toArray)(g:IntsAre vs c)(p:c≠[])
  (h:∀m M (t:Tok) tk,(∀b o,s.heap.get? b=some o->m.get? b=some o)->M∈c->(∀a∈c,M<=a)->Q (.int M t) {s with heap:=m,toks:=tk}):wpAny (model prog w) A (call (.builtin "min") [.ref l]) Q E s:=by
 obtain⟨d,e⟩:=g.allInts.items;have en:c=d.toList.map (·.1):=by rw[←g.numsOf,←nums_intItems,←e]
 have n:0<d.size:=by
  have q:=List.length_pos_iff.mpr p
  rwa [en,e7,t9]at q
 rw[e]at f;refine min_intList u f n λ v x tk q k=>?_
 obtain⟨t,z⟩:=intItems_at q;subst z;obtain⟨g1,y⟩:=argBest_lt (numAt d) (d.size - 1);refine h x _ t tk k ?_ λ a i=>?_
 ·rw[en,numAt_eq];exact fX (by rw[e7,t9];omega)
 ·rw[en]at i;obtain⟨j,r,B⟩:=mem_getD i;subst B;rw[e7,t9]at r;rw[←numAt_eq];exact y j (by omega)
theorem extL(e:s.heap.get? l=some {cls:=.type "list",data:=.seq items n})(m:s.heap.IsList b new\/IsTup s.heap b new)(k:items.size+new.size<=sizeLine)
  (h:Q .none {s with heap:=s.heap.update l (Obj.mapSeq (· ++ new))}):wpAny (model prog w) A (call (.builtin "list.extend") [.ref l,.ref b]) Q E s:=by
 refine wpAny_call_entry F.slot_list_extend (⟨_,e,rfl⟩) F.entry_list_extend ?_ (F.args_list_extend_2 _ _);unfold Builtin.«list.extend»;refine d4 (d7 ?_);show wpAny _ _ _ _ _ _;unfold Builtin.List.listExtendWith;obtain⟨a,eb,T,hT,j,hd⟩:∃a,s.heap.get? b=some a/\∃T:zE,(a.cls=.type T/\(T = "list" \/ T = "tuple"))/\∃j,a.data=.seq new j:=by
  rcases m with⟨o,i,g,f,d⟩ | ⟨o,i,g,f,d⟩
  ·exact⟨o,i,"list",⟨g,.inl rfl⟩,f,d⟩
  ·exact⟨o,i,"tuple",⟨g,.inr rfl⟩,f,d⟩
 refine d4 (wpAny_typeOf ⟨a,eb,hT.1⟩ ?_);have c:(Builtin.List.listSameRef (.ref l) (.ref b)||Value.type T == .type "list" || Value.type T == .type "tuple")=true:=by
  rcases hT.2 with z | z<;>subst z
  ·rw[show(Value.type "list" == Value.type "list")=true by decide,Bool.or_true,Bool.true_or]
  ·rw[show(Value.type "tuple" == Value.type "tuple")=true by decide,Bool.or_true]
 rw[d6 c];refine d4 (listItems_at eb hd (d4 (listItems_at e rfl ?_)));rw[d9 (by rw[eW k,Bool.and_false];exact y8)];refine d4 (listUpdate_at e rfl ?_ (by omega) (by grind));exact d7 ⟨_,rfl,h⟩
end
section
def qX(K:zA):V->ge V->Hp->VK->Prop:=λ x vs H Q=>∃l b xs zs,x=.ref l/\vs=[.ref b]/\H l=some (.lst xs)/\(SqL K H b zs\/SqT K H b zs)/\xs.length+zs.length<=sizeLine/\Q .non (upd H l (.lst (xs++zs)))
theorem qY:MtM X "list.extend" (qX X.K):=by
 intro g s σ H x vs v us Q I k m h;obtain⟨l,b,xs,j,rfl,rfl,i,d,hz,q⟩:=h;cases k;obtain⟨u,rfl,o⟩:=m.one;cases o;obtain⟨z,p,n,r,hl,e⟩:=I.lstM i;obtain⟨a,c,ob⟩:∃a:ge zk,Vals j a/\(s.heap.IsList b a.toArray\/IsTup s.heap b a.toArray):=by
  rcases d with d | d
  ·obtain⟨a,c,f,_⟩:=I.list d;exact⟨a,c,.inl f.isList⟩
  ·obtain⟨a,c,f,_⟩:=I.tuple d;exact⟨a,c,.inr f⟩
 have e2:=c.length;refine extL e ob (by grind) ?_;refine⟨.non,_,I.lset i e (by simp) (r.append c) ?_,rfl,q⟩;rw[v0];omega
theorem U3:∀{b:ge Int} {a:ge zk},Vals (b.map V.int) a->IntsAre a b
 | [],a,h=>by cases h;exact .nil
 | n::b,a,h=>by
  cases h with
  | cons r t=>
   obtain⟨c,rfl⟩:=r;exact .cons n c (U3 t)
theorem fY:∀{a:ge Int} {us:ge zk},IntsAre us a->Vals (a.map V.int) us
 | _,_,.nil=>.nil
 | _,_,.cons n t h=>.cons ⟨t,rfl⟩ (fY h)
theorem qZ(o:X.calm=true):x5 X (.builtin "min") (λ c H Q=>∃(a:zn) (b:ge Int),c=[.ref a]/\SqL X.K H a (b.map V.int)/\b≠[]/\∀M,M∈b->(∀x∈b,M<=x)->Q (.int M) H):=by
 intro d s σ H c us Q I r h;obtain⟨a,b,rfl,n,m,q⟩:=h;obtain⟨u,rfl,f⟩:=C7 r;cases f;obtain⟨l,e,g,_⟩:=I.list n;exact minL (I.ok.hd o) g.isList (U3 e) m λ h' M t tk k j i=>⟨.int M,H,I.kept k,⟨t,rfl⟩,q M j i⟩
noncomputable def setO(P:zu)(w:zt)(a:zn)(ks:ge Int):HO:=.ext λ h=>SetI P w h a ks
theorem rd(x:SetI P w h a b):u5 P w H h a (setO P w a b):=
 ⟨x,let ⟨o,_,_,_,e,_⟩:=x;⟨o,e⟩,λ h1 h2 q k=>q.at k⟩
theorem rf(a:ge Int):fm (λ i=>a.getD i 0) a.length=a.foldl dk []:=by
 unfold fm
 congr 1
 refine List.ext_getElem? λ j=>?_;rw[u4];by_cases b:j<a.length
 ·rw[List.getElem?_range b,Option.map_some,u8,j8 b];rfl
 ·rw[List.getElem?_eq_none (by grind),List.getElem?_eq_none (by omega)];rfl
theorem rg(n:X.calm=true):x5 X (.type "set") (λ e H Q=>∃(a:zn) (b:ge Int),e=[.ref a]/\SqL X.K H a (b.map V.int)/\b.length<4000/\∀p,H p=none->Q (.ref p) (upd H p (setO X.prog X.w p (b.foldl dk [])))):=by
 intro g s σ H e us Q I r h;obtain⟨a,b,rfl,m,hz,q⟩:=h;obtain⟨u,rfl,j⟩:=C7 r;cases j;obtain⟨c,f,l,_⟩:=I.list m;have i:c.length=b.length:=by rw[←f.length,e7]
 refine qI (I.ok.hd n) l.isList (U3 f) (by rw[p7,i];show _<4096;omega) λ h' tk S k=>?_;have d:c.toArray.size=b.length:=by rw[p7,i]
 rw[d,rf]at S;exact⟨.ref s.heap.objs.size,_,I.laid k (i7 _) (rd S),rfl,q _ I.fresh⟩
theorem rh(z:X.calm=true):x5 X (.builtin "sorted") (λ l H Q=>∃(p:zn) (f:ge Int),l=[.ref p]/\H p=some (setO X.prog X.w p f)/\f.length<64/\∀(q:zn) (i:ge Int),H q=none->i.Perm f->i.Pairwise (· <= ·)->Q (.ref q) (upd H q (.lst (i.map V.int)))):=by
 intro m s σ H l us Q I r h;obtain⟨p,f,rfl,A,x,q⟩:=h;obtain⟨u,rfl,w⟩:=C7 r;cases w;refine qW (I.ok.hd z) ((I.hok p _ A).1) x λ B v d c o g e k n he y b j=>?_
 have hl:g.length<=sizeLine:=(by rw[b.length_eq,sizeLine_eq];omega);have ok:u5 X.prog X.w (upd H c (.lst (g.map V.int))) B c (.lst _):=⟨by rwa [e7],o.toList,e,(fY y),by rwa [Array.toArray_toList]⟩;have a:=I.laid (t':=v) k n ok;refine⟨.ref c,_,?_,rfl,q c g (I.hok.fresh n) b j⟩;exact⟨a.ok,a.os,a.bare,a.base,a.loc,a.cell,a.free,a.freeC,a.pin,a.hok,a.len⟩
end
open PySem.Calls PySem.W
section
theorem rj(p:A.handled=none)(f:s.heap.IsTuple t (intItems xs))(g:0<xs.size)
  (h:∀v d tk,(intItems xs)[argBest (λ i j=>decide (numAt xs i<numAt xs j)) (xs.size - 1)]? = some v->(∀b o,s.heap.get? b=some o->d.get? b=some o)->Q v {s with heap:=d,toks:=tk}) :
  wpAny (model prog w) A (call (.builtin "min") [.ref t]) Q E s:=by
 obtain⟨o,l,hc,n,hd⟩:=id f;have a:=i5 l;refine call_min_walk (wpAny_pyIter_tuple f ?_);refine⟨_,_,_,_,_,_,_,rfl,Walks.tuple (A:=A.in1) p _ t (j7 a) (intItems xs),⟨⟨_,n6 _ rfl,rfl,rfl⟩,f.push _⟩,λ b c=>?_,by simpa[intItems]using g,CmpOf.ints_lt (numAt xs) (λ _ _=>intItems_at),λ v d tk q m=>?_⟩
 ·show b<(s.heap.push _).objs.size;rw[Heap.size_push];rcases e8.mp c with rfl | c
  ·exact Nat.lt_succ_self _
  ·rcases e8.mp c with rfl | c
   ·exact Nat.lt_succ_of_lt a
   ·cases c
 ·refine h v d tk (by simpa[intItems]using q) λ b o e=>m b o (λ k=>?_) (f9 _ e);rcases e8.mp k with r | k
  ·exact absurd (r▸i5 e) (Nat.lt_irrefl _)
  ·cases k
theorem rm(u:s.heap.get? a=some j)(x:j.data=.seq #[.int x1 q,.int d p] n)(r:s.heap.get? b=some i)(v:i.data=.seq #[.int f o,.int c m] k)
  (h:Q (ltP (x1,d) (f,c)) s):wpAny (model prog w) A (keyLt' (tuples' true) (.ref a) (.ref b)) Q E s:=by
 refine kat_lt u x r v ?_;show KatLex prog w A true _ Q _ 0 s;unfold ltP at h;refine kat_cons (wpAny_eqBool_int ?_);by_cases e:x1=f
 ·rw[show _=true from f7.mpr e];have g:=(by rw[show decide _=false from decide_eq_false (by omega),show _=true from f7.mpr e,Bool.false_or,Bool.true_and]at h;exact h);refine kat_yes (kat_cons (wpAny_eqBool_int ?_));by_cases l:d=c
  ·rw[show _=true from f7.mpr l];refine kat_yes (kat_nil ?_);rw[show decide _=false from decide_eq_false (by omega)]at g;exact g
  ·rw[show _=false from u9.mpr l];refine kat_no ?_;show wpAny _ A _ Q _ s;exact kat_one _ _ (wpAny_lt_int g)
 ·rw[show _=false from u9.mpr e];refine kat_no ?_;show wpAny _ A _ Q _ s;refine oneLt_int ?_;rw[show _=false from u9.mpr e,Bool.false_and,Bool.or_false]at h;exact h
end
def PrAt(h:zo)(v:zk)(p:Int×Int):Prop:=∃a o n t t',v=.ref a/\h.get? a=some o/\o.cls=.type "tuple" /\ o.data=.seq #[.int p.1 t,.int p.2 t'] n
noncomputable def r6(h:zo):ge zk->ge (Int×Int)->Prop
 | [],[]=>True
 | v::vs,p::ps=>PrAt h v p/\r6 h vs ps
 | _,_=>False
theorem PrAt.keep(x:PrAt h v p)(k:∀b o,h.get? b=some o->c.get? b=some o):PrAt c v p:=by
 obtain⟨a,o,n,t,d,i,g,f,e⟩:=x;exact⟨a,o,n,t,d,i,k _ _ g,f,e⟩
theorem r6.keep(k:∀b o,h.get? b=some o->c.get? b=some o):∀{a:ge zk} {ps:ge (Int×Int)},r6 h a ps->r6 c a ps
 | [],[],_=>trivial
 | _::_,_::_,x=>⟨x.1.keep k,r6.keep k x.2⟩
 | [],_::_,x=>x.elim
 | _::_,[],x=>x.elim
theorem r6.keepNe(e:h.get? a=some (seqObj "list" xs n))(k:∀b o,b≠a->h.get? b=some o->f.get? b=some o):∀{d:ge zk} {ps:ge (Int×Int)},r6 h d ps->r6 f d ps
 | [],[],_=>trivial
 | _::_,_::_,x=>by obtain⟨⟨b,o,m,t,i,l,c,g,j⟩,y⟩:=x;refine⟨⟨b,o,m,t,i,l,k b o (λ z=>?_) c,g,j⟩,y.keepNe e k⟩;subst z;rw[e]at c;cases c;exact absurd g (by grind)
 | [],_::_,x=>x.elim
 | _::_,[],x=>x.elim
theorem r6.len:∀{a:ge zk} {ps:ge (Int×Int)},r6 h a ps->a.length=ps.length
 | [],[],_=>rfl
 | _::_,_::_,x=>by rw[p9,p9,x.2.len]
 | [],_::_,x=>x.elim
 | _::_,[],x=>x.elim
theorem r6.get:∀{vs:ge zk} {ps:ge (Int×Int)} {i:Nat},r6 h vs ps->i<ps.length->PrAt h (vs.getD i .none) (ps.getD i (0,0))
 | [],[],_,_,a=>by simp at a
 | _::_,_::_,0,x,_=>x.1
 | _::_,_::_,i+1,x,a=>x.2.get (by simpa using a)
 | [],_::_,_,x,_=>x.elim
 | _::_,[],_,x,_=>x.elim
theorem r6.tups:∀{c:ge zk} {b:ge (Int×Int)},r6 h c b->∃fs,KatTups h c fs/\fs.length=b.length/\∀v∈fs,∃i t,v=Value.int i t
 | [],[],_=>⟨[],trivial,rfl,λ _ h=>nomatch h⟩
 | _::_,p::b,x=>by
  obtain⟨⟨a,o,n,t,t',rfl,l,k,j⟩,y⟩:=x;obtain⟨fs,f,e,d⟩:=y.tups;refine⟨.int p.1 t::fs,KatTups.cons l k j rfl f,by rw[p9,p9,e],λ v g=>?_⟩;rcases e8.mp g with q | q
  ·exact⟨_,_,q⟩
  ·exact d v q
 | [],_::_,x=>x.elim
 | _::_,[],x=>x.elim
section
end
section
theorem minT(x:A.handled=none)(g:s.heap.IsTuple l vs.toArray)(i:IntsAre vs c)(r:c≠[])
  (h:∀n M (t:Tok) f,(∀b o,s.heap.get? b=some o->n.get? b=some o)->M∈c->(∀a∈c,M<=a)->Q (.int M t) {s with heap:=n,toks:=f}):wpAny (model prog w) A (call (.builtin "min") [.ref l]) Q E s:=by
 obtain⟨d,e⟩:=i.allInts.items;have en:c=d.toList.map (·.1):=by rw[←i.numsOf,←nums_intItems,←e]
 have p:0<d.size:=by
  have q:=List.length_pos_iff.mpr r
  rwa [en,e7,t9]at q
 rw[e]at g;refine rj x g p λ v y f q k=>?_
 obtain⟨t,B⟩:=intItems_at q;subst B;obtain⟨g1,z⟩:=argBest_lt (numAt d) (d.size - 1);refine h y _ t f k ?_ λ a m=>?_
 ·rw[en,numAt_eq];exact fX (by grind)
 ·rw[en]at m;obtain⟨j,u,C⟩:=mem_getD m;subst C;rw[e7,t9]at u;rw[←numAt_eq];exact z j (by omega)
end
section
theorem rn(o:X.calm=true):x5 X (.builtin "min") (λ c H Q=>∃(a:zn) (b:ge Int),c=[.ref a]/\SqT X.K H a (b.map V.int)/\b≠[]/\∀M,M∈b->(∀x∈b,M<=x)->Q (.int M) H):=by
 intro d s σ H c us Q I r h;obtain⟨a,b,rfl,n,m,q⟩:=h;obtain⟨u,rfl,f⟩:=C7 r;cases f;obtain⟨l,e,g,_⟩:=I.tuple n;exact minT (I.ok.hd o) g (U3 e) m λ h' M t tk k j i=>⟨.int M,H,I.kept k,⟨t,rfl⟩,q M j i⟩
noncomputable def PrsV(K:zA)(H:Hp):ge V->ge (Int×Int)->Prop
 | [],[]=>True
 | v::vs,p::ps=>(∃a,v=.ref a/\SqT K H a [.int p.1,.int p.2])/\PrsV K H vs ps
 | _,_=>False
theorem PrsV.at(I:Inv X c σ H s):∀{e:ge V} {d:ge (Int×Int)} {b:ge zk},PrsV X.K H e d->Vals e b->r6 s.heap b d
 | [],[],b,_,r=>by cases r;exact trivial
 | _::_,p::d,b,x,r=>by
  obtain⟨⟨a,rfl,l⟩,k⟩:=x;cases b with
  | nil=>cases r
  | cons u us=>
   cases r;rename_i j i;cases j;obtain⟨f,h,⟨o,v,q,n,m⟩,_⟩:=I.tuple l;obtain⟨u1,u2,rfl,⟨t,rfl⟩,⟨g,rfl⟩⟩:=Y3 h;exact⟨⟨a,o,n,t,g,rfl,v,q,m⟩,k.at I i⟩
 | [],_::_,_,x,_=>x.elim
 | _::_,[],_,x,_=>x.elim
end
theorem bI{G:e->zm->Prop}(f:∀i j C,i<n->j<n->C (c i j) s->d i j C s)(g:G a s):∀(t:PySem.W.KasT e),kRun n c t=some a->t.kasWp d G s
 | .ret b,h=>by have h:=h;cases h;exact g
 | .ask i j k,h=>by
  have h:(if i<n/\j<n then kRun n c _ else none)=some a:=h;split at h
  ·rename_i z;exact f i j _ z.1 z.2 (bI f g _ h)
  ·cases h
noncomputable def AllT{α:Type}(n:Nat)(φ:α->Prop):KasT α->Prop
 | .ret a=>φ a
 | .ask i j k=>(i<n/\j<n)/\∀b,AllT n φ (k b)
theorem AllT.run:∀{t:KasT d},AllT n b t->∃a,kRun n c t=some a/\b a
 | .ret a,h=>⟨a,rfl,h⟩
 | .ask i j k,h=>by
  obtain⟨a,e,q⟩:=AllT.run (h.2 _);refine⟨a,?_,q⟩;show(if i<n/\j<n then kRun n c _ else none)=some a
  rwa [d6 h.1]
theorem AllT.bind:∀{t:KasT c},AllT n d t->(∀a,d a->AllT n e (f a))->AllT n e (t.bind f)
 | .ret a,h,g=>g a h
 | .ask i j k,h,g=>⟨h.1,λ b=>AllT.bind (h.2 b) g⟩
def o5(n:Nat)(p:zr Nat):Prop:=p.toList.Perm (List.range n)
theorem o5.lt(h:o5 n p)(a:0<n)(i:Nat):p.getD i 0<n:=by
 rw[A7];cases e:p[i]? with
 | none=>exact a
 | some x=>
  exact k6.mp (h.mem_iff.mp ((by rw[Array.getElem?_eq_some_iff]at e;obtain⟨c,b⟩:=e;rw[←b];exact Array.getElem_mem_toList c)))
section
theorem o5.rev(h:o5 n p)(i j:Nat):o5 n (kas_rev p i j):=by
 unfold kas_rev;exact(Array.perm_iff_toList_perm.mp (mirror_perm _ _ _ _)).trans h
theorem o5.bub(h:o5 n p)(k m:Nat):o5 n (bubble p k m):=(Array.perm_iff_toList_perm.mp (bubble_perm _ _ _)).trans h
theorem bJ(a:0<n)(h:o5 n p):∀(f m:Nat),AllT n (λ _=>True) (kas_asc p f m)
 | 0,m=>trivial
 | f+1,m=>⟨⟨h.lt a _,h.lt a _⟩,λ b=>by
  cases b
  ·exact bJ a h f _
  ·exact trivial⟩
theorem aa(a:0<n):∀(f:Nat) (p:zr Nat) (m q:Nat),o5 n p->AllT n (λ r=>o5 n r.1) (kas_desc f p m q)
 | 0,p,m,q,h=>h
 | f+1,p,m,q,h=>⟨⟨h.lt a _,h.lt a _⟩,λ b=>by
  cases b
  ·refine⟨⟨h.lt a _,h.lt a _⟩,λ b=>?_⟩;cases b
   ·exact aa a f p _ _ h
   ·exact h
  ·show AllT n _ _;split
   ·exact aa a f _ _ 0 (h.rev _ _)
   ·exact aa a f p _ 0 h⟩
theorem fZ(b:0<n)(h:o5 n p)(m z:Nat):AllT n (λ r=>o5 n r.2) (kas_tail3 m z p):=(bJ b (h.rev _ _) _ _).bind λ a _=>h.rev _ _
theorem gb(a:0<n)(h:o5 n p)(m z:Nat):AllT n (λ r=>o5 n r.2) (kas_descPart m z p):=(aa a _ _ _ _ h).bind λ r b=>by
 split
 ·exact fZ a (b.rev _ _) _ _
 ·exact fZ a b _ _
theorem ro(a:0<n)(h:o5 n p)(z:Nat):AllT n (λ r=>o5 n r.2) (kas_count z p):=(bJ a h _ _).bind λ m _=>by
 split
 ·exact h
 ·split
  ·refine⟨⟨h.lt a _,h.lt a _⟩,λ b=>?_⟩;cases b
   ·exact gb a (h.rev _ _) _ _
   ·exact h
  ·exact gb a h _ _
theorem bK(a:0<n)(h:o5 n p)(k:Nat):∀(f l r:Nat),AllT n (λ _=>True) (kas_place p k f l r)
 | 0,l,r=>trivial
 | f+1,l,r=>by
  unfold kas_place;split
  ·exact trivial
  ·refine⟨⟨h.lt a _,h.lt a _⟩,λ b=>?_⟩;cases b
   ·exact bK a h k f _ _
   ·exact bK a h k f _ _
theorem gc(a:0<n):∀(f:Nat) (p:zr Nat) (k:Nat),o5 n p->AllT n (o5 n) (kas_bin f p k)
 | 0,p,k,h=>h
 | f+1,p,k,h=>(bK a h k _ _ _).bind λ l _=>gc a f _ _ (h.bub _ _)
theorem rq(b:0<n):AllT n (o5 n) (kas_sort n):=(ro b (by unfold o5;simp) n).bind λ r a=>by
 split
 ·exact gc b _ _ _ a
 ·exact a
theorem ry(ks:ge Int):∃b,F7 ks=some b/\b.Perm (List.range ks.length):=by
 unfold F7;split
 ·exact⟨_,rfl,.refl _⟩
 ·obtain⟨a,e,q⟩:=(rq (n:=ks.length) (by omega)).run;exact⟨a.toList,by rw[e];rfl,q⟩
theorem bL(h:b.Perm (List.range l.length)):(putIx x b l).Perm l:=by
 have e:putIx x (List.range l.length) l=l:=(by unfold putIx;apply List.ext_getElem (by simp);intro i h1 c;simp[j8 c]);have:=h.map λ i=>l.getD i x;exact this.trans (by rw[show(List.range l.length).map _=l from e])
end
theorem Vals.getD(r:Vals vs a)(i:Nat):RelV (vs.getD i .non) (a.getD i .none):=by
 rw[u8,u8];cases h:vs[i]? with
 | none=>rw[r.none_of h];rfl
 | some v=>
  obtain⟨u,e,q⟩:=r.get h
  rwa [e]
theorem Vals.putIx{vs:ge V}{us:ge zk}(r:Vals vs us):∀ix:ge Nat,Vals (putIx .non ix vs) (L2.putIx .none ix us)
 | []=>.nil
 | i::l=>.cons (r.getD i) (Vals.putIx r l)
section
theorem rA(B:s.heap.get? a=some (seqObj "list" vs.toArray n))(K:r6 s.heap vs ps)(g:Z0 ps=some ix)(h64:ps.length<64)
  (h:ix.length=vs.length->P (.done (.ret .none)) {s with heap:=sortedHeap s.heap a vs (putIx .none ix vs).toArray}):wpAny (model prog w) A (Builtin.«list.sort» ⟨[.ref a],[]⟩) P E s:=by
 have H:=K.len;rw[list_sort_plain];have L:=i5 B;refine d4 (listItems_at B rfl ?_);refine d4 (listUpdate_at B rfl ?_ (by rw[p7,sizeLine_eq];omega) (Nat.zero_le _));obtain⟨J,z⟩:∃J,(s.heap.update a (Obj.mapSeq λ _=>(#[]:zr zk))).get? a=some _:=⟨_,get?_update_seq B λ _=>#[]⟩;refine d4 (seqEpoch_at z rfl ?_);refine d4 (wpAny_newTuple ?_ (by show vs.length<=_;rw[sizeLine_eq];omega));refine d4 (wpAny_newList ?_ (Nat.zero_le _));refine wpAny_holding ?_;have m:(((s.heap.update a (Obj.mapSeq λ _=>(#[]:zr zk))).push (seqObj "tuple" vs.toArray 0)).push (seqObj "list" #[] 0)).get? a=some (seqObj "list" #[] J):=(by rw[Heap.get?_push_ne _ _ _ (by rw[size_push',Heap.size_update];exact j7 (Nat.lt_succ_of_lt L)),Heap.get?_push_ne _ _ _ (by rw[Heap.size_update];exact j7 L)];exact z);show wpAny _ A _ P E {s with heap:=((s.heap.update a (Obj.mapSeq λ _=>(#[]:zr zk))).push (seqObj "tuple" vs.toArray 0)).push _};dsimp only;have M:(vs.toArray.zip vs.toArray).map (·.2)=vs.toArray:=by apply Array.ext (by simp);intro i h1 r;simp
 have item:∀i,(PySem.W.kas_item (vs.toArray.zip vs.toArray) i).2=vs.getD i .none:=λ i=>by
  unfold PySem.W.kas_item;rw[A7,u8];by_cases I:i<vs.length
  ·rw[C6 (by simp;omega)];simp[j8 I]
  ·rw[Array.getElem?_eq_none (by simp;omega),List.getElem?_eq_none (by omega)];rfl
 unfold Z0 at g;by_cases r:vs.toArray.size<2
 ·rw[d6 r,d6 r];rw[p7]at r;rw[d6 (by omega)]at g;cases g;have ep:putIx Value.none (List.range ps.length) vs=vs:=by unfold putIx;apply List.ext_getElem (by simp[H]);intro i h1 r;simp[j8 r]
  rw[ep]at h;refine d4 (d7 ?_);rw[StateT.run_pure];refine d4 (d7 ?_);dsimp only;refine d4 (seqEpoch_at m rfl ?_);rw[M];refine d4 (listUpdate_at m rfl ?_ (Nat.zero_le _) (by rw[p7,sizeLine_eq];omega));simp only[bne_self_eq_false,Bool.false_eq_true,if_false];exact d7 (h (by rw[p4,H]))
 ·rw[d9 r,d9 r];rw[p7]at r;rw[d9 (by omega)]at g;obtain⟨q,W,y⟩:=t7.mp g;have keep:∀b o,b≠a->s.heap.get? b=some o->(((s.heap.update a (Obj.mapSeq λ _=>(#[]:zr zk))).push (seqObj "tuple" vs.toArray 0)).push (seqObj "list" #[] 0)).get? b=some o:=λ b o Z e=>by have F:=i5 e;rw[Heap.get?_push_ne _ _ _ (by rw[size_push',Heap.size_update];exact j7 (Nat.lt_succ_of_lt F)),Heap.get?_push_ne _ _ _ (by rw[Heap.size_update];exact j7 F),Heap.get?_update_ne _ _ _ _ Z];exact e
  have u:=K.keepNe B keep;obtain⟨fs,S,k2,R⟩:=u.tups;refine d4 (PySem.W.kat_kind (T:=.type "int") S (by omega) (λ v U=>?_) rfl ?_)
  ·obtain⟨i,t,rfl⟩:=R v U;exact .now
  refine d4 (wpAny_mono (PySem.W.kat_run (Q:=λ l x=>ix.length=vs.length/\(arrOf l).map (·.2)=(putIx .none ix vs).toArray/\failedOf l=none/\x = {s with heap:=((s.heap.update a (Obj.mapSeq λ _=>(#[]:zr zk))).push (seqObj "tuple" vs.toArray 0)).push (seqObj "list" #[] 0)})
   (G:=λ p x=>p=q/\x = {s with heap:=((s.heap.update a (Obj.mapSeq λ _=>(#[]:zr zk))).push (seqObj "tuple" vs.toArray 0)).push (seqObj "list" #[] 0)})
   rfl (by omega) (by omega) (λ p l x a1 a2 a3 a4=>?_) (bI (λ i j C Y X hC=>?_) ⟨rfl,rfl⟩ _ (by rw[H];exact W))) ?_ λ _ _ e=>e)
  ·obtain⟨rfl,rfl⟩:=a4;refine⟨by rw[←y,t9];exact a1,?_,a3,rfl⟩;rw[a2,←y];apply Array.ext';unfold putIx;simp only[Array.toList_map,List.map_map];exact List.map_congr_left λ i _=>item i
  ·obtain⟨b1,o1,n1,t1,O,f1,f2,f3,f4⟩:=u.get Y;obtain⟨b2,o2,n2,t2,N,g1,g2,g3,g4⟩:=u.get X;show wpAny _ A _ C _ _;rw[f1,g1];exact rm f2 f4 g2 g4 hC
  ·rintro⟨⟨⟩,l⟩ x ⟨hlx,har,hf,rfl⟩
   dsimp only;refine d4 (seqEpoch_at m rfl ?_);rw[har];refine d4 (listUpdate_at m rfl ?_ (Nat.zero_le _) (by rw[p7,sizeLine_eq];unfold putIx;rw[e7];omega));rw[hf];simp only[bne_self_eq_false,Bool.false_eq_true,if_false];exact d7 (h hlx)
end
section
end
noncomputable def EndT{α:Type}(n:Nat)(c:Nat->Nat->Bool)(φ:α->Prop):KasT α->Prop
 | .ret a=>φ a
 | .ask i j k=>(i<n/\j<n)/\EndT n c φ (k (c i j))
theorem EndT.run:∀{t:KasT d},EndT n c b t->∃a,kRun n c t=some a/\b a
 | .ret a,h=>⟨a,rfl,h⟩
 | .ask i j k,h=>by
  obtain⟨a,e,q⟩:=EndT.run h.2;refine⟨a,?_,q⟩;show(if i<n/\j<n then kRun n c _ else none)=some a
  rwa [d6 h.1]
theorem EndT.bind:∀{t:KasT b},EndT n c d t->(∀a,d a->EndT n c e (f a))->EndT n c e (t.bind f)
 | .ret a,h,g=>g a h
 | .ask i j k,h,g=>⟨h.1,EndT.bind h.2 g⟩
structure Ord(n:Nat)(c:Nat->Nat->Bool):Prop where
 tot:∀i j,i<n->j<n->i≠j->c i j=false->c j i=true
 asy:∀i j,i<n->j<n->c i j=true->c j i=false
 tr:∀i j k,i<n->j<n->k<n->c i j=true->c j k=true->c i k=true
section
variable {n:Nat} {c:Nat->Nat->Bool} {p:zr Nat}
theorem o5.size(h:o5 n p):p.size=n:=by
 have:=List.Perm.length_eq h;rw[p4,t9]at this;exact this
theorem o5.ne(h:o5 n p)(c:i<n)(b:j<n)(a:i≠j):p.getD i 0≠p.getD j 0:=by
 have hs:=h.size;have e:∀k,k<n->p.getD k 0=p.toList[k]?.getD 0:=λ k hk=>by rw[A7,Array.getElem?_toList]
 rw[e i c,e j b,j8 (by grind),j8 (by grind)];intro z;have q:=List.pairwise_iff_getElem.mp (h.nodup_iff.mpr List.nodup_range);rcases Nat.lt_or_ge i j with w | w
 ·exact q i j _ _ w z
 ·exact q j i _ _ (by omega) z.symm
def Up(c:Nat->Nat->Bool)(p:zr Nat)(m:Nat):Prop:=∀i j,i<j->j<m->c (p.getD i 0) (p.getD j 0)=true
def Down(c:Nat->Nat->Bool)(p:zr Nat)(m:Nat):Prop:=∀i j,i<j->j<m->c (p.getD j 0) (p.getD i 0)=true
theorem bM(d:0<n)(O:Ord n c)(h:o5 n p):∀(f m:Nat),1<=m->m+f<=n->Up c p m->EndT n c (λ b=>m<=b/\b<=m+f/\Up c p b/\(b<m+f->c (p.getD b 0) (p.getD (b - 1) 0)=true)) (kas_asc p f m)
 | 0,m,A,y,u=>⟨i7 _,i7 _,u,λ z=>absurd z (Nat.lt_irrefl _)⟩
 | f+1,m,A,y,u=>by
  refine⟨⟨h.lt d _,h.lt d _⟩,?_⟩;show EndT n c _ (if c _ _=true then KasT.ret m else kas_asc p f (m+1));split
  ·rename_i z;exact⟨i7 _,Nat.le_add_right _ _,u,λ _=>z⟩
  ·rename_i z;have o:c (p.getD m 0) (p.getD (m - 1) 0)=false:=by simpa using z
   have t:=O.tot _ _ (h.lt d _) (h.lt d _) (h.ne (by omega) (by omega) (by omega)) o;have r:Up c p (m+1):=λ i j l hj=>by
    rcases Nat.lt_or_ge j m with e | e
    ·exact u i j l e
    ·have:j=m:=by omega
     subst this;rcases Nat.lt_or_ge i (j - 1)with q | q
     ·exact O.tr _ _ _ (h.lt d _) (h.lt d _) (h.lt d _) (u i _ q (by omega)) t
     ·have:i=j - 1:=by omega
      subst this;exact t
   refine(?_);have g:∀{t:KasT Nat},EndT n c (λ b=>m+1<=b/\b<=m+1+f/\Up c p b/\(b<m+1+f->c (p.getD b 0) (p.getD (b - 1) 0)=true)) t->EndT n c (λ b=>m<=b/\b<=m+(f+1)/\Up c p b/\(b<m+(f+1)->c (p.getD b 0) (p.getD (b - 1) 0)=true)) t:=by
    intro t
    induction t with
    | ret a=>exact λ ⟨q1,q2,w,v⟩=>⟨by omega,by omega,w,λ z=>v (by omega)⟩
    | ask i j k x=>exact λ q=>⟨q.1,x _ q.2⟩
   exact g (bM d O h f (m+1) (by omega) (by omega) r)
theorem gf(b:0<n)(O:Ord n c)(h:o5 n p):∀(f m:Nat),2<=m->m+f<=n->Down c p m->EndT n c (λ r=>r.1=p/\r.2.2=0/\m<=r.2.1/\r.2.1<=n/\Down c p r.2.1) (kas_desc f p m 0)
 | 0,m,C,B,u=>⟨rfl,rfl,i7 _,by omega,u⟩
 | f+1,m,C,B,u=>by
  refine⟨⟨h.lt b _,h.lt b _⟩,?_⟩;show EndT n c _ (if c (p.getD m 0) (p.getD (m - 1) 0)=true then(if 0>0 then kas_desc f (kas_rev p (m - (0+1)) m) (m+1) 0 else kas_desc f p (m+1) 0)else KasT.ask (p.getD (m - 1) 0) (p.getD m 0) λ d=>if d=true then .ret (p,m,0)else kas_desc f p (m+1) (0+1));split
  ·rename_i z;rw[d9 (by omega)];have v:Down c p (m+1):=λ i j l hj=>by
    rcases Nat.lt_or_ge j m with e | e
    ·exact u i j l e
    ·have:j=m:=by omega
     subst this;rcases Nat.lt_or_ge i (j - 1)with q | q
     ·exact O.tr _ _ _ (h.lt b _) (h.lt b _) (h.lt b _) z (u i (j - 1) q (by omega))
     ·have:i=j - 1:=by omega
      subst this;exact z
   have g:∀{t:KasT (zr Nat×Nat×Nat)},EndT n c (λ r=>r.1=p/\r.2.2=0/\m+1<=r.2.1/\r.2.1<=n/\Down c p r.2.1) t->EndT n c (λ r=>r.1=p/\r.2.2=0/\m<=r.2.1/\r.2.1<=n/\Down c p r.2.1) t:=by
    intro t
    induction t with
    | ret a=>exact λ ⟨y,x,q3,w⟩=>⟨y,x,by omega,w⟩
    | ask i j k A=>exact λ q=>⟨q.1,A _ q.2⟩
   exact g (gf b O h f (m+1) (by omega) (by omega) v)
  ·rename_i z;have o:c (p.getD m 0) (p.getD (m - 1) 0)=false:=by simpa using z
   have t:=O.tot _ _ (h.lt b _) (h.lt b _) (h.ne (by omega) (by omega) (by omega)) o;refine⟨⟨h.lt b _,h.lt b _⟩,?_⟩;show EndT n c _ (if c (p.getD (m - 1) 0) (p.getD m 0)=true then KasT.ret (p,m,0)else kas_desc f p (m+1) (0+1));rw[d6 t];exact⟨rfl,rfl,i7 _,show m<=n by omega,u⟩
theorem gh(h:o5 n p)(hm:m<=n)(k:Nat):(kas_rev p 0 m).getD k 0=if k<m then p.getD (m - 1 - k) 0 else p.getD k 0:=by
 unfold kas_rev;rw[A7,(getElem?_mirror_all (by rwa [h.size]) k)];by_cases a:k<m
 ·rw[d6 ⟨Nat.zero_le _,a⟩,d6 a,A7,Nat.zero_add]
 ·rw[d9 (by omega),d9 a,A7]
theorem rB(h:o5 n p)(a:m<=n)(d:Down c p m):Up c (kas_rev p 0 m) m:=λ i j e b=>by
 rw[gh h a,gh h a,d6 (by omega),d6 b];exact d _ _ (by omega) (by omega)
theorem rC(b:0<n)(O:Ord n c)(h:o5 n p)(g:1<=m)(e:m<=n)(d:Down c p m):EndT n c (λ r=>o5 n r.2/\1<=r.1/\r.1<=n/\Up c r.2 r.1) (kas_tail3 m n p):=by
 refine(bM b O (h.rev 0 m) _ m g (by omega) (rB h e d)).bind λ a f=>?_;exact⟨h.rev 0 m,by omega,by omega,f.2.2.1⟩
theorem rD(O:Ord n c)(x:2<=n)(h:o5 n p):EndT n c (λ r=>o5 n r.2/\1<=r.1/\r.1<=n/\Up c r.2 r.1) (kas_count n p):=by
 have a:0<n:=by omega
 refine(bM a O h _ 1 (i7 _) (by omega) (λ i j h1 x=>by omega)).bind λ m q=>?_;obtain⟨d,m2,u,st⟩:=q;split
 ·exact⟨h,d,by omega,u⟩
 ·rename_i b;have f:m≠n:=λ z=>b (by grind)
  split
  ·rename_i w;refine⟨⟨h.lt a _,h.lt a _⟩,?_⟩;show EndT n c _ (if c _ _=true then KasT.ret (m,p)else kas_descPart m n _);rw[d6 (u 0 _ (by omega) (by omega))];exact⟨h,d,by omega,u⟩
  ·have e:m=1:=by omega
   subst e;unfold kas_descPart;refine(gf a O h _ 2 (i7 _) (by omega) (λ i j v hj=>?_)).bind λ r o=>?_
   ·have:j=1:=by omega
    have:i=0:=by omega
    subst_vars
    exact st (by omega)
   ·obtain⟨l,r2,r3,k,g⟩:=o;rw[d9 (by omega),l];exact rC a O h (by omega) k g
theorem bN(d:0<n)(O:Ord n c)(h:o5 n p)(j:k<n)(u:Up c p k):∀(f l r:Nat),r - l<=f->l<=r->r<=k->(∀i,i<l->c (p.getD i 0) (p.getD k 0)=true)->(∀i,r<=i->i<k->c (p.getD k 0) (p.getD i 0)=true) ->
  EndT n c (λ l=>l<=k/\(∀i,i<l->c (p.getD i 0) (p.getD k 0)=true)/\∀i,l<=i->i<k->c (p.getD k 0) (p.getD i 0)=true) (kas_place p k f l r)
 | 0,l,r,y,g,o,a,b=>⟨by omega,a,λ i m e=>b i (by omega) e⟩
 | f+1,l,r,y,g,o,a,b=>by
  unfold kas_place;split
  ·exact⟨by omega,a,λ i m e=>b i (by omega) e⟩
  ·rename_i x;refine⟨⟨h.lt d _,h.lt d _⟩,?_⟩;show EndT n c _ (if c _ _=true then kas_place p k f l ((l+r)/2)else kas_place p k f _ r);have w:(l+r)/2<r:=by omega
   split
   ·rename_i z;refine bN d O h j u f l _ (by omega) (by omega) (by omega) a λ i m e=>?_
    rcases Nat.lt_or_ge _ i with q | q
    ·exact O.tr _ _ _ (h.lt d _) (h.lt d _) (h.lt d _) z (u _ i q e)
    ·have:i=(l+r)/2:=by omega
     subst this;exact z
   ·rename_i z;have v:c (p.getD k 0) (p.getD ((l+r)/2) 0)=false:=by simpa using z
    have t:=O.tot _ _ (h.lt d _) (h.lt d _) (h.ne j (by omega) (by omega)) v;refine bN d O h j u f _ r (by omega) (by omega) o (λ i m=>?_) b;rcases Nat.lt_or_ge i _ with q | q
    ·exact O.tr _ _ _ (h.lt d _) (h.lt d _) (h.lt d _) (u i _ q (by omega)) t
    ·have:i=(l+r)/2:=by omega
     subst this;exact t
theorem gi(h:o5 n p)(hk:k<n)(hl:l<=k)(i:Nat):(bubble p k (k - l)).getD i 0=if i=l then p.getD k 0 else if l<i/\i<=k then p.getD (i - 1) 0 else p.getD i 0:=by
 rw[A7,(getElem?_bubble (by rwa [h.size]) _ (by omega) i),show k - _=l by omega];by_cases b:i=l
 ·rw[d6 b,d6 b,A7]
 ·rw[d9 b,d9 b];by_cases a:l<i/\i<=k
  ·rw[d6 a,d6 a,A7]
  ·rw[d9 a,d9 a,A7]
theorem rF(h:o5 n p)(g:k<n)(f:l<=k)(u:Up c p k)(a:∀i,i<l->c (p.getD i 0) (p.getD k 0)=true)(b:∀i,l<=i->i<k->c (p.getD k 0) (p.getD i 0)=true):Up c (bubble p k (k - l)) (k+1):=λ i j e hj=>by
 rw[gi h g f,gi h g f];by_cases m:i=l
 ·rw[d6 m,d9 (by omega),d6 (by omega)];exact b _ (by omega) (by omega)
 ·rw[d9 m];by_cases d:j=l
  ·rw[d6 d,d9 (by omega)];exact a _ (by omega)
  ·rw[d9 d];by_cases q:l<i
   ·rw[d6 (by omega),d6 (by omega)];exact u _ _ (by omega) (by omega)
   ·rw[d9 (by omega)];by_cases o:l<j
    ·rw[d6 (by omega)];exact u _ _ (by omega) (by omega)
    ·rw[d9 (by omega)];exact u _ _ e (by omega)
theorem gj(b:0<n)(O:Ord n c):∀(f:Nat) (p:zr Nat) (k:Nat),k+f=n->o5 n p->Up c p k->EndT n c (λ p=>o5 n p/\Up c p n) (kas_bin f p k)
 | 0,p,k,e,h,u=>⟨h,by rwa [←e]⟩
 | f+1,p,k,e,h,u=>by refine(bN b O h (by omega) u k 0 k (by omega) (Nat.zero_le _) (i7 _) (λ i d=>absurd d (Nat.not_lt_zero _)) (λ i h1 h2=>by omega)).bind λ l a=>?_;exact gj b O f _ _ (by omega) (h.bub _ _) (rF h (by omega) a.1 u a.2.1 a.2.2)
theorem rG(O:Ord n c)(f:2<=n):EndT n c (λ p=>o5 n p/\Up c p n) (kas_sort n):=by
 refine(rD O f (by unfold o5;simp)).bind λ r e=>?_;obtain⟨b,d,r3,a⟩:=e;split
 ·exact gj (by omega) O _ _ _ (by omega) b (by rw[Nat.max_eq_left d];exact a)
 ·exact⟨b,by rw[show n=r.1 by omega];exact a⟩
theorem gl{R:b->b->Prop}(hp:a.Perm (List.range l.length))(h:∀i j,i<j->j<a.length->R (l.getD (a.getD i 0) x) (l.getD (a.getD j 0) x)):(putIx x a l).Pairwise R:=by
 unfold putIx;refine List.pairwise_iff_getElem.mpr λ i j e c d=>?_
 rw[e7]at e c;have q:=h i j d c;rw[List.getElem_map,List.getElem_map];rw[u8 (l:=a),u8 (l:=a),j8 e,j8 c]at q;exact q
theorem rH(v:ps.Nodup):∃m,Z0 ps=some m/\m.Perm (List.range ps.length)/\(putIx (0,0) m ps).Pairwise (λ a b=>ltP a b=true):=by
 have c:∀a b:Int×Int,ltP a b=true↔a.1<b.1\/a.1=b.1/\a.2<b.2:=λ a b=>by unfold ltP;rw[Bool.or_eq_true,decide_eq_true_iff,d8,f7,decide_eq_true_iff]
 unfold Z0;split
 ·rename_i o;refine⟨_,rfl,.refl _,gl (.refl _) λ i j f d=>?_⟩;rw[p4]at d;omega
 ·rename_i o;have O:Ord ps.length (λ i j=>ltP (ps.getD i (0,0)) (ps.getD j (0,0))):=by
   refine⟨λ i j n d y h=>?_,λ i j n d h=>?_,λ i j k n d hk A o=>?_⟩
   ·have x:ps.getD i (0,0)≠ps.getD j (0,0):=by
     rw[u8,u8,j8 n,j8 d];have q:=List.pairwise_iff_getElem.mp v;rcases Nat.lt_or_ge i j with w | w
     ·exact q i j _ _ w
     ·exact λ z=>q j i _ _ (by omega) z.symm
    have r:¬(ltP (ps.getD i (0,0)) (ps.getD j (0,0))=true):=by rw[h];simp
    rw[c]at r;show ltP _ _=true;rw[c];generalize ps.getD i (0,0)=a at *;generalize ps.getD j (0,0)=b at *;obtain⟨F,E⟩:=a;obtain⟨C,B⟩:=b;have:¬(F=C/\E=B):=λ z=>x (by grind)
    dsimp at *;omega
   ·have r:=h;rw[c]at r;show ltP _ _=false;rw[←Bool.not_eq_true,c];omega
   ·have p:=A;rw[c]at p o;show ltP _ _=true;rw[c];omega
  obtain⟨a,e,l,u⟩:=(rG O (by omega)).run;refine⟨a.toList,by rw[e];rfl,l,gl l λ i j f d=>?_⟩;rw[t9,l.size]at d;have z:=u i j f d;have g:∀k,a.toList.getD k 0=a.getD k 0:=λ k=>by rw[u8,A7,Array.getElem?_toList]
  rwa [g,g]
end
section
theorem rJ{items:zr zk}{bs:ge Bool}(e:items.toList=bs.map Value.bool):TruthOf prog w A (λ i v=>items[i]? = some v) (λ i=>bs.getD i false):=by
 intro i v s Q E hP d;have c:(bs.map Value.bool)[i]? = some v:=by rwa [←e,Array.getElem?_toList]
 rw[u4]at c;obtain⟨b,f,rfl⟩:=t7.mp c;have a:Q (bs.getD i false) s:=d;rw[u8,f]at a;exact PySem.wpAny_truthy_bool a
theorem rK(bs:ge Bool):(List.range bs.length).all (λ i=>bs.getD i false)=bs.all id:=by
 rw[Bool.eq_iff_iff,w6,w6];constructor
 ·intro h x b;obtain⟨i,a,rfl⟩:=List.getElem_of_mem b;have:=h i (k6.mpr a);rw[u8,j8 a]at this;exact this
 ·intro h i a;have a:=k6.mp a;rw[u8,j8 a];exact h _ (List.getElem_mem a)
theorem allL{bs:ge Bool}(m:A.handled=none)(f:s.heap.IsList l items)(e:items.toList=bs.map Value.bool)
  (h:∀a c,(∀b o,s.heap.get? b=some o->a.get? b=some o)->Q (.bool (bs.all id)) {s with heap:=a,toks:=c}):wpAny (model prog w) A (call (.builtin "all") [.ref l]) Q E s:=by
 have d:l<s.heap.objs.size:=by obtain⟨_,e,_⟩:=f;exact i5 e
 have j:items.size=bs.length:=by rw[←t9,e,e7]
 refine call_all_walk (wpAny_pyIter_list f ⟨_,_,_,_,_,_,λ i=>bs.getD i false,rfl,Walks.list (A:=A.in1) m s.heap.objs.size l (j7 d) items,⟨⟨_,n6 _ rfl,rfl,rfl⟩,f.push _⟩,rJ e,λ a c k=>?_⟩);rw[j,rK];exact h a c λ b o g=>k b o (by simp;exact j7 (i5 g)) (f9 _ g)
theorem sumL(m:A.handled=none)(f:s.heap.IsList l vs.toArray)(g:IntsAre vs d)
  (h:∀a c t,(∀b o,s.heap.get? b=some o->a.get? b=some o)->Q (.int d.sum t) {s with heap:=a,toks:=c}):wpAny (model prog w) A (call (.builtin "sum") [.ref l]) Q E s:=by
 obtain⟨i,e⟩:=g.allInts.items;have en:d=i.toList.map (·.1):=by rw[←g.numsOf,←nums_intItems,←e]
 rw[e]at f;refine sum_intListG m f λ a c j k=>?_
 have:=h a c j k;rw[preSum_eq,List.take_of_length_le (by simp)];rw[en]at this;exact this
end
section
theorem gm:∀{bs:ge Bool} {us:ge zk},Vals (bs.map V.bl) us->us=bs.map Value.bool
 | [],_,h=>by cases h;rfl
 | b::bs,_,h=>by
  cases h with
  | cons r t=>
   rw[gm t];cases(r);rfl
theorem rM(j:X.calm=true):x5 X (.builtin "all") (λ b H Q=>∃(a:zn) (bs:ge Bool),b=[.ref a]/\SqL X.K H a (bs.map V.bl)/\Q (.bl (bs.all id)) H):=by
 intro c s σ H b us Q I r h;obtain⟨a,bs,rfl,i,q⟩:=h;obtain⟨u,rfl,e⟩:=C7 r;cases e;obtain⟨g,d,f,_⟩:=I.list i;exact allL (I.ok.hd j) f.isList (by simpa using gm d) λ h' tk k=>⟨.bl _,H,I.kept k,rfl,q⟩
theorem rN(l:X.calm=true):x5 X (.builtin "sum") (λ c H Q=>∃(a:zn) (b:ge Int),c=[.ref a]/\SqL X.K H a (b.map V.int)/\Q (.int b.sum) H):=by
 intro d s σ H c us Q I r h;obtain⟨a,b,rfl,j,q⟩:=h;obtain⟨u,rfl,f⟩:=C7 r;cases f;obtain⟨i,e,g,_⟩:=I.list j;exact sumL (I.ok.hd l) g.isList (U3 e) λ h' tk t k=>⟨.int _,H,I.kept k,⟨t,rfl⟩,q⟩
end
structure Sg where
 N:List Str
 sc:List (Str×NameKind)
 fn:List Str
 bl:List Str
 cl:List Str
 top:Bool
 lp:Bool
noncomputable def gn:ge Str:=["ValueError"]
noncomputable def w9:zq->on Str | .Name x _=>some x | _=>none
noncomputable def M1:zq->on Const | .Constant c _ _=>some c | _=>none
noncomputable def bO:zq->on (zq×Operator×zq) | .BinOp a o b _=>some (a,o,b) | _=>none
noncomputable def asUn:zq->on (UnaryOp×zq) | .UnaryOp o a _=>some (o,a) | _=>none
noncomputable def gp:zq->on (zq×ge CmpOp×ge zq) | .Compare a o b _=>some (a,o,b) | _=>none
noncomputable def bP:zq->on (BoolOp×ge zq) | .BoolOp o es _=>some (o,es) | _=>none
noncomputable def bQ:zq->on (ge zq) | .List es _=>some es | _=>none
noncomputable def D1:zq->on (ge zq) | .Tuple es _ _=>some es | _=>none
noncomputable def J9:zq->on (zq×zq) | .Subscript a b _=>some (a,b) | _=>none
noncomputable def ad:zq->on (on zq×on zq×on zq) | .Slice a b c _=>some (a,b,c) | _=>none
noncomputable def B2:zq->on (zq×ge zq×ge Keyword×Pos) | .Call f as ks p=>some (f,as,ks,p) | _=>none
noncomputable def O9:zq->on (zq×Str×Pos) | .Attribute a n p=>some (a,n,p) | _=>none
noncomputable def gq:zq->on (zq×ge Comprehension×zB) | .ListComp e gs sc _=>some (e,gs,sc) | _=>none
noncomputable def j9:zq->Bool | .Starred _ _=>true | _=>false
noncomputable def ae:zq->Bool | .Slice _ _ _ _=>true | _=>false
noncomputable def E5:zq->Bool | .Set _ _ _=>true | _=>false
noncomputable def M2:zq->Bool | .ListComp _ _ _ _=>true | .SetComp _ _ _ _=>true | .DictComp _ _ _ _ _=>true | _=>false
theorem x0(h:w9 e=some x):∃p,e=.Name x p:=by
 cases e<;>cases h;exact⟨_,rfl⟩
theorem bR(h:M1 e=some x):∃k p,e=.Constant x k p:=by
 cases e<;>cases h;exact⟨_,_,rfl⟩
theorem bS(h:bO e=some (a,o,b)):∃p,e=.BinOp a o b p:=by
 cases e<;>cases h;exact⟨_,rfl⟩
theorem gr(h:asUn e=some (o,a)):∃p,e=.UnaryOp o a p:=by
 cases e<;>cases h;exact⟨_,rfl⟩
theorem gu(h:gp e=some (a,b,bs)):∃p,e=.Compare a b bs p:=by
 cases e<;>cases h;exact⟨_,rfl⟩
theorem af(h:bP e=some (o,es)):∃p,e=.BoolOp o es p:=by
 cases e<;>cases h;exact⟨_,rfl⟩
theorem bT(h:bQ e=some es):∃p,e=.List es p:=by
 cases e<;>cases h;exact⟨_,rfl⟩
theorem M3(h:D1 e=some es):∃k p,e=.Tuple es k p:=by
 cases e<;>cases h;exact⟨_,_,rfl⟩
theorem F1(h:J9 e=some (a,b)):∃p,e=.Subscript a b p:=by
 cases e<;>cases h;exact⟨_,rfl⟩
theorem bU(h:ad e=some (a,b,c)):∃p,e=.Slice a b c p:=by
 cases e<;>cases h;exact⟨_,rfl⟩
theorem x8(h:B2 e=some (f,a,ks,p)):e=.Call f a ks p:=by
 cases e<;>cases h;rfl
theorem U4(h:O9 e=some (a,n,p)):e=.Attribute a n p:=by
 cases e<;>cases h;rfl
theorem rO{e x:zq}{gs:ge Comprehension}{sc:zB}(h:gq e=some (x,gs,sc)):∃p,e=.ListComp x gs sc p:=by
 cases e<;>cases h;exact⟨_,rfl⟩
noncomputable def visB(sg:Sg)(x:Str):Bool:=sg.sc.lookup x==some .local||sg.sc.lookup x==some .cell||sg.sc.lookup x==some .free
noncomputable def gloB(sg:Sg)(x:Str):Bool:=sg.sc.lookup x==some .globalImplicit
noncomputable def locB(sg:Sg)(x:Str):Bool:=sg.sc.lookup x==some .local||sg.sc.lookup x==some .cell
def G9(sg:Sg)(i:Nat)(x:Str):Bool:=sg.N[i]? == some x&&visB sg x&&x != "__debug__" && x != "__classdict__"
def bltB(sg:Sg)(x:Str)(f:zq):Bool:=w9 f==some x&&gloB sg x&&sg.bl.contains x
noncomputable def rP:Bi->Str
 | .len=>"len" | .min=>"min" | .sum=>"sum" | .all=>"all" | .sset=>"sorted" | .int=>"int" | .list=>"list" | .tuple=>"tuple"
noncomputable def gw:Mt->Str
 | .bitLength=>"bit_length" | .index=>"index" | .get=>"get"
structure CParts where
 elt:Expr
 tg:Expr
 it:Expr
 ifs:List Expr
 sc:Scope
def P0(e:zq):on CParts:=match gq e with
 | some (elt,[⟨tg,it,ifs,a⟩],sc)=>if a=0 then some ⟨elt,tg,it,ifs,sc⟩else none
 | _=>none
theorem bV(h:P0 e=some c):∃p,e=.ListComp c.elt [⟨c.tg,c.it,c.ifs,0⟩] c.sc p:=by
 unfold P0 at h;split at h
 ·rename_i f tg it b a sc q;split at h
  ·rename_i d;cases h;subst d;exact rO q
  ·cases h
 ·cases h
noncomputable def B7(sg:Sg)(tn:ge Str)(fr:ge (on Nat)):ge Str:=tn++(fr.drop tn.length).map λ o=>match o with | some i=>sg.N.getD i "" | none=>""
def gx:Tg->zq->on (ge Str)
 | .one _,e=>(w9 e).map λ x=>[x]
 | .many is,e=>match D1 e with
  | some es=>if es.length=is.length then es.mapM w9 else none
  | none=>none
def tgOk(sg:Sg):Tg->zq->Bool
 | .one i,e=>match w9 e with
  | some x=>sg.N[i]? == some x&&locB sg x
  | none=>false
 | .many is,e=>match D1 e with
  | some es=>es.length==is.length&&2<=es.length&&(is.zip es).all λ p=>match w9 p.2 with
   | some x=>sg.N[p.1]? == some x&&locB sg x
   | none=>false
  | none=>false
noncomputable def K0:ge Str->Bool
 | []=>true
 | x::r=>!r.contains x&&K0 r
noncomputable def M4:Tg->ge Nat
 | .one i=>[i]
 | .many is=>is
def K1(sg:Sg)(N':ge Str)(fr:ge (on Nat))(sc:zB)(tg:Tg):Bool:=(M4 tg).all (λ i=>fr[i]? == some none) &&
 sc.kind == .function&&K0 N'&&K0 (sc.names.map (·.1))&&fr.length==N'.length &&
 (fr.zip N').all (λ p=>match p.1 with | some i=>sg.N[i]? == some p.2&&sc.names.contains (p.2,.free) | none=>true) &&
 sc.names.all λ y=>if y.2 == .free then sg.sc.lookup y.1==some .cell||sg.sc.lookup y.1==some .free else true
noncomputable def P1(p:zC):on (ge Str):=match p with
 | ⟨[],[a],none,[],[],none,[]⟩=>if a.arg==("entry":Str)then some [a.arg]else none
 | _=>none
noncomputable def gy:zq->on (zC×zq×zB×Pos) | .Lambda pr bd sc p=>some (pr,bd,sc,p) | _=>none
def gz(sg:Sg)(N:ge Str)(np:Nat)(fr:ge Nat)(pr:zC)(sc:zB):Bool:=P1 pr==some (N.take np)&&sc.kind == .function && !sc.isCoroutine && !sc.isGenerator&&K0 N&&K0 (sc.names.map (·.1))&&decide (N.length=np+fr.length) &&
 (N.take np).all (λ x=>sc.names.lookup x==some .local)&&sc.names.all (λ y=>y.2 != .cell)&&(N.drop np).all (λ x=>sc.names.lookup x==some .free)&&(fr.zip (N.drop np)).all (λ p=>sg.N[p.1]? == some p.2) &&
 sc.names.all λ y=>if y.2 == .free then sg.sc.lookup y.1==some .cell else true
noncomputable def gA:ME->Bool
 | .comp _ _ _ _=>true
 | .compi _ _ _ _ _=>true
 | _=>false
noncomputable def isZp:ME->Bool
 | .zp _ _=>true
 | .enu _=>true
 | _=>false
mutual
def corE(sg:Sg)(w:Bool):ME->zq->Bool
 | .var i,e=>match w9 e with | some x=>G9 sg i x | none=>false
 | .int i,e=>M1 e==some (.int i)
 | .bl i,e=>M1 e==some (.bool i)
 | .str x,e=>M1 e==some (.str x)&&decide (x.length<=1000)
 | .non,e=>M1 e==some .none
 | .glb x,e=>w9 e==some x&&gloB sg x&&x != "__debug__"
 | .bin op a b,e=>match bO e with | some (ea,o,eb)=>o==op&&corE sg false a ea&&corE sg false b eb | none=>false
 | .not a,e=>match asUn e with | some (o,ea)=>o == .Not&&corE sg false a ea | none=>false
 | .cmp op a b,e=>match gp e with | some (ea,[o],[eb])=>o==op&&corE sg false a ea&&corE sg false b eb && !E5 eb | _=>false
 | .and ms,e=>match bP e with | some (o,es)=>o == .And&&q9 sg ms es | none=>false
 | .or ms,e=>match bP e with | some (o,es)=>o == .Or&&q9 sg ms es | none=>false
 | .lst ms,e=>match bQ e with | some es=>q9 sg ms es | none=>false
 | .tup ms,e=>match D1 e with | some es=>q9 sg ms es | none=>false
 | .ix a b,e=>match J9 e with | some (ea,eb)=>corE sg false a ea&&corE sg false b eb && !ae eb | none=>false
 | .sl a lo hi,e=>match J9 e with
  | some (ea,es)=>(match ad es with | some (some el,some eh,none)=>corE sg false a ea&&corE sg false lo el&&corE sg false hi eh | _=>false)
  | none=>false
 | .slf a lo,e=>match J9 e with
  | some (ea,es)=>(match ad es with | some (some el,none,none)=>corE sg false a ea&&corE sg false lo el | _=>false)
  | none=>false
 | .slt a hi,e=>match J9 e with
  | some (ea,es)=>(match ad es with | some (none,some eh,none)=>corE sg false a ea&&corE sg false hi eh | _=>false)
  | none=>false
 | .call f ms,e=>match B2 e with
  | some (ef,es,[],_)=>(match w9 ef with | some x=>sg.fn[f]? == some x&&gloB sg x&&x != "__debug__" | none=>false) && !es.isEmpty&&q9 sg ms es
  | _=>false
 | .bi f ms,e=>match B2 e with
  | some (ef,es,[],_)=>bltB sg (rP f) ef && !es.isEmpty&&(match f with
   | .sset=>(match es with
    | [e1]=>(match B2 e1 with
     | some (ef',es',[],_)=>bltB sg "set" ef'&&es'.length==1&&q9 sg ms es'
     | _=>false)
    | _=>false)
   | _=>q9 sg ms es)
  | _=>false
 | .isi a ts,e=>match B2 e with
  | some (ef,[ea,et],[],_)=>bltB sg "isinstance" ef&&corE sg false a ea && !j9 ea && !j9 et&&(match ts with
   | [t]=>w9 et==some t&&gloB sg t&&sg.bl.contains t&&J4.contains t
   | _=>false)
  | _=>false
 | .isx a t,e=>match B2 e with
  | some (ef,[ea,et],[],_)=>bltB sg "isinstance" ef&&corE sg false a ea && !j9 ea && !j9 et&&w9 et==some t&&gloB sg t&&((sg.cl.contains t&&t != "__debug__")||(sg.bl.contains t&&gn.contains t))
  | _=>false
 | .meth m a ms,e=>match B2 e with
  | some (ef,[],[],pos)=>(match O9 ef with
   | some (ea,n,apos)=>n==gw m&&corE sg false a ea&&((w9 ea).isSome||(bO ea).isSome)&&apos.endLine==pos.line&&ms.isEmpty
   | none=>false)
  | _=>false
 | .comp elt tg it fr,e=>match P0 e with
  | some c=>c.ifs.isEmpty&&(corE sg true it c.it&&(!isZp it||(D1 c.tg).isSome)) && !E5 c.it&&(match gx tg c.tg with
   | some tn=>K1 sg (B7 sg tn fr) fr c.sc tg&&tgOk ⟨B7 sg tn fr,c.sc.names,sg.fn,sg.bl,sg.cl,false,false⟩ tg c.tg&&corE ⟨B7 sg tn fr,c.sc.names,sg.fn,sg.bl,sg.cl,false,false⟩ false elt c.elt
   | none=>false)
  | none=>false
 | .compi elt tg it cd fr,e=>match P0 e with
  | some c=>(corE sg true it c.it&&(!isZp it||(D1 c.tg).isSome)) && !E5 c.it&&(match gx tg c.tg,c.ifs with
   | some tn,[ec]=>K1 sg (B7 sg tn fr) fr c.sc tg&&tgOk ⟨B7 sg tn fr,c.sc.names,sg.fn,sg.bl,sg.cl,false,false⟩ tg c.tg&&corE ⟨B7 sg tn fr,c.sc.names,sg.fn,sg.bl,sg.cl,false,false⟩ false elt c.elt&&corE ⟨B7 sg tn fr,c.sc.names,sg.fn,sg.bl,sg.cl,false,false⟩ false cd ec
   | _,_=>false)
  | none=>false
 | .idx a b,e=>match B2 e with
  | some (ef,[eb],[],pos)=>(match O9 ef with
   | some (ea,n,apos)=>n == "index" && corE sg false a ea&&(w9 ea).isSome&&apos.endLine==pos.line&&corE sg false b eb && !j9 eb
   | none=>false)
  | _=>false
 | .rng ms,e=>w&&(match B2 e with
  | some (ef,es,[],_)=>bltB sg "range" ef&&q9 sg ms es&&decide (es.length<=2)
  | _=>false)
 | .zp a b,e=>w&&(match B2 e with
  | some (ef,[ea,eb],[],_)=>bltB sg "zip" ef&&corE sg false a ea&&corE sg false b eb && !j9 ea && !j9 eb
  | _=>false)
 | .enu a,e=>w&&(match B2 e with
  | some (ef,[ea],[],_)=>bltB sg "enumerate" ef&&corE sg false a ea && !j9 ea
  | _=>false)
 | .srd i,e=>match B2 e with
  | some (ef,[eo],[],_)=>bltB sg "sorted" ef&&(match w9 eo with | some x=>G9 sg i x | none=>false)
  | _=>false
 | .srtk a N np lb fr,e=>sg.top&&(match B2 e with
  | some (ef,[ea],[⟨kn,el,_⟩],_)=>bltB sg "sorted" ef&&kn==some "key" && corE sg false a ea && !j9 ea&&(match gy el with
   | some (pr,bd,sc,_)=>gz sg N np fr pr sc&&corE ⟨N,sc.names,sg.fn,sg.bl,sg.cl,false,false⟩ false lb bd
   | none=>false)
  | _=>false)
def q9(sg:Sg):ge ME->ge zq->Bool
 | [],[]=>true
 | m::ms,e::es=>corE sg false m e && !j9 e&&q9 sg ms es
 | _,_=>false
end
noncomputable def gB:ExceptHandler->on (on zq×on Str×ge zx) | .ExceptHandler t n b _=>some (t,n,b)
mutual
def corS(sg:Sg):MS->zx->Bool
 | .set i _ e,s=>match s with
  | .Assign [t] v pos=>(match t with
   | .Name x pt=>sg.N[i]? == some x&&locB sg x&&corE sg false e v&&(!M2 v||gA e)
   | _=>false)
  | _=>false
 | .aug i e,s=>match s with
  | .AugAssign t o v _=>o == .Add&&(match w9 t with | some x=>sg.N[i]? == some x&&locB sg x | none=>false)&&corE sg false e v
  | _=>false
 | .app i e,s=>match s with
  | .Expr v _=>(match B2 v with
   | some (ef,[ea],[],pos)=>(match O9 ef with
    | some (o,n,apos)=>n == "append" && (match w9 o with | some x=>G9 sg i x | none=>false)&&corE sg false e ea && !j9 ea&&apos.endLine==pos.line
    | none=>false)
   | _=>false)
  | _=>false
 | .ext i e,s=>match s with
  | .Expr v _=>(match B2 v with
   | some (ef,[ea],[],pos)=>(match O9 ef with
    | some (o,n,apos)=>n == "extend" && (match w9 o with | some x=>G9 sg i x | none=>false)&&corE sg false e ea && !j9 ea&&apos.endLine==pos.line
    | none=>false)
   | _=>false)
  | _=>false
 | .seti i k e,s=>match s with
  | .Assign [t] v _=>(match J9 t with
   | some (o,ek)=>(match w9 o with | some x=>G9 sg i x | none=>false)&&corE sg false k ek && !ae ek&&corE sg false e v
   | none=>false)
  | _=>false
 | .exp e,s=>match s with
  | .Expr v _=>corE sg false e v && !M2 v
  | _=>false
 | .ret e,s=>match s with
  | .Return (some v) _=>corE sg false e v
  | _=>false
 | .rt3 ms,s=>match s with
  | .Return (some v) _=>(match D1 v with | some es=>q9 sg ms es | none=>false)
  | _=>false
 | .hld h i f e,s=>match s with
  | .Assign [t] v _=>(match t with
   | .Name x _=>sg.N[h]? == some x&&locB sg x&&(match bQ v with
    | some [e1,e2]=>corE sg false e e1&&corE sg false (.call f [.var i]) e2 && !j9 e1 && !j9 e2
    | _=>false)
   | _=>false)
  | _=>false
 | .app2 i e,s=>match s with
  | .Expr v _=>(match B2 v with
   | some (ef,[ea],[],pos)=>(match O9 ef with
    | some (o,n,apos)=>n == "append" && (match J9 o with
     | some (ob,oi)=>(match w9 ob with | some x=>G9 sg i x | none=>false)&&M1 oi==some (.int 2)
     | none=>false)&&corE sg false e ea && !j9 ea&&apos.endLine==pos.line
    | none=>false)
   | _=>false)
  | _=>false
 | .iff c a b,s=>match s with
  | .If ec ea eb _=>corE sg false c ec&&B8 sg a ea&&B8 sg b eb
  | _=>false
 | .fo tg it body,s=>match s with
  | .For t i b [] _=>sg.lp&&tgOk sg tg t&&(corE sg true it i&&(!isZp it||(D1 t).isSome)) && !E5 i&&B8 sg body b
  | _=>false
 | .wh c body,s=>match s with
  | .While t b [] _=>sg.lp&&corE sg false c t&&B8 sg body b
  | _=>false
 | .unk,_=>true
 | .ses i,s=>match s with
  | .Assign [t] v _=>(match w9 t with
   | some x=>(match v with | .Dict [] [] _=>sg.N[i]? == some x&&locB sg x | _=>false)
   | none=>false)
  | _=>false
 | .dpt i ks e,s=>match s with
  | .Assign [t] v _=>(match J9 t with
   | some (o,ek)=>(match w9 o with | some x=>G9 sg i x | none=>false)&&(match D1 ek with | some es=>q9 sg ks es | none=>false)&&corE sg false e v && !M2 v
   | none=>false)
  | _=>false
 | .rse c e,s=>match s with
  | .Raise (some v) none _=>(match B2 v with
   | some (ef,[ea],[],_)=>sg.top&&w9 ef==some c&&gloB sg c&&c != "__debug__" && corE sg false e ea && !j9 ea
   | _=>false)
  | _=>false
 | .tryc body c ie ic,s=>match s with
  | .Try b [h] [] [] _=>sg.top&&B8 ⟨sg.N,sg.sc,sg.fn,sg.bl,sg.cl,false,false⟩ body b&&(match gB h with
   | some (some t,some n,[.Assign [t2] v2 _])=>w9 t==some c&&gloB sg c&&c != "__debug__" && sg.cl.contains c&&sg.N[ie]? == some n&&sg.sc.lookup n==some .local&&n != "__debug__" && n != "__classdict__" &&
     w9 v2==some n&&(match w9 t2 with | some x=>sg.N[ic]? == some x&&locB sg x | none=>false)&&ie != ic
   | _=>false)
  | _=>false
 | .frz _,_=>false
def B8(sg:Sg):ge MS->ge zx->Bool
 | [],[]=>true
 | .frz _::ms,ss=>B8 sg ms ss
 | m::ms,s::ss=>corS sg m s&&B8 sg ms ss
 | _,_=>false
end
def E6(H:Hp)(q:Str)(params:zC)(body:zq)(scope:zB)(cl:ge (Str×zn))(f:zn):Prop:=
 ∃c' oc u vs t pm ctv,H f=some (.frz (PySem.W.kla_obj "<lambda>" q params body scope cl pm c' ctv) (.own f))/\H c'=some (.frz oc u)/\oc.data=.fields vs/\vs[1]? = some (.str q t)
theorem E6.mono{H H':Hp}{q:Str}{params:zC}{body:zq}{scope:zB}{cl:ge (Str×zn)}{f:zn}(e:Same H H')(h:E6 H q params body scope cl f):E6 H' q params body scope cl f:=by
 obtain⟨c',oc,u,vs,t,pm,ctv,e1,e2,r⟩:=h;exact⟨c',oc,u,vs,t,pm,ctv,e _ _ e1,e _ _ e2,r⟩
structure LamScope(N ps:List Str)(sc:Scope)(cl:List (Str×Addr))(l:List Addr):Prop where
 kind:sc.kind=.function
 co:sc.isCoroutine=false
 gen:sc.isGenerator=false
 nd:N.Nodup
 pre:N.take ps.length=ps
 par:∀x∈ps,sc.names.lookup x=some .local
 nocell:∀y∈sc.names,y.2 ≠ .cell
 fre:∀i x,ps.length<=i->N[i]? = some x->sc.names.lookup x=some .free
 has:∀x,sc.names.lookup x=some .free->∃c,cl.lookup x=some c
 inj:∀x y c,cl.lookup x=some c->cl.lookup y=some c->x=y
 mem:∀x c,cl.lookup x=some c->c∈l
def U5(H:Hp)(N:ge Str)(np:Nat)(cl:ge (Str×zn))(l:ge zn)(ws:ge V):Prop:=N.length=np+ws.length/\(∀c∈l,∃o v,H c=some (.frz o (.own c))/\o.data=.cell v) /\
 ∀(i:Nat) x v,N[np+i]? = some x->ws[i]? = some v->∃c o u,cl.lookup x=some c/\H c=some (.frz o (.own c))/\o.data=.cell (some u)/\RelV v u
theorem U5.mono{H H':Hp}{N:ge Str}{np:Nat}{cl:ge (Str×zn)}{l:ge zn}{ws:ge V}(e:Same H H')(h:U5 H N np cl l ws):U5 H' N np cl l ws:=
 ⟨h.1,λ c hc=>by obtain⟨o,v,e1,e2⟩:=h.2.1 c hc;exact⟨o,v,e _ _ e1,e2⟩,λ i x v h1 h2=>by obtain⟨c,o,u,e1,e2,r⟩:=h.2.2 i x v h1 h2;exact⟨c,o,u,e1,e _ _ e2,r⟩⟩
def M5(m:LamD)(params:zC)(body:zq)(scope:zB):Bool:=P1 params==some (m.N.take m.np)&&corE ⟨m.N,scope.names,m.fn,m.bl,m.cl,false,false⟩ false m.body body
theorem rQ{q:Str}{params:zC}{b:zq}{sc:zB}{cl:ge (Str×zn)}{pm cd ct:zk}{ps:ge Str}{us:ge zk}(h:P1 params=some ps)(hl:us.length=ps.length):bindArgs (PySem.W.kla_fn "<lambda>" q params b sc cl pm cd ct) ⟨us,[]⟩=pure (ps.zip us):=by
 unfold P1 at h;split at h
 ·rename_i a;split at h
  ·rename_i z;cases h;obtain⟨u,rfl⟩:∃u,us=[u]:=by
    cases us with
    | nil=>cases hl
    | cons u r=>cases r with
     | nil=>exact⟨u,rfl⟩
     | cons _ _=>cases hl
   obtain⟨x,m,p⟩:=a;have e:=f7.mp z;dsimp at e;subst e;rfl
  ·cases h
 ·cases h
structure Dm where
 K:PySem.W.Frag
 mg:Str->Option Value
abbrev Cx.D(X:Cx):Dm:=⟨X.K,X.mg⟩
def SqS(K:zA)(H:Hp)(a:zn)(xs:ge V):Prop:=(∃o,H a=some (.frz o (.lst xs))) \/
 ∃(o:Obj) (its:zr zk) (n:Nat),K.lookup a=some o/\o.cls=.type "list" /\ o.dict=none/\o.data=.seq its n/\its.size<=sizeLine/\Vals xs its.toList
theorem SqS.sq{K:zA}(h:SqS K H a xs):SqL K H a xs:=by
 rcases h with h | h
 ·exact .inl (.inr h)
 ·exact .inr h
theorem SqS.of{K:zA}(b:Only H)(h:SqL K H a xs):SqS K H a xs:=by
 rcases h with(h | h) | h
 ·rcases b a with z | z
  ·rw[h]at z;cases z
  ·rcases z with⟨o,ys,z⟩ | ⟨q,z⟩<;>(rw[h]at z;cases z)
 ·exact .inl h
 ·exact .inr h
theorem Same.sqs{K:zA}{H H':Hp}{a:zn}{xs:ge V}(e:Same H H')(h:SqS K H a xs):SqS K H' a xs:=by
 rcases h with⟨o,h⟩ | h
 ·exact .inl ⟨o,e _ _ h⟩
 ·exact .inr h
noncomputable def mutO:HO->Bool
 | .lst _=>true
 | .dT _=>true
 | _=>false
mutual
def Rep(D:Dm)(H:Hp):DV->V->Prop
 | .non,v=>v=.non
 | .bl b,v=>v=.bl b
 | .int i,v=>v=.int i
 | .str x,v=>v=.str x/\x.length<=sizeLine
 | .tup ds,v=>∃a xs,v=.ref a/\SqT D.K H a xs/\RepL D H ds xs
 | .lst ds,v=>∃a xs,v=.ref a/\H a=some (.lst xs)/\RepL D H ds xs
 | .dct _ _,_=>False
 | .exc c,v=>∃a C,v=.ref a/\D.mg c=some C/\H a=some (excO a C)
 | .fn x,v=>∃f,v=.ref f/\D.mg x=some (.ref f)
 | .lam m cs,v=>∃f pr bd sc q cl l ws,v=.ref f/\E6 H q pr bd sc cl f/\M5 m pr bd sc=true/\LamScope m.N (m.N.take m.np) sc cl l/\RepL D H cs ws/\U5 H m.N m.np cl l ws
 | .scr ns,v=>∃a,v=.ref a/\SqS D.K H a (ns.map V.int)
def RepL(D:Dm)(H:Hp):ge DV->ge V->Prop
 | [],xs=>xs=[]
 | d::ds,xs=>∃v vs,xs=v::vs/\Rep D H d v/\RepL D H ds vs
end
theorem Same.tseq{K:zA}{H H':Hp}{a:zn}{xs:ge V}(e:Same H H')(h:SqT K H a xs):SqT K H' a xs:=by
 rcases h with(h | ⟨o,h⟩) | h
 ·exact .inl (.inl (e _ _ h))
 ·exact .inl (.inr ⟨o,e _ _ h⟩)
 ·exact .inr h
mutual
theorem Rep.mono{D:Dm}{H H':Hp}(e:Same H H'):∀{d:DV} {v:V},Rep D H d v->Rep D H' d v
 | .non,_,h=>by unfold Rep at h ⊢;exact h
 | .bl _,_,h=>by unfold Rep at h ⊢;exact h
 | .int _,_,h=>by unfold Rep at h ⊢;exact h
 | .str _,_,h=>by unfold Rep at h ⊢;exact h
 | .tup ds,_,h=>by unfold Rep at h ⊢;obtain⟨a,xs,e1,e2,e3⟩:=h;exact⟨a,xs,e1,e.tseq e2,RepL.mono e e3⟩
 | .lst ds,_,h=>by unfold Rep at h ⊢;obtain⟨a,xs,e1,e2,e3⟩:=h;exact⟨a,xs,e1,e _ _ e2,RepL.mono e e3⟩
 | .dct _ _,_,h=>by unfold Rep at h;exact h.elim
 | .exc C,_,h=>by unfold Rep at h ⊢;obtain⟨a,C,e1,e2,e3⟩:=h;exact⟨a,C,e1,e2,e _ _ e3⟩
 | .fn _,_,h=>by unfold Rep at h ⊢;exact h
 | .lam m cs,_,h=>by unfold Rep at h ⊢;obtain⟨f,pr,bd,sc,q,cl,l,ws,e1,e2,e3,e4,e5,e6⟩:=h;exact⟨f,pr,bd,sc,q,cl,l,ws,e1,e2.mono e,e3,e4,RepL.mono e e5,e6.mono e⟩
 | .scr _,_,h=>by unfold Rep at h ⊢;obtain⟨a,e1,e2⟩:=h;exact⟨a,e1,e.sqs e2⟩
theorem RepL.mono{D:Dm}{H H':Hp}(e:Same H H'):∀{ds:ge DV} {xs:ge V},RepL D H ds xs->RepL D H' ds xs
 | [],_,h=>by unfold RepL at h ⊢;exact h
 | d::ds,_,h=>by unfold RepL at h ⊢;obtain⟨v,vs,e1,e2,e3⟩:=h;exact⟨v,vs,e1,Rep.mono e e2,RepL.mono e e3⟩
end
section
theorem v7:Rep D H (.int i) v↔v=.int i:=by unfold Rep;exact Iff.rfl
theorem K2:Rep D H (.bl i) v↔v=.bl i:=by unfold Rep;exact Iff.rfl
theorem U6:Rep D H (.str i) v↔(v=.str i/\i.length<=sizeLine):=by unfold Rep;exact Iff.rfl
theorem F8:Rep D H .non v↔v=.non:=by unfold Rep;exact Iff.rfl
theorem x2:Rep D H (.tup ds) v↔∃a b,v=.ref a/\SqT D.K H a b/\RepL D H ds b:=by unfold Rep;exact Iff.rfl
theorem x3:Rep D H (.lst ds) v↔∃a b,v=.ref a/\H a=some (.lst b)/\RepL D H ds b:=by unfold Rep;exact Iff.rfl
theorem bW:Rep D H (.exc c) v↔∃a C,v=.ref a/\D.mg c=some C/\H a=some (excO a C):=by unfold Rep;exact Iff.rfl
theorem bX:Rep D H (.lam m cs) v↔∃f pr c a q cl l b,v=.ref f/\E6 H q pr c a cl f/\M5 m pr c a=true/\LamScope m.N (m.N.take m.np) a cl l/\RepL D H cs b/\U5 H m.N m.np cl l b:=by unfold Rep;exact Iff.rfl
theorem rR:Rep D H (.fn x) v↔∃f,v=.ref f/\D.mg x=some (.ref f):=by unfold Rep;exact Iff.rfl
theorem F9:Rep D H (.scr b) v↔∃a,v=.ref a/\SqS D.K H a (b.map V.int):=by unfold Rep;exact Iff.rfl
theorem bY(h:Rep D H (.dct a vs) v):False:=by unfold Rep at h;exact h
theorem u3:RepL D H [] xs↔xs=[]:=by unfold RepL;exact Iff.rfl
theorem m9:RepL D H (d::ds) xs↔∃v a,xs=v::a/\Rep D H d v/\RepL D H ds a:=by
 constructor
 ·intro h;exact h
 ·intro h;exact h
end
theorem RepL.length:∀{a:ge DV} {xs:ge V},RepL D H a xs->xs.length=a.length
 | [],_,h=>by rw[u3.mp h];rfl
 | d::a,_,h=>by obtain⟨v,vs,c,_,b⟩:=m9.mp h;rw[c,p9,p9,RepL.length b]
theorem RepL.get:∀{ds:ge DV} {xs:ge V} {i:Nat} {d:DV},RepL D H ds xs->ds[i]? = some d->∃v,xs[i]? = some v/\Rep D H d v
 | [],_,_,_,_,e=>by simp at e
 | d::ds,_,i,d',h,e=>by
  obtain⟨v,vs,c,b,a⟩:=m9.mp h;subst c;cases i with
  | zero=>simp at e;subst e;exact⟨v,rfl,b⟩
  | succ i=>simpa using RepL.get a (by simpa using e)
theorem RepL.append:∀{a es:ge DV} {xs ys:ge V},RepL D H a xs->RepL D H es ys->RepL D H (a++es) (xs++ys)
 | [],_,_,_,h,b=>by rwa [u3.mp h]
 | d::a,_,_,_,h,b=>by obtain⟨v,vs,f,e,c⟩:=m9.mp h;subst f;exact m9.mpr ⟨v,_,rfl,e,RepL.append c b⟩
theorem RepL.one(h:Rep D H d v):RepL D H [d] [v]:=m9.mpr ⟨v,[],rfl,h,u3.mpr rfl⟩
theorem RepL.take:∀{a:ge DV} {xs:ge V} (n:Nat),RepL D H a xs->RepL D H (a.take n) (xs.take n)
 | _,_,0,_=>u3.mpr rfl
 | [],_,n+1,h=>by rw[u3.mp h];exact u3.mpr rfl
 | d::a,_,n+1,h=>by obtain⟨v,vs,e,c,b⟩:=m9.mp h;subst e;exact m9.mpr ⟨v,_,rfl,c,RepL.take n b⟩
theorem RepL.drop:∀{a:ge DV} {xs:ge V} (n:Nat),RepL D H a xs->RepL D H (a.drop n) (xs.drop n)
 | _,_,0,h=>h
 | [],_,n+1,h=>by rw[u3.mp h];exact u3.mpr rfl
 | d::a,_,n+1,h=>by obtain⟨v,vs,c,e2,b⟩:=m9.mp h;subst c;exact RepL.drop n b
theorem RepL.set(q:Rep D H d v):∀{a:ge DV} {xs:ge V} (n:Nat),RepL D H a xs->RepL D H (a.set n d) (xs.set n v)
 | [],_,n,h=>by rw[u3.mp h];exact u3.mpr rfl
 | _::a,_,0,h=>by obtain⟨v,f,c,e,b⟩:=m9.mp h;subst c;exact m9.mpr ⟨_,_,rfl,q,b⟩
 | _::a,_,n+1,h=>by obtain⟨v,f,c,e,b⟩:=m9.mp h;subst c;exact m9.mpr ⟨_,_,rfl,e,RepL.set q n b⟩
theorem K3:∀(a:ge Int),RepL D H (a.map DV.int) (a.map V.int)
 | []=>u3.mpr rfl
 | n::a=>m9.mpr ⟨_,_,rfl,v7.mpr rfl,K3 a⟩
noncomputable def wo(O:ge zn)(H:Hp):Hp:=λ b=>if b∈O then none else H b
theorem P2(h:b∈O):wo O H b=none:=d6 h
theorem i6(h:b∉O):wo O H b=H b:=d9 h
theorem x4(h:wo O H b=some o):b∉O/\H b=some o:=by
 by_cases a:b∈O
 ·rw[P2 a]at h;cases h
 ·rw[i6 a]at h;exact⟨a,h⟩
theorem Same.wo{O:ge zn}{H H':Hp}(e:Same H H'):Same (wo O H) (wo O H'):=λ b o h=>by
 obtain⟨hb,h⟩:=x4 h;rw[i6 hb];exact e b o h
theorem o8:Same (L2.wo O H) H:=λ b o h=>(x4 h).2
theorem t4(h:∀b∈a,b∈O):Same (L2.wo O H) (L2.wo a H):=λ b o e=>by
 obtain⟨c,e⟩:=x4 e
 rwa [i6 λ z=>c (h b z)]
theorem r9(h:H p=none):Same H (upd H p o):=λ b u q=>by rwa [j4 (A0 q h)]
structure Hid(O W:List Addr)(H0 H:Hp):Prop where
 ot:∀a∈O++W,H0 a≠none
 same:Same H0 H
 wl:∀a∈W,∃o,H0 a=some o/\mutO o=true
 dj:∀a∈W,a∉O
 om:∀a∈O,∃o,H0 a=some o/\mutO o=true
def Hdn(O:ge zn)(H:Hp):Prop:=∀a∈O,∃o,H a=some o/\mutO o=true
theorem Hdn.ne(h:Hdn O H):∀a∈O,H a≠none:=λ a b q=>by obtain⟨o,e,_⟩:=h a b;rw[q]at e;cases e
theorem Hid.omS{O W:ge zn}{H0 H H':Hp}(h:Hid O W H0 H)(e:Same H0 H'):Hdn O H':=λ a ha=>by obtain⟨o,q,m⟩:=h.om a ha;exact⟨o,e _ _ q,m⟩
theorem Hid.omW(h:Hid O W b H)(c:p∈W):Hdn O (upd b p x):=λ a d=>by
 obtain⟨o,q,m⟩:=h.om a d;exact⟨o,by rw[j4 λ z=>h.dj p c (by grind)];exact q,m⟩
theorem Hid.hdO(h:Hid O W a H):Hdn O H:=h.omS h.same
theorem Hid.hdA(h:Hid O W c H):Hdn (O++W) H:=λ a b=>by
 rcases List.mem_append.mp b with z | z
 ·exact h.hdO a z
 ·obtain⟨o,q,m⟩:=h.wl a z;exact⟨o,h.same _ _ q,m⟩
theorem Hid.mono{O W:ge zn}{H0 H H':Hp}(h:Hid O W H0 H)(e:Same H H'):Hid O W H0 H':=⟨h.ot,h.same.trans e,h.wl,h.dj,h.om⟩
theorem Hid.newOut(h:Hid O W b H)(a:H p=none):p∉O++W:=λ z=>h.ot p z (h.same.free a)
mutual
theorem Rep.immut{D:Dm}{O W:ge zn}{H:Hp}(hw:∀a∈W,∃o,H a=some o/\mutO o=true):∀{d:DV} {v:V},d.immut=true->Rep D (L2.wo O H) d v->Rep D (L2.wo (O++W) H) d v
 | .non,_,_,h=>by unfold Rep at h ⊢;exact h
 | .bl _,_,_,h=>by unfold Rep at h ⊢;exact h
 | .int _,_,_,h=>by unfold Rep at h ⊢;exact h
 | .str _,_,_,h=>by unfold Rep at h ⊢;exact h
 | .tup ds,_,m,h=>by
  unfold Rep at h ⊢;obtain⟨a,xs,e1,e2,e3⟩:=h;have m':DV.immuts ds=true:=by unfold DV.immut at m;exact m
  refine⟨a,xs,e1,?_,RepL.immut hw m' e3⟩;rcases e2 with(h | ⟨o,h⟩) | h
  ·obtain⟨ha,h⟩:=x4 h;refine .inl (.inl ?_);rw[i6 λ z=>?_]
   ·exact h
   ·rcases List.mem_append.mp z with z | z
    ·exact ha z
    ·obtain⟨ys,q,m⟩:=hw a z;rw[h]at q;cases q;cases m
  ·obtain⟨ha,h⟩:=x4 h;refine .inl (.inr ⟨o,?_⟩);rw[i6 λ z=>?_]
   ·exact h
   ·rcases List.mem_append.mp z with z | z
    ·exact ha z
    ·obtain⟨ys,q,m⟩:=hw a z;rw[h]at q;cases q;cases m
  ·exact .inr h
 | .lst ds,_,m,_=>by unfold DV.immut at m;cases m
 | .dct _ _,_,_,h=>by unfold Rep at h;exact h.elim
 | .exc C,_,_,h=>by
  unfold Rep at h ⊢;obtain⟨a,C,e1,e2,e3⟩:=h;obtain⟨ha,h⟩:=x4 e3;refine⟨a,C,e1,e2,?_⟩;rw[i6 λ z=>?_]
  ·exact h
  ·rcases List.mem_append.mp z with z | z
   ·exact ha z
   ·obtain⟨ys,q,m⟩:=hw a z;rw[h]at q;cases q;cases m
 | .fn _,_,_,h=>by unfold Rep at h ⊢;exact h
 | .lam _ _,_,m,_=>by unfold DV.immut at m;cases m
 | .scr ns,_,_,h=>by
  unfold Rep at h ⊢;obtain⟨a,e1,e2⟩:=h;refine⟨a,e1,?_⟩;rcases e2 with⟨o,h⟩ | h
  ·obtain⟨ha,h⟩:=x4 h;refine .inl ⟨o,?_⟩;rw[i6 λ z=>?_]
   ·exact h
   ·rcases List.mem_append.mp z with z | z
    ·exact ha z
    ·obtain⟨ys,q,m⟩:=hw a z;rw[h]at q;cases q;cases m
  ·exact .inr h
theorem RepL.immut{D:Dm}{O W:ge zn}{H:Hp}(hw:∀a∈W,∃o,H a=some o/\mutO o=true):∀{ds:ge DV} {xs:ge V},DV.immuts ds=true->RepL D (L2.wo O H) ds xs->RepL D (L2.wo (O++W) H) ds xs
 | [],_,_,h=>by unfold RepL at h ⊢;exact h
 | d::ds,_,m,h=>by unfold RepL at h ⊢;obtain⟨v,vs,e1,e2,e3⟩:=h;unfold DV.immuts at m;rw[d8]at m;exact⟨v,vs,e1,Rep.immut hw m.1 e2,RepL.immut hw m.2 e3⟩
end
def RepT(D:Dm)(W:ge zn)(Ht H:Hp)(d:DV)(v:V):Prop:=match d with
 | .lst ds=>∃a xs,v=.ref a/\a∈W/\Ht a=some (.lst xs)/\RepL D H ds xs
 | d=>Rep D H d v
theorem RepT.mono{D:Dm}{W:ge zn}{Ht Ht' H H':Hp}{d:DV}{v:V}(et:Same Ht Ht')(e:Same H H')(h:RepT D W Ht H d v):RepT D W Ht' H' d v:=by
 cases d with
 | lst ds=>obtain⟨a,xs,e1,e0,e2,e3⟩:=h;exact⟨a,xs,e1,e0,et _ _ e2,e3.mono e⟩
 | non=>exact Rep.mono (D:=D) (d:=.non) (v:=v) e h
 | bl b=>exact Rep.mono (D:=D) (d:=.bl b) (v:=v) e h
 | int b=>exact Rep.mono (D:=D) (d:=.int b) (v:=v) e h
 | str b=>exact Rep.mono (D:=D) (d:=.str b) (v:=v) e h
 | tup b=>exact Rep.mono (D:=D) (d:=.tup b) (v:=v) e h
 | dct b c=>exact Rep.mono (D:=D) (d:=.dct b c) (v:=v) e h
 | exc b=>exact Rep.mono (D:=D) (d:=.exc b) (v:=v) e h
 | fn b=>exact Rep.mono (D:=D) (d:=.fn b) (v:=v) e h
 | lam b c=>exact Rep.mono (D:=D) (d:=.lam b c) (v:=v) e h
 | scr b=>exact Rep.mono (D:=D) (d:=.scr b) (v:=v) e h
theorem RepT.rep(e:Same H f)(h:RepT D W f H d v):Rep D f d v:=by
 cases d with
 | lst ds=>obtain⟨a,g,k,e0,j,i⟩:=h;exact x3.mpr ⟨a,g,k,j,i.mono e⟩
 | non=>exact Rep.mono e h
 | bl b=>exact Rep.mono e h
 | int b=>exact Rep.mono e h
 | str b=>exact Rep.mono e h
 | tup b=>exact Rep.mono e h
 | dct b c=>exact Rep.mono e h
 | exc b=>exact Rep.mono e h
 | fn b=>exact Rep.mono e h
 | lam b c=>exact Rep.mono e h
 | scr b=>exact Rep.mono e h
def Got(D:Dm)(O W:ge zn)(H0 H:Hp)(d:DV)(c:Cl)(v:V):Prop:=match c with
 | .weak=>Rep D (L2.wo O H) d v
 | .top=>RepT D W (L2.wo O H) (L2.wo (O++W) H) d v
 | .strong=>Rep D (L2.wo (O++W) H) d v
 | .fresh=>∃p xs ds,v=.ref p/\d=.lst ds/\H0 p=none/\H p=some (.lst xs)/\RepL D (L2.wo (p::(O++W)) H) ds xs
 | .ft=>∃ms:ge Int,∃t ts p xs ds es,v=.ref t/\d=.tup (ms.map DV.int ++ .lst ds::es)/\SqT D.K (L2.wo (O++W) H) t (ms.map V.int ++ .ref p::ts)/\H0 p=none/\H p=some (.lst xs)/\RepL D (L2.wo (p::(O++W)) H) ds xs/\RepL D (L2.wo (p::(O++W)) H) es ts
section
variable {D:Dm} {O W:ge zn} {H0 H H':Hp} {d:DV} {ds:ge DV} {c:Cl} {v:V}
theorem K4:∀b∈O,b∈O++W:=λ _ h=>w4 _ h
theorem Got.mono(h:Got D O W H0 H d c v)(e:Same H H'):Got D O W H0 H' d c v:=by
 cases c with
 | weak=>exact Rep.mono e.wo h
 | top=>exact RepT.mono e.wo e.wo h
 | strong=>exact Rep.mono e.wo h
 | fresh=>
  obtain⟨p,a,k,j,i,g,f,b⟩:=h;exact⟨p,a,k,j,i,g,e _ _ f,b.mono e.wo⟩
 | ft=>
  obtain⟨m,t,l,p,a,k,es,j,i,o,g,f,b,n⟩:=h;exact⟨m,t,l,p,a,k,es,j,i,e.wo.tseq o,g,e _ _ f,b.mono e.wo,n.mono e.wo⟩
theorem Got.since(h:Got D O W l H d c v)(e:Same H0 l):Got D O W H0 H d c v:=by
 cases c with
 | weak=>exact h
 | top=>exact h
 | strong=>exact h
 | fresh=>
  obtain⟨p,a,k,j,i,g,f,b⟩:=h;exact⟨p,a,k,j,i,e.free g,f,b⟩
 | ft=>
  obtain⟨n,t,m,p,a,k,es,j,i,q,g,f,b,o⟩:=h;exact⟨n,t,m,p,a,k,es,j,i,q,e.free g,f,b,o⟩
theorem Got.ft(h:Got D O W H0 H d .ft v)(f:Hid O W H0 H):Rep D (L2.wo (O++W) H) d v:=by
 obtain⟨e,t,ts,p,c,ds,es,m,l,n,k,e4,j,i⟩:=h;have a:Same (L2.wo (p::(O++W)) H) _:=t4 λ b g=>i8 _ g
 rw[l];exact x2.mpr ⟨t,_,m,n,(K3 e).append (m9.mpr ⟨_,_,rfl,x3.mpr ⟨p,c,rfl,by rwa [i6 (λ z=>f.ot p z k)],j.mono a⟩,i.mono a⟩)⟩
theorem Got.strong(h:Got D O W H0 H d .fresh v)(c:Hid O W H0 H):Rep D (L2.wo (O++W) H) d v:=by
 obtain⟨p,a,ds,j,i,g,e4,f⟩:=h;rw[i];exact x3.mpr ⟨p,a,j,by rwa [i6 (λ z=>c.ot p z g)],f.mono (t4 λ b e=>i8 _ e)⟩
theorem Got.weak(h:Got D O W H0 H d c v)(a:Hid O W H0 H):Rep D (L2.wo O H) d v:=by
 cases c with
 | weak=>exact h
 | top=>exact RepT.rep (t4 K4) h
 | strong=>exact Rep.mono (t4 K4) h
 | fresh=>exact Rep.mono (t4 K4) (h.strong a)
 | ft=>exact Rep.mono (t4 K4) (h.ft a)
theorem Got.all(h:Got D O W H0 H d c v)(a:Hid O W H0 H):Rep D H d v:=Rep.mono o8 (h.weak a)
theorem Got.stro(h:Got D O W H0 H d c v)(b:Hid O W H0 H)(hs:L2.stro d c=true):Rep D (L2.wo (O++W) H) d v:=by
 cases c with
 | strong=>exact h
 | fresh=>exact h.strong b
 | ft=>exact h.ft b
 | weak=>exact Rep.immut (λ a g=>by obtain⟨f,e,m⟩:=b.wl a g;exact⟨f,b.same _ _ e,m⟩) hs (h.weak b)
 | top=>exact Rep.immut (λ a g=>by obtain⟨f,e,m⟩:=b.wl a g;exact⟨f,b.same _ _ e,m⟩) hs (h.weak b)
theorem Got.items(h:Got D O W H0 H (.lst ds) c v)(g:Hid O W H0 H)(i:c ≠ .weak):∃a b,v=.ref a/\H a=some (.lst b)/\RepL D (L2.wo (O++W) H) ds b:=by
 cases c with
 | weak=>exact absurd rfl i
 | top=>
  obtain⟨a,b,f,e0,e,d⟩:=h;exact⟨a,b,f,o8 _ _ e,d⟩
 | strong=>
  obtain⟨a,b,f,e,d⟩:=x3.mp h;exact⟨a,b,f,o8 _ _ e,d⟩
 | fresh=>
  obtain⟨a,b,f,e,d⟩:=x3.mp (h.strong g);exact⟨a,b,f,o8 _ _ e,d⟩
 | ft=>
  obtain⟨a,b,f,e,d⟩:=x3.mp (h.ft g);exact⟨a,b,f,o8 _ _ e,d⟩
theorem Got.itemsT(h:Got D O W H0 H (.tup g) c v)(i:Hid O W H0 H)(j:c ≠ .weak):∃a b,v=.ref a/\SqT D.K H a b/\RepL D (L2.wo (O++W) H) g b:=by
 cases c with
 | weak=>exact absurd rfl j
 | top=>
  obtain⟨a,b,f,d,e⟩:=x2.mp (h);exact⟨a,b,f,o8.tseq d,e⟩
 | strong=>
  obtain⟨a,b,f,d,e⟩:=x2.mp h;exact⟨a,b,f,o8.tseq d,e⟩
 | fresh=>
  obtain⟨p,b,g,f,d,e,e4,e5⟩:=h;cases d
 | ft=>
  obtain⟨a,b,f,d,e⟩:=x2.mp (h.ft i);exact⟨a,b,f,o8.tseq d,e⟩
theorem Got.lst(h:Got D O W H0 H (.lst ds) c v)(d:Hid O W H0 H):∃a b,v=.ref a/\H a=some (.lst b)/\RepL D (L2.wo O H) ds b:=by
 obtain⟨a,b,g,f,e⟩:=x3.mp (h.weak d);exact⟨a,b,g,o8 _ _ f,e⟩
theorem Got.tup(h:Got D O W H0 H (.tup ds) c v)(d:Hid O W H0 H):∃a b,v=.ref a/\SqT D.K H a b/\RepL D (L2.wo O H) ds b:=by
 obtain⟨a,b,g,f,e⟩:=x2.mp (h.weak d);exact⟨a,b,g,o8.tseq f,e⟩
noncomputable def C4(O W:ge zn):Cl->ge zn
 | .weak=>O
 | _=>O++W
theorem Got.lstC(h:Got D O W H0 H (.lst ds) c v)(b:Hid O W H0 H):∃a d,v=.ref a/\H a=some (.lst d)/\RepL D (L2.wo (C4 O W c) H) ds d:=by
 cases c with
 | weak=>exact h.lst b
 | top=>exact h.items b nofun
 | strong=>exact h.items b nofun
 | fresh=>exact h.items b nofun
 | ft=>exact h.items b nofun
theorem Got.tupC(h:Got D O W H0 H (.tup ds) c v)(b:Hid O W H0 H):∃a d,v=.ref a/\SqT D.K H a d/\RepL D (L2.wo (C4 O W c) H) ds d:=by
 cases c with
 | weak=>exact h.tup b
 | top=>exact h.itemsT b nofun
 | strong=>exact h.itemsT b nofun
 | fresh=>exact h.itemsT b nofun
 | ft=>exact h.itemsT b nofun
theorem Got.item(h:Rep D (L2.wo (C4 O W c) H) d v):Got D O W H0 H d c.item v:=by
 cases c<;>exact h
theorem y7(b:c ≠ .fresh:=by intro z;cases z)(a:c ≠ .ft:=by intro z;cases z):Got D O W H0 H (.int i) c (.int i):=by
 have q:∀H,Rep D H _ (.int i):=λ H=>v7.mpr rfl;cases c with
 | fresh=>exact absurd rfl b
 | ft=>exact absurd rfl a
 | weak=>exact q (L2.wo O H)
 | strong=>exact q (L2.wo (O++W) H)
 | top=>exact q (L2.wo (O++W) H)
theorem M6:Got D O W H0 H (.bl i) .strong (.bl i):=(K2.mpr rfl:Rep D (L2.wo (O++W) H) _ _)
theorem rS:Got D O W H0 H .non .strong .non:=(F8.mpr rfl:Rep D (L2.wo (O++W) H) .non .non)
theorem Got.int(h:Got D O W H0 H (.int i) c v)(a:Hid O W H0 H):v=.int i:=v7.mp (h.weak a)
theorem Got.bl(h:Got D O W H0 H (.bl i) c v)(a:Hid O W H0 H):v=.bl i:=K2.mp (h.weak a)
theorem E7(c:Hid O W H0 H)(a:H p=none)(r:RepL D (L2.wo (O++W) H) ds xs):Got D O W H0 (upd H p (.lst xs)) (.lst ds) .fresh (.ref p):=by
 refine⟨p,xs,ds,rfl,rfl,c.same.free a,v6,r.mono λ b o e=>?_⟩;obtain⟨hb,e⟩:=x4 e
 rwa [i6 (by grind),j4 (A0 e a)]
theorem bZ(b:Hid O W H0 H)(a:H p=none)(r:RepL D (L2.wo O H) ds xs):Got D O W H0 (upd H p (.lst xs)) (.lst ds) .weak (.ref p):=by
 exact x3.mpr ⟨p,xs,rfl,by rw[i6 (λ z=>b.newOut a (w4 _ z))];exact v6,r.mono (r9 a).wo⟩
theorem ce(b:Hid O W H0 H)(a:H p=none)(r:RepL D (L2.wo (C4 O W c) H) ds xs):Got D O W H0 (upd H p (.lst xs)) (.lst ds) (Cl.anew c c) (.ref p):=by
 cases c with
 | weak=>exact bZ b a r
 | top=>exact E7 b a r
 | strong=>exact E7 b a r
 | fresh=>exact E7 b a r
 | ft=>exact E7 b a r
theorem U7(b:Hid O W H0 H)(a:H p=none)(r:RepL D (L2.wo (O++W) H) ds xs):Got D O W H0 (upd H p (.tup xs)) (.tup ds) .strong (.ref p):=
 x2.mpr ⟨p,xs,rfl,SqT.of (by rw[i6 (b.newOut a)];exact v6),r.mono (r9 a).wo⟩
theorem gE(b:Hid O W H0 H)(a:H p=none)(r:RepL D (L2.wo O H) ds xs):Got D O W H0 (upd H p (.tup xs)) (.tup ds) .weak (.ref p):=
 x2.mpr ⟨p,xs,rfl,SqT.of (by rw[i6 λ z=>b.newOut a (w4 _ z)];exact v6),r.mono (r9 a).wo⟩
theorem gF(b:Hid O W H0 H)(a:H p=none)(r:RepL D (L2.wo (C4 O W c) H) ds xs):Got D O W H0 (upd H p (.tup xs)) (.tup ds) c.item (.ref p):=by
 cases c with
 | weak=>exact gE b a r
 | top=>exact U7 b a r
 | strong=>exact U7 b a r
 | fresh=>exact U7 b a r
 | ft=>exact U7 b a r
end
inductive GotL (D:Dm) (O W:List Addr) (H0 H:Hp):List (DV×Cl)->List V->Prop where
 | nil:GotL D O W H0 H [] []
 | cons {d:DV} {c:Cl} {v:V} {l:List (DV×Cl)} {vs:List V}:Got D O W H0 H d c v->GotL D O W H0 H l vs->GotL D O W H0 H ((d,c)::l) (v::vs)
section
theorem GotL.repL(h:GotL D O W H0 H l vs)(b:Hid O W H0 H):RepL D (L2.wo O H) (l.map (·.1)) vs:=by
 induction h with
 | nil=>exact u3.mpr rfl
 | cons h _ a=>exact m9.mpr ⟨_,_,rfl,h.weak b,a⟩
theorem GotL.stros(h:GotL D O W H0 H l vs)(b:Hid O W H0 H)(hs:L2.stros l=true):RepL D (L2.wo (O++W) H) (l.map (·.1)) vs:=by
 induction h with
 | nil=>exact u3.mpr rfl
 | cons h _ a=>
  unfold L2.stros at hs;rw[List.all_cons,d8]at hs;exact m9.mpr ⟨_,_,rfl,h.stro b hs.1,a hs.2⟩
theorem GotL.length(h:GotL D O W H0 H l vs):vs.length=l.length:=by
 induction h with
 | nil=>rfl
 | cons _ _ a=>rw[p9,p9,a]
theorem GotL.strong(h:GotL D O W H0 H l vs)(b:Hid O W H0 H)(hs:(l.all λ p=>p.2 == .strong||p.2 == .fresh)=true):RepL D (L2.wo (O++W) H) (l.map (·.1)) vs:=by
 refine h.stros b ?_;unfold L2.stros;rw[w6]at hs ⊢;intro p a;have:=hs p a;unfold L2.stro;cases e:p.2<;>rw[e]at this<;>first | rfl | cases this
theorem GotL.one(h:GotL D O W H0 H [(d,c)] vs):∃v,vs=[v]/\Got D O W H0 H d c v:=by
 cases h with
 | cons h t=>cases t;exact⟨_,rfl,h⟩
theorem GotL.two(h:GotL D O W H0 H [(d,c),(b,f)] vs):∃v a,vs=[v,a]/\Got D O W H0 H d c v/\Got D O W H0 H b f a:=by
 cases h with
 | cons h t=>obtain⟨a,e,g⟩:=t.one;subst e;exact⟨_,_,rfl,h,g⟩
end
noncomputable def dicO:HO->Bool
 | .dT _=>true
 | _=>false
noncomputable def esD(L:ge (Int×Int)):DV:=.tup [.dct (L.map λ p=>.t [.inl p.1,.inl p.2]) [],.non]
noncomputable def esK(L:ge (Int×Int)):ge (ge Key×V):=L.map λ p=>([.inl p.1,.inl p.2],.bl true)
def OdOk(d:DV)(_:zn)(o:HO):Prop:=∃L,d=esD L/\o=.dT (esK L)
theorem OdOk.dic(h:OdOk d a o):dicO o=true:=by obtain⟨L,_,e⟩:=h;rw[e];rfl
theorem OdOk.mut(h:OdOk d a o):mutO o=true:=by obtain⟨L,_,e⟩:=h;rw[e];rfl
def OdAt(H:Hp)(σ:St)(δ:ge Sv)(W:ge zn):Prop:=∀(i:Nat) d,δ[i]? = some (.od d)->(∃a o,OdOk d a o/\σ[i]? = some (some (.ref a))/\a∈W/\H a=some o)/\∀(j:Nat) d',δ[j]? = some (.od d')->j=i
theorem OdAt.step{H H':Hp}{σ σ':St}{δ δ':ge Sv}{W W':ge zn}(h:OdAt H σ δ W)(hδ:∀(j:Nat) d,δ'[j]? = some (.od d)->δ[j]? = some (.od d)/\σ'[j]? = σ[j]?)(hW:∀a∈W,(∃o,H a=some o/\dicO o=true)->a∈W')(hH:∀a o,a∈W->H a=some o->dicO o=true->H' a=some o):OdAt H' σ' δ' W':=λ i d q=>by
 obtain⟨q1,q2⟩:=hδ i d q;obtain⟨⟨a,L,e0,e1,e2,e3⟩,u⟩:=h i d q1;exact⟨⟨a,L,e0,by rw[q2];exact e1,hW a e2 ⟨_,e3,e0.dic⟩,hH a _ e2 e3 e0.dic⟩,λ j d' z=>u j d' (hδ j d' z).1⟩
theorem U8{σ:St}{δ:ge Sv}(x:on V)(c:∀d,X ≠ .od d):∀(j:Nat) d,(δ.set i X)[j]? = some (.od d)->δ[j]? = some (.od d)/\(σ.set i x)[j]? = σ[j]?:=λ j d h=>by
 have b:j≠i:=λ z=>by
  subst z;have a:j<δ.length:=by have:=(t6.mp h).1;rw[v5]at this;exact this
  rw[A8 a]at h;exact c d (Option.some.inj h)
 rw[i4 b.symm]at h ⊢;exact⟨h,rfl⟩
theorem cf{σ:St}{δ:ge Sv}(a:∀d,X ≠ .od d):∀(j:Nat) d,(δ.set i X)[j]? = some (.od d)->δ[j]? = some (.od d)/\σ[j]? = σ[j]?:=λ j d h=>⟨(U8 (σ:=σ) none a j d h).1,rfl⟩
def OtV(D:Dm)(Hs H:Hp)(d:DV)(ts:ge V)(L:ge zn):Prop:=∃ms:ge Int,∃p xs ds es us,d=.tup (ms.map DV.int ++ .lst ds::es)/\ts=ms.map V.int ++ .ref p::us/\L=[p]/\H p=some (.lst xs)/\RepL D Hs ds xs/\RepL D Hs es us
def OtL(σ:St)(δ:ge Sv)(H:Hp)(W L:ge zn):Prop:=∀p∈L,p∈W/\(∃xs,H p=some (.lst xs))/\∀(j:Nat) d',δ[j]? = some (.own d')->σ[j]? ≠ some (some (.ref p))
theorem OtV.mono{D:Dm}{Hs Hs' H H':Hp}{d:DV}{ts:ge V}{L:ge zn}(h:OtV D Hs H d ts L)(e:Same Hs Hs')(f:∀p∈L,∀xs,H p=some (.lst xs)->H' p=some (.lst xs)):OtV D Hs' H' d ts L:=by
 obtain⟨ms,p,xs,ds,es,us,e0,e1,e2,e3,e4,e5⟩:=h;exact⟨ms,p,xs,ds,es,us,e0,e1,e2,f p (by rw[e2];exact v4.mpr rfl) _ e3,e4.mono e,e5.mono e⟩
structure RSt(D:Dm)(H:Hp)(σ:St)(δ:List Sv)(O W:List Addr):Prop where
 val:∀(i:Nat) d,δ[i]? = some (.val d)->∃v,σ[i]? = some (some v)/\Rep D (L2.wo (O++W) H) d v
 own:∀(i:Nat) d,δ[i]? = some (.own d)->∃a xs ds,d=.lst ds/\σ[i]? = some (some (.ref a))/\a∈W/\H a=some (.lst xs)/\RepL D (L2.wo (O++W) H) ds xs
 inj:∀(i j:Nat) a d d',δ[i]? = some (.own d)->δ[j]? = some (.own d')->σ[i]? = some (some (.ref a))->σ[j]? = some (some (.ref a))->i=j
 ot:∃P:Nat->List Addr,(∀(i:Nat) d,δ[i]? = some (.ot d)->∃t ts,σ[i]? = some (some (.ref t))/\SqT D.K (L2.wo (O++W) H) t ts/\OtV D (L2.wo (O++W) H) H d ts (P i)/\OtL σ δ H W (P i))/\∀(i j:Nat) d d',δ[i]? = some (.ot d)->δ[j]? = some (.ot d')->i≠j->∀p∈P i,p∉P j
 od:OdAt H σ δ W
 len:σ.length=δ.length
 hid:Hid O W H H
theorem RSt.noot(h:∀(i:Nat) d,δ[i]? ≠ some (.ot d)):∃P:Nat->ge zn,(∀(i:Nat) d,δ[i]? = some (.ot d)->∃t a,σ[i]? = some (some (.ref t))/\SqT D.K (L2.wo (O++W) H) t a/\OtV D (L2.wo (O++W) H) H d a (P i)/\OtL σ δ H W (P i))/\∀(i j:Nat) d b,δ[i]? = some (.ot d)->δ[j]? = some (.ot b)->i≠j->∀p∈P i,p∉P j:=⟨λ _=>[],λ i d q=>absurd q (h i d),λ i j d b q=>absurd q (h i d)⟩
theorem Hid.later{O W:ge zn}{H H':Hp}(h:Hid O W H H)(e:Same H H'):Hid O W H' H':=⟨λ a ha q=>h.ot a ha (e.free q),Same.refl _,λ a ha=>by obtain⟨xs,q,m⟩:=h.wl a ha;exact⟨xs,e _ _ q,m⟩,h.dj,h.omS e⟩
theorem RSt.mono(R:RSt D H σ δ O W)(e:Same H H'):RSt D H' σ δ O W where
 val:=λ i d h=>by obtain⟨v,g,c⟩:=R.val i d h;exact⟨v,g,c.mono e.wo⟩
 own:=λ i n h=>by obtain⟨a,k,n,w,g,c,m,b⟩:=R.own i n h;exact⟨a,k,n,w,g,c,e _ _ m,b.mono e.wo⟩
 inj:=R.inj
 ot:=by obtain⟨P,f,u⟩:=R.ot;refine⟨P,λ i d h=>?_,u⟩;obtain⟨t,o,g,c,m,b⟩:=f i d h;exact⟨t,o,g,e.wo.tseq c,m.mono e.wo λ p _ k q=>e _ _ q,λ p l=>⟨(b p l).1,(b p l).2.1.imp λ k q=>e _ _ q,(b p l).2.2⟩⟩
 od:=R.od.step (λ j d h=>⟨h,rfl⟩) (λ _ h _=>h) (λ a r _ h _=>e _ _ h)
 len:=R.len
 hid:=R.hid.later e
noncomputable def Post(D:Dm)(E:St->XK)(σ:St)(O W:ge zn)(H0 H:Hp)(Q:VK):Re->Prop
 | .ok d c=>∀v H',Same H H'->Got D O W H0 H' d c v->Q v H'
 | .ex c=>∀H' C,D.mg c=some C->Same H H'->E σ C none H'
def dE(D:Dm)(E:St->XK)(δ:ge Sv)(r:Re):TE:=λ σ H Q=>∃O W,RSt D H σ δ O W/\Post D E σ O W H H Q r
noncomputable def rT(D:Dm)(E:St->XK)(σ:St)(O W:ge zn)(H0 H:Hp)(Q:ge V->Hp->Prop):Rs->Prop
 | .ok l=>∀vs H',Same H H'->GotL D O W H0 H' l vs->Q vs H'
 | .ex c=>∀H' C,D.mg c=some C->Same H H'->E σ C none H'
def dA(D:Dm)(E:St->XK)(δ:ge Sv)(r:Rs):TA:=λ σ H Q=>∃O W,RSt D H σ δ O W/\rT D E σ O W H H Q r
noncomputable def ag(D:Dm)(E:St->XK)(σ:St)(H:Hp)(Q:Bool->Hp->Prop):Rt->Prop
 | .ok b=>∀H',Same H H'->Q b H'
 | .ex c=>∀H' C,D.mg c=some C->Same H H'->E σ C none H'
def dT(D:Dm)(E:St->XK)(δ:ge Sv)(r:Rt):TT:=λ σ H Q=>∃O W,RSt D H σ δ O W/\ag D E σ H Q r
theorem Post.step(h:Post D E σ O W f H Q r)(e:Same H b):Post D E σ O W f b Q r:=by
 cases r with
 | ok d c=>exact λ v a s g=>h v a (e.trans s) g
 | ex c=>exact λ a C m s=>h a C m (e.trans s)
theorem Post.later(h:Post D E σ O W f H Q r)(e:Same H a)(i:Same f a):Post D E σ O W a a Q r:=by
 cases r with
 | ok d c=>exact λ v b s g=>h v b (e.trans s) (g.since i)
 | ex c=>exact λ b C m s=>h b C m (e.trans s)
theorem GotL.since(h:GotL D O W a H l vs)(e:Same b a):GotL D O W b H l vs:=by
 induction h with
 | nil=>exact .nil
 | cons g _ c=>exact .cons (g.since e) c
theorem ag.later(h:ag D E σ H Q r)(e:Same H d):ag D E σ d Q r:=by
 cases r with
 | ok b=>exact λ a s=>h a (e.trans s)
 | ex c=>exact λ a C m s=>h a C m (e.trans s)
theorem PE.weak(h:PE X e t)(k:∀a H Q,t' a H Q->t a H Q):PE X e t':=λ b s a H Q I q=>h b s a H Q I (k a H Q q)
theorem PT.weak(h:PT X e t)(k:∀a H Q,t' a H Q->t a H Q):PT X e t':=λ b s a H Q I q=>h b s a H Q I (k a H Q q)
theorem PW.weak(h:PW X e t)(k:∀b H Q,t' b H Q->t b H Q):PW X e t':=λ a c s b H Q I q=>h a c s b H Q I (k b H Q q)
theorem PA.weak(h:PA X e t)(k:∀a H Q,t' a H Q->t a H Q):PA X e t':=λ c b s a H Q I q=>h c b s a H Q I (k a H Q q)
theorem PS.weak(h:PS X e t)(k:∀D a H,t' D a H->t D a H):PS X e t':=λ b s a H D I q=>h b s a H D I (k D a H q)
theorem PSs.weak(h:PSs X e t)(k:∀D a H,t' D a H->t D a H):PSs X e t':=λ b s a H D I q=>h b s a H D I (k D a H q)
theorem ah:PW X e (λ _ _ _=>False):=λ _ _ _ _ _ _ _ h=>h.elim
theorem K5:PE X e (λ _ _ _=>False):=λ _ _ _ _ _ _ h=>h.elim
theorem gG:PA X e (λ _ _ _=>False):=λ _ _ _ _ _ _ _ h=>h.elim
theorem P3(h:n<=k9):n<=sizeLine:=g9 h (by decide)
section
theorem rU(d:∀n,PE X a n->PE X e (tUn r n))(u:∀q,l=some q->PE X a (dE X.D E δ q))(h:Re.thn l k=some g)
  (o:∀O W m H x Q i j f,k i j=some g->Hid O W m H->Got X.D O W m H i j x->Post X.D E f O W m H Q g->r x H Q):PE X e (dE X.D E δ g):=by
 cases b:l with
 | none=>rw[b]at h;cases h
 | some q=>
  rw[b]at h;have A:=u q b;cases q with
  | ex c=>
   cases h;exact(d _ A).weak λ f H Q ⟨O,W,R,p⟩=>⟨O,W,R,p⟩
  | ok i j=>
   exact(d _ A).weak λ f H Q ⟨O,W,R,p⟩=>⟨O,W,R,λ x w s1 v=>o O W H w x Q i j f h (R.hid.mono s1) v (p.step s1)⟩
theorem gH{X:Cx}{a b:zq}{r:R2}{k:DV->Cl->DV->Cl->on Re}{g:Re}(I:∀q,o=some q->PE X a (dE X.D E δ q))(F:∀q,rb=some q->PE X b (dE X.D E δ q))
  (h:(Re.thn o λ x cx=>Re.thn rb λ y cy=>k x cx y cy)=some g)
  (z:∀O W l H x y Q j cx i cy σ,k j cx i cy=some g->Hid O W l H->Got X.D O W l H j cx x->Got X.D O W l H i cy y->Post X.D E σ O W l H Q g->r x y H Q) :
  ∃v u,PE X a v/\PE X b u/\∀σ H Q,dE X.D E δ g σ H Q->tOp r v u σ H Q:=by
 cases e:o with
 | none=>rw[e]at h;cases h
 | some q=>
  rw[e]at h;have A:=I q e;cases q with
  | ex c=>
   cases h;exact⟨_,_,A,K5,λ σ H Q ⟨O,W,R,p⟩=>⟨O,W,R,p⟩⟩
  | ok j cx=>
   have f:=h;cases d:rb with
   | none=>rw[d]at f;cases f
   | some q=>
    rw[d]at f;have B:=F q d;cases q with
    | ex c=>
     cases f;exact⟨_,_,A,B,λ σ H Q ⟨O,W,R,p⟩=>⟨O,W,R,λ x L s1 w=>⟨O,W,R.mono s1,λ M C m s=>p M C m (s1.trans s)⟩⟩⟩
    | ok i cy=>
     exact⟨_,_,A,B,λ σ H Q ⟨O,W,R,p⟩=>⟨O,W,R,λ x L s1 w=>⟨O,W,R.mono s1,λ y K n J=>
      z O W H K x y Q j cx i cy σ f ((R.hid.mono s1).mono n) (w.mono n) (J.since s1) (p.step (s1.trans n))⟩⟩⟩
theorem cg{k:DV->Cl->DV->Cl->on Re}(l:∀j i,PE X a j->PE X b i->PE X e (tOp r j i))(w:∀q,m=some q->PE X a (dE X.D E δ q))(v:∀q,rb=some q->PE X b (dE X.D E δ q))
  (h:(Re.thn m λ x f=>Re.thn rb λ y d=>k x f y d)=some c)
  (u:∀O W g H x y Q o f n d p,k o f n d=some c->Hid O W g H->Got X.D O W g H o f x->Got X.D O W g H n d y->Post X.D E p O W g H Q c->r x y H Q):PE X e (dE X.D E δ c):=by
 obtain⟨j,i,A,B,q⟩:=gH w v h u;exact(l _ _ A B).weak q
theorem U9(b:∀t,PA X es t->PE X e (tCB r t))(n:∀q,i=some q->PA X es (dA X.D E δ q))(h:Rs.thn i k=some g)
  (m:∀O W j H f Q l d,k l=some g->Hid O W j H->GotL X.D O W j H l f->Post X.D E d O W j H Q g->r f H Q):PE X e (dE X.D E δ g):=by
 cases a:i with
 | none=>rw[a]at h;cases h
 | some q=>
  rw[a]at h;have A:=n q a;cases q with
  | ex c=>
   cases h;exact(b _ A).weak λ d H Q ⟨O,W,R,p⟩=>⟨O,W,R,p⟩
  | ok l=>
   exact(b _ A).weak λ d H Q ⟨O,W,R,p⟩=>⟨O,W,R,λ f u s1 o=>m O W H u f Q l d h (R.hid.mono s1) o (p.step s1)⟩
end
section
theorem rV{δ:ge Sv}{i:Nat}(u:X.N[i]? = some x)(n:Vis X.env.scope x)(o:(x==("__debug__" : Str))=false)(k:(x==("__classdict__" : Str))=false)
  (h:(match δ[i]? with | some (.val d)=>some (Re.ok d .strong) | some (.own d)=>some (.ok d .top) | some (.ot d)=>some (.ok (otD d) .weak) | _=>none)=some r):PE X (.Name x pos) (dE X.D E δ r):=
 (G5 u n o k).weak λ σ H Q ⟨O,W,R,p⟩=>by
  split at h
  ·rename_i d q;cases h;obtain⟨v,c,b⟩:=R.val i d q;exact⟨v,c,p v H (Same.refl H) b⟩
  ·rename_i d q;cases h;obtain⟨a,g,I,F,c,b,l,e⟩:=R.own i d q;subst F;refine⟨.ref a,c,p _ H (Same.refl H) ⟨a,g,rfl,b,?_,e⟩⟩;rw[i6 (R.hid.dj a b)];exact l
  ·rename_i d q;cases h;obtain⟨P,f,_⟩:=R.ot;obtain⟨t,ts,c,b,l,e⟩:=f i d q;have j:Same (L2.wo (O++W) H) _:=t4 K4;refine⟨.ref t,c,p _ H (Same.refl H) ?_⟩;obtain⟨m,p1,g,I,es,us,C,B,A,z,y,w⟩:=l;rw[A]at e;subst C B;exact(x2.mpr ⟨t,_,rfl,j.tseq b,(K3 m).append (m9.mpr ⟨_,_,rfl,x3.mpr ⟨p1,g,rfl,by rw[i6 (R.hid.dj p1 (e p1 (v4.mpr rfl)).1)];exact z,y.mono j⟩,w.mono j⟩)⟩:Rep X.D _ _ _)
  ·cases h
theorem rW:PE X (.Constant (.int i) j pos) (dE X.D E δ (.ok (.int i) .strong)):=dZ.weak λ σ H Q ⟨O,W,R,p⟩=>p _ H (Same.refl H) y7
theorem rX:PE X (.Constant (.bool i) j pos) (dE X.D E δ (.ok (.bl i) .strong)):=mH.weak λ σ H Q ⟨O,W,R,p⟩=>p _ H (Same.refl H) M6
theorem rY(h:i.length<=sizeLine):PE X (.Constant (.str i) j pos) (dE X.D E δ (.ok (.str i) .strong)):=mJ.weak λ σ H Q ⟨O,W,R,p⟩=>p _ H (Same.refl H) (U6.mpr ⟨rfl,h⟩:Rep X.D (L2.wo (O++W) H) _ _)
theorem rZ:PE X (.Constant .none j pos) (dE X.D E δ (.ok .non .strong)):=mI.weak λ σ H Q ⟨O,W,R,p⟩=>p _ H (Same.refl H) rS
end
section
variable {X:Cx} {E:St->XK} {δ:ge Sv} {a b c e:zq} {pos:Pos} {ra rb:on Re} {re:Re}
theorem P4{a:Hp}(b:Hid O W a H)(e:Got D O W a H (.int i) h x)(d:Got D O W a H (.int j) f y)(c:C i j)(q:Q (g i j) H):rI C g x y H Q:=
 ⟨i,j,e.int b,d.int b,c,q⟩
theorem cj{a:Hp}{e:Cl}(b:Hid O W a H)(d:Got D O W a H (.int i) f x)(c:Got D O W a H (.int j) e y)(q:Q (g i j) H):rI0 g x y H Q:=
 ⟨i,j,d.int b,c.int b,q⟩
theorem sa{b a:Cl}(h:b ≠ .weak)(c:a ≠ .weak):Cl.anew b a=.fresh:=by
 cases b<;>cases a<;>first | rfl | exact absurd rfl h | exact absurd rfl c
def ai(i j:Int):Prop:=CMul i j\/(i.natAbs<2^2000/\j.natAbs<2^2000)
theorem gI(h:i.natAbs<2^n):Builtin.Int.intBits i<=n:=by
 unfold Builtin.Int.intBits;by_cases a:i=0
 ·subst a;exact Nat.zero_le n
 ·rw[d9 (by grind)];have:=λ z=>a (Int.natAbs_eq_zero.mp z)
  exact(Nat.log2_lt this).mpr h
theorem ai.ok(h:ai i j):IntMulOk i j:=by
 rcases h with h | ⟨h1,h2⟩
 ·exact h.ok
 ·unfold IntMulOk;have b1:=gI h1;have b2:=gI h2;have:Builtin.Int.intTooBig ((Builtin.Int.intBits i:Int)+(Builtin.Int.intBits j:Int))=false:=by
   unfold Builtin.Int.intTooBig;rw[decide_eq_false];have:((bitsLine:Nat):Int)=134217728:=by decide
   omega
  rw[this,Bool.and_false];exact y8
theorem sd:OpR X (binaryOp .Mult) (rI ai λ i j=>.int (i*j)):=opI λ _ _ _ _ _ _ _ a q=>mul_int q a.ok
theorem se:OpR X (binaryOp .FloorDiv) (rI (λ _ j=>0<j/\j<2^200) λ i j=>.int (i/j)):=opI λ i j _ _ _ _ _ a q=>by
 have h1:=a.1;have b:j.natAbs<2^200:=by have:=a.2;omega
 refine floordiv_int (by omega) (by rw[Int.fdiv_eq_ediv_of_nonneg i (by omega)];exact q) (.inl (PyProof.noPylong_of_log2 ?_));exact p6 ((Nat.log2_lt (by omega)).mpr b) (by decide)
def binR(X:Cx):Operator->R2
 | .Add=>λ x y H Q=>rI0 (λ i j=>.int (i+j)) x y H Q\/rCat x y H Q
 | .Sub=>rI0 λ i j=>.int (i - j)
 | .Mult=>λ x y H Q=>rI ai (λ i j=>.int (i*j)) x y H Q\/rRep x y H Q
 | .Mod=>λ x y H Q=>rI (λ _ j=>0<j) (λ i j=>.int (i%j)) x y H Q\/rI (λ _ j=>j≠0) (λ i j=>.int (i.fmod j)) x y H Q
 | .FloorDiv=>rI (λ _ j=>0<j/\j<2^200) λ i j=>.int (i/j)
 | .LShift=>rI CPow λ i j=>.int (i*2^j.toNat)
 | .RShift=>rI (λ _ j=>0<=j) λ i j=>.int (i/2^j.toNat)
 | .BitAnd=>rI0 λ i j=>.int (Builtin.bitAnd i j)
 | _=>λ _ _ _ _=>False
theorem sh:OpR X (binaryOp op) (binR X op):=by
 cases op with
 | Add=>exact nA.or oJ
 | Sub=>exact nC
 | Mult=>exact sd.or oM
 | Mod=>exact nE.or nF
 | FloorDiv=>exact se
 | LShift=>exact nG
 | RShift=>exact nH
 | BitAnd=>exact nJ
 | BitOr=>exact λ _ _ _ _ _ _ _ _ _ _ _ _ h=>h.elim
 | BitXor=>exact λ _ _ _ _ _ _ _ _ _ _ _ _ h=>h.elim
 | MatMult=>exact λ _ _ _ _ _ _ _ _ _ _ _ _ h=>h.elim
 | Div=>exact λ _ _ _ _ _ _ _ _ _ _ _ _ h=>h.elim
 | Pow=>exact λ _ _ _ _ _ _ _ _ _ _ _ _ h=>h.elim
theorem si(h:binD op A w cx cy=some re)(a:Hid O W i H)(c:Got X.D O W i H A cx x)(b:Got X.D O W i H w cy y)
  (p:Post X.D E σ O W i H Q re):binR X op x y H Q:=by
 unfold binD at h;split at h
 ·cases h;exact .inl (cj a c b (p _ H (Same.refl H) y7))
 ·cases h;exact cj a c b (p _ H (Same.refl H) y7)
 ·split at h
  ·rename_i m;cases h;refine .inl (P4 a c b ?_ (p _ H (Same.refl H) y7));unfold D7 at m;simp only[Bool.or_eq_true,d8,decide_eq_true_eq]at m;exact m
  ·cases h
 ·split at h
  ·rename_i m;cases h;exact .inl (P4 a c b m (p _ H (Same.refl H) y7))
  ·split at h
   ·rename_i m;cases h;exact .inr (P4 a c b m (p _ H (Same.refl H) y7))
   ·cases h
 ·split at h
  ·rename_i m;cases h;exact P4 a c b m (p _ H (Same.refl H) y7)
  ·cases h
 ·split at h
  ·rename_i m;cases h;exact P4 a c b m (p _ H (Same.refl H) y7)
  ·cases h
 ·split at h
  ·rename_i m;cases h;exact P4 a c b m (p _ H (Same.refl H) y7)
  ·cases h
 ·cases h;exact cj a c b (p _ H (Same.refl H) y7)
 ·rename_i xs ys;split at h
  ·rename_i m;cases h;by_cases f:cx ≠ .weak/\cy ≠ .weak
   ·obtain⟨n,k,v,r,e⟩:=c.items a f.1;obtain⟨l,j,u,o,d⟩:=b.items a f.2;refine .inr (⟨n,l,k,j,v,u,r,o,by rw[e.length,d.length];exact P3 m,λ q g=>p _ _ (r9 g) ?_⟩);rw[sa f.1 f.2];exact E7 a g (e.append d)
   ·obtain⟨n,k,v,r,e⟩:=c.lst a;obtain⟨l,j,u,o,d⟩:=b.lst a;refine .inr (⟨n,l,k,j,v,u,r,o,by rw[e.length,d.length];exact P3 m,λ q g=>p _ _ (r9 g) ?_⟩);have:Cl.anew cx cy=.weak:=(by cases cx<;>cases cy<;>first | rfl | exact absurd ⟨(by intro z;cases z),(by intro z;cases z)⟩ f);rw[this];exact bZ a g (e.append d)
  ·cases h
 ·cases h
theorem sj(g:∀q,ra=some q->PE X a (dE X.D E δ q))(f:∀q,rb=some q->PE X b (dE X.D E δ q))(h:(Re.thn ra λ x d=>Re.thn rb λ y c=>binD op x y d c)=some re):PE X (.BinOp a op b pos) (dE X.D E δ re):=
 cg (λ _ _=>ny sh) g f h λ O W H0 H x y Q dx d dy c σ k e j i p=>si k e j i p
theorem so:atD ds i=L2.atI ds i:=rfl
theorem RepL.atI(h:RepL D H ds xs)(e:atD ds i=some d):∃v,L2.atI xs i=some v/\Rep D H d v:=by
 rw[so]at e;unfold L2.atI at e ⊢;rw[h.length];cases q:ixN ds.length i with
 | none=>rw[q]at e;cases e
 | some j=>
  rw[q]at e;exact h.get e
theorem su(h:((ixD C B).map λ d=>Re.ok d cx.item)=some re)(e:Hid O W l H)(w:Got X.D O W l H C cx x)(u:Got X.D O W l H B cy y)
  (p:Post X.D E σ O W l H Q re):rIx X.K x y H Q:=by
 obtain⟨d,f,K⟩:=t7.mp h;cases K;unfold ixD at f;split at f
 ·rename_i c i;obtain⟨a,k,g⟩:=F9.mp (w.all e);obtain⟨n,J,I⟩:=t7.mp f;cases I;have q:L2.atI (c.map V.int) i=some (.int n):=by
   unfold L2.atI;rw[e7];have b:((ixN c.length i).bind λ j=>c[j]?)=some n:=J;cases z:ixN c.length i with
   | none=>rw[z]at b;cases b
   | some j=>
    rw[z]at b;have F:c[j]? = some n:=b;show(c.map V.int)[j]? = _;rw[u4,F];rfl
  refine .inl ⟨a,_,i,_,k,u.int e,g.sq,q,p _ H (Same.refl H) ?_⟩;cases cx<;>exact y7
 ·obtain⟨a,m,k,g,A⟩:=w.lstC e;obtain⟨v,r,o⟩:=A.atI f;exact .inl ⟨a,m,_,v,k,u.int e,SqL.of g,r,p _ H (Same.refl H) (Got.item o)⟩
 ·obtain⟨a,m,k,g,A⟩:=w.tupC e;obtain⟨v,r,o⟩:=A.atI f;exact .inr (.inl ⟨a,m,_,v,k,u.int e,g,r,p _ H (Same.refl H) (Got.item o)⟩)
 ·cases f
theorem sw(g:∀q,ra=some q->PE X a (dE X.D E δ q))(f:∀q,rb=some q->PE X b (dE X.D E δ q))(hs:ae b=false)(h:(Re.thn ra λ x c=>Re.thn rb λ y _=>(ixD x y).map λ d=>.ok d c.item)=some re):PE X (.Subscript a b pos) (dE X.D E δ re):=
 cg (λ _ _ j i=>eR oz j i (by cases b<;>first | (intro _ _;rfl) | cases hs)) g f h λ O W H0 H x y Q dx c dy cy σ k e m l p=>su k e m l p
theorem aj(n d:Nat)(o:on Int):slIx n d o=HT.sIx n d o:=by cases o<;>rfl
theorem RepL.cut(h:RepL D H ds xs)(a b:on Int):RepL D H (cutD ds a b) (cutV xs a b):=by
 unfold cutD cutV;rw[aj,aj,←h.length];exact(h.drop _).take _
theorem cn{e:on Int}(h:((slD o e f).map λ d=>Re.ok d (slCl o cx))=some re)(g:Hid O W r H)(n:Got X.D O W r H o cx x)
  (p:Post X.D E σ O W r H Q re):rSlL X.K x e f H Q\/rSlT X.K x e f H Q:=by
 obtain⟨d,c,v⟩:=t7.mp h;cases v;unfold slD at c;split at c
 ·rename_i u;cases c;obtain⟨a,j,i⟩:=F9.mp (n.all g);exact .inl ⟨a,_,j,i.sq,λ q b=>p _ _ (r9 b) (E7 g b ((K3 u).cut e f))⟩
 ·cases c;obtain⟨a,l,j,i,k⟩:=n.lstC g;exact .inl ⟨a,l,j,SqL.of i,λ q b=>p _ _ (r9 b) (ce g b (k.cut e f))⟩
 ·rename_i ds;split at c
  ·cases c
  ·rename_i m;cases c;obtain⟨a,l,j,i,k⟩:=n.tupC g;refine .inr ⟨a,l,j,i,?_,λ q b=>p _ _ (r9 b) (gF g b (k.cut e f))⟩;rw[aj,aj,←k.length]at m;exact m
 ·cases c
theorem G0:SlR X (λ x a b H Q=>rSlL X.K x a b H Q\/rSlT X.K x a b H Q):=oG.or ou
theorem V0(h:PE X b (dE X.D E δ (.ok (.int i) cl))):PO X (some b) (λ d H Q=>∃O W,RSt X.D H d δ O W/\∀c,Same H c->Q (some i) c):=λ a s d H Q I ⟨O,W,R,p⟩=>
 eO h a s d H Q I ⟨O,W,R,λ v c s1 g=>⟨i,g.int (R.hid.mono s1),p c s1⟩⟩
theorem ak{c:Str}(h:PE X b (dE X.D E δ (.ex c))):PO X (some b) (λ d H Q=>∃O W,RSt X.D H d δ O W/\Post X.D E d O W H H (λ _ _=>False) (.ex c)):=λ a s d H Q I ⟨O,W,R,p⟩=>
 eO h a s d H Q I ⟨O,W,R,p⟩
theorem V1:PO X o (λ _ _ _=>False):=λ _ _ _ _ _ _ h=>h.elim
theorem sx(u:∀q,ra=some q->PE X a (dE X.D E δ q))(r:∀q,rb=some q->PE X b (dE X.D E δ q))(h:(Re.thn ra λ x j=>Re.thn rb λ l _=>match l with
  | .int l=>(slD x (some l) none).map λ d=>.ok d (slCl x j) | _=>none)=some re):PE X (.Subscript a (.Slice (some b) none none p2) pos) (dE X.D E δ re):=by
 cases f:ra with
 | none=>rw[f]at h;cases h
 | some q=>
  rw[f]at h;have A:=u q f;cases q with
  | ex c=>cases h;exact(F5 G0 A V1 N9).weak λ k H Q ⟨O,W,R,p⟩=>⟨O,W,R,p⟩
  | ok o j=>
   cases e:rb with
   | none=>rw[e]at h;cases h
   | some q=>
    rw[e]at h;have B:=r q e;cases q with
    | ex c=>cases h;exact(F5 G0 A (ak B) N9).weak λ k H Q ⟨O,W,R,p⟩=>⟨O,W,R,λ x w s1 n=>⟨O,W,R.mono s1,λ y C m s=>p y C m (s1.trans s)⟩⟩
    | ok v cy=>
     have i:(match(generalizing:=false) v with | .int l=>(slD o _ none).map λ d=>Re.ok d _ | _=>none)=some re:=h;split at i
     ·rename_i l;exact(F5 G0 A (V0 B) N9).weak λ k H Q ⟨O,W,R,p⟩=>⟨O,W,R,λ x w s1 n=>⟨O,W,R.mono s1,λ H2 g=>cn i ((R.hid.mono s1).mono g) (n.mono g) (p.step (s1.trans g))⟩⟩
     ·cases i
theorem sy(u:∀q,ra=some q->PE X a (dE X.D E δ q))(r:∀q,rb=some q->PE X b (dE X.D E δ q))(h:(Re.thn ra λ x j=>Re.thn rb λ l _=>match l with
  | .int l=>(slD x none (some l)).map λ d=>.ok d (slCl x j) | _=>none)=some re):PE X (.Subscript a (.Slice none (some b) none p2) pos) (dE X.D E δ re):=by
 cases f:ra with
 | none=>rw[f]at h;cases h
 | some q=>
  rw[f]at h;have A:=u q f;cases q with
  | ex c=>cases h;exact(F5 G0 A N9 V1).weak λ k H Q ⟨O,W,R,p⟩=>⟨O,W,R,p⟩
  | ok o j=>
   cases e:rb with
   | none=>rw[e]at h;cases h
   | some q=>
    rw[e]at h;have B:=r q e;cases q with
    | ex c=>cases h;exact(F5 G0 A N9 (ak B)).weak λ k H Q ⟨O,W,R,p⟩=>⟨O,W,R,λ x w s1 n=>⟨O,W,R.mono s1,λ y C m s=>p y C m (s1.trans s)⟩⟩
    | ok v cy=>
     have i:(match(generalizing:=false) v with | .int l=>(slD o none (some l)).map λ d=>Re.ok d (slCl o j) | _=>none)=some re:=h;split at i
     ·rename_i l;exact(F5 G0 A N9 (V0 B)).weak λ k H Q ⟨O,W,R,p⟩=>⟨O,W,R,λ x w s1 n=>⟨O,W,R.mono s1,λ H2 g=>cn i ((R.hid.mono s1).mono g) (n.mono g) (p.step (s1.trans g))⟩⟩
     ·cases i
theorem sA(K:∀q,ra=some q->PE X a (dE X.D E δ q))(J:∀q,rb=some q->PE X b (dE X.D E δ q))(I:∀q,k=some q->PE X c (dE X.D E δ q))(h:(Re.thn ra λ x o=>Re.thn rb λ l _=>match l with
  | .int l=>Re.thn k λ u _=>(match u with
   | .int u=>(slD x (some l) (some u)).map λ d=>.ok d (slCl x o) | _=>none) | _=>none)=some re):PE X (.Subscript a (.Slice (some b) (some c) none p2) pos) (dE X.D E δ re):=by
 cases i:ra with
 | none=>rw[i]at h;cases h
 | some q=>
  rw[i]at h;have A:=K q i;cases q with
  | ex c=>cases h;exact(F5 G0 A V1 V1).weak λ r H Q ⟨O,W,R,p⟩=>⟨O,W,R,p⟩
  | ok n o=>
   cases g:rb with
   | none=>rw[g]at h;cases h
   | some q=>
    rw[g]at h;have B:=J q g;cases q with
    | ex c=>cases h;exact(F5 G0 A (ak B) V1).weak λ r H Q ⟨O,W,R,p⟩=>⟨O,W,R,λ x F s1 y=>⟨O,W,R.mono s1,λ z C m s=>p z C m (s1.trans s)⟩⟩
    | ok M cy=>
     have j:(match(generalizing:=false) M with | .int l=>Re.thn k λ u _=>(match u with | .int u=>(slD n (some l) (some u)).map λ d=>Re.ok d _ | _=>none) | _=>none)=some re:=h;split at j
     ·rename_i l;cases f:k with
      | none=>rw[f]at j;cases j
      | some q=>
       rw[f]at j;have C:=I q f;cases q with
       | ex c'=>
        cases j;exact(F5 G0 A (V0 B) (ak C)).weak λ r H Q ⟨O,W,R,p⟩=>⟨O,W,R,λ x F s1 y=>⟨O,W,R.mono s1,λ N e=>⟨O,W,(R.mono s1).mono e,λ z C m s=>p z C m (s1.trans (e.trans s))⟩⟩⟩
       | ok L cz=>
        have w:(match(generalizing:=false) L with | .int u=>(slD n (some l) (some u)).map λ d=>Re.ok d _ | _=>none)=some re:=j;split at w
        ·rename_i u;exact(F5 G0 A (V0 B) (V0 C)).weak λ r H Q ⟨O,W,R,p⟩=>⟨O,W,R,λ x F s1 y=>⟨O,W,R.mono s1,λ N e=>⟨O,W,(R.mono s1).mono e,λ H3 v=>cn w (((R.hid.mono s1).mono e).mono v) ((y.mono e).mono v) (p.step (s1.trans (e.trans v)))⟩⟩⟩
        ·cases w
     ·cases j
end
mutual
noncomputable def toP:DV->PyData
 | .non=>.none | .bl b=>.bool b | .int i=>.int i | .str x=>.str x
 | .tup ds=>.tuple (toPs ds) | .lst ds=>.list (toPs ds)
 | _=>.none
noncomputable def toPs:ge DV->ge PyData
 | []=>[]
 | d::r=>toP d::toPs r
end
mutual
theorem V2:∀(n m:Nat) (d e:DV),d.plain n=true->e.plain m=true->PyData.eqv (toP d) (toP e)=deq d e
 | n,m,.non,e,_,h=>by cases e<;>first | (cases m<;>simp[DV.plain]at h;done) | (simp only[toP,PyData.eqv,deq])
 | n,m,.bl _,e,_,h=>by cases e<;>first | (cases m<;>simp[DV.plain]at h;done) | (simp only[toP,PyData.eqv,deq])
 | n,m,.int _,e,_,h=>by cases e<;>first | (cases m<;>simp[DV.plain]at h;done) | (simp only[toP,PyData.eqv,deq])
 | n,m,.str x,e,_,h=>by
  cases e with
  | str y=>simp only[toP,PyData.eqv,deq];rfl
  | non=>simp only[toP,PyData.eqv,deq]
  | bl _=>simp only[toP,PyData.eqv,deq]
  | int _=>simp only[toP,PyData.eqv,deq]
  | tup _=>simp only[toP,PyData.eqv,deq]
  | lst _=>simp only[toP,PyData.eqv,deq]
  | dct _ _=>cases m<;>simp[DV.plain]at h
  | exc _=>cases m<;>simp[DV.plain]at h
  | fn _=>cases m<;>simp[DV.plain]at h
  | lam _ _=>cases m<;>simp[DV.plain]at h
  | scr _=>cases m<;>simp[DV.plain]at h
 | 0,_,.tup _,_,h,_=>by simp[DV.plain]at h
 | 0,_,.lst _,_,h,_=>by simp[DV.plain]at h
 | n+1,m,.tup ds,e,h,h'=>by
  cases e with
  | tup es=>
   cases m with
   | zero=>simp[DV.plain]at h'
   | succ m=>
    simp only[toP,PyData.eqv,deq];exact cq n m ds es (by simpa[DV.plain]using h) (by simpa[DV.plain]using h')
  | non=>simp only[toP,PyData.eqv,deq]
  | bl _=>simp only[toP,PyData.eqv,deq]
  | int _=>simp only[toP,PyData.eqv,deq]
  | str _=>simp only[toP,PyData.eqv,deq]
  | lst _=>simp only[toP,PyData.eqv,deq]
  | dct _ _=>cases m<;>simp[DV.plain]at h'
  | exc _=>cases m<;>simp[DV.plain]at h'
  | fn _=>cases m<;>simp[DV.plain]at h'
  | lam _ _=>cases m<;>simp[DV.plain]at h'
  | scr _=>cases m<;>simp[DV.plain]at h'
 | n+1,m,.lst ds,e,h,h'=>by
  cases e with
  | lst es=>
   cases m with
   | zero=>simp[DV.plain]at h'
   | succ m=>
    simp only[toP,PyData.eqv,deq];exact cq n m ds es (by simpa[DV.plain]using h) (by simpa[DV.plain]using h')
  | non=>simp only[toP,PyData.eqv,deq]
  | bl _=>simp only[toP,PyData.eqv,deq]
  | int _=>simp only[toP,PyData.eqv,deq]
  | str _=>simp only[toP,PyData.eqv,deq]
  | tup _=>simp only[toP,PyData.eqv,deq]
  | dct _ _=>cases m<;>simp[DV.plain]at h'
  | exc _=>cases m<;>simp[DV.plain]at h'
  | fn _=>cases m<;>simp[DV.plain]at h'
  | lam _ _=>cases m<;>simp[DV.plain]at h'
  | scr _=>cases m<;>simp[DV.plain]at h'
 | n,_,.dct _ _,_,h,_=>by cases n<;>simp[DV.plain]at h
 | n,_,.exc _,_,h,_=>by cases n<;>simp[DV.plain]at h
 | n,_,.fn _,_,h,_=>by cases n<;>simp[DV.plain]at h
 | n,_,.lam _ _,_,h,_=>by cases n<;>simp[DV.plain]at h
 | n,_,.scr _,_,h,_=>by cases n<;>simp[DV.plain]at h
theorem cq:∀(n m:Nat) (ds es:ge DV),DV.plains n ds=true->DV.plains m es=true->PyData.eqvAll (toPs ds) (toPs es)=deqs ds es
 | _,_,[],[],_,_=>by simp only[toPs,PyData.eqvAll,deqs]
 | _,_,[],_::_,_,_=>by simp only[toPs,PyData.eqvAll,deqs]
 | _,_,_::_,[],_,_=>by simp only[toPs,PyData.eqvAll,deqs]
 | n,m,d::ds,e::es,h,h'=>by simp only[DV.plains,d8]at h h';simp only[toPs,PyData.eqvAll,deqs,V2 n m d e h.1 h'.1,cq n m ds es h.2 h'.2]
end
mutual
theorem V3:∀(n:Nat) (d:DV),d.plain n=true->(toP d).canLay0=true/\(toP d).depth<=n
 | n,.non,_=>by simp[toP,PyData.canLay0,PyData.depth]
 | n,.bl _,_=>by simp[toP,PyData.canLay0,PyData.depth]
 | n,.int _,_=>by simp[toP,PyData.canLay0,PyData.depth]
 | n,.str x,h=>by
  have h':(x.cps.all (· < 0x110000))=true:=by cases n<;>simpa[DV.plain]using h
  simp only[toP,PyData.canLay0,PyData.depth];exact⟨h',Nat.zero_le _⟩
 | 0,.tup _,h=>by simp[DV.plain]at h
 | 0,.lst _,h=>by simp[DV.plain]at h
 | n+1,.tup ds,h=>by have q:=P5 n ds (by simpa[DV.plain]using h);simp only[toP,PyData.canLay0,PyData.depth,q.1,true_and];have:=q.2;omega
 | n+1,.lst ds,h=>by have q:=P5 n ds (by simpa[DV.plain]using h);simp only[toP,PyData.canLay0,PyData.depth,q.1,true_and];have:=q.2;omega
 | n,.dct _ _,h=>by cases n<;>simp[DV.plain]at h
 | n,.exc _,h=>by cases n<;>simp[DV.plain]at h
 | n,.fn _,h=>by cases n<;>simp[DV.plain]at h
 | n,.lam _ _,h=>by cases n<;>simp[DV.plain]at h
 | n,.scr _,h=>by cases n<;>simp[DV.plain]at h
theorem P5:∀(n:Nat) (ds:ge DV),DV.plains n ds=true->PyData.canLayAll0 (toPs ds)=true/\PyData.depthAll (toPs ds)<=n
 | _,[],_=>by simp[toPs,PyData.canLayAll0,PyData.depthAll]
 | n,d::ds,h=>by simp only[DV.plains,d8]at h;have q:=V3 n d h.1;have q':=P5 n ds h.2;simp only[toPs,PyData.canLayAll0,PyData.depthAll,q.1,q'.1,Bool.and_self,true_and];have a:=q.2;have b:=q'.2;omega
end
section
variable {X:Cx} {pins:ge (zn×Obj)} {σ:St} {H:Hp} {s:zm}
mutual
theorem F3(I:Inv X pins σ H s):∀(n:Nat) {d:DV} {v:V} {u:zk},d.plain n=true->Rep X.D H d v->RelV v u->∃as,Reads s.heap u (toP d) as
 | _,.non,_,_,_,h,r=>by rw[F8.mp h]at r;cases r;exact⟨_,Reads.none⟩
 | _,.bl b,_,_,_,h,r=>by rw[K2.mp h]at r;cases r;exact⟨_,Reads.bool b⟩
 | _,.int i,_,_,_,h,r=>by rw[v7.mp h]at r;obtain⟨t,rfl⟩:=r;exact⟨_,Reads.int i t⟩
 | _,.str x,_,_,_,h,r=>by rw[(U6.mp h).1]at r;obtain⟨t,rfl⟩:=r;exact⟨_,Reads.str x t⟩
 | 0,.tup _,_,_,p,_,_=>by simp[DV.plain]at p
 | 0,.lst _,_,_,p,_,_=>by simp[DV.plain]at p
 | n+1,.tup ds,_,_,p,h,r=>by obtain⟨a,xs,e1,e2,e3⟩:=x2.mp h;rw[e1]at r;cases r;obtain⟨its,rv,⟨o,h1,h2,k,h3⟩,_⟩:=I.tuple e2;obtain⟨as,q⟩:=cr I n (by simpa[DV.plain]using p) e3 rv;rw[toP];exact⟨as,Reads.tuple h1 h2 h3 (by simpa using q)⟩
 | n+1,.lst ds,_,_,p,h,r=>by obtain⟨a,xs,e1,e2,e3⟩:=x3.mp h;rw[e1]at r;cases r;obtain⟨_,its,k,rv,_,h1⟩:=I.lstM e2;obtain⟨as,q⟩:=cr I n (by simpa[DV.plain]using p) e3 rv;rw[toP];exact⟨_,Reads.list h1 rfl rfl (by simpa using q)⟩
 | n,.dct _ _,_,_,h,_,_=>by cases n<;>simp[DV.plain]at h
 | n,.exc _,_,_,h,_,_=>by cases n<;>simp[DV.plain]at h
 | n,.fn _,_,_,h,_,_=>by cases n<;>simp[DV.plain]at h
 | n,.lam _ _,_,_,h,_,_=>by cases n<;>simp[DV.plain]at h
 | n,.scr _,_,_,h,_,_=>by cases n<;>simp[DV.plain]at h
theorem cr(I:Inv X pins σ H s):∀(n:Nat) {ds:ge DV} {vs:ge V} {us:ge zk},DV.plains n ds=true->RepL X.D H ds vs->Vals vs us->∃as,ReadsAll s.heap us (toPs ds) as
 | _,[],_,_,_,h,r=>by rw[u3.mp h]at r;cases r;exact⟨_,ReadsAll.nil⟩
 | n,d::ds,_,_,p,h,r=>by
  simp only[DV.plains,d8]at p;obtain⟨v,vs,e1,e2,e3⟩:=m9.mp h;subst e1;cases r with
  | cons r1 r2=>
   obtain⟨as,q⟩:=F3 I n p.1 e2 r1;obtain⟨bs,q'⟩:=cr I n p.2 e3 r2;rw[toPs];exact⟨_,ReadsAll.cons q q'⟩
end
theorem am(h:d.plain 60=true):SeqAt.shaped (toP d)=true:=by
 have q:=V3 60 d h;unfold SeqAt.shaped;rw[q.1,Bool.true_and];exact decide_eq_true (g9 q.2 (by decide))
theorem gJ(h:d.plain 60=true):∀(a:ge DV),DV.plains 60 a=true->((toPs a).any λ y=>PyData.eqv y (toP d))=a.any λ x=>deq x d
 | [],_=>rfl
 | e::a,p=>by simp[DV.plains,d8]at p;rw[toPs,List.any_cons,List.any_cons,V2 60 60 e d p.1 h,gJ h a p.2]
end
section
variable {X:Cx} {E:St->XK} {δ:ge Sv} {a b c e:zq} {pos:Pos} {ra rb rc:on Re} {re:Re}
def cmpR(X:Cx)(op:CmpOp):R2:=λ x y H Q=>∃dx dy k,cmpD op dx dy=some k/\Rep X.D H dx x/\Rep X.D H dy y/\Q (.bl k) H
theorem gK(r:Rep D H d v):decide (v=.non)=isN d:=by
 cases d with
 | non=>rw[F8.mp r];rfl
 | bl _=>rw[K2.mp r];rfl
 | int _=>rw[v7.mp r];rfl
 | str _=>rw[(U6.mp r).1];rfl
 | tup _=>obtain⟨a,b,e,_⟩:=x2.mp r;rw[e];rfl
 | lst _=>obtain⟨a,b,e,_⟩:=x3.mp r;rw[e];rfl
 | exc _=>obtain⟨a,C,e,_⟩:=bW.mp r;rw[e];rfl
 | fn _=>obtain⟨a,e,_⟩:=rR.mp r;rw[e];rfl
 | lam _ _=>obtain⟨a,_,_,_,_,_,_,_,e,_⟩:=bX.mp r;rw[e];rfl
 | scr _=>obtain⟨a,e,_⟩:=F9.mp r;rw[e];rfl
 | dct _ _=>exact(bY r).elim
theorem gL(r:X.A.units+64<cLine):OpR X (compareOp op) (cmpR X op):=by
 intro a s l H x y v u Q I d c h;obtain⟨dx,dy,k,b,g,f,q⟩:=h;have i:∀{n:Bool},n=k->EP X a l Q _ s:=λ {n} e=>⟨.bl n,H,I,rfl,by rw[e];exact q⟩
 unfold cmpD at b;split at b
 ·cases b;exact nK a s l H x y v u Q I d c ⟨_,_,v7.mp g,v7.mp f,q⟩
 ·cases b;exact nL a s l H x y v u Q I d c ⟨_,_,v7.mp g,v7.mp f,q⟩
 ·split at b
  ·rename_i p;rw[d8]at p;cases b;obtain⟨z,m⟩:=F3 I 60 p.1 g d;obtain⟨bs,j⟩:=F3 I 60 p.2 f c;exact eq_dataH m j (am p.1) (am p.2) r (i (V2 60 60 _ _ p.1 p.2))
  ·cases b
 ·split at b
  ·rename_i p;rw[d8]at p;cases b;obtain⟨z,m⟩:=F3 I 60 p.1 g d;obtain⟨bs,j⟩:=F3 I 60 p.2 f c;exact ne_dataH m j (am p.1) (am p.2) r (i (by rw[V2 60 60 _ _ p.1 p.2]))
  ·cases b
 ·cases b;exact nM a s l H x y v u Q I d c ⟨F8.mp f,by rw[gK g];exact q⟩
 ·cases b;exact nN a s l H x y v u Q I d c ⟨F8.mp f,by rw[gK g];exact q⟩
 ·rename_i w;split at b
  ·rename_i p;rw[d8]at p;cases b;obtain⟨z,m⟩:=F3 I 60 p.1 g d;obtain⟨bs,j⟩:=F3 I 61 (by simpa[DV.plain]using p.2) f c;rw[toP]at j;have o:=V3 60 _ p.1;have l3:=o.2;exact SeqAt.notIn_list_reads j m (P5 60 w p.2).1 o.1 (by omega) (i (by rw[gJ p.1 w p.2]))
  ·cases b
 ·cases b
theorem gM(h:E5 b=false):behindInMarks op b=false:=by
 cases b<;>first | rfl | cases h
theorem sB(e:X.A.units+64<cLine)(g:∀q,ra=some q->PE X a (dE X.D E δ q))(f:∀q,rb=some q->PE X b (dE X.D E δ q))(hs:E5 b=false)
  (h:(Re.thn ra λ x _=>Re.thn rb λ y _=>(cmpD op x y).map λ k=>.ok (.bl k) .strong)=some re):PE X (.Compare a [op] [b] pos) (dE X.D E δ re):=
 cg (λ _ _ j i=>nO (gL e) j i (gM hs)) g f h λ O W H0 H x y Q u cx r cy σ k c m l p=>by obtain⟨d,o,n⟩:=t7.mp k;cases n;exact⟨u,r,d,o,m.all c,l.all c,p _ H (Same.refl H) M6⟩
theorem sC(j:∀q,ra=some q->PE X a (dE X.D E δ q))(i:∀q,rb=some q->PE X b (dE X.D E δ q))
  (h:(Re.thn ra λ x _=>Re.thn rb λ y _=>(cmpD op x y).map λ k=>.ok (.bl k) .strong)=some re):∃e d,PE X a e/\PE X b d/\∀c H Q,dE X.D E δ re c H Q->tOp (cmpR X op) e d c H Q:=
 gH j i h λ O W H0 H x y Q u cx r cy c k f m l p=>by obtain⟨g,o,n⟩:=t7.mp k;cases n;exact⟨u,r,g,o,m.all f,l.all f,p _ H (Same.refl H) M6⟩
theorem sD(b:∀d c,re=.ok d c->∃k,d=.bl k)(h:tstD (some re)=some r)(q:dT X.D E δ r σ H Q):dE X.D E δ re σ H (λ x a=>∃k,x=.bl k/\Q k a):=by
 obtain⟨O,W,R,p⟩:=q;cases re with
 | ex c=>cases h;exact⟨O,W,R,p⟩
 | ok d c=>
  obtain⟨k,rfl⟩:=b d c rfl;cases h;exact⟨O,W,R,λ v a s g=>⟨k,g.bl (R.hid.mono s),p a s⟩⟩
theorem sE(h:(Re.thn ra λ x _=>Re.thn rb λ y _=>(cmpD op x y).map λ k=>.ok (.bl k) .strong)=some re):∀d c,re=.ok d c->∃k,d=.bl k:=by
 intro d c e;subst e;cases ra with
 | none=>cases h
 | some q=>
  cases q with
  | ex c=>cases h
  | ok d c=>
   cases rb with
   | none=>cases h
   | some q=>
    cases q with
    | ex c=>cases h
    | ok d' c'=>
     obtain⟨k,_,e⟩:=t7.mp (h);cases e;exact⟨k,rfl⟩
theorem sF(d:X.A.units+64<cLine)(f:∀q,ra=some q->PE X a (dE X.D E δ q))(e:∀q,rb=some q->PE X b (dE X.D E δ q))(hs:E5 b=false)
  (h:tstD (Re.thn ra λ x _=>Re.thn rb λ y _=>(cmpD op x y).map λ k=>.ok (.bl k) .strong)=some r):PT X (.Compare a [op] [b] pos) (dT X.D E δ r):=by
 cases q:(Re.thn ra λ x _=>Re.thn rb λ y _=>(cmpD op x y).map λ k=>Re.ok _ .strong)with
 | none=>rw[q]at h;cases h
 | some re=>
  rw[q]at h;obtain⟨ta,tb,A,B,w⟩:=sC f e q;exact(nQ (gL d) A B (gM hs)).weak λ c H Q z=>w c H _ (sD (sE q) h z)
end
section
theorem P6(h:D0 d=some k)(r:Rep D H d v):TruV D.K v H k:=by
 cases d with
 | non=>cases h;rw[F8.mp r];rfl
 | bl b=>cases h;rw[K2.mp r];rfl
 | int i=>cases h;rw[v7.mp r];rfl
 | str x=>
  cases h;obtain⟨f,e⟩:=U6.mp r;rw[f];refine⟨e,?_⟩;show _=(((x.cps.size:Nat):Int) != 0);cases x.cps.size with
  | zero=>rfl
  | succ n=>simp only[bne,Nat.add_eq_zero_iff];simp;omega
 | tup j=>
  cases h;obtain⟨a,c,f,e,g⟩:=x2.mp r;rw[f];refine .inr (.inl ⟨c,e,?_⟩);have:=g.length;cases c<;>cases j<;>first | rfl | cases this
 | lst j=>
  cases h;obtain⟨a,c,f,e,g⟩:=x3.mp r;rw[f];refine .inl ⟨c,SqL.of e,?_⟩;have:=g.length;cases c<;>cases j<;>first | rfl | cases this
 | dct _ _=>cases h
 | exc _=>cases h
 | fn _=>cases h
 | lam _ _=>cases h
 | scr _=>cases h
theorem sG(i:∀q,ra=some q->PE X e (dE X.D E δ q))(f:∀a,isTrue e X.env a=(do let v ←a;standAt e.pos;holding [v] (truthy v)))(h:tstD ra=some r):PT X e (dT X.D E δ r):=by
 cases b:ra with
 | none=>rw[b]at h;cases h
 | some q=>
  rw[b]at h;have A:=i q b;cases q with
  | ex c=>cases h;exact(eC A f).weak λ g H Q ⟨O,W,R,p⟩=>⟨O,W,R,p⟩
  | ok d cl=>
   obtain⟨k,m,l⟩:=t7.mp (h);cases l;exact(eC A f).weak λ g H Q ⟨O,W,R,p⟩=>⟨O,W,R,λ x n s1 j=>⟨k,P6 m (j.all (R.hid.mono s1)),p n s1⟩⟩
theorem sH(j:PE X a f):PE X (.UnaryOp .Not a pos) (tUn (λ x H Q=>∃k,TruV X.K x H k/\Q (.bl (!k)) H) f):=by
 intro c s e H Q I h;refine UnaryOp_ (thn (j c s e H _ I h) λ v s1 ⟨x,g,o,i,d⟩=>?_);obtain⟨k,t,d⟩:=d;exact not_of (thn (Y2 c s1 e g x v (λ b q=>b=k/\q=g) o i ⟨k,t,rfl,rfl⟩) λ b s2 ⟨p,n,m,l⟩=>by
  subst m l;exact⟨.bl (!b),p,n,rfl,d⟩)
theorem sI(d:∀q,ra=some q->PE X a (dE X.D E δ q))(h:(Re.thn ra λ x _=>(D0 x).map λ k=>.ok (.bl (!k)) .strong)=some re):PE X (.UnaryOp .Not a pos) (dE X.D E δ re):=
 rU (λ _=>sH) d h λ O W H0 H x Q dx cx σ k c e p=>by obtain⟨b,g,f⟩:=t7.mp k;cases f;exact⟨b,P6 g (e.all c),p _ H (Same.refl H) M6⟩
theorem cu(q:PE X a j)(p:PE X (.BoolOp .And (b::es) pos) i):PE X (.BoolOp .And (a::b::es) pos) (λ e H Q=>j e H λ x f=>∃k,TruV X.K x f k/\if k=true then i e f Q else Q x f):=by
 intro d s e H Q I h;refine BoolOp_and (thn (q d s e H _ I h) λ v s1 ⟨x,f,w,l,g⟩=>?_);obtain⟨k,t,g⟩:=g;refine thn (Y2 d s1 e f x v (λ b y=>b=k/\y=f) w l ⟨k,t,rfl,rfl⟩) λ c o ⟨n,m,u,r⟩=>?_
 subst u r;cases c with
 | true=>exact p d o e n Q m g
 | false=>exact⟨x,n,m,l,g⟩
theorem cw(p:PE X a i)(o:PE X (.BoolOp .Or (b::es) pos) tb):PE X (.BoolOp .Or (a::b::es) pos) (λ e H Q=>i e H λ x f=>∃k,TruV X.K x f k/\if k=true then Q x f else tb e f Q):=by
 intro d s e H Q I h;refine BoolOp_or (thn (p d s e H _ I h) λ v s1 ⟨x,f,u,j,g⟩=>?_);obtain⟨k,t,g⟩:=g;refine thn (Y2 d s1 e f x v (λ b w=>b=k/\w=f) u j ⟨k,t,rfl,rfl⟩) λ c n ⟨m,l,r,q⟩=>?_
 subst r q;cases c with
 | false=>exact o d n e m Q l g
 | true=>exact⟨x,m,l,j,g⟩
theorem sJ(l:∀q,ra=some q->PE X a (dE X.D E δ q))(k:∀q,rb=some q->PE X (.BoolOp .And (b::es) pos) (dE X.D E δ q))(h:(Re.thn ra λ x c=>andD x c rb)=some re):PE X (.BoolOp .And (a::b::es) pos) (dE X.D E δ re):=by
 cases e:ra with
 | none=>rw[e]at h;cases h
 | some q=>
  rw[e]at h;have A:=l q e;cases q with
  | ex c=>cases h;exact(cu A K5).weak λ i H Q ⟨O,W,R,p⟩=>⟨O,W,R,p⟩
  | ok d cl=>
   have f:andD d cl rb=some re:=h;unfold andD at f;split at f
   ·cases f
   ·rename_i t;exact(cu A (k re f)).weak λ i H Q ⟨O,W,R,p⟩=>⟨O,W,R,λ x j s1 g=>⟨true,P6 t (g.all (R.hid.mono s1)),iteT ⟨O,W,R.mono s1,p.later s1 s1⟩⟩⟩
   ·rename_i t;cases f;exact(cu A K5).weak λ i H Q ⟨O,W,R,p⟩=>⟨O,W,R,λ x j s1 g=>⟨false,P6 t (g.all (R.hid.mono s1)),iteF (p _ j s1 g)⟩⟩
theorem sM(n:∀q,j=some q->PE X a (dE X.D E δ q))(m:∀q,rb=some q->PE X (.BoolOp .Or (b::es) pos) (dE X.D E δ q))(h:(Re.thn j λ x c=>orD x c rb)=some g):PE X (.BoolOp .Or (a::b::es) pos) (dE X.D E δ g):=by
 cases e:j with
 | none=>rw[e]at h;cases h
 | some q=>
  rw[e]at h;have A:=n q e;cases q with
  | ex c=>cases h;exact(cw A K5).weak λ k H Q ⟨O,W,R,p⟩=>⟨O,W,R,p⟩
  | ok d cl=>
   have f:orD d cl rb=some g:=h;unfold orD at f;split at f
   ·cases f
   ·rename_i t;cases f;exact(cw A K5).weak λ k H Q ⟨O,W,R,p⟩=>⟨O,W,R,λ x l s1 i=>⟨true,P6 t (i.all (R.hid.mono s1)),iteT (p _ l s1 i)⟩⟩
   ·rename_i t;exact(cw A (m g f)).weak λ k H Q ⟨O,W,R,p⟩=>⟨O,W,R,λ x l s1 i=>⟨false,P6 t (i.all (R.hid.mono s1)),iteF ⟨O,W,R.mono s1,p.later s1 s1⟩⟩⟩
theorem cA(h:tstD (Re.thn ra k)=some r):(ra=none/\False)\/(∃c,ra=some (.ex c)/\r=.ex c)\/∃d c,ra=some (.ok d c)/\tstD (k d c)=some r:=by
 cases a:ra with
 | none=>rw[a]at h;cases h
 | some q=>
  rw[a]at h;cases q with
  | ex c=>cases h;exact .inr (.inl ⟨c,rfl,rfl⟩)
  | ok d c=>exact .inr (.inr ⟨d,c,rfl,h⟩)
theorem gN(h:tstD (some (.ok d c))=some r):∃k,D0 d=some k/\r=.ok k:=by
 obtain⟨k,b,a⟩:=t7.mp (h);exact⟨k,b,a.symm⟩
theorem sN(b:∀q,tstD ra=some q->PT X a (dT X.D E δ q))(h:tstD (Re.thn ra λ x _=>(D0 x).map λ k=>.ok (.bl (!k)) .strong)=some r):PT X (.UnaryOp .Not a pos) (dT X.D E δ r):=by
 rcases cA h with⟨_,z⟩ | ⟨c,e1,e2⟩ | ⟨d,c,e1,e2⟩
 ·exact z.elim
 ·subst e1 e2;exact(eg (b _ rfl)).weak λ e H Q ⟨O,W,R,p⟩=>⟨O,W,R,p⟩
 ·cases t:D0 d with
  | none=>rw[t]at e2;cases e2
  | some k=>
   rw[t]at e2;cases e2;have A:=b _ (by rw[e1];show(D0 d).map Rt.ok=_;rw[t];rfl);exact(eg A).weak λ e H Q ⟨O,W,R,p⟩=>⟨O,W,R,λ f s1=>p f s1⟩
theorem sO(g:∀q,tstD ra=some q->PT X a (dT X.D E δ q))(j:∀q,tstD rb=some q->PW X (.BoolOp .And (b::es) pos) (dT X.D E δ q))(h:tstD (Re.thn ra λ x c=>andD x c rb)=some r):PW X (.BoolOp .And (a::b::es) pos) (dT X.D E δ r):=by
 rcases cA h with⟨_,z⟩ | ⟨c,e1,e2⟩ | ⟨d,c,e1,e2⟩
 ·exact z.elim
 ·subst e1 e2;exact(aS (g _ rfl) ah).weak λ e H Q ⟨O,W,R,p⟩=>⟨O,W,R,p⟩
 ·unfold andD at e2;cases t:D0 d with
  | none=>rw[t]at e2;cases e2
  | some k=>
   rw[t]at e2;have A:=g _ (by rw[e1];show(D0 d).map Rt.ok=_;rw[t];rfl);cases k with
   | true=>exact(aS A (j r e2)).weak λ e H Q ⟨O,W,R,p⟩=>⟨O,W,R,λ i s1=>iteT ⟨O,W,R.mono s1,p.later s1⟩⟩
   | false=>
    obtain⟨k,f,rfl⟩:=gN e2;rw[t]at f;cases f;exact(aS A ah).weak λ e H Q ⟨O,W,R,p⟩=>⟨O,W,R,λ i s1=>iteF (p i s1)⟩
theorem sP(g:∀q,tstD ra=some q->PT X a (dT X.D E δ q))(j:∀q,tstD rb=some q->PW X (.BoolOp .Or (b::es) pos) (dT X.D E δ q))(h:tstD (Re.thn ra λ x c=>orD x c rb)=some r):PW X (.BoolOp .Or (a::b::es) pos) (dT X.D E δ r):=by
 rcases cA h with⟨_,z⟩ | ⟨c,e1,e2⟩ | ⟨d,c,e1,e2⟩
 ·exact z.elim
 ·subst e1 e2;exact(aT (g _ rfl) ah).weak λ e H Q ⟨O,W,R,p⟩=>⟨O,W,R,p⟩
 ·unfold orD at e2;cases t:D0 d with
  | none=>rw[t]at e2;cases e2
  | some k=>
   rw[t]at e2;have A:=g _ (by rw[e1];show(D0 d).map Rt.ok=_;rw[t];rfl);cases k with
   | false=>exact(aT A (j r e2)).weak λ e H Q ⟨O,W,R,p⟩=>⟨O,W,R,λ i s1=>iteF ⟨O,W,R.mono s1,p.later s1⟩⟩
   | true=>
    obtain⟨k,f,rfl⟩:=gN e2;rw[t]at f;cases f;exact(aT A ah).weak λ e H Q ⟨O,W,R,p⟩=>⟨O,W,R,λ i s1=>iteT (p i s1)⟩
theorem o6(h:j9 e=false):starEach (e::es) env=(false,eval e env)::starEach es env:=by
 cases e<;>first | rfl | cases h
theorem sQ:PA X [] (dA X.D E δ (.ok [])):=C8.weak λ σ H Q ⟨O,W,R,p⟩=>p [] H (Same.refl H) .nil
theorem sR(hs:j9 e=false)(n:∀q,ra=some q->PE X e (dE X.D E δ q))(k:∀q,f=some q->PA X es (dA X.D E δ q))
  (h:(match(generalizing:=false) ra with | none=>none | some (.ex c)=>some (Rs.ex c) | some (.ok d c)=>(match(generalizing:=false) f with | none=>none | some (.ex c)=>some (.ex c) | some (.ok l)=>some (.ok ((d,c)::l))))=some q):PA X (e::es) (dA X.D E δ q):=by
 cases b:ra with
 | none=>rw[b]at h;cases h
 | some z=>
  rw[b]at h;have A:=n z b;cases z with
  | ex c=>cases h;exact(A2 A gG (o6 hs)).weak λ g H Q ⟨O,W,R,p⟩=>⟨O,W,R,p⟩
  | ok d cl=>
   cases a:f with
   | none=>rw[a]at h;cases h
   | some y=>
    rw[a]at h;have B:=k y a;cases y with
    | ex c=>cases h;exact(A2 A B (o6 hs)).weak λ g H Q ⟨O,W,R,p⟩=>⟨O,W,R,λ x u s1 j=>⟨O,W,R.mono s1,λ v C m s=>p v C m (s1.trans s)⟩⟩
    | ok l=>
     cases h;exact(A2 A B (o6 hs)).weak λ g H Q ⟨O,W,R,p⟩=>⟨O,W,R,λ x u s1 j=>⟨O,W,R.mono s1,λ vs r i o=>p _ r (s1.trans i) (.cons (j.mono i) (o.since s1))⟩⟩
theorem sS(d:∀q,c=some q->PA X es (dA X.D E δ q))(h:(Rs.thn c λ l=>if l.length<=k9 then some (.ok (.lst (l.map (·.1))) (if stros l then .fresh else .weak))else none)=some re):PE X (.List es pos) (dE X.D E δ re):=
 U9 (λ _=>eF) d h λ O W H0 H vs Q l σ k a g p=>by
  split at k
  ·rename_i m;cases k;refine⟨by rw[g.length];exact P3 m,λ q b=>p _ _ (r9 b) ?_⟩;by_cases z:stros l=true
   ·rw[d6 z];exact E7 a b (g.stros a z)
   ·rw[d9 z];exact bZ a b (g.repL a)
  ·cases k
theorem sU(d:∀q,c=some q->PA X es (dA X.D E δ q))(h:(Rs.thn c λ l=>if l.length<=k9 then some (.ok (.tup (l.map (·.1))) (if stros l then .strong else .weak))else none)=some re):PE X (.Tuple es x1 pos) (dE X.D E δ re):=
 U9 (λ _=>Y4) d h λ O W H0 H vs Q l σ k a g p=>by
  split at k
  ·rename_i m;cases k;refine⟨by rw[g.length];exact P3 m,λ q b=>p _ _ (r9 b) ?_⟩;by_cases z:stros l=true
   ·rw[d6 z];exact U7 a b (g.stros a z)
   ·rw[d9 z];exact gE a b (g.repL a)
  ·cases k
end
theorem cC:∀a:ge DV,toPs a=a.map toP
 | []=>by rw[toPs];rfl
 | d::r=>by rw[toPs,cC r];rfl
theorem cD:∀{a:ge DV} {j:Nat},D8 y a=some j->∃h:j<a.length,deq a[j] y=true/\∀m (b:m<a.length),m<j->deq a[m] y=false
 | [],j,h=>by cases h
 | d::r,j,h=>by
  unfold D8 at h;split at h
  ·rename_i e;cases h;exact⟨Nat.succ_pos _,e,λ m _ b=>absurd b (Nat.not_lt_zero _)⟩
  ·rename_i e;obtain⟨k,l,rfl⟩:=t7.mp h;obtain⟨f,i,g⟩:=cD l;refine⟨Nat.succ_lt_succ f,i,λ m b c=>?_⟩;cases m with
   | zero=>exact Bool.eq_false_iff.mpr e
   | succ m=>exact g m _ (Nat.lt_of_succ_lt_succ c)
theorem gO:∀{ds:ge DV} {m:Nat} (h:m<ds.length),DV.plains n ds=true->(ds[m]).plain n=true
 | d::r,0,_,p=>by simp[DV.plains,d8]at p;exact p.1
 | d::r,m+1,h,p=>by simp[DV.plains,d8]at p;exact gO (ds:=r) _ p.2
section
variable {X:Cx} {pins:ge (zn×Obj)} {σ:St} {H:Hp} {s:zm} {E:St->XK} {δ:ge Sv} {o e:zq} {to te:TE} {apos cpos:Pos} {ra rb:on Re} {re:Re}
theorem gP(p:y.plain 60=true)(q:DV.plains 60 ds=true)(h:D8 y ds=some j) :
  ∃h:j<(toPs ds).length,PyData.eqv (toPs ds)[j] (toP y)=true/\∀m (c:m<(toPs ds).length),m<j->PyData.eqv (toPs ds)[m] (toP y)=false:=by
 obtain⟨f,e,a⟩:=cD h;have hl:(toPs ds).length=ds.length:=by rw[cC,e7]
 have d:∀m _ (a:m<ds.length),PyData.eqv (toPs ds)[m] _=deq ds[m] y:=λ m e a=>by
  rw[←V2 60 60 ds[m] y (gO a q) p]
  congr 1
  simp[cC,List.getElem_map]
 exact⟨by omega,(d j (by omega) f).trans e,λ m c b=>(d m c (by omega)).trans (a m (by omega) b)⟩
theorem sV(hu:X.A.units+64<cLine)(I:Inv X pins σ H s)(e:RelV x v)(d:RelV y u)(g:Rep X.D H (.lst ds) x)(f:Rep X.D H a y)(p:a.plain 60=true)(q:DV.plains 60 ds=true)(hl:ds.length<=k9)
  (h:D8 a ds=some j) (k:Q (.int j) H):wpAny (model X.prog X.w) X.A (call (.builtin "list.index") [v,u]) (EP X pins σ Q) X.xe s:=by
 obtain⟨as,i⟩:=F3 I 60 p f d;obtain⟨bs,b⟩:=F3 I 61 (by simpa[DV.plain]using q) g e;rw[toP]at b;have c:=V3 60 _ p;have l3:=c.2;obtain⟨m,o,n⟩:=gP p q h;have l:=(cD h).1;exact SeqAt.index_list_reads b i (P5 60 ds q).1 c.1 (by omega) m (by have:k9=1000000:=rfl;omega) o n ⟨.int j,H,I.tok _,⟨_,rfl⟩,k⟩
theorem sW(hu:X.A.units+64<cLine)(I:Inv X pins σ H s)(e:RelV x v)(d:RelV y u)(g:Rep X.D H (.tup ds) x)(f:Rep X.D H a y)(p:a.plain 60=true)(q:DV.plains 60 ds=true)
  (h:D8 a ds=some j) (k:Q (.int j) H):wpAny (model X.prog X.w) X.A (call (.builtin "tuple.index") [v,u]) (EP X pins σ Q) X.xe s:=by
 obtain⟨as,i⟩:=F3 I 60 p f d;obtain⟨bs,b⟩:=F3 I 61 (by simpa[DV.plain]using q) g e;rw[toP]at b;have c:=V3 60 _ p;have l3:=c.2;obtain⟨l,n,m⟩:=gP p q h;exact SeqAt.index_tuple_reads b i (P5 60 ds q).1 c.1 (by omega) l n m ⟨.int j,H,I.tok _,⟨_,rfl⟩,k⟩
def tIdx(X:Cx)(to te:TE):TE:=λ σ H Q=>to σ H λ x H1=>(∃ds,Rep X.D H1 (.lst ds) x/\te σ H1 λ y H2=>∃ds dy j,Rep X.D H2 (.lst ds) x/\Rep X.D H2 dy y/\dy.plain 60=true/\DV.plains 60 ds=true/\ds.length<=k9/\D8 dy ds=some j/\Q (.int j) H2) \/
 (∃ds,Rep X.D H1 (.tup ds) x/\te σ H1 λ y H2=>∃ds dy j,Rep X.D H2 (.tup ds) x/\Rep X.D H2 dy y/\dy.plain 60=true/\DV.plains 60 ds=true/\D8 dy ds=some j/\Q (.int j) H2)
theorem gQ(M:X.A.units+64<cLine)(Z:PE X o to)(N:PE X e te)(g:attributeBase o "index" X.env (eval o X.env)=eval o X.env)(f:(apos.endLine==cpos.line)=true)(hs:starEach [e] X.env=[(false,eval e X.env)]) :
  PE X (.Call (.Attribute o "index" apos) [e] [] cpos) (tIdx X to te):=by
 intro d s m H Q I h;refine wpAny_Call_method_late g (by rw[hs];rfl) f rfl (thn (Z d s m H _ I h) λ v s1 ⟨x,O,l,F,i⟩=>?_);rcases i with⟨ds,C,i⟩ | ⟨ds,C,i⟩
 ·obtain⟨a,P,w,r,e3⟩:=x3.mp C;subst w;cases(F);obtain⟨Y,_,J,_⟩:=l.list (SqL.of r);refine⟨"list","list.index",PySem.F.plainAttrs_list,PySem.F.slot_list_index,PySem.F.type_list_index,J.isList.typeIs,λ b q=>?_,?_⟩
  ·cases q;obtain⟨o,n,e,c,hd,_⟩:=J;exact⟨o,e,hd⟩
  ·rw[hs];refine Calls.callWith_builtin rfl (Calls.evalArgs_plain (Calls.spliced_cons (thn (N d s1 m O _ l i) λ u R B0=>Calls.spliced_nil ?_)));obtain⟨y,H2,E,p,z,dy,j,B,A,p1,p2,p3,S,k⟩:=B0;exact sV M E (show RelV (.ref a) _ from rfl) p B A p1 p2 p3 S k
 ·obtain⟨a,P,w,r,e3⟩:=x2.mp C;subst w;cases(F);obtain⟨K,L,W,U⟩:=l.tupleN r;refine⟨"tuple","tuple.index",PySem.F.plainAttrs_tuple,PySem.F.slot_tuple_index,PySem.F.type_tuple_index,⟨K,L,W⟩,λ b q=>?_,?_⟩
  ·cases q;exact⟨K,L,U⟩
  ·rw[hs];refine Calls.callWith_builtin rfl (Calls.evalArgs_plain (Calls.spliced_cons (thn (N d s1 m O _ l i) λ u R B0=>Calls.spliced_nil ?_)));obtain⟨y,H2,E,p,z,dy,j,B,A,p1,p2,p3,k⟩:=B0;exact sW M E (show RelV (.ref a) _ from rfl) p B A p1 p2 p3 k
theorem sX(N:X.A.units+64<cLine)(U:∀q,ra=some q->PE X o (dE X.D E δ q))(S:∀q,rb=some q->PE X e (dE X.D E δ q))(b:attributeBase o "index" X.env (eval o X.env)=eval o X.env)(a:(apos.endLine==cpos.line)=true)(hs:starEach [e] X.env=[(false,eval e X.env)])
  (h:(Re.thn ra λ x _=>if seqB x then Re.thn rb λ y _=>(idxD x y).map λ d=>.ok d .strong else none)=some re):PE X (.Call (.Attribute o "index" apos) [e] [] cpos) (dE X.D E δ re):=by
 cases n:ra with
 | none=>rw[n]at h;cases h
 | some q=>
  rw[n]at h;have A:=U q n;cases q with
  | ex c=>
   cases h;exact(gQ N A K5 b a hs).weak λ w H Q ⟨O,W,R,p⟩=>⟨O,W,R,p⟩
  | ok v cx=>
   have F:(if seqB v then Re.thn rb λ y _=>(idxD v y).map λ d=>Re.ok d .strong else none)=some re:=h;have r:seqB v=true:=by
    cases z:seqB v with
    | true=>rfl
    | false=>rw[z]at F;cases F
   rw[d6 r]at F;have u:=F;cases l:rb with
   | none=>rw[l]at u;cases u
   | some q=>
    rw[l]at u;have B:=S q l;have C:=gQ N A B b a hs (apos:=apos) (cpos:=cpos);cases q with
    | ex c=>
     cases u;cases v with
     | lst k=>exact C.weak λ w H Q ⟨O,W,R,p⟩=>⟨O,W,R,λ x L s1 i=>.inl ⟨k,i.all (R.hid.mono s1),O,W,R.mono s1,λ M C m s=>p M C m (s1.trans s)⟩⟩
     | tup k=>exact C.weak λ w H Q ⟨O,W,R,p⟩=>⟨O,W,R,λ x L s1 i=>.inr ⟨k,i.all (R.hid.mono s1),O,W,R.mono s1,λ M C m s=>p M C m (s1.trans s)⟩⟩
     | _=>cases r
    | ok P cy=>
     obtain⟨d,g,Y⟩:=t7.mp u;subst Y;unfold idxD at g;split at g
     ·rename_i k;split at g
      ·rename_i m;obtain⟨j,J,rfl⟩:=t7.mp g;rw[d8,d8,decide_eq_true_eq]at m;exact C.weak λ w H Q ⟨O,W,R,p⟩=>⟨O,W,R,λ x L s1 i=>.inl ⟨k,i.all (R.hid.mono s1),O,W,R.mono s1,λ y K f I=>
        ⟨k,P,j,(i.mono f).all ((R.hid.mono s1).mono f),(I.since s1).all ((R.hid.mono s1).mono f),m.1.1,m.1.2,m.2,J,p _ K (s1.trans f) y7⟩⟩⟩
      ·cases g
     ·rename_i k;split at g
      ·rename_i m;obtain⟨j,J,rfl⟩:=t7.mp g;rw[d8,d8,decide_eq_true_eq]at m;exact C.weak λ w H Q ⟨O,W,R,p⟩=>⟨O,W,R,λ x L s1 i=>.inr ⟨k,i.all (R.hid.mono s1),O,W,R.mono s1,λ y K f I=>
        ⟨k,P,j,(i.mono f).all ((R.hid.mono s1).mono f),(I.since s1).all ((R.hid.mono s1).mono f),m.1.1,m.1.2,J,p _ K (s1.trans f) y7⟩⟩⟩
      ·cases g
     ·cases g
end
def GotR(D:Dm)(O:ge zn)(H0 H:Hp)(d:DV)(fr:Bool)(v:V):Prop:=match fr with
 | false=>Rep D (L2.wo O H) d v
 | true=>∃p xs ds,v=.ref p/\d=.lst ds/\H0 p=none/\H p=some (.lst xs)/\RepL D (L2.wo (p::O) H) ds xs
theorem SqT.immut{K:zA}(d:∀a∈W,∃o,H a=some o/\mutO o=true)(h:SqT K (L2.wo O H) t b):SqT K (L2.wo (O++W) H) t b:=by
 have c:∀{u:HO},mutO u=false->L2.wo O H t=some u->L2.wo _ H t=some u:=λ {u} f e=>by
  obtain⟨g,h⟩:=x4 e;rw[i6 λ z=>?_]
  ·exact h
  ·rcases List.mem_append.mp z with z | z
   ·exact g z
   ·obtain⟨ys,q,m⟩:=d t z;rw[h]at q;cases q;rw[f]at m;cases m
 rcases h with(h | ⟨o,h⟩) | h
 ·exact .inl (.inl (c rfl h))
 ·exact .inl (.inr ⟨o,c rfl h⟩)
 ·exact .inr h
def GotT(D:Dm)(O:ge zn)(H0 H:Hp)(d:DV)(v:V):Prop:=∃ms:ge Int,∃t ts p xs ds es,v=.ref t/\d=.tup (ms.map DV.int ++ .lst ds::es)/\SqT D.K (L2.wo O H) t (ms.map V.int ++ .ref p::ts)/\H0 p=none/\H p=some (.lst xs)/\RepL D (L2.wo (p::O) H) ds xs/\RepL D (L2.wo (p::O) H) es ts
def spF(D:Dm)(n:Nat)(f:ge DV->on Ou):Sp:=λ vs H Q E=>∃O ds o,Hdn O H/\ds.length=n/\RepL D (L2.wo O H) ds vs/\f ds=some o /\
 (match o with | .v d fr=>∀v H',Same H H'->GotR D O H H' d fr v->Q v H' | .t d=>∀v H',Same H H'->GotT D O H H' d v->Q v H' | .x c=>∀H' C,D.mg c=some C->Same H H'->E C none H')
section
theorem sY{ps:ge Str}{M:St->Hp->Prop}(L:∀u o,F f u=some o->u.length=ps.length)(C:∀q,rs=some q->PA X as (dA X.D E δ q)->PE X e0 (λ k H Q=>M k H/\fv (spF X.D ps.length (F f)) [] E (dA X.D E δ q) k H Q))(r:∀k H O W,RSt X.D H k δ O W->M k H)(Z:∀q,rs=some q->PA X as (dA X.D E δ q))
  (h:(Rs.thn rs λ l=>B4 F f l)=some re):PE X e0 (dE X.D E δ re):=by
 cases w:rs with
 | none=>rw[w]at h;cases h
 | some q=>
  rw[w]at h;have A:=Z q w
  replace C:=C q w
  cases q with
  | ex c=>cases h;exact(C A).weak λ k H Q ⟨O,W,R,p⟩=>⟨r _ _ _ _ R,O,W,R,p⟩
  | ok l=>
   have J:B4 F f l=some re:=h;unfold B4 at J;split at J
   ·cases J
   ·rename_i c j;cases J;refine(C A).weak λ k H Q ⟨O,W,R,p⟩=>⟨r _ _ _ _ R,O,W,R,λ I K s1 x=>?_⟩
    have i:=R.hid.mono s1;show spF X.D ps.length (F f) _ K Q (E k);rw[List.append_nil];exact⟨O,_,_,i.hdO,L _ _ j,x.repL i,j,λ n C m s=>p n C m (s1.trans s)⟩
   ·rename_i ks u j;cases J;refine(C A).weak λ k H Q ⟨O,W,R,p⟩=>⟨r _ _ _ _ R,O,W,R,λ I K s1 x=>?_⟩
    have i:=R.hid.mono s1;show spF X.D ps.length (F f) _ K Q (E k);rw[List.append_nil];refine⟨O,_,_,i.hdO,L _ _ j,x.repL i,j,λ v n s g=>p v n (s1.trans s) ?_⟩;obtain⟨_,_,_,_,_,_,_,_,e,_⟩:=g;cases e
   ·rename_i d hne j;cases J;refine(C A).weak λ k H Q ⟨O,W,R,p⟩=>⟨r _ _ _ _ R,O,W,R,λ I K s1 x=>?_⟩
    have i:=R.hid.mono s1;show spF X.D ps.length (F f) _ K Q (E k);rw[List.append_nil];by_cases z:(l.all λ p=>p.2 == .strong||p.2 == .fresh)=true
    ·rw[d6 z]at p;refine⟨O++W,_,_,i.hdA,L _ _ j,x.strong i z,j,λ v n s g=>p v n (s1.trans s) ?_⟩;obtain⟨U,t,ts,q,B,u,es,f1,f2,f0,f3,f4,f5,f6⟩:=g;subst f2;exact⟨U,t,ts,q,B,u,es,f1,rfl,f0,s1.free f3,f4,f5,f6⟩
    ·rw[d9 z]at p;refine⟨O,_,_,i.hdO,L _ _ j,x.repL i,j,λ v n s g=>p v n (s1.trans s) ?_⟩;obtain⟨U,t,ts,q,B,u,es,f1,f2,f0,f3,f4,f5,f6⟩:=g;have hq:=λ z=>i.ot q (w4 _ z) (s1.free f3)
     have up:Same (L2.wo (q::O) n) _:=t4 λ b Y=>i8 _ Y;rw[f2];exact x2.mpr ⟨t,_,f1,f0,(K3 U).append (m9.mpr ⟨_,_,rfl,x3.mpr ⟨q,B,rfl,by rw[i6 hq];exact f4,f5.mono up⟩,f6.mono up⟩)⟩
   ·rename_i d fr j;cases J;refine(C A).weak λ k H Q ⟨O,W,R,p⟩=>⟨r _ _ _ _ R,O,W,R,λ I K s1 x=>?_⟩
    have i:=R.hid.mono s1;show spF X.D ps.length (F f) _ K Q (E k);rw[List.append_nil];by_cases z:(l.all λ p=>p.2 == .strong||p.2 == .fresh)=true
    ·rw[d6 z]at p;refine⟨O++W,_,_,i.hdA,L _ _ j,x.strong i z,j,λ v n s g=>p v n (s1.trans s) ?_⟩;cases fr with
     | false=>exact g
     | true=>
      obtain⟨q,B,u,j,e2,S,P,N⟩:=g;exact⟨q,B,u,j,e2,s1.free S,P,N⟩
    ·rw[d9 z]at p;refine⟨O,_,_,i.hdO,L _ _ j,x.repL i,j,λ v n s g=>p v n (s1.trans s) ?_⟩;cases fr with
     | false=>exact g
     | true=>
      obtain⟨q,B,u,u1,e2,S,P,N⟩:=g;subst e2;rw[Bool.true_and];cases y:imL (.lst u)with
      | true=>exact⟨q,B,u,u1,rfl,s1.free S,P,RepL.immut (λ a Z=>by obtain⟨o,e,m⟩:=i.wl a Z;exact⟨o,s _ _ (i.same _ _ e),m⟩) y N⟩
      | false=>
       exact x3.mpr ⟨q,B,u1,by rw[i6 (λ z=>i.ot q (w4 _ z) (s1.free S))];exact P,N.mono (t4 λ b Y=>i8 _ Y)⟩
theorem sZ(fo:FnOk X.prog X.w X.K X.mg X.base (CXx X.prog X.w X.base) k fa fd ps (spF X.D ps.length (F f)))(j:∀c o,F f c=some o->c.length=ps.length)(i:Room k X.A)(r:Gl X x)(m:X.mg x=some (.ref fa))(n:PySem.W.keepIn X.K (.ref fa)=true)
  (u:J2 X.K fd ps []) (g:O0 (CXx X.prog X.w X.base) X E) (v:∀q,rs=some q->PA X (e::es) (dA X.D E δ q)) (b:(x==("__debug__" : Str))=false) (hs:j9 e=false) (a:es.any j9=false)
  (h:(Rs.thn rs λ l=>B4 F f l)=some re):PE X (.Call (.Name x p) (e::es) [] pos) (dE X.D E δ re):=by
 have plain:∀(es:ge zq),es.any j9=false->(backTo pos (starEach es X.env)).any (·.1)=false:=by
  intro es
  induction es with
  | nil=>intro _;rfl
  | cons y ys d=>
   intro q;rw[List.any_cons,Bool.or_eq_false_iff]at q;rw[o6 q.1];show(false||(backTo pos _).any (·.1))=false;rw[d q.2];rfl
 exact sY j (λ t _ w=>(fw fo i r m n u .nil g w b (o6 hs) (plain es a)).weak λ σ H Q h=>h.2) (λ _ _ _ _ _=>trivial) v h
end
section
variable {X:Cx} {E:St->XK} {δ:ge Sv} {e:zq} {es:ge zq} {pos p:Pos} {re:Re} {rs:on Rs}
theorem P7:∀(es:ge zq),es.any j9=false->(backTo pos (starEach es env)).any (·.1)=false
 | [],_=>rfl
 | y::a,q=>by rw[List.any_cons,Bool.or_eq_false_iff]at q;rw[o6 q.1];show(false||(backTo pos _).any (·.1))=false;rw[P7 a q.2];rfl
noncomputable def biR(X:Cx)(k:ge (DV×Cl)->on Re):ge V->Hp->VK->Prop:=λ vs H Q=>∃l re O W H0,k l=some re/\Hid O W H0 H/\GotL X.D O W H0 H l vs/\∃d c,re=.ok d c/\∀v H',Same H H'->Got X.D O W H0 H' d c v->Q v H'
theorem ao(w:x5 X (.builtin i) (biR X k))(r:∀l a,k l=some a->∃d c,a=.ok d c)(u:Gl X x)(o:X.mg x=none)(m:bootBuiltins x=some (.builtin i))(n:x ≠ "__name__")(f:(x==("__debug__" : Str))=false)
  (y:∀q,rs=some q->PA X (e::es) (dA X.D E δ q)) (hs:j9 e=false) (b:es.any j9=false) (h:Rs.thn rs k=some a):PE X (.Call (.Name x p) (e::es) [] pos) (dE X.D E δ a):=
 U9 (λ _ z=>S9 w u o m z n f (o6 hs) (P7 es b)) y h λ O W A H vs Q l σ j v g p=>by obtain⟨d,c,rfl⟩:=r l a j;exact⟨l,_,O,W,A,j,v,g,d,c,rfl,p⟩
theorem cF(v:x5 X (.type T) (biR X k))(o:∀l a,k l=some a->∃d c,a=.ok d c)(r:Gl X x)(n:X.mg x=none)(j:bootBuiltins x=some (.type T))(m:x ≠ "__name__")(f:(x==("__debug__" : Str))=false)
  (w:∀q,rs=some q->PA X (e::es) (dA X.D E δ q)) (hs:j9 e=false) (b:es.any j9=false) (h:Rs.thn rs k=some a):PE X (.Call (.Name x p) (e::es) [] pos) (dE X.D E δ a):=
 U9 (λ _ y=>eL v r n j y m f (o6 hs) (P7 es b)) w h λ O W z H vs Q l σ i u g p=>by obtain⟨d,c,rfl⟩:=o l a i;exact⟨l,_,O,W,z,i,u,g,d,c,rfl,p⟩
theorem tf:∀l a,lenD l=some a->∃d c,a=.ok d c:=λ l a h=>by unfold lenD at h;split at h<;>cases h<;>exact⟨_,_,rfl⟩
theorem tj:∀l a,minD l=some a->∃d c,a=.ok d c:=λ l a h=>by
 unfold minD at h;split at h
 ·cases h;exact⟨_,_,rfl⟩
 ·split at h
  ·cases h;exact⟨_,_,rfl⟩
  ·cases h
 ·split at h
  ·cases h;exact⟨_,_,rfl⟩
  ·cases h
 ·cases h
theorem V4:∀{ds:ge DV} {b:ge Int} {a:ge V},ints? ds=some b->RepL D H ds a->a=b.map V.int
 | [],b,a,h,r=>by cases h;exact u3.mp r
 | .int i::ds,b,a,h,r=>by obtain⟨ms,g,f⟩:=t7.mp h;obtain⟨v,vs,e,d,c⟩:=m9.mp r;rw[←f,e,u0,v7.mp d,(V4 g c)]
 | .non::ds,b,a,h,_=>by cases h
 | .bl _::ds,b,a,h,_=>by cases h
 | .str _::ds,b,a,h,_=>by cases h
 | .tup _::ds,b,a,h,_=>by cases h
 | .lst _::ds,b,a,h,_=>by cases h
 | .dct _ _::ds,b,a,h,_=>by cases h
 | .exc _::ds,b,a,h,_=>by cases h
 | .fn _::ds,b,a,h,_=>by cases h
 | .lam _ _::ds,b,a,h,_=>by cases h
 | .scr _::ds,b,a,h,_=>by cases h
theorem gR:∀(r:ge Int) (m:Int),(minI m r=m\/minI m r∈r)/\minI m r<=m/\∀x∈r,minI m r<=x
 | [],m=>⟨.inl rfl,Int.le_refl _,λ x h=>by cases h⟩
 | y::r,m=>by
  obtain⟨b,d,a⟩:=gR r (if y<m then y else m);unfold minI;by_cases q:y<m
  ·rw[d6 q]at b d a ⊢;refine⟨.inr ?_,by omega,λ x c=>?_⟩
   ·rcases b with z | z
    ·rw[z];exact i9 ..
    ·exact i8 _ z
   ·rcases e8.mp c with z | z
    ·rwa [z]
    ·exact a x z
  ·rw[d9 q]at b d a ⊢;refine⟨b.imp id (i8 _),d,λ x c=>?_⟩;rcases e8.mp c with z | z
   · omega
   ·exact a x z
theorem gS(g:M∈n::r)(d:∀x∈n::r,M<=x):M=minI n r:=by
 obtain⟨a,b,c⟩:=gR r n;have e:=d _ (a.elim (λ z=>by rw[z];exact i9 ..) (i8 _));have f:minI n r<=M:=by
  rcases e8.mp g with z | z
  ·rwa [z]
  ·exact c M z
 omega
theorem cG(x:Int):∀l:ge Int,(insI x l).Perm (x::l)
 | []=>.rfl
 | y::r=>by
  unfold insI;split
  ·exact .rfl
  ·exact(List.Perm.cons y (cG x r)).trans (List.Perm.swap x y r)
theorem gU:∀l:ge Int,(F6 l).Perm l
 | []=>.rfl
 | x::r=>(cG x _).trans (List.Perm.cons x (gU r))
theorem gV(x:Int):∀{l:ge Int},l.Pairwise (· <= ·)->(insI x l).Pairwise (· <= ·)
 | [],_=>List.pairwise_singleton _ _
 | y::r,h=>by
  obtain⟨b,c⟩:=A3.mp h;unfold insI;split
  ·rename_i q;refine A3.mpr ⟨λ z a=>?_,h⟩;rcases e8.mp a with e | e
   ·omega
   ·have:=b z e;omega
  ·rename_i q;refine A3.mpr ⟨λ z a=>?_,gV x c⟩;rcases e8.mp ((cG x r).mem_iff.mp a)with e | e
   ·omega
   ·exact b z e
theorem gW:∀l:ge Int,(F6 l).Pairwise (· <= ·)
 | []=>.nil
 | x::r=>gV x (gW r)
theorem gX:∀{a b:ge Int},a.Perm b->a.Pairwise (· <= ·)->b.Pairwise (· <= ·)->a=b
 | [],b,p,_,_=>(List.Perm.nil_eq p)
 | x::a,b,p,f,d=>by
  cases b with
  | nil=>exact absurd p.length_eq (by simp)
  | cons y b=>
   obtain⟨j,i⟩:=A3.mp f;obtain⟨h,g⟩:=A3.mp d;have e:x=y:=by
    rcases e8.mp (p.mem_iff.mp (i9)) with z | z
    ·exact z
    ·rcases e8.mp (p.mem_iff.mpr (i9)) with c | c
     ·exact c.symm
     ·have:=j y c;have:=h x z;omega
   subst e;rw[gX (List.Perm.cons_inv p) i g]
theorem tm:∀l a,intD l=some a->∃d c,a=.ok d c:=λ l a h=>by
 unfold intD at h;split at h
 ·cases h;exact⟨_,_,rfl⟩
 ·cases h;exact⟨_,_,rfl⟩
 ·cases h
theorem tq:∀l a,T7 l=some a->∃d c,a=.ok d c:=λ l a h=>by unfold T7 at h;split at h<;>cases h<;>exact⟨_,_,rfl⟩
theorem tt:∀l a,T9 l=some a->∃d c,a=.ok d c:=λ l a h=>by unfold T9 at h;split at h<;>cases h<;>exact⟨_,_,rfl⟩
theorem tu:x5 X (.builtin "len") (biR X lenD):=by
 intro b s k H xs n Q I r h;obtain⟨l,re,O,W,H0,e,o,g,d,c,rfl,p⟩:=h;unfold lenD at e;split at e
 ·cases e;obtain⟨v,rfl,f⟩:=g.one;obtain⟨a,m,j,i,q⟩:=f.lst o;exact ba b s k H _ n Q I r ⟨a,m,by rw[j],.inl (SqL.of i),by rw[q.length];exact p _ H (Same.refl H) y7⟩
 ·cases e;obtain⟨v,rfl,f⟩:=g.one;obtain⟨a,m,j,i,q⟩:=f.tup o;exact ba b s k H _ n Q I r ⟨a,m,by rw[j],.inr i,by rw[q.length];exact p _ H (Same.refl H) y7⟩
 ·cases e;obtain⟨v,rfl,f⟩:=g.one;obtain⟨a,j,i⟩:=F9.mp (f.all o);exact ba b s k H _ n Q I r ⟨a,_,by rw[j],.inl i.sq,by rw[e7];exact p _ H (Same.refl H) y7⟩
 ·cases e
theorem tw(w:X.calm=true)(hu:X.A.units+1<cLine):x5 X (.builtin "min") (biR X minD):=by
 intro b s j H xs k Q I r h;obtain⟨l,re,O,W,H0,e,i,g,d,c,rfl,p⟩:=h;unfold minD at e;split at e
 ·cases e;obtain⟨v,v',rfl,f,x⟩:=g.two;exact nS w b s j H _ k Q I r ⟨_,_,by rw[f.int i,x.int i],p _ H (Same.refl H) y7⟩
 ·split at e
  ·rename_i n m u;cases e;obtain⟨v,rfl,f⟩:=g.one;obtain⟨a,C,B,A,z⟩:=f.lst i;have y:=V4 u z;subst y;exact qZ w b s j H _ k Q I r ⟨a,n::m,by rw[B],SqL.of A,by simp,λ M q o=>by rw[gS q o];exact p _ H (Same.refl H) y7⟩
  ·cases e
 ·split at e
  ·rename_i n m u;cases e;obtain⟨v,rfl,f⟩:=g.one;obtain⟨a,C,B,A,z⟩:=f.tup i;have y:=V4 u z;subst y;exact rn w b s j H _ k Q I r ⟨a,n::m,by rw[B],A,by simp,λ M q o=>by rw[gS q o];exact p _ H (Same.refl H) y7⟩
  ·cases e
 ·cases e
theorem gY:∀{b:ge DV} {bs:ge Bool} {a:ge V},bools? b=some bs->RepL D H b a->a=bs.map V.bl
 | [],bs,a,h,r=>by cases h;exact u3.mp r
 | .bl i::b,bs,a,h,r=>by obtain⟨ms,g,f⟩:=t7.mp h;obtain⟨v,vs,e,d,c⟩:=m9.mp r;have q:=gY g c;subst f e q;rw[K2.mp d];rfl
 | .non::_,_,_,h,_=>by cases h
 | .int _::_,_,_,h,_=>by cases h
 | .str _::_,_,_,h,_=>by cases h
 | .tup _::_,_,_,h,_=>by cases h
 | .lst _::_,_,_,h,_=>by cases h
 | .exc _::_,_,_,h,_=>by cases h
 | .fn _::_,_,_,h,_=>by cases h
 | .lam _ _::_,_,_,h,_=>by cases h
 | .scr _::_,_,_,h,_=>by cases h
 | .dct _ _::_,_,_,h,_=>by cases h
theorem tx(o:X.calm=true):x5 X (.builtin "sum") (biR X sumD):=by
 intro b s i H xs j Q I r h;obtain⟨l,re,O,W,H0,f,n,g,d,c,rfl,p⟩:=h;unfold sumD at f;split at f
 ·obtain⟨k,m,e⟩:=t7.mp f;cases e;obtain⟨v,rfl,q⟩:=g.one;obtain⟨a,ys,y,x,w⟩:=q.lst n;have u:=V4 m w;subst u;exact rN o b s i H _ j Q I r ⟨a,k,by rw[y],SqL.of x,p _ H (Same.refl H) y7⟩
 ·cases f
theorem tz(n:X.calm=true):x5 X (.builtin "all") (biR X allD):=by
 intro b s i H xs j Q I r h;obtain⟨l,re,O,W,H0,f,m,g,d,c,rfl,p⟩:=h;unfold allD at f;split at f
 ·obtain⟨bs,k,e⟩:=t7.mp f;cases e;obtain⟨v,rfl,o⟩:=g.one;obtain⟨a,ys,x,w,u⟩:=o.lst m;have q:=gY k u;subst q;exact rM n b s i H _ j Q I r ⟨a,bs,by rw[x],SqL.of w,p _ H (Same.refl H) M6⟩
 ·cases f
theorem tA:bootBuiltins "sum" = some (.builtin "sum"):=by decide +kernel
theorem tB:bootBuiltins "all" = some (.builtin "all"):=by decide +kernel
theorem tD:∀l a,sumD l=some a->∃d c,a=.ok d c:=by
 intro l a h;unfold sumD at h;split at h
 ·obtain⟨_,_,e⟩:=t7.mp h;cases e;exact⟨_,_,rfl⟩
 ·cases h
theorem tE:∀l a,allD l=some a->∃d c,a=.ok d c:=by
 intro l a h;unfold allD at h;split at h
 ·obtain⟨_,_,e⟩:=t7.mp h;cases e;exact⟨_,_,rfl⟩
 ·cases h
theorem gZ:bootBuiltins "sorted" = some (.builtin "sorted"):=by decide +kernel
theorem tF:bootBuiltins "set" = some (.type "set"):=by decide +kernel
theorem tG(x:X.calm=true)(K:Gl X "sorted")(J:X.mg "sorted" = none)(n:Gl X "set")(m:X.mg "set" = none)
  (L:∀q,rs=some q->PA X [e] (dA X.D E δ q)) (hs:j9 e=false) (h:Rs.thn rs bx=some re):PE X (.Call (.Name "sorted" p) [.Call (.Name "set" u) [e] [] pos'] [] pos) (dE X.D E δ re):=
 U9 (r:=λ o H Q=>(∃(a:zn) (b:ge Int),o=[.ref a]/\SqL X.K H a _/\b.length<4000/\∀p,H p=none->∃(p1:zn) (j:ge Int),[V.ref p]=[.ref p1]/\upd H p _ p1=some _/\j.length<64 /\
   ∀(q:zn) (i:ge Int),upd H p _ q=none->i.Perm j->i.Pairwise (· <= ·)->Q (.ref q) _))
  (λ t M=>by
   have A:=S9 (p:=p) (pos:=pos) (rh x) K J gZ (A2 (eL (p:=u) (pos:=pos') (rg x) n m tF M (by decide) (by decide) (o6 hs) rfl) C8) (by decide) (by decide) rfl rfl;exact A.weak λ z H Q h=>h) L h λ O W H0 H o Q l z d w g C=>by
  unfold bx at d;split at d
  ·split at d
   ·rename_i ds c b I;split at d
    ·rename_i y;cases d;obtain⟨v,rfl,N⟩:=g.one;obtain⟨a,ys,Y,U,S⟩:=N.lst w;have R:=V4 I S;subst R;refine⟨a,b,by rw[Y],SqL.of U,y.1,λ p1 k=>⟨p1,_,rfl,v6,y.2,λ q i f F B=>?_⟩⟩;have P:=gX (F.trans (gU _).symm) B (gW _);subst P;have s1:Same H (upd H p1 (setO X.prog X.w p1 (b.foldl dk []))):=r9 k;exact C _ _ (s1.trans (r9 f)) (E7 (w.mono s1) f (K3 _))
    ·cases d
   ·cases d
  ·cases d
theorem tH:x5 X (.type "int") (biR X intD):=by
 intro a s f H xs i Q I r h;obtain⟨l,re,O,W,H0,b,j,g,d,c,rfl,p⟩:=h;unfold intD at b;split at b
 ·cases b;obtain⟨v,rfl,e⟩:=g.one;exact eD a s f H _ i Q I r (.inl ⟨_,by rw[e.int j],p _ H (Same.refl H) y7⟩)
 ·cases b;obtain⟨v,rfl,e⟩:=g.one;exact eD a s f H _ i Q I r (.inr ⟨_,by rw[e.bl j],p _ H (Same.refl H) y7⟩)
 ·cases b
theorem tI:x5 X (.type "list") (biR X T7):=by
 intro b s n H xs u Q I r h;obtain⟨l,re,O,W,H0,i,f,g,d,c,rfl,p⟩:=h;unfold T7 at i;split at i
 ·cases i;obtain⟨v,rfl,j⟩:=g.one;obtain⟨a,m,k⟩:=F9.mp (j.all f);exact bc b s n H _ u Q I r ⟨a,_,by rw[m],.inl k.sq,λ q e=>p _ _ (r9 e) (E7 f e (K3 _))⟩
 ·cases i;obtain⟨v,rfl,j⟩:=g.one;obtain⟨a,o,m,k,w⟩:=j.lstC f;exact bc b s n H _ u Q I r ⟨a,o,by rw[m],.inl (SqL.of k),λ q e=>p _ _ (r9 e) (ce f e w)⟩
 ·cases i;obtain⟨v,rfl,j⟩:=g.one;obtain⟨a,o,m,k,w⟩:=j.tupC f;exact bc b s n H _ u Q I r ⟨a,o,by rw[m],.inr k,λ q e=>p _ _ (r9 e) (ce f e w)⟩
 ·cases i
theorem RepL.getD(h:RepL D H ds xs)(i:Nat):Rep D H (ds.getD i .non) (xs.getD i .non):=by
 rw[u8,u8];cases e:ds[i]? with
 | none=>
  rw[List.getElem?_eq_none (by rw[h.length];exact List.getElem?_eq_none_iff.mp e)];exact F8.mpr rfl
 | some d=>
  obtain⟨v,a,q⟩:=h.get e
  rwa [a]
theorem RepL.putIx(h:RepL D H ds xs):∀a:ge Nat,RepL D H (L2.putIx .non a ds) (L2.putIx .non a xs)
 | []=>u3.mpr rfl
 | i::l=>m9.mpr ⟨_,_,rfl,h.getD i,RepL.putIx h l⟩
theorem tJ:x5 X (.type "tuple") (biR X T9):=by
 intro b s n H xs o Q I r h;obtain⟨l,re,O,W,H0,e,i,g,d,c,rfl,p⟩:=h;unfold T9 at e;split at e
 ·cases e;obtain⟨v,rfl,j⟩:=g.one;obtain⟨a,f,m,k,w⟩:=j.lstC i;exact eT b s n H _ o Q I r ⟨a,f,by rw[m],.inl ⟨SqL.of k,λ q u=>p _ _ (r9 u) (gF i u w)⟩⟩
 ·cases e;obtain⟨v,rfl,j⟩:=g.one;obtain⟨a,f,m,k,w⟩:=j.tupC i;exact eT b s n H _ o Q I r ⟨a,f,by rw[m],.inr ⟨k,p _ _ (Same.refl H) (by grind)⟩⟩
 ·cases e
end
noncomputable def tyS:DV->on zE
 | .non=>some "NoneType" | .bl _=>some "bool" | .int _=>some "int" | .str _=>some "str" | .tup _=>some "tuple" | .lst _=>some "list" | .dct _ _=>some "dict"
 | _=>none
noncomputable def hV(T t:zE):on Bool:=if(Value.type T==Value.type t)=true then some true else if PySem.W.kitMeta t=true then(fastBuiltinMro T).map (·.contains (.type t))else none
theorem tK:(["NoneType","bool","int","str","tuple","list","dict"]:ge zE).all (λ T=>(["int","bool","str","list","tuple","dict"]:ge zE).all λ t=>hV T t==some (T==t||(T == "bool" && t == "int")))=true:=by decide +kernel
theorem P8{K:zA}(T t:zE)(b:T∈["NoneType","bool","int","str","tuple","list","dict"])(a:t∈["int","bool","str","list","tuple","dict"]) :
  PySem.W.kitOne K (.type T) (.type t)=some (T==t||(T == "bool" && t == "int")):=by
 exact(show hV T t=_ from by simpa using (w6.mp (w6.mp tK T b) t a))
section
variable {X:Cx} {E:St->XK} {δ:ge Sv} {e e':zq} {pos p p':Pos} {re:Re} {ra:on Re}
theorem tL(I:Inv X g σ H s)(r:Rep X.D H d v)(c:RelV v u)(e:tyS d=some T)(f:t∈["int","bool","str","list","tuple","dict"])
  (h:∀tk,Q (.bool (T==t||(T == "bool" && t == "int"))) {s with toks:=tk}):wpAny (model X.prog X.w) X.A (call (.builtin "isinstance") [u,.type t]) Q x s:=by
 cases d with
 | non=>cases e;rw[F8.mp r]at c;cases c;exact PySem.W.kia_one PySem.W.kitx_none I.kIn True.intro (P8 _ _ (by simp) f) (λ z=>nomatch z) h
 | bl b=>cases e;rw[K2.mp r]at c;cases c;exact PySem.W.kia_one PySem.W.kitx_bool I.kIn True.intro (P8 _ _ (by simp) f) (λ z=>nomatch z) h
 | int b=>cases e;rw[v7.mp r]at c;obtain⟨tk,rfl⟩:=c;exact PySem.W.kia_one PySem.W.kitx_int I.kIn True.intro (P8 _ _ (by simp) f) (λ z=>nomatch z) h
 | str b=>cases e;rw[(U6.mp r).1]at c;obtain⟨tk,rfl⟩:=c;exact PySem.W.kia_one PySem.W.kitx_str I.kIn True.intro (P8 _ _ (by simp) f) (λ z=>nomatch z) h
 | tup w=>
  cases e;obtain⟨a,m,l,k,q⟩:=x2.mp r;rw[l]at c;cases c;obtain⟨i,_,⟨o,j,p,_⟩,_⟩:=I.tuple k;exact PySem.W.kia_one PySem.W.kitx_tuple I.kIn ⟨o,j,p⟩ (P8 _ _ (by simp) f) (λ z=>nomatch z) h
 | lst w=>
  cases e;obtain⟨a,m,l,k,q⟩:=x3.mp r;rw[l]at c;cases c;obtain⟨_,i,n,_,_,j⟩:=I.lstM k;exact PySem.W.kia_one PySem.W.kitx_list I.kIn ⟨_,j,rfl⟩ (P8 _ _ (by simp) f) (λ z=>nomatch z) h
 | dct _ _=>exact(bY r).elim
 | exc _=>cases e
 | fn _=>cases e
 | lam _ _=>cases e
 | scr _=>cases e
def rIsi(X:Cx):ge V->Hp->VK->Prop:=λ xs H Q=>∃d T t x,xs=[x,.ty t]/\Rep X.D H d x/\tyS d=some T/\t∈["int","bool","str","list","tuple","dict"]/\Q (.bl (T==t||(T == "bool" && t == "int"))) H
theorem tM:x5 X (.builtin "isinstance") (rIsi X):=by
 intro b s σ H xs us Q I r h;obtain⟨d,T,t,x,rfl,f,i,g,q⟩:=h;obtain⟨u,w',rfl,e,a⟩:=Y3 r;cases a;exact tL I f e i g λ c=>⟨.bl _,H,I.tok c,rfl,q⟩
noncomputable def P9:Str->on zE:=λ x=>(["int","bool","str","list","tuple","dict"]:ge zE).find? λ t=>Str.ofString t==x
theorem hY(h:P9 x=some t):bootBuiltins x=some (.type t)/\t∈["int","bool","str","list","tuple","dict"]/\Str.ofString t=x:=by
 unfold P9 at h;have a:=List.mem_of_find?_eq_some h;have b:Str.ofString t=x:=by simpa using (List.find?_some h)
 refine⟨?_,a,b⟩;subst b;simp[e8,List.not_mem_nil,or_false]at a;rcases a with rfl | rfl | rfl | rfl | rfl | rfl
 ·exact boot_int
 ·exact boot_bool
 ·exact boot_str
 ·exact boot_list
 ·exact boot_tuple
 ·exact boot_dict
noncomputable def hZ:zE->ge Str
 | "NoneType"=>["NoneType"] | "bool"=>["bool","int"] | "int"=>["int"] | "str"=>["str"] | "tuple"=>["tuple"] | "list"=>["list"] | "dict"=>["dict"]
 | _=>[]
theorem tN:(["NoneType","bool","int","str","tuple","list","dict"]:ge zE).all (λ T=>(["int","bool","str","list","tuple","dict"]:ge zE).all λ t=>(hZ T).contains (Str.ofString t)==(T==t||(T == "bool" && t == "int")))=true:=by decide +kernel
theorem tO(h:P9 x=some t)(b:tyS d=some T):(tyOf d).contains x=(T==t||(T == "bool" && t == "int")):=by
 obtain⟨_,e,c⟩:=hY h;subst c;have a:∀T∈_,(hZ T).contains _=(T==t||_):=λ T b=>by have q:=w6.mp (w6.mp tN T b) t e;simpa using q
 cases d<;>cases b
 ·exact a "NoneType" (by simp)
 ·exact a "bool" (by simp)
 ·exact a "int" (by simp)
 ·exact a "str" (by simp)
 ·exact a "tuple" (by simp)
 ·exact a "list" (by simp)
 ·exact a "dict" (by simp)
theorem tP(n:P9 x=some t)(F:Gl X "isinstance")(z:X.mg "isinstance" = none)(j:Gl X x)(i:X.mg x=none)(g:x ≠ "__name__")(l:(x==("__debug__" : Str))=false)
  (I:∀q,ra=some q->PE X e (dE X.D E δ q)) (hs:j9 e=false) (h:(Re.thn ra λ y _=>(isiD G y [x]).map λ k=>.ok (.bl k) .strong)=some re):PE X (.Call (.Name "isinstance" p) [e,.Name x p'] [] pos) (dE X.D E δ re):=by
 obtain⟨N,m,M⟩:=hY n;have T:PE X (.Name x p') (tC (.ty t)):=ee j i N rfl g l;have C:=λ u (J:PE X e u)=>S9 (p:=p) (pos:=pos) tM F z boot_isinstance (A2 J (A2 T C8) (o6 hs)) (by decide) (by decide) (o6 hs)
 cases a:ra with
 | none=>rw[a]at h;cases h
 | some q=>
  rw[a]at h;have A:=I q a;cases q with
  | ex c=>cases h;exact(C _ A).weak λ r H Q ⟨O,W,R,p⟩=>⟨O,W,R,p⟩
  | ok d cl=>
   obtain⟨k,b,L⟩:=t7.mp (h);cases L;have f:∃T,tyS d=some T/\k=(tyOf d).contains x:=by
    unfold isiD at b;have w:J4.contains x=true:=by
     rw[←M];simp only[e8,List.not_mem_nil,or_false]at m;rcases m with rfl | rfl | rfl | rfl | rfl | rfl<;>decide +kernel
    cases d<;>first
     | (simp only[w,if_true]at b;cases b;exact⟨_,rfl,rfl⟩)
     | cases b
   obtain⟨T,o,B⟩:=f;exact(C _ A).weak λ r H Q ⟨O,W,R,p⟩=>⟨O,W,R,λ v P s1 K=>⟨d,T,t,v,rfl,K.all (R.hid.mono s1),o,m,by rw[←tO n o,←B];exact p _ P s1 M6⟩⟩
end
def TInj(K:zA)(H:Hp):Prop:=∀a xs ys,SqT K H a xs->SqT K H a ys->xs=ys
theorem ig(h:asC3 d=some c):d=c3 c:=by
 unfold asC3 at h;split at h
 ·cases h;rfl
 ·cases h
theorem tQ(h:asOt o=some d):o=some (.ot d):=by
 unfold asOt at h;split at h
 ·cases h;rfl
 ·cases h
theorem tR(h:asT o=some d):o=some (.t d):=by
 unfold asT at h;split at h
 ·cases h;rfl
 ·cases h
theorem tS(h:asFr o=some ds):o=some (.ok (.lst ds) .fresh):=by
 unfold asFr at h;split at h
 ·cases h;rfl
 ·cases h
theorem cH(h:caL (n+1) ds=true)(c:d∈ds):∃a b es,d=.tup [.int a,.int b,.lst es]/\caL n es=true:=by
 unfold caL at h;rw[d8,w6]at h;have:=h.2 d c;split at this
 ·exact⟨_,_,_,rfl,this⟩
 ·cases this
theorem cI(h:Rep D H (.tup [.int a,.int b,.lst es]) v):∃t q d,v=.ref t/\SqT D.K H t [.int a,.int b,.ref q]/\H q=some (.lst d)/\RepL D H es d:=by
 obtain⟨t,xs,o,e,c⟩:=x2.mp h;obtain⟨v1,i,rfl,n,c⟩:=m9.mp c;obtain⟨v2,g,rfl,m,c⟩:=m9.mp c;obtain⟨v3,f,rfl,l,c⟩:=m9.mp c;cases u3.mp c;rw[v7.mp n,v7.mp m]at e;obtain⟨q,d,rfl,k,j⟩:=x3.mp l;exact⟨t,q,d,o,e,k,j⟩
theorem ii(T:TInj D.K H):∀{n m:Nat} {w g:ge DV} {i:ge V},caL n w=true->caL m g=true->RepL D H w i->RepL D H g i->n=m
 | 0,0,_,_,_,_,_,_,_=>rfl
 | 0,m+1,[],[],_,_,f,_,_=>by cases f
 | 0,m+1,[],_::_,i,_,_,r,j=>by cases u3.mp r;obtain⟨_,_,e,_⟩:=m9.mp j;cases e
 | 0,m+1,_::_,_,_,h,_,_,_=>by cases h
 | n+1,0,[],_,_,h,_,_,_=>by cases h
 | n+1,0,_::_,[],i,_,_,r,j=>by cases u3.mp j;obtain⟨_,_,e,_⟩:=m9.mp r;cases e
 | n+1,0,_::_,_::_,_,_,f,_,_=>by cases f
 | n+1,m+1,[],_,_,h,_,_,_=>by cases h
 | n+1,m+1,_::_,[],_,_,f,_,_=>by cases f
 | n+1,m+1,d::w,d'::g,i,h,f,r,j=>by obtain⟨v,vs,rfl,z,_⟩:=m9.mp r;obtain⟨v',y,e,o,_⟩:=m9.mp j;cases e;obtain⟨a,b,es,rfl,c⟩:=cH h (i9 ..);obtain⟨a',b',A,rfl,I⟩:=cH f (i9 ..);obtain⟨t,q,zs,F,E,C,B⟩:=cI z;obtain⟨t',q',x,l,u,k,p⟩:=cI o;rw[F]at l;cases l;cases T _ _ _ E u;rw[C]at k;cases k;rw[ii T c I B p]
theorem ij(T:TInj D.K H)(l:H p=some (.lst w))(rp:RepL D H B w)(C:caL m B=true) :
  ∀{n:Nat} {e:ge DV} {f:ge V},n<=m->caL n e=true->RepL D (L2.wo O H) e f->RepL D (L2.wo (O++[p]) H) e f
 | 0,[],f,_,_,r=>u3.mpr (u3.mp r)
 | 0,_::_,_,_,h,_=>by cases h
 | n+1,e,f,hn,h,r=>by
  have L:∀(e:ge DV) (f:ge V),(∀d∈e,∃a b es,d=.tup [.int a,.int b,.lst es]/\caL n es=true)->RepL D (L2.wo O H) e f->RepL D (L2.wo (O++[p]) H) e f:=by
   intro e
   induction e with
   | nil=>exact λ f _ r=>u3.mpr (u3.mp r)
   | cons d e I=>
    intro f g r;obtain⟨v,y,rfl,F,E⟩:=m9.mp r;refine m9.mpr ⟨v,y,rfl,?_,I y (λ d K=>g d (i8 _ K)) E⟩;obtain⟨a,b,es,rfl,c⟩:=g d (i9 ..);obtain⟨t,q,u,rfl,N,M,A⟩:=cI F;obtain⟨i,k⟩:=x4 M;have o:q≠p:=λ z=>by subst z;rw[l]at k;cases k;have:=ii T c C (A.mono o8) rp;omega
    have j:L2.wo (O++[p]) H q=some (.lst u):=by
     rw[i6]
     ·exact k
     ·intro z;rcases List.mem_append.mp z with z | z
      ·exact i z
      ·exact o (v4.mp z)
    exact x2.mpr ⟨t,_,rfl,N.immut (λ x J=>by rw[v4.mp J];exact⟨_,l,rfl⟩),m9.mpr ⟨_,_,rfl,v7.mpr rfl,m9.mpr ⟨_,_,rfl,v7.mpr rfl,RepL.one (x3.mpr ⟨q,u,rfl,j,(ij T l rp C (by omega) c A)⟩)⟩⟩⟩
  exact L e f (λ d g=>cH h g) r
theorem ik:∀(l:ge zk),TriplesOk l->(∃i t,a=.int i t)->(∃i t,b=.int i t)->codeAmong pos' (l++[a,b,c])=some cv->codeAmong pos' l=some cv\/cv=c
 | [],_,⟨i,t,k⟩,⟨j,u,g⟩,h=>by
  subst k g;have d:(if i==pos'.line&&j==pos'.col then some c else codeAmong pos' [])=some cv:=h;split at d
  ·exact .inr (Option.some.inj d).symm
  ·cases d
 | .int i t :: .int j u::x::r,ok,f,e,h=>by
  have d:(if i==pos'.line&&j==pos'.col then some x else codeAmong pos' _)=some cv:=h;show(if i==pos'.line&&j==pos'.col then some x else codeAmong pos' r)=some cv\/cv=c;split at d
  ·rename_i z;rw[d6 z];exact .inl d
  ·rename_i z;rw[d9 z];exact ik r ok f e d
theorem io(e:∃i t,a=.int i t)(d:∃i t,b=.int i t):∀(l:ge zk),TriplesOk l->TriplesOk (l++[a,b,c])
 | [],_=>by obtain⟨i,t,rfl⟩:=e;obtain⟨j,u,rfl⟩:=d;exact trivial
 | .int i t :: .int j u::x::r,ok=>io e d r ok
structure LamAt(X:Cx)(scope:Scope)(c P:Addr):Prop where
 code:X.env.code=.ref c
 hd:∀h:Heap,X.K.In h->PySem.W.CodeHd h c P
 tab:(P,X.env.qual ++ "<lambda>")∈u6 X.K
 fre:∀y∈scope.names,y.2=NameKind.free->X.env.kindOf y.1=some .cell
theorem LamAt.has(L:LamAt X scope c P)(ok:X.Ok):∀y∈scope.names,y.2=NameKind.free->∃a,X.env.cells.lookup y.1=some a:=λ y b d=>ok.has y.1 (.inl (L.fre y b d))
section
theorem tU(I:Inv X p σ H s)(L:LamAt X scope c P)(Z:defaultsOf g X.env=([],[]))
  (h:∀f H' s',Inv X p σ H' s'->Same H H'->H f=none->E6 H' (X.env.qual ++ "<lambda>") g body scope (n7 X.env.cells scope.names []) f->Q (.ref f) s') :
  wpAny M A (eval (.Lambda g body scope pos) X.env) Q E s:=by
 refine PySem.W.kla_eval Z ?_;have hP:=I.tabs _ L.tab;obtain⟨ps,hp,ht,good⟩:=I.hok _ _ hP;have a1:=bn (scope:=scope) (env:=X.env) (L.has I.ok);have hg:s.heap.Ns mainGlobals X.mg:=I.ok.mod.glob.keeps I.bk;have a8:mainGlobals≠P:=λ z=>by obtain⟨o,es,ep,e,d,_⟩:=hg;rw[z,hp]at e;cases e;cases d
 obtain⟨bm,ob,b1,b2,b3,b4,b5,b6⟩:=I.ok.mod.bmod;have m:=I.bs _ _ b3;have b0:bm≠P:=λ z=>by rw[z,hP]at m;cases m.2
 have b7:bm≠mainGlobals:=λ z=>by obtain⟨o,es,ep,e,d,_⟩:=hg;rw[←z,m.1]at e;cases e;rw[b6]at d;cases d
 have hb:s.heap.BuiltinsAt X.mg P:=⟨bm,ob,b1,b2,b7,b0,m.1,b4,b5,b6⟩;have C:=L.hd s.heap I.kIn;cases hf:codeAmong pos ps.toList with
 | some cv=>
  obtain⟨j,F,u,vs,t,e1,e2,e3,e4⟩:=good pos cv hf;subst e1;refine PySem.W.kla_makeFunctionHit (mg:=X.mg) a1 I.ok.glob hg L.code C hp ht hf hb λ l i tk hk O=>?_
  have hn:H i.objs.size=none:=I.hok.fresh O;refine h _ (upd H i.objs.size (.frz _ (.own i.objs.size))) _ (I.laid (t':=tk) (λ b u e=>f9 _ (hk b u e)) O ⟨n6 _ rfl,_,n6 _ rfl⟩) (r9 hn) hn ?_;refine⟨j,F,u,vs,t,_,l,v6,?_,e3,e4⟩;rw[j4 (A0 e2 hn)];exact e2
 | none=>
  refine PySem.W.kla_makeFunction (mg:=X.mg) a1 I.ok.glob hg L.code C hp ht hf a8 hb λ j l i tk hx k v R N=>?_;obtain⟨b9,F,vs,t,e2,S,hd,hv⟩:=R;cases e2;have a7:H j=none:=I.hok.fresh k;have U:H i.objs.size=none:=I.hok.fresh (g9 k (Nat.le_of_lt v));have a9:j≠i.objs.size:=j7 v;have K:∀{b:zn} {u:HO},H b=some u->b≠j/\b≠i.objs.size:=λ e=>⟨A0 e a7,A0 e U⟩;have r:∀{b:zn} {o:Obj},s.heap.get? b=some o->b≠j/\b≠i.objs.size:=λ {b o} e=>⟨j7 (p6 (i5 e) k),j7 (p6 (i5 e) (g9 k (Nat.le_of_lt v)))⟩;generalize Y:PySem.W.kla_obj "<lambda>" (X.env.qual ++ "<lambda>") g body scope (n7 X.env.cells scope.names []) ((X.mg "__name__").getD .none) j l=fo;have W:fo.isFreed=false:=by rw[←Y];rfl
  generalize x:upd (upd H j (.frz F (.own j))) i.objs.size (.frz fo (.own i.objs.size))=H';have a3:H' i.objs.size=some (.frz fo (.own i.objs.size)):=by rw[←x];exact v6
  have B:H' j=some (.frz F (.own j)):=by rw[←x,j4 a9];exact v6
  have y:∀{b:zn},b≠j->b≠i.objs.size->H' b=H b:=λ h1 h2=>by rw[←x,j4 h2,j4 h1]
  have sm:Same H H':=λ b o e=>by rw[y (K e).1 (K e).2];exact e
  have kp:∀b o,b≠P->s.heap.get? b=some o->(i.push fo).get? b=some o:=λ b o hb e=>f9 _ (hx b o hb e);have a2:∀b,H b=none->b≠P:=λ b n z=>by rw[z,hP]at n;cases n
  have un:Un X.fs [] H H' s.heap (i.push fo):=by
   refine⟨λ b o e n _ _=>kp b o (a2 b n) e,λ b o e n _ _=>⟨o.slots,kp b o (a2 b n) e⟩,λ b o e n _=>by rw[y (r e).1 (r e).2];exact n,λ b o e _=>?_,λ b xs e=>sm _ _ e,λ b o u e=>sm _ _ e,λ b q e=>sm _ _ e⟩;by_cases z:b=P
   ·subst z;exact⟨_,f9 _ N⟩
   ·exact⟨o,kp b o z e⟩
  have a6:HOk X.prog X.w H' (i.push fo):=λ b u e=>by
   by_cases z1:b=i.objs.size
   ·subst z1;rw[a3]at e;cases e;exact⟨n6 _ W,_,n6 _ W⟩
   ·by_cases z2:b=j
    ·subst z2;rw[B]at e;cases e;exact⟨f9 _ S,_,f9 _ S⟩
    ·rw[y z2 z1]at e;by_cases z3:b=P
     ·subst z3;rw[hP]at e;cases e;refine⟨_,f9 _ N,?_,λ J cv a0=>?_⟩
      ·rw[Array.toList_append];exact io ⟨_,_,rfl⟩ ⟨_,_,rfl⟩ _ ht
      ·rw[Array.toList_append]at a0;rcases ik (a:=rawInt pos.line) (b:=rawInt pos.col) (c:=.ref j) ps.toList ht ⟨_,_,rfl⟩ ⟨_,_,rfl⟩ a0 with w | w
       ·obtain⟨c2,a5,u2,a4,t2,f1,f2,f3,f4⟩:=good J cv w;exact⟨c2,a5,u2,a4,t2,f1,sm _ _ f2,f3,f4⟩
       ·exact⟨j,F,_,vs,t,w,B,hd,hv⟩
     ·refine(I.hok b u e).stay (λ b' u' b8 q=>kp b' u' ?_ q) (λ b' q=>sm _ _ q) (λ b' xs q=>sm _ _ q) λ b' _ _ _ _ q=>sm _ _ q;rcases b8 with w | w
      ·rw[w];exact z3
      ·intro z;rw[z,hP]at w;cases w
  refine h i.objs.size H' _ (I.un (t':=tk) un a6) sm U ⟨j,F,_,vs,t,(X.mg "__name__").getD .none,l,by rw[a3,←Y],B,hd,hv⟩
end
end L2
namespace L2
open PySem PySem.Spec PyProof.Rows
noncomputable def trC(l:ge zn)(h:zo)(H:Hp):Hp:=λ b=>if b∈l then(h.get? b).map λ o=>HO.frz o (.own b)else H b
theorem aq(a:b∈l)(e:h.get? b=some o):trC l h H b=some (.frz o (.own b)):=by
 unfold trC;rw[d6 a,e];rfl
theorem M7(a:b∉l):trC l h H b=H b:=d9 a
structure Cells(l:List Addr)(h:Heap)(H:Hp):Prop where
 none:∀c∈l,H c=none
 cel:∀c∈l,∃o v,h.get? c=some o/\o.data=.cell v
section
variable {P:zu} {w:zt} {K:zA} {mg:Str->on zk} {base:zo} {A:zw} {outer:ge Env} {s s':zm} {H:Hp} {l:ge zn} {Q Q':VK} {u:zk}
theorem Cells.same(C:Cells l s.heap H):Same H (trC l s.heap H):=λ b o e=>by
 rw[M7 λ z=>by rw[C.none b z]at e;cases e];exact e
theorem HOk.trC(C:Cells l s.heap H)(x:HOk P w H s.heap):HOk P w (trC l s.heap H) s.heap:=λ b u e=>by
 by_cases hb:b∈l
 ·obtain⟨o,v,g,_⟩:=C.cel b hb;rw[aq hb g]at e;cases e;exact⟨g,o,g⟩
 ·rw[M7 hb]at e;exact(x b u e).stay (λ _ _ _ q=>q) (λ _ q=>C.same _ _ q) (λ _ _ q=>C.same _ _ q) λ _ _ _ _ _ q=>C.same _ _ q
theorem Env0.trC(C:Cells l s.heap H)(hb:∀c∈l,base.get? c=none)(hf:∀c∈l,c∉frs outer)(e:Env0 P w K mg base A outer s H):Env0 P w K mg base A outer s (trC l s.heap H):=
 ⟨e.frames,e.mod,λ b o q=>⟨(e.bs b o q).1,by rw[M7 λ z=>by rw[hb b z]at q;cases q];exact(e.bs b o q).2⟩,e.bsz,e.funs,⟨λ b q=>by rw[M7 λ z=>hf b z q];exact e.frf.1 b q,λ p hp=>C.same _ _ (e.frf.2 p hp)⟩,HOk.trC C e.hok,e.bare⟩
theorem CE.trC(C:Cells l s.heap H)(h:CE outer P w (trC l s.heap H) s Q' u s')(hq:∀v H',Same (trC l s.heap H) H'->Q' v H'->Q v (L2.wo l H'))(hs:∀v H',Q' v H'->Same (trC l s.heap H) H'):CE outer P w H s Q u s':=by
 obtain⟨v,H',os,bare,un,hok,r,q⟩:=h;have at1:∀{b:zn},b∈l->∃o v,s.heap.get? b=some o/\o.data=.cell v/\H' b=some (.frz o (.own b))/\s'.heap.get? b=some o:=λ {b} hb=>by obtain⟨o,v,g,d⟩:=C.cel b hb;have z:=un.frzs b o _ (aq hb g);exact⟨o,v,g,d,z,(hok b _ z).1⟩
 refine⟨v,L2.wo l H',os,bare,⟨λ b o e n hf hx=>?_,λ b o e n hf hx=>?_,λ b o e n hx=>?_,un.there,λ b xs e=>?_,λ b o x e=>?_,λ b x e=>?_⟩,λ b x e=>?_,r,hq v H' (hs v H' q) q⟩
 ·by_cases hb:b∈l
  ·obtain⟨o',_,g,_,_,g'⟩:=at1 hb;rw[e]at g;cases g;exact g'
  ·exact un.keep b o e (by rw[M7 hb];exact n) hf hx
 ·by_cases hb:b∈l
  ·obtain⟨o',_,g,_,_,g'⟩:=at1 hb;rw[e]at g;cases g;exact⟨o.slots,g'⟩
  ·exact un.slot b o e (by rw[M7 hb];exact n) hf hx
 ·by_cases hb:b∈l
  ·exact P2 hb
  ·rw[i6 hb];exact un.free b o e (by rw[M7 hb];exact n) hx
 ·rw[i6 λ z=>by rw[C.none b z]at e;cases e];exact un.tups b xs (C.same _ _ e)
 ·rw[i6 λ z=>by rw[C.none b z]at e;cases e];exact un.frzs b o x (C.same _ _ e)
 ·rw[i6 λ z=>by rw[C.none b z]at e;cases e];exact un.tbls b x (C.same _ _ e)
 ·obtain⟨hb,e⟩:=x4 e;refine(hok b x e).stay (λ _ _ _ q=>q) (λ b' q=>?_) (λ b' _ q=>?_) λ b' o' _ vs d q=>?_
  ·rw[i6 λ z=>by obtain⟨_,_,_,_,g,_⟩:=at1 z;rw[q]at g;cases g];exact q
  ·rw[i6 λ z=>by obtain⟨_,_,_,_,g,_⟩:=at1 z;rw[q]at g;cases g];exact q
  ·rw[i6 λ z=>by obtain⟨_,_,_,d',g,_⟩:=at1 z;rw[q]at g;cases g;rw[d]at d';cases d'];exact q
structure CellsT(l:List Addr)(h:Heap)(H:Hp):Prop where
 at_:∀c∈l,∃o v,H c=some (.frz o (.own c))/\h.get? c=some o/\o.data=.cell v
noncomputable def ov(l:ge zn)(H H':Hp):Hp:=λ b=>if b∈l then H b else H' b
theorem cJ{H':Hp}{b:zn}(h:b∈l):ov l H H' b=H b:=d6 h
theorem K6{H':Hp}{b:zn}(h:b∉l):ov l H H' b=H' b:=d9 h
theorem HOk.woC(C:CellsT l s.heap H)(x:HOk P w H s.heap):HOk P w (L2.wo l H) s.heap:=λ b u e=>by
 obtain⟨hb,e⟩:=x4 e;refine(x b u e).stay (λ _ _ _ q=>q) (λ c q=>?_) (λ c _ q=>?_) λ c o' _ vs d q=>?_
 ·rw[i6 λ z=>by obtain⟨_,_,g,_⟩:=C.at_ _ z;rw[q]at g;cases g];exact q
 ·rw[i6 λ z=>by obtain⟨_,_,g,_⟩:=C.at_ _ z;rw[q]at g;cases g];exact q
 ·rw[i6 λ z=>by obtain⟨_,_,g,_,a⟩:=C.at_ _ z;rw[q]at g;cases g;rw[d]at a;cases a];exact q
theorem CE.woC(C:CellsT l s.heap H)(m:∀b∈frs outer,H b=none)(h:CE outer P w (L2.wo l H) s Q' u s')(J:∀v i,(∀c∈l,i c=none)->Q' v i->Q v (ov l H i)):CE outer P w H s Q u s':=by
 obtain⟨v,i,F,p,un,A,r,q⟩:=h;have I:∀c∈l,c∉frs outer:=λ c y z=>by obtain⟨_,_,g,_⟩:=C.at_ c y;rw[m c z]at g;cases g
 have f:∀c∈l,i c=none:=λ c y=>by obtain⟨o,_,_,g,_⟩:=C.at_ c y;exact un.free c o g (P2 y) (by simp)
 refine⟨v,ov l H i,F,p,⟨λ b o e n m j=>?_,λ b o e n m j=>?_,λ b o e n j=>?_,un.there,λ b E e=>?_,λ b o x e=>?_,λ b x e=>?_⟩,λ b x e=>?_,r,J v i f q⟩
 ·have a:b∉l:=λ z=>by obtain⟨_,_,g,_⟩:=C.at_ b z;rw[n]at g;cases g
  exact un.keep b o e (by rw[i6 a];exact n) m j
 ·have a:b∉l:=λ z=>by obtain⟨_,_,g,_⟩:=C.at_ b z;rw[n]at g;cases g
  exact un.slot b o e (by rw[i6 a];exact n) m j
 ·have a:b∉l:=λ z=>by obtain⟨_,_,g,_⟩:=C.at_ b z;rw[n]at g;cases g
  rw[K6 a];exact un.free b o e (by rw[i6 a];exact n) j
 ·have a:b∉l:=λ z=>by obtain⟨_,_,g,_⟩:=C.at_ b z;rw[e]at g;cases g
  rw[K6 a];exact un.tups b E (by rw[i6 a];exact e)
 ·by_cases a:b∈l
  ·rw[cJ a];exact e
  ·rw[K6 a];exact un.frzs b o x (by rw[i6 a];exact e)
 ·have a:b∉l:=λ z=>by obtain⟨_,_,g,_⟩:=C.at_ b z;rw[e]at g;cases g
  rw[K6 a];exact un.tbls b x (by rw[i6 a];exact e)
 ·by_cases a:b∈l
  ·rw[cJ a]at e;obtain⟨o,_,g,K,_⟩:=C.at_ b a;rw[g]at e;cases e;have k:=un.keep b o K (P2 a) (I b a) (by simp);exact⟨k,o,k⟩
  ·rw[K6 a]at e;refine(A b x e).stay (λ _ _ _ q=>q) (λ B q=>?_) (λ B _ q=>?_) λ B o' _ vs d q=>?_
   all_goals (rw[K6 λ z=>by rw[f _ z]at q;cases q];exact q)
end
noncomputable def ar(P:zu)(w:zt)(K:zA)(mg:Str->on zk)(base:zo)(N:ge Str)(qual:Str)(scope:zB)(f:zn)(cd:zk)(cl:ge (Str×zn))(A:zw)(outer:ge Env)(s:zm)(H:Hp):Cx where
 prog:=P
 w:=w
 K:=K
 mg:=mg
 base:=base
 A:=A.deeper (PySem.W.envX qual scope s.heap.objs.size f cd cl)
 N:=N
 s₀:=s
 H₀:=H
 env:=PySem.W.envX qual scope s.heap.objs.size f cd cl
 outer:=outer
 stack:=PySem.W.envX qual scope s.heap.objs.size f cd cl::outer
 ex:=[]
 calm:=true
 fn:=λ _=>false
 pn:=[]
 xe:=λ _ _=>False
section
theorem tV{P:zu}{w:zt}{K:zA}{base:zo}{A:zw}{j:ge Env}{s:zm}{H:Hp}{l:ge zn}{N ps:ge Str}{q:Str}{scope:zB}{f:zn}{M:ge zk}{vs ws:ge V}{cd:zk}{k:zo}{tk:Nat}(S:LamScope N ps scope cl l)(C:CellsT l s.heap H)(hd:A.handled=none)(B:Env0 P w K mg base A j s H)(hl:vs.length=ps.length)(r:Vals vs M)(Z:N.length=ps.length+ws.length)
  (hw:∀i x v,N[ps.length+i]? = some x->ws[i]? = some v->∃c u,cl.lookup x=some c/\s.heap.IsCell c (some u)/\RelV v u)
  (Y:k.Ns s.heap.objs.size (λ x=>(ps.zip M).reverse.lookup x)) (R:∀b o,s.heap.get? b=some o->k.get? b=some o) :
  Inv (ar P w K mg base N q scope f cd cl A j s (L2.wo l H)) [] ((vs++ws).map some) (L2.wo l H) {s with heap:=k,toks:=tk}:=by
 have nl:∀{b:zn},H b=none->b∉l:=λ {b} n z=>by obtain⟨_,_,g,_⟩:=C.at_ b z;rw[n]at g;cases g
 have I:∀b:zn,b∉(ar P w K mg base N q scope f cd cl A j s (L2.wo l H)).ex:=λ b z=>absurd (show b∈([]:ge zn)from z) (by simp);have U:∀{b:zn},H b=none->L2.wo l H b=none:=λ {b} n=>by rw[i6 (nl n)];exact n
 have F:∀x c,cl.lookup x=some c->∃v,k.IsCell c v:=λ x c e=>by obtain⟨o,v,_,g,d⟩:=C.at_ c (S.mem x c e);exact⟨v,o,R _ _ g,d⟩
 refine⟨⟨B.mod,S.kind,rfl,rfl,i7 _,S.inj,λ y J=>?_,λ y c z=>(nomatch z),λ _=>hd,Around.frames_deeper B.frames,.inr ⟨rfl,rfl⟩,λ b z=>absurd z (I b),λ b o e=>⟨(B.bs b o e).1,U (B.bs b o e).2⟩,B.bsz,λ b _ _=>I b,λ b z=>absurd z (I b),B.funs,λ b hb=>U (B.frf.1 b hb),λ p L=>?_⟩,
  rfl,B.bare,Un.kept R,⟨_,Y,λ i y v Q O h3=>?_⟩,F,?_,λ y c h=>P2 (S.mem y c h),λ p L=>absurd (show p∈([]:ge (zn×Obj))from L) (by simp),(HOk.woC C B.hok).kept R,?_⟩
 ·have J:=J;rcases J with J | J
  ·exact absurd rfl (S.nocell _ (PySem.mem_of_lookup J))
  ·exact S.has y J
 ·have z:=B.frf.2 p L;show L2.wo l H p.1=_;rw[i6 λ m=>by obtain⟨_,_,g,_⟩:=C.at_ _ m;rw[z]at g;cases g];exact z
 ·have Q:N[i]? = some y:=Q;rw[u4]at O;have E:(vs++ws)[i]? = some v:=by
   cases z:(vs++ws)[i]? with
   | none=>rw[z]at O;cases O
   | some a=>rw[z]at O;exact congrArg some (Option.some.inj (Option.some.inj O))
  by_cases hi:i<ps.length
  ·rw[List.getElem?_append_left (by omega)]at E;obtain⟨u,hu,rv⟩:=r.get E;have L:ps[i]? = some y:=by rw[←S.pre,List.getElem?_take_of_lt hi];exact Q
   have W:ps.Nodup:=by rw[←S.pre];exact S.nd.sublist (List.take_sublist _ _)
   refine⟨u,rv,.inl ⟨S.par y (List.mem_of_getElem? L),?_⟩⟩;show(ps.zip M).reverse.lookup y=some u;have X:((ps.zip M).reverse.map (·.1)).Nodup:=by rw[List.map_reverse,List.map_fst_zip (by have:=r.length;omega)];exact List.pairwise_reverse.mpr (List.Pairwise.imp (λ h=>Ne.symm h) W)
   refine L5 X (List.mem_reverse.mpr ?_);have hz:(ps.zip M)[i]? = some (y,u):=by rw[List.getElem?_zip_eq_some];exact⟨L,hu⟩
   exact List.mem_of_getElem? hz
  ·rw[List.getElem?_append_right (by omega)]at E;obtain⟨c,u,e1,e2,e3⟩:=hw (i - vs.length) y v (by rw[show ps.length+(i - vs.length)=i by omega];exact Q) E;exact⟨u,e3,.inr ⟨.inr (S.fre i y (by omega) Q),c,e1,e2.keeps R⟩⟩
 ·show L2.wo l H s.heap.objs.size=none;exact U (B.hok.fresh (i7 _))
 ·show((vs++ws).map some).length=N.length;rw[e7,v0];omega
theorem tW{K:zA}(S:LamScope N ps scope cl l)(C:CellsT l s.heap H)(M:A.depth<recursionLimit/\A.handled=none)(m:Env0 P w K mg base A outer s H)(hf:E6 H q params body scope cl f)
  (h:∀B a j,bindArgs (PySem.W.kla_fn "<lambda>" q params body scope cl B (.ref a) j) ⟨us,[]⟩=pure (ps.zip us)) (hl:vs.length=ps.length) (r:Vals vs us) (p:N.length=ps.length+ws.length)
  (Y:∀i x v,N[ps.length+i]? = some x->ws[i]? = some v->∃c u,cl.lookup x=some c/\s.heap.IsCell c (some u)/\RelV v u)
  (g:∀a,∃t,PE (ar P w K mg base N q scope f (.ref a) cl A outer s (L2.wo l H)) body t/\t ((vs++ws).map some) (L2.wo l H) (λ v k=>(∀c∈l,k c=none)->Q v (ov l H k))) :
  codeAny (model P w) A (.call (.ref f) ⟨us,[]⟩) (CR CX outer P w H s Q E) s:=by
 obtain⟨a,W,u,y,t,B,j,h1,h2,h3,h4⟩:=hf;refine PySem.W.kla_callFunE M.1 ((m.hok f _ h1).1) rfl S.co S.gen rfl ⟨a,W,y,t,rfl,((m.hok a _ h2).1),h3,h4⟩ ?_;show wpAny _ _ _ _ _ s;rw[h B a j];refine d7 (wpAny_newFunctionEnv S.nocell (λ x X=>S.par x.1 (List.of_mem_zip X).1) (λ L I n=>⟨(m.mod.nolimit.keeps λ b o e=>(m.bs b o e).1).fresh _ n,?_⟩) S.kind);show codeAny _ _ _ _ _;obtain⟨t,Z,hq⟩:=g a;exact PySem.W.kla_codeExpr (wpAny_mono (Z [] _ _ _ _ (tV S C M.2 m hl r p Y I (λ b o e=>n.extBut b o (j7 (i5 e)) (f9 _ e))) hq) (λ v R ⟨O,k,J,U,z⟩=>CE.woC (Q':=λ v k=>(∀c∈l,k c=none)->Q v (ov l H k)) C m.frf.1 ⟨O,k,J.os,J.bare,J.base,J.hok,U,z⟩ λ _ _ z q=>q z) λ e R z=>(z:False).elim)
end
structure RoomL(k:Nat)(A:Around):Prop where
 hd:A.handled=none
 dp:A.depth+3*k+5<recursionLimit
 un:A.units+16*k+198<cLine
theorem Room.toL2(r:Room k A):RoomL k A.in1.in1:=⟨r.hd,r.dp,by have:=r.un;show A.units+1+1+16*k+198<_;omega⟩
theorem RoomL.deeper(r:RoomL (k+1) A)(env:Env):Room k (A.deeper env):=
 ⟨r.hd,by have:=r.dp;show A.depth+1+3*k+5<_;omega,by have:=r.un;show A.units+3+16*k+200<_;omega⟩
theorem RoomL.ok(r:RoomL k A):A.depth<recursionLimit/\A.handled=none:=⟨by have:=r.dp;omega,r.hd⟩
def Q0(P:zu)(w:zt)(K:zA)(mg:Str->on zk)(base:zo)(fn bl cl:ge Str)(k:Nat)(Fl:ge DV->on Ou):Prop:=
 ∀(A:zw) (outer:ge Env) (s:zm) (H:Hp) (us:ge zk) (vs:ge V) (Q:VK) (E:XK) (O:ge zn) (f:zn) (m:LamD) (cs ds:ge DV) (d:DV),RoomL k A->Env0 P w K mg base A outer s H->Vals vs us->Hdn O H->m.fn=fn->m.bl=bl->m.cl=cl ->
  Rep ⟨K,mg⟩ (L2.wo O H) (.lam m cs) (.ref f)->RepL ⟨K,mg⟩ (L2.wo O H) ds vs->Fl (.lam m cs::ds)=some (.v d false)->(∀v H',Same H H'->Rep ⟨K,mg⟩ (L2.wo O H') d v->Q v H') ->
  codeAny (model P w) A (.call (.ref f) ⟨us,[]⟩) (CR (CXx P w base) outer P w H s Q E) s
section
end
section
variable {D:Dm} {O l:ge zn} {H:Hp}
theorem V5(d:∀c∈l,∃o,H c=some (.frz o (.own c)))(h:L2.wo O H b=some u)(a:∀o c,u ≠ .frz o (.own c)):L2.wo O (L2.wo l H) b=some u:=by
 obtain⟨f,e⟩:=x4 h;rw[i6 f,i6 λ z=>by obtain⟨o,g⟩:=d b z;rw[e]at g;cases g;exact a _ _ rfl];exact e
mutual
theorem tX(hl:∀c∈l,∃o,H c=some (.frz o (.own c))):∀{d:DV} {v:V},d.nolam=true->Rep D (L2.wo O H) d v->Rep D (L2.wo O (L2.wo l H)) d v
 | .non,_,_,h=>by unfold Rep at h ⊢;exact h
 | .bl _,_,_,h=>by unfold Rep at h ⊢;exact h
 | .int _,_,_,h=>by unfold Rep at h ⊢;exact h
 | .str _,_,_,h=>by unfold Rep at h ⊢;exact h
 | .tup ds,_,m,h=>by
  unfold Rep at h ⊢;obtain⟨a,xs,e1,e2,e3⟩:=h;unfold DV.nolam at m;refine⟨a,xs,e1,?_,V6 hl m e3⟩;rcases e2 with(h | ⟨o,h⟩) | h
  ·exact .inl (.inl (V5 hl h (by intro o c z;cases z)))
  ·exact .inl (.inr ⟨o,V5 hl h (by intro o c z;cases z)⟩)
  ·exact .inr h
 | .lst ds,_,m,h=>by unfold Rep at h ⊢;obtain⟨a,xs,e1,e2,e3⟩:=h;unfold DV.nolam at m;exact⟨a,xs,e1,V5 hl e2 (by intro o c z;cases z),V6 hl m e3⟩
 | .dct _ _,_,_,h=>(bY h).elim
 | .exc C,_,_,h=>by unfold Rep at h ⊢;obtain⟨a,C,e1,e2,e3⟩:=h;exact⟨a,C,e1,e2,V5 hl e3 (by intro o c z;cases z)⟩
 | .fn _,_,_,h=>by unfold Rep at h ⊢;exact h
 | .lam _ _,_,m,_=>by unfold DV.nolam at m;cases m
 | .scr _,_,_,h=>by
  unfold Rep at h ⊢;obtain⟨a,e1,e2⟩:=h;refine⟨a,e1,?_⟩;rcases e2 with⟨o,h⟩ | h
  ·exact .inl ⟨o,V5 hl h (by intro o c z;cases z)⟩
  ·exact .inr h
theorem V6(hl:∀c∈l,∃o,H c=some (.frz o (.own c))):∀{ds:ge DV} {xs:ge V},DV.nolams ds=true->RepL D (L2.wo O H) ds xs->RepL D (L2.wo O (L2.wo l H)) ds xs
 | [],_,_,h=>by unfold RepL at h ⊢;exact h
 | d::ds,_,m,h=>by unfold RepL at h ⊢;obtain⟨v,vs,e1,e2,e3⟩:=h;unfold DV.nolams at m;rw[d8]at m;exact⟨v,vs,e1,tX hl m.1 e2,V6 hl m.2 e3⟩
end
end
section
variable {X:Cx} {pins:ge (zn×Obj)} {σ:St} {H:Hp} {s:zm} {sc:zB} {N ps:ge Str}
theorem cK(d:∀y∈sc.names,y.2=NameKind.free->∃a,b.lookup y.1=some a)(h:(n7 b sc.names []).lookup x=some c):b.lookup x=some c/\(x,NameKind.free)∈sc.names:=by
 rcases T3 d (PySem.mem_of_lookup h)with z | z
 ·cases z
 ·exact z
theorem iq(g:∀y∈sc.names,y.2=NameKind.free->∃a,b.lookup y.1=some a)(f:(x,NameKind.free)∈sc.names)(d:b.lookup x=some c):(n7 b sc.names []).lookup x=some c:=by
 obtain⟨c',e⟩:=bq (Y6 f d);have:=(cK g e).1;rw[d]at this;cases this;exact e
structure LamTx(N ps:List Str)(sc:Scope):Prop where
 kind:sc.kind=.function
 co:sc.isCoroutine=false
 gen:sc.isGenerator=false
 nd:N.Nodup
 pre:N.take ps.length=ps
 par:∀x∈ps,sc.names.lookup x=some .local
 nocell:∀y∈sc.names,y.2 ≠ .cell
 fre:∀i x,ps.length<=i->N[i]? = some x->sc.names.lookup x=some .free
theorem LamTx.full(T:LamTx N ps sc)(I:Inv X pins σ H s)(b:∀y∈sc.names,y.2=NameKind.free->∃a,X.env.cells.lookup y.1=some a):LamScope N ps sc (n7 X.env.cells sc.names []) ((n7 X.env.cells sc.names []).map (·.2)) where
 kind:=T.kind
 co:=T.co
 gen:=T.gen
 nd:=T.nd
 pre:=T.pre
 par:=T.par
 nocell:=T.nocell
 fre:=T.fre
 has:=λ x h=>by have d:=PySem.mem_of_lookup h;obtain⟨c,e⟩:=b _ d rfl;exact⟨c,iq b d e⟩
 inj:=λ x y c g f=>I.ok.inj x y c (cK b g).1 (cK b f).1
 mem:=λ x c h=>k8.mpr ⟨_,PySem.mem_of_lookup h,rfl⟩
theorem cL(I:Inv X pins σ H s)(d:∀y∈sc.names,y.2=NameKind.free->∃a,X.env.cells.lookup y.1=some a):∀c∈(n7 X.env.cells sc.names []).map (·.2),∃x,X.env.cells.lookup x=some c/\(x,NameKind.free)∈sc.names:=λ c e=>by
 obtain⟨⟨x,c'⟩,b,rfl⟩:=k8.mp e;rcases T3 d b with z | z
 ·cases z
 ·exact⟨x,z.1,z.2⟩
theorem Cells.of(I:Inv X pins σ H s)(f:∀y∈sc.names,y.2=NameKind.free->∃a,X.env.cells.lookup y.1=some a):Cells ((n7 X.env.cells sc.names []).map (·.2)) s.heap H where
 none:=λ c b=>by obtain⟨x,e,_⟩:=cL I f c b;exact I.freeC x c e
 cel:=λ c b=>by obtain⟨x,e,_⟩:=cL I f c b;obtain⟨v,o,g,d⟩:=I.cell x c e;exact⟨o,v,g,d⟩
theorem tY(I:Inv X pins σ H s)(h:∀y∈sc.names,y.2=NameKind.free->∃a,X.env.cells.lookup y.1=some a)(d:∀y∈sc.names,y.2=NameKind.free->X.fn y.1=true):∀c∈(n7 X.env.cells sc.names []).map (·.2),X.base.get? c=none/\c∉frs X.stack:=λ c i=>by
 obtain⟨x,e,g⟩:=cL I h c i;have b:=I.ok.cab x c (d _ g rfl) e;refine⟨Heap.get?_none_of_le (g9 I.ok.bsz b),λ z=>?_⟩;rcases e8.mp (I.stkSub c z)with w | w
 ·exact I.cne x c e w
 ·obtain⟨_,o,f,_⟩:=I.ok.funs.mem w
  exact absurd (p6 (i5 f) b) (Nat.lt_irrefl _)
end
section
variable {X:Cx} {E:St->XK} {δ:ge Sv} {ea eb bd:zq} {pos p lp:Pos} {re:Re} {k:Nat} {x:Str} {pr:zC} {sc:zB} {c P:zn} {m:LamD} {cs:ge DV} {fr:ge Nat}
def tLam(X:Cx)(pr:zC)(bd:zq)(sc:zB):TE:=λ _ H Q=>∀f H',Same H H'->H f=none->E6 H' (X.env.qual ++ "<lambda>") pr bd sc (n7 X.env.cells sc.names []) f->Q (.ref f) H'
theorem tZ(L:LamAt X sc c P)(a:defaultsOf pr X.env=([],[])):PE X (.Lambda pr bd sc lp) (tLam X pr bd sc):=by
 intro b s σ H Q I h;exact tU I L a λ f d s' g sm e lf=>⟨.ref f,d,g,rfl,h f d sm e lf⟩
theorem ir(R:RSt D H σ δ O W):∀{b:ge Nat} {cs:ge DV},capD δ b=some cs->∃a:ge V,a.length=b.length/\RepL D (L2.wo (O++W) H) cs a/\∀(j i:Nat) v,b[j]? = some i->a[j]? = some v->σ[i]? = some (some v)
 | [],cs,h=>by cases h;exact⟨[],rfl,by unfold RepL;rfl,λ j i v h=>by cases h⟩
 | i::r,cs,h=>by
  unfold capD at h;split at h
  ·rename_i d ds q p;split at h
   ·cases h;obtain⟨a,l,k,g⟩:=ir R p;obtain⟨v,o,n⟩:=R.val i d q;refine⟨v::a,by rw[p9,p9,l],m9.mpr ⟨v,a,rfl,n,k⟩,λ j m f e c=>?_⟩;cases j with
    | zero=>cases e;cases c;exact o
    | succ j=>exact g j m f e c
   ·cases h
  ·cases h
end
section
variable {X:Cx} {E:St->XK} {δ:ge Sv} {v:zq} {te:TE} {pos kpos:Pos} {i:Int} {j:Nat}
end
structure Wk(D:Dm)(J:It)(ds:List DV)(Oc Oi:List Addr)(H1:Hp):Prop where
 go:∀i H,Same (L2.wo Oc H1) (L2.wo Oc H)->i<ds.length->J.go i H
 same:∀i H x H',J.yld i H x H'->Same H H'
 yld:∀i H x H' d O2,Same (L2.wo Oc H1) (L2.wo Oc H)->Same (L2.wo Oi H1) (L2.wo Oi H)->J.yld i H x H'->ds[i]? = some d->(∀a∈O2,H a≠none/\(a∈Oi\/H1 a=none))->Rep D (L2.wo O2 H') d x
 stop:∀H,Same (L2.wo Oc H1) (L2.wo Oc H)->J.stop ds.length H
def hidW(O W:ge zn):Cl->ge zn
 | .top=>O
 | .weak=>O
 | _=>O++W
def ua(D:Dm)(E:St->XK)(σ:St)(O W:ge zn)(H:Hp)(R:It->Hp->Prop):Ri->Prop
 | .ok ds c=>∀J H',Same H H'->Wk D J ds (hidW O W c) (C4 O W c) H'->R J H'
 | .ex c=>∀H' C,D.mg c=some C->Same H H'->E σ C none H'
def dI(D:Dm)(E:St->XK)(δ:ge Sv)(r:Ri):TI:=λ σ H R=>∃O W,RSt D H σ δ O W/\ua D E σ O W H R r
theorem PI.weak(h:PI X tg a t)(k:∀b H R,t' b H R->t b H R):PI X tg a t':=λ c s b H R I q=>h c s b H R I (k b H R q)
theorem au(s:Same (L2.wo O c) (L2.wo O H))(h:∀a∈d,H a≠none/\(a∈O\/c a=none)):Same (L2.wo O c) (L2.wo d H):=λ b o e=>by
 have q:=s b o e;obtain⟨f,e⟩:=x4 e;obtain⟨_,q⟩:=x4 q;rw[i6 λ z=>?_]
 ·exact q
 ·rcases(h b z).2 with w | w
  ·exact f w
  ·rw[w]at e;cases e
theorem Wk.list(h:SqL D.K (L2.wo f b) a xs)(r:RepL D (L2.wo c b) ds xs):Wk D (Itl D.K a) ds f c b where
 go:=λ i H s hi=>⟨xs,xs[i]'(by rwa [r.length]),o8.seq (s.seq h),j8 _⟩
 same:=λ i H x n y=>by rw[y.1];exact Same.refl _
 yld:=λ i H x n d O2 s g y e l=>by obtain⟨m,y⟩:=y;subst m;obtain⟨v,k,j⟩:=r.get e;have:=y xs (o8.seq (s.seq h));rw[k]at this;cases this;exact j.mono (au g l)
 stop:=λ H s=>⟨xs,o8.seq (s.seq h),by rw[r.length];exact i7 _⟩
theorem Wk.tup(h:SqT D.K (L2.wo f b) a xs)(r:RepL D (L2.wo c b) ds xs):Wk D (Itt D.K a) ds f c b where
 go:=λ i H s hi=>⟨xs,xs[i]'(by rwa [r.length]),o8.tseq (s.tseq h),j8 _⟩
 same:=λ i H x n y=>by rw[y.1];exact Same.refl _
 yld:=λ i H x n d O2 s g y e l=>by obtain⟨m,y⟩:=y;subst m;obtain⟨v,k,j⟩:=r.get e;have:=y xs (o8.tseq (s.tseq h));rw[k]at this;cases this;exact j.mono (au g l)
 stop:=λ H s=>⟨xs,o8.tseq (s.tseq h),by rw[r.length];exact i7 _⟩
theorem cM(a:Int)(n:Nat):(upTo a n).length=n:=by unfold upTo;rw[e7,p4]
theorem ub(h:(upTo a n)[i]? = some d):i<n/\d=.int (a+i):=by
 have b:i<n:=by have:=(t6.mp h).1;rw[cM]at this;exact this
 unfold upTo at h;rw[u4,List.getElem?_range b]at h;cases h;exact⟨b,rfl⟩
theorem Wk.range(a:Int)(n:Nat):Wk D (Itr a n) (upTo a n) h g j where
 go:=λ i H s b=>by rw[cM]at b;exact b
 same:=λ i H x k y=>by rw[y.1];exact Same.refl _
 yld:=λ i H x k d O2 s s' y e ho=>by obtain⟨f,y⟩:=y;subst f;obtain⟨_,c⟩:=ub e;subst c;exact v7.mpr y
 stop:=λ H s=>by rw[cM];exact i7 _
section
theorem Got.walkL(g:Got D O W i H (.lst ds) c v)(h:Hid O W i H):∃a b,v=.ref a/\SqL D.K (L2.wo (hidW O W c) H) a b/\RepL D (L2.wo (C4 O W c) H) ds b:=by
 cases c with
 | weak=>obtain⟨a,b,f,e,d⟩:=x3.mp g;exact⟨a,b,f,SqL.of e,d⟩
 | top=>obtain⟨a,b,f,e0,e,d⟩:=g;exact⟨a,b,f,SqL.of e,d⟩
 | strong=>obtain⟨a,b,f,e,d⟩:=x3.mp g;exact⟨a,b,f,SqL.of e,d⟩
 | fresh=>obtain⟨a,b,f,e,d⟩:=x3.mp (g.strong h);exact⟨a,b,f,SqL.of e,d⟩
 | ft=>obtain⟨a,b,f,e,d⟩:=x3.mp (g.ft h);exact⟨a,b,f,SqL.of e,d⟩
theorem Got.walkT(g:Got D O W d H (.tup ds) c v)(e:Hid O W d H):∃a b,v=.ref a/\SqT D.K (L2.wo (hidW O W c) H) a b/\RepL D (L2.wo (C4 O W c) H) ds b:=by
 cases c with
 | weak=>exact x2.mp g
 | top=>
  obtain⟨a,b,i,h,f⟩:=x2.mp (g);exact⟨a,b,i,(t4 K4).tseq h,f⟩
 | strong=>exact x2.mp g
 | fresh=>obtain⟨_,_,_,_,q,_⟩:=g;cases q
 | ft=>exact x2.mp (g.ft e)
theorem Got.walkS(g:Got D O W f H (.scr e) c v)(h:Hid O W f H):∃a,v=.ref a/\SqL D.K (L2.wo (hidW O W c) H) a (e.map V.int):=by
 cases c with
 | weak=>obtain⟨a,d,b⟩:=F9.mp g;exact⟨a,d,b.sq⟩
 | top=>obtain⟨a,d,b⟩:=F9.mp (g);exact⟨a,d,(t4 K4).seq b.sq⟩
 | strong=>obtain⟨a,d,b⟩:=F9.mp g;exact⟨a,d,b.sq⟩
 | fresh=>obtain⟨_,_,_,_,q,_⟩:=g;cases q
 | ft=>obtain⟨a,d,b⟩:=F9.mp (g.ft h);exact⟨a,d,b.sq⟩
theorem iu(u:∀q,m=some q->PE X e (dE X.D E δ q))(h:q5 m=some r):PI X tg e (dI X.D E δ r):=by
 cases g:m with
 | none=>rw[g]at h;cases h
 | some q=>
  rw[g]at h;have A:=u q g;cases q with
  | ex c=>cases h;exact(aW A).weak λ k H o ⟨O,W,R,p⟩=>⟨O,W,R,p⟩
  | ok d c=>
   obtain⟨ds,b,f⟩:=t7.mp (h);cases f;unfold seqD at b;split at b
   ·cases b;exact(aW A).weak λ k H o ⟨O,W,R,p⟩=>⟨O,W,R,λ v j s1 i=>by
     obtain⟨a,b,f⟩:=i.walkS (R.hid.mono s1);exact⟨a,b,⟨_,o8.seq f⟩,p _ j s1 (.list f (K3 _))⟩⟩
   ·cases b;exact(aW A).weak λ k H o ⟨O,W,R,p⟩=>⟨O,W,R,λ v j s1 i=>by
     obtain⟨a,l,b,f,n⟩:=i.walkL (R.hid.mono s1);exact⟨a,b,⟨l,o8.seq f⟩,p _ j s1 (.list f n)⟩⟩
   ·cases b;exact(ni A).weak λ k H o ⟨O,W,R,p⟩=>⟨O,W,R,λ v j s1 i=>by
     obtain⟨a,l,b,f,n⟩:=i.walkT (R.hid.mono s1);exact⟨a,b,⟨l,o8.tseq f⟩,p _ j s1 (.tup f n)⟩⟩
   ·cases b
theorem cN(h:B3 i=true) : -(2^62)<=i/\i<2^62:=by
 unfold B3 at h;simpa[d8]using h
theorem iw(h:q5 (o.map λ a=>Re.ok (.lst a) .fresh)=some b):∃a,o=some a/\b=.ok a .fresh:=by
 cases o with
 | none=>cases h
 | some a=>cases h;exact⟨a,rfl,rfl⟩
theorem uc(r:Gl X "range")(n:X.mg "range" = none)(u:∀q,d=some q->PA X [e] (dA X.D E δ q))(hs:j9 e=false)(h:q5 (Rs.thn d λ l=>(rngD l).map λ g=>Re.ok (.lst g) .fresh)=some f)(o:∀l,d=some (.ok l)->l.length=1) :
  PI X tg (.Call (.Name "range" p) [e] [] pos) (dI X.D E δ f):=by
 have C:=λ t (w:PA X [e] t)=>nu (tg:=tg) (p:=p) (pos:=pos) r n w (o6 hs);cases a:d with
 | none=>rw[a]at h;cases h
 | some q=>
  rw[a]at h;have A:=u q a;cases q with
  | ex c=>cases h;exact(C _ A).weak λ i H B ⟨O,W,R,p⟩=>⟨O,W,R,p⟩
  | ok l=>
   have k:=o l a;obtain⟨g,b,z⟩:=iw (h);cases z;unfold rngD at b;split at b
   ·rename_i j c;split at b
    ·rename_i m;cases b;rw[d8]at m;have q:=cN m.1;exact(C _ A).weak λ i H B ⟨O,W,R,p⟩=>⟨O,W,R,λ vs F s1 y=>by
      obtain⟨v,rfl,x⟩:=y.one;exact⟨j,by rw[x.int (R.hid.mono s1)],q.1,q.2,p _ F s1 (.range _ _)⟩⟩
    ·cases b
   ·cases k
   ·cases b
theorem ud(z:Gl X "range")(x:X.mg "range" = none)(B:∀q,f=some q->PA X [e,g] (dA X.D E δ q))(hs:j9 e=false)(d:j9 g=false)(h:q5 (Rs.thn f λ l=>(rngD l).map λ r=>Re.ok (.lst r) .fresh)=some n)(y:∀l,f=some (.ok l)->l.length=2) :
  PI X tg (.Call (.Name "range" p) [e,g] [] pos) (dI X.D E δ n):=by
 have C:=λ t (F:PA X [e,g] t)=>nv (tg:=tg) (p:=p) (pos:=pos) z x F (by rw[o6 hs,o6 d];rfl) (o6 d);cases a:f with
 | none=>rw[a]at h;cases h
 | some q=>
  rw[a]at h;have A:=B q a;cases q with
  | ex c=>cases h;exact(C _ A).weak λ u H L ⟨O,W,R,p⟩=>⟨O,W,R,p⟩
  | ok l=>
   have w:=y l a;obtain⟨r,b,K⟩:=iw (h);cases K;unfold rngD at b;split at b
   ·cases w
   ·rename_i i c j c';split at b
    ·rename_i m;cases b;rw[d8,d8]at m;have q:=cN m.1.1;have o:=cN m.1.2;exact(C _ A).weak λ u H L ⟨O,W,R,p⟩=>⟨O,W,R,λ vs M s1 J=>by
      obtain⟨v,v',rfl,I,k⟩:=J.two;exact⟨i,j,by rw[I.int (R.hid.mono s1),k.int (R.hid.mono s1)],⟨q.1,q.2,o.1,o.2⟩,p _ M s1 (.range _ _)⟩⟩
    ·cases b
   ·cases b
end
def av:ge Nat->TGs
 | []=>gNil
 | i::is=>eu (S4 i) (av is)
def gT(K:zA):Tg->TG
 | .one i=>S4 i
 | .many is=>gTup K is.length (av is)
theorem RSt.setVal(R:RSt D H σ δ O W)(r:Rep D (L2.wo (O++W) H) d v)(i:Nat):RSt D H (σ.set i (some v)) (δ.set i (.val d)) O W where
 val:=λ j A h=>by
  by_cases l:j=i
  ·subst l;have c:=(by have:=(t6.mp h).1;rw[v5]at this;exact this);rw[A8 c]at h;cases h;exact⟨v,A8 (by rw[R.len];exact c),r⟩
  ·rw[i4 (Ne.symm l)]at h ⊢;exact R.val j A h
 own:=λ j y h=>by
  by_cases l:j=i
  ·subst l;have c:=(by have:=(t6.mp h).1;rw[v5]at this;exact this);rw[A8 c]at h;cases h
  ·rw[i4 (Ne.symm l)]at h ⊢;exact R.own j y h
 inj:=λ j k a g m b e o n=>by
  have ne:∀{j:Nat} {g:DV},(δ.set i (.val d))[j]? = some (.own g)->j≠i:=λ {j g} b z=>by
   subst z;have c:j<δ.length:=by have:=(t6.mp b).1;rw[v5]at this;exact this
   rw[A8 c]at b;cases b
  have I:=ne b;have F:=ne e;rw[i4 (Ne.symm I)]at b o;rw[i4 (Ne.symm F)]at e n;exact R.inj j k a g m b e o n
 ot:=by
  have ne:∀{j:Nat} {s:Sv},(∀d,s ≠ .val d)->(δ.set i (.val d))[j]? = some s->j≠i:=λ {j s} hs b z=>by
   subst z;have c:j<δ.length:=by have:=(t6.mp b).1;rw[v5]at this;exact this
   rw[A8 c]at b;cases b;exact hs _ rfl
  obtain⟨P,f,u⟩:=R.ot;refine⟨P,λ j A h=>?_,λ j k g m b e=>?_⟩
  ·have E:=ne (by intro d z;cases z) h;rw[i4 (Ne.symm E)]at h ⊢;obtain⟨t,B,o,n,J,x⟩:=f j A h;refine⟨t,B,o,n,J,λ p w=>⟨(x p w).1,(x p w).2.1,λ k m q=>?_⟩⟩;have C:=ne (by intro d z;cases z) q;rw[i4 (Ne.symm C)]at q ⊢;exact(x p w).2.2 k m q
  ·rw[i4 (Ne.symm (ne (by intro d z;cases z) b))]at b;rw[i4 (Ne.symm (ne (by intro d z;cases z) e))]at e;exact u j k g m b e
 od:=R.od.step (U8 _ (by intro d z;cases z)) (λ _ h _=>h) (λ _ _ _ h _=>h)
 len:=by rw[v5,v5];exact R.len
 hid:=R.hid
theorem iy:∀{g:ge Nat} {j:ge DV} {f:ge V} {c:St} {e a:ge Sv},RSt D H c e O W->RepL D (L2.wo (O++W) H) j f->O4 e g j=some a->(∀b,RSt D H b a O W->Q b H)->av g f c H Q
 | [],[],f,c,e,a,R,r,h,q=>by cases h;exact⟨u3.mp r,q c R⟩
 | i::g,d::j,f,c,e,a,R,r,h,q=>by obtain⟨v,k,n,m,l⟩:=m9.mp r;exact⟨v,k,n,iy (R.setVal m i) l h q⟩
 | [],_::_,_,_,_,_,_,_,h,_=>by cases h
 | _::_,[],_,_,_,_,_,_,h,_=>by cases h
theorem cP:∀{is:ge Nat} {f:ge DV} {e c:ge Sv},O4 e is f=some c->is.length=f.length/\c.length=e.length
 | [],[],_,_,h=>by cases h;exact⟨rfl,rfl⟩
 | i::is,d::f,e,c,h=>by obtain⟨a,b⟩:=cP (is:=is) h;exact⟨by rw[p9,p9,a],by rw[b,v5]⟩
 | [],_::_,_,_,h=>by cases h
 | _::_,[],_,_,h=>by cases h
theorem cQ{D:Dm}{H:Hp}{O W:ge zn}{Q:St->Hp->Prop}{tg:Tg}{d:DV}{x:V}{σ:St}{δ δ':ge Sv}(R:RSt D H σ δ O W)(r:Rep D (L2.wo (O++W) H) d x)(h:tg.bind d δ=some δ')(q:∀σ',RSt D H σ' δ' O W->Q σ' H):gT D.K tg x σ H Q:=by
 cases tg with
 | one i=>cases h;exact q _ (R.setVal r i)
 | many is=>
  unfold Tg.bind at h;dsimp only at h;split at h
  ·rename_i ds;obtain⟨a,xs,e1,e2,e3⟩:=x2.mp r;exact⟨a,xs,e1,o8.tseq e2,by rw[e3.length,(cP h).1],iy R e3 h q⟩
  ·cases h
theorem RSt.less(R:RSt D H σ δ' O W)(m:δ.length=δ'.length)(h:∀(i:Nat) sv,δ[i]? = some sv->sv=.no\/δ'[i]? = some sv):RSt D H σ δ O W where
 val:=λ i d e=>by
  rcases h i _ e with z | z
  ·cases z
  ·exact R.val i d z
 own:=λ i d e=>by
  rcases h i _ e with z | z
  ·cases z
  ·exact R.own i d z
 inj:=λ i j a d B e x=>by
  rcases h i _ e with z | z
  ·cases z
  ·rcases h j _ x with y | y
   ·cases y
   ·exact R.inj i j a d B z y
 ot:=by
  obtain⟨P,f,u⟩:=R.ot;refine⟨P,λ i d e=>?_,λ i j A g o n=>?_⟩
  ·rcases h i _ e with z | z
   ·cases z
   ·obtain⟨t,l,w,v,r,c⟩:=f i d z;refine⟨t,l,w,v,r,λ p b=>⟨(c p b).1,(c p b).2.1,λ k g q=>?_⟩⟩;rcases h k _ q with y | y
    ·cases y
    ·exact(c p b).2.2 k g y
  ·rcases h i _ o with z | z
   ·cases z
   ·rcases h j _ n with y | y
    ·cases y
    ·exact u i j A g z y
 od:=R.od.step (λ j d e=>by
  rcases h j _ e with z | z
  ·cases z
  ·exact⟨z,rfl⟩) (λ _ h _=>h) (λ _ _ _ h _=>h)
 len:=by rw[m];exact R.len
 hid:=R.hid
theorem ue:∀{is:ge Nat} {f:ge DV} {b a:ge Sv},O4 b is f=some a->(∀i∈is,b[i]? = some .no\/b[i]? = none)->∀(i:Nat) sv,b[i]? = some sv->sv=.no\/a[i]? = some sv
 | [],[],_,_,h,_,i,sv,e=>by cases h;exact .inr e
 | j::is,d::f,b,a,h,p,i,sv,e=>by
  by_cases c:i∈j::is
  ·rcases p i c with z | z
   ·rw[z]at e;cases e;exact .inl rfl
   ·rw[z]at e;cases e
  ·have o:j≠i:=λ z=>c (by rw[z];exact i9);have n:=λ z=>c (i8 _ z);have g:∀{is:ge Nat} {f:ge DV} {b a:ge Sv},O4 b is f=some a->i∉is->b[i]? = some sv->a[i]? = some sv:=by
    intro is
    induction is with
    | nil=>intro f b a h _ e;cases f with
     | nil=>cases h;exact e
     | cons _ _=>cases h
    | cons k is m=>intro f b a h l e;cases f with
     | nil=>cases h
     | cons d f=>
      refine m h (λ z=>l (i8 _ z)) ?_;rw[i4 (λ z=>l (by rw[z];exact i9))];exact e
   exact .inr (g h c e)
 | [],_::_,_,_,h,_,_,_,_=>by cases h
 | _::_,[],_,_,h,_,_,_,_=>by cases h
theorem iz(h:tg.bind d δ=some δ')(b:∀i∈M4 tg,δ[i]? = some .no\/δ[i]? = none):δ.length=δ'.length/\∀(i:Nat) sv,δ[i]? = some sv->sv=.no\/δ'[i]? = some sv:=by
 cases tg with
 | one j=>
  cases h;refine⟨(v5 ..).symm,λ i sv e=>?_⟩;by_cases a:i=j
  ·subst a;rcases b i (by simp[M4])with z | z
   ·rw[z]at e;cases e;exact .inl rfl
   ·rw[z]at e;cases e
  ·exact .inr (by rw[i4 (Ne.symm a)];exact e)
 | many is=>
  unfold Tg.bind at h;dsimp only at h;split at h
  ·exact⟨(cP h).2.symm,ue h b⟩
  ·cases h
theorem RSt.inner(R:RSt D H σ δ O W)(fr:ge (on Nat))(B:∀(j k i:Nat),fr[j]? = some (some i)->fr[k]? = some (some i)->j=k):RSt D H (L2.inner fr σ) (z7 fr δ) O W:=by
 have c:∀(j:Nat) sv,(z7 fr δ)[j]? = some sv->sv ≠ .no->∃i,fr[j]? = some _/\δ[i]? = some sv:=λ j sv h F=>by
  unfold z7 at h;rw[u4]at h;cases q:fr[j]? with
  | none=>rw[q]at h;cases h
  | some o=>
   rw[q]at h;cases o with
   | none=>cases h;exact absurd rfl F
   | some i=>
    refine⟨i,rfl,?_⟩;have f:(δ.getD i .no).plain=sv:=by simpa using h
    rw[u8]at f;cases z:δ[i]? with
    | none=>rw[z]at f;exact absurd f.symm F
    | some E=>
     rw[z]at f;cases E with
     | ot d=>exact absurd f.symm F
     | od d=>exact congrArg some f
     | no=>exact congrArg some f
     | val d=>exact congrArg some f
     | own d=>exact congrArg some f
 have g:∀(j i:Nat) (v:V),fr[j]? = some (some i)->σ[i]? = some (some v)->(L2.inner fr σ)[j]? = some (some v):=λ j i v q e=>by unfold L2.inner;rw[u4,q];simp[e]
 have noot:∀(j:Nat) d,(z7 fr δ)[j]? ≠ some (.ot d):=λ j d h=>by
  unfold z7 at h;rw[u4]at h;cases q:fr[j]? with
  | none=>rw[q]at h;cases h
  | some o=>
   rw[q]at h;cases o with
   | none=>cases h
   | some i=>
    have f:(δ.getD i .no).plain=.ot d:=by simpa using h
    cases z:δ.getD i .no with
    | ot J=>rw[z]at f;cases f
    | od J=>rw[z]at f;cases f
    | no=>rw[z]at f;cases f
    | val J=>rw[z]at f;cases f
    | own J=>rw[z]at f;cases f
 refine⟨λ j d h=>?_,λ j d h=>?_,λ j k a d C S Q w r=>?_,RSt.noot noot,λ j d h=>?_,?_,R.hid⟩
 ·obtain⟨i,n,p⟩:=c j _ h (by intro z;cases z);obtain⟨v,w,r⟩:=R.val i d p;exact⟨v,g j i v n w,r⟩
 ·obtain⟨i,n,p⟩:=c j _ h (by intro z;cases z);obtain⟨a,M,N,I,w,r⟩:=R.own i d p;exact⟨a,M,N,I,g j i _ n w,r⟩
 ·obtain⟨i,n,p⟩:=c j _ S (by intro z;cases z);obtain⟨A,l,m⟩:=c k _ Q (by intro z;cases z);obtain⟨b,M,N,_,K,_⟩:=R.own i d p;obtain⟨b',P,U,_,x,_⟩:=R.own A C m;have y:=g j i _ n K;have L:=g k A _ l x;rw[w]at y;rw[r]at L;cases y;cases L;have:=R.inj i A a d C p m K x;subst this;exact B j k i n l
 ·obtain⟨i,n,p⟩:=c j _ h (by intro z;cases z);obtain⟨⟨a,o,I,w,r⟩,u⟩:=R.od i d p;refine⟨⟨a,o,I,g j i _ n w,r⟩,λ k C z=>?_⟩;obtain⟨A,l,m⟩:=c k _ z (by intro z;cases z);rw[u A C m]at l;exact B k j i l n
 ·unfold L2.inner z7;rw[e7,e7]
section
variable {X:Cx} {E:St->XK} {δ:ge Sv} {iter elt tgE:zq} {ifs:ge zq} {pos:Pos} {N':ge Str} {scope:zB} {fr:ge (on Nat)} {tg:Tg} {ri:on Ri} {re:Re}
theorem iA{Q:VK}(w:Wk D J ds (hidW O W c) (C4 O W c) F)(X:Hid O W H H)(hc:c ≠ .weak)(R:RSt D F σ o O W)
  (hn:∀i∈M4 tg,o[i]? = some .no\/o[i]? = none) (hz:ds.length<=sizeLine) (hx:x6 g ds=some xs) (s1:Same H F)
  (step:∀d S,d∈ds->g d=some S->∃b,tg.bind d o=some b/\∀j l,Same F l->RSt D l j b O W->∀K:Bool->Hp->Prop,(S=.skip->∀m,Same l m->K false m)->(∀x,S=.item x->∀m,Same l m->K true m)->tc j l K)
  (C:∀d x,d∈ds->g d=some (.item x)->∀b,tg.bind d o=some b->∀j l,Same F l->RSt D l j b O W->∀K:VK,(∀v m,Same l m->Rep D (L2.wo (O++W) m) x v->K v m)->te j l K)
  (Y:∀v r,Same H r->Got D O W H r (.lst xs) .fresh v->Q v r) :
  bu J (gT D.K tg) tc te (λ M r=>∀p,r p=none->Q (.ref p) (upd r p (.lst M))) σ F:=by
 have ci:C4 O W c=O++W:=by cases c<;>first | rfl | exact absurd rfl hc
 rw[ci]at w;refine⟨λ i n M j r=>n=ds.length - i/\i<=ds.length/\M.length<=i/\RSt D r j o O W/\Same F r/\∃f rest,x6 g (ds.drop i)=some rest/\f++rest=xs/\RepL D (L2.wo (O++W) r) f M,
  ⟨ds.length,rfl,Nat.zero_le _,Nat.zero_le _,R,Same.refl _,[],xs,hx,rfl,u3.mpr rfl⟩,?_⟩
 rintro i n M σ2 l ⟨rfl,hi',hy,R2,s2,f,rest,h1,h2,r2⟩
 by_cases k:i<ds.length
 ·refine .inr ⟨w.go i l s2.wo k,Nat.lt_of_le_of_lt hy (p6 k hz),λ N m y=>?_⟩;have A:=w.same i l N m y;have y3:=w.yld i l N m _ (O++W) s2.wo s2.wo y (j8 k) λ a ha=>⟨R2.hid.ot a ha,.inl ha⟩;rw[List.drop_eq_getElem_cons k]at h1;have U:=List.getElem_mem k;unfold x6 at h1;split at h1
  ·cases h1
  ·rename_i q;obtain⟨b,I,Z⟩:=step _ _ U q;refine cQ (R2.mono A) y3 I λ u L=>?_
   have h:=iz I hn;refine Z u m (s2.trans A) L _ (λ _ H4 B=>?_) (λ x z=>nomatch z);show if false=true then _ else _
   rw[d9 y8];exact⟨ds.length - (i+1),by omega,rfl,k,Nat.le_succ_of_le hy,(L.less h.1 h.2).mono B,(s2.trans A).trans B,f,rest,h1,h2,r2.mono (A.trans B).wo⟩
  ·rename_i x q;split at h1
   ·cases h1
   ·rename_i E q';cases h1;obtain⟨b,I,Z⟩:=step _ _ U q;refine cQ (R2.mono A) y3 I λ u L=>?_
    have h:=iz I hn;refine Z u m (s2.trans A) L _ (λ z=>nomatch z) (λ N z H4 B=>?_);cases z;show if true=true then _ else _
    rw[d6 rfl];refine C _ x U q b I u H4 ((s2.trans A).trans B) (L.mono B) _ λ v H5 P rv=>?_
    exact⟨ds.length - (i+1),by omega,rfl,k,by rw[v0,List.length_singleton];omega,(L.less h.1 h.2).mono (B.trans P),((s2.trans A).trans B).trans P,f++[x],E,q',by rw[List.append_assoc];exact h2,
     (r2.mono ((A.trans B).trans P).wo).append (RepL.one rv)⟩
 ·have e:i=ds.length:=by omega
  subst e;rw[List.drop_length]at h1;cases h1;rw[List.append_nil]at h2;subst h2;have s0:=s1.trans s2;refine .inl ⟨w.stop l s2.wo,λ p hp=>Y _ _ (s0.trans (r9 hp)) ?_⟩;exact E7 (X.mono s0) hp r2
abbrev E0s:St->XK:=λ _ _ _ _=>False
theorem PE.any{t:ι->TE}(h:∀k,PE Y e (t k)):PE Y e (λ b H Q=>∃k,t k b H Q):=λ a s b H Q I ⟨k,q⟩=>h k a s b H Q I q
theorem PTs.any{t:ι->TT}(h:∀k,PTs Y es (t k)):PTs Y es (λ b H Q=>∃k,t k b H Q):=λ a s b H Q I ⟨k,q⟩=>h k a s b H Q I q
theorem Rc.of_item(h:Rc.of r=some (.item x)):∃c,r=some (.ok x c)/\stro x c=true:=by
 unfold Rc.of at h;split at h
 ·rename_i d c;split at h
  ·rename_i m;cases h;exact⟨c,rfl,m⟩
  ·cases h
 ·cases h
theorem Rc.of_skip(h:Rc.of r=some .skip):False:=by
 unfold Rc.of at h;split at h
 ·split at h<;>cases h
 ·cases h
theorem iB{i:Nat}(h:fr[i]? = some none):(z7 fr δ)[i]? = some .no:=by
 unfold z7;rw[u4,h];rfl
def K7(X:Cx)(E:St->XK)(δ:ge Sv)(tgE iter:zq)(ifs:ge zq)(elt:zq)(scope:zB)(N':ge Str)(fr:ge (on Nat))(tg:Tg)(re:Re):Prop:=
 ∃(x:St->XK) (wi:TI) (tc:TT) (te:XK->TE),Y7 X x/\PI X tgE iter wi/\(∀C cells s₂ H₂ fp x1,PTs (o7 X scope N' C cells s₂ H₂ fp x1) ifs tc)/\(∀C cells s₂ H₂ fp x1,PE (o7 X scope N' C cells s₂ H₂ fp x1) elt (te x1)) /\
  ∀σ H Q,dE X.D E δ re σ H Q->bv fr wi (gT X.K tg) tc (te (x σ)) σ H Q
theorem aw(b:E5 a=false):∀x,foldedSetIterable a env x=pure x:=by cases a<;>first | (intro _;rfl) | cases b
theorem K7.pe(P:K7 X E δ tgE iter ifs elt scope N' fr tg re)(S:CompScope X.N N' scope X.env.scope fr)(g:X.calm=true)(hG:∀C a b d l e,PG (o7 X scope N' C a b d l e) tgE (gT X.K tg))(c:E5 iter=false) :
  PE X (.ListComp elt [⟨tgE,iter,ifs,0⟩] scope pos) (dE X.D E δ re):=by
 obtain⟨x,wi,tc,te,f,k,j,i,h⟩:=P;exact(pq S g f k hG j i (aw c)).weak h
theorem uf{g:ge Sv->on Re}(S:CompScope X.N N' scope X.env.scope fr)(hc:X.calm=true)(I:∀(j k i:Nat),fr[j]? = some (some i)->fr[k]? = some (some i)->j=k)(F:∀i∈M4 tg,fr[i]? = some none)(L:∀q,ri=some q->PI X tgE iter (dI X.D E δ q))
  (hG:∀C a e f y o,PG (o7 X scope N' C a e f y o) tgE (gT X.K tg)) (he:∀b r,g b=some r->∀C a e f y o,PE (o7 X scope N' C a e f y o) elt (dE X.D E0s b r))
  (h:(Ri.thn ri λ z c=>if c=.weak\/k9<z.length then none else J6 (x6 (λ d=>(tg.bind d (z7 fr δ)).bind λ b=>Rc.of (g b)) z))=some re):K7 X E δ tgE iter [] elt scope N' fr tg re:=by
 cases l:ri with
 | none=>rw[l]at h;cases h
 | some q=>
  rw[l]at h;refine⟨_,_,_,λ _=>_,fh,(L q l),(λ C a e f y o=>pj),(λ C a e f y o=>PE.any (ι:={p:ge Sv×Re // g p.1=some p.2}) λ k=>he k.1.1 k.1.2 k.2 C a e f y o),?_⟩;cases q with
  | ex c=>cases h;exact λ P H Q ⟨O,W,R,p⟩=>⟨O,W,R,p⟩
  | ok z c=>
   have u:(if c=.weak\/k9<z.length then none else J6 _)=some re:=h;split at u
   ·cases u
   ·rename_i m;rw[not_or]at m;unfold J6 at u;split at u
    ·cases u
    ·rename_i xs hx;cases u;refine λ P H Q ⟨O,W,R,p⟩=>⟨O,W,R,λ J H1 s1 w=>?_⟩
     refine iA w R.hid m.1 ((R.mono s1).inner fr I) (λ i L=>.inl (iB (F i L))) (P3 (by omega)) hx s1 (λ d Y hm n=>?_) (λ d x hm n b A B N U R2 K hK=>?_) p
     ·cases A:tg.bind d _ with
      | none=>rw[A]at n;cases n
      | some b=>
       rw[A]at n;refine⟨b,rfl,λ B N U R2 K k1 Z=>?_⟩;cases Y with
       | skip=>exact(Rc.of_skip n).elim
       | item x=>exact Z x rfl N (Same.refl _)
     ·rw[A]at n;obtain⟨cl,e1,e2⟩:=Rc.of_item n;exact⟨⟨⟨b,.ok x cl⟩,e1⟩,O,W,R2,λ v H3 M g3=>hK v H3 M (g3.stro (R2.hid.mono M) e2)⟩
theorem ug{f:ge Sv->on Re}{l:ge Sv->on Rt}(S:CompScope X.N N' scope X.env.scope fr)(hc:X.calm=true)(N:∀(j k i:Nat),fr[j]? = some (some i)->fr[k]? = some (some i)->j=k)(M:∀i∈M4 tg,fr[i]? = some none)(P:∀q,ri=some q->PI X tgE iter (dI X.D E δ q))
  (hG:∀C a b e fp x1,PG (o7 X scope N' C a b e fp x1) tgE (gT X.K tg)) (he:∀δ' r,f δ'=some r->∀C a b e fp x1,PE (o7 X scope N' C a b e fp x1) elt (dE X.D E0s δ' r))
  (ht:∀δ' r,l δ'=some r->∀C a b e fp x1,PT (o7 X scope N' C a b e fp x1) n (dT X.D E0s δ' r))
  (h:(Ri.thn ri λ B c=>if c=.weak\/k9<B.length then none else J6 (x6 (λ d=>(tg.bind d (z7 fr δ)).bind λ δ'=>Rc.test (l δ') (Rc.of (f δ'))) B))=some re):K7 X E δ tgE iter [n] elt scope N' fr tg re:=by
 cases o:ri with
 | none=>rw[o]at h;cases h
 | some q=>
  rw[o]at h;have A:=P q o;refine⟨_,_,_,λ _=>_,fh,A,(λ C a b e fp x1=>PTs.any (ι:={p:ge Sv×Rt // l p.1=some p.2}) (t:=λ k=>dT X.D E0s k.1.1 k.1.2) λ k=>pk (ht k.1.1 k.1.2 k.2 C a b e fp x1)),
   (λ C a b e fp x1=>PE.any (ι:={p:ge Sv×Re // f p.1=some p.2}) (t:=λ k=>dE X.D E0s k.1.1 k.1.2) λ k=>he k.1.1 k.1.2 k.2 C a b e fp x1),?_⟩
  cases q with
  | ex c=>cases h;exact λ Y H Q ⟨O,W,R,p⟩=>⟨O,W,R,p⟩
  | ok B c=>
   have z:(if c=.weak\/k9<B.length then none else J6 (x6 (λ d=>(tg.bind d (z7 fr δ)).bind λ δ'=>Rc.test (l δ') (Rc.of (f δ'))) B))=some re:=h;split at z
   ·cases z
   ·rename_i m;rw[not_or]at m;unfold J6 at z;split at z
    ·cases z
    ·rename_i xs hx;cases z;refine λ Y H Q ⟨O,W,R,p⟩=>⟨O,W,R,λ J H1 s1 w=>?_⟩
     refine iA (tg:=tg) (D:=X.D) w R.hid m.1 ((R.mono s1).inner fr N) (λ i P=>.inl (iB (M i P))) (P3 (by omega)) hx s1 (λ d U hm u=>?_) (λ d x hm u δ' I L H2 Z R2 K hK=>?_) p
     ·cases I:tg.bind d (z7 fr δ)with
      | none=>rw[I]at u;cases u
      | some δ'=>
       rw[I]at u;have g:Rc.test (l δ') (Rc.of (f δ'))=some U:=u;refine⟨δ',rfl,λ L H2 Z R2 K k1 k2=>?_⟩;unfold Rc.test at g;split at g
       ·rename_i q;refine⟨⟨⟨δ',.ok true⟩,q⟩,O,W,R2,λ F y=>?_⟩;cases U with
        | skip=>exact(Rc.of_skip g).elim
        | item x=>exact k2 x rfl F y
       ·rename_i q;cases g;exact⟨⟨⟨δ',.ok false⟩,q⟩,O,W,R2,λ F y=>k1 rfl F y⟩
       ·cases g
     ·rw[I]at u;have g:Rc.test (l δ') (Rc.of (f δ'))=some (.item x):=u;unfold Rc.test at g;split at g
      ·obtain⟨cl,e1,e2⟩:=Rc.of_item g;exact⟨⟨⟨δ',.ok x cl⟩,e1⟩,O,W,R2,λ v F y g3=>hK v F y (g3.stro (R2.hid.mono y) e2)⟩
      ·cases g
      ·cases g
end
theorem Inv.turnedL{ch:ge zn}(I:Inv X a σ H s)(k:∀b o,b∉ch->s.heap.get? b=some o->h.get? b=some o)(g:∀b∈ch,FpOk X a H b):Inv X a σ H {s with heap:=h,toks:=t'}:=by
 have f:∀b u,H b=some u->b∉ch:=λ b u e z=>by rw[(g b z).1]at e;cases e
 refine I.step (λ b l=>?_) (λ b o _ _ d e _=>k b o d e) (λ b o _ _ d e _=>⟨o.slots,k b o d e⟩) (λ _ _ _ _ n=>n)
  (λ b o d e=>⟨o,k b o d e⟩) (λ _ _ e=>e) (λ _ _ _ e=>e) (λ _ _ e=>e) (λ m j=>?_) (λ b u e=>?_) I.bare
 ·obtain⟨_,y,_,x,w,p⟩:=g b l;exact⟨x,y,w,p⟩
 ·obtain⟨o,es,A,i,r⟩:=j;exact⟨o,es,A,k _ o (λ z=>(g _ z).2.1 rfl) i,r⟩
 ·refine(I.hok b u e).stay (λ c v d q=>k c v ?_ q) (λ _ q=>q) (λ _ _ q=>q) λ _ _ _ _ _ q=>q;rcases d with z | z
  ·rw[z];exact f b u e
  ·exact f c _ z
def SqD(t:Bool)(K:zA)(H:Hp)(a:zn)(xs:ge V):Prop:=match t with | false=>SqL K H a xs | true=>SqT K H a xs
theorem Same.sqd{t:Bool}{K:zA}{H H':Hp}{a:zn}{xs:ge V}(e:Same H H')(h:SqD t K H a xs):SqD t K H' a xs:=by
 cases t
 ·exact e.seq h
 ·exact e.tseq h
theorem Inv.sqd(I:Inv X c σ H s)(h:SqD t X.K H a xs):∃b:ge zk,Vals xs b/\SqK t s.heap a b.toArray:=by
 cases t
 ·obtain⟨b,d,p,_⟩:=I.list h;exact⟨b,d,p.isList⟩
 ·obtain⟨b,d,p,_⟩:=I.tuple h;exact⟨b,d,p⟩
theorem Inv.sqd_inj(I:Inv X b σ H s)(h:SqD t X.K H a xs)(d:SqD t X.K H a c):xs=c:=by
 cases t
 ·exact I.list_inj h d
 ·exact I.tuple_inj h d
def itK(t:Bool)(h:zo)(ia la:zn)(k:Nat):Prop:=match t with | false=>h.IsListIter ia la k | true=>h.IsTupleIter ia la k
theorem Q2(p:itK t h b a k)(q:SqK t h a vs):sK t b a vs k h:=by
 cases t<;>exact⟨p,q⟩
theorem Q3(p:sK t b a vs k h):itK t h b a k:=by
 cases t<;>exact p.1
theorem Q4(p:itK t h a b k)(e:∀o,h.get? a=some o->c.get? a=some o):itK t c a b k:=by
 cases t
 ·exact Heap.IsListIter.at p e
 ·obtain⟨o,z,r⟩:=p;exact⟨o,e o z,r⟩
theorem Q5(p:itK t h a c k):∃o b,h.get? a=some o/\o.data=.fields b:=by
 cases t
 ·obtain⟨o,e,_,d⟩:=p;exact⟨o,_,e,d⟩
 ·obtain⟨o,e,_,d⟩:=p;exact⟨o,_,e,d⟩
theorem SqK.lt(p:SqK t h a vs):a<h.objs.size:=by
 cases t
 ·obtain⟨o,e,_⟩:=p;exact i5 e
 ·obtain⟨o,e,_⟩:=p;exact i5 e
def Itz(K:zA)(t1 t2:Bool)(a b:zn):It:=
  ⟨λ i H=>∃xs ys x y,SqD t1 K H a xs/\SqD t2 K H b ys/\xs[i]? = some x/\ys[i]? = some y,
   λ i H x H'=>∃p v u,x=.ref p/\H p=none/\(∀xs,SqD t1 K H a xs->xs[i]? = some v)/\(∀ys,SqD t2 K H b ys->ys[i]? = some u)/\H'=upd H p (.tup [v,u]),
   λ i H=>∃xs ys,SqD t1 K H a xs/\SqD t2 K H b ys/\(xs.length<=i\/ys.length<=i)⟩
theorem uh{P:zu}{w:zt}{K:zA}{k:Nat}{pos:Pos}{z TI TO A r l1 l2:zn}(Q O:Bool)(D:ZipApart z TI TO A r l1 l2) :
  Turn P w K (.Tuple elts k pos) (Itz K Q O l1 l2) [z,TI,TO,A,r] z (λ i h=>IsZip h z TI TO .none/\IsPair h TI (.ref A) (.ref r)/\(∃a b,IsPair h TO a b)/\itK Q h A l1 i/\itK O h r l2 i) where
 mem:=by simp
 obj:=λ i h st b f=>by
  obtain⟨B,g,⟨a,Z,j⟩,F,C⟩:=st;simp only[e8,List.not_mem_nil,or_false]at f;rcases f with rfl | rfl | rfl | rfl | rfl
  ·exact⟨_,B,λ v q=>by cases q⟩
  ·exact⟨_,g,λ v q=>by cases q⟩
  ·exact⟨_,j,λ v q=>by cases q⟩
  ·obtain⟨o,xs,e,d⟩:=Q5 F;exact⟨o,e,λ v q=>by rw[d]at q;cases q⟩
  ·obtain⟨o,xs,e,d⟩:=Q5 C;exact⟨o,e,λ v q=>by rw[d]at q;cases q⟩
 keep:=λ i h h' st q=>by obtain⟨B,g,⟨a,Z,j⟩,F,C⟩:=st;exact⟨q z (by simp) _ B,q TI (by simp) _ g,⟨a,Z,q TO (by simp) _ j⟩,Q4 F λ o e=>q A (by simp) o e,Q4 C λ o e=>q r (by simp) o e⟩
 item:=by
  intro X hP hw hK hc i m s σ H E I W st hg;subst hP hw hK;obtain⟨B,g,⟨a,Z,j⟩,F,C⟩:=st;obtain⟨xs,ys,x,y,S,R,U,hy⟩:=hg;obtain⟨a8,rv,p⟩:=I.sqd S;obtain⟨M,J,p2⟩:=I.sqd R;obtain⟨u,hu,ru⟩:=rv.get U;obtain⟨u2,b0,a0⟩:=J.get hy;refine pW D (O1 Q D.l1i1) (O1 O D.l2i2) B g j (Q2 F p) (Q2 C p2) (x:=u) (y:=u2) (by simpa using hu) (by simpa using b0) λ h' a1 a2 a3 a4 a5 a6 Y=>⟨_,rfl,?_⟩
  refine wpAny_letOwnedTupleGo_zip a1 λ L a9 l=>?_;have N:s.heap.objs.size≠z:=Nat.ne_of_gt (i5 B);have keep:∀b o,b∉[z,TI,TO,A,r]->s.heap.get? b=some o->L.get? b=some o:=λ b o f e=>
   l.extBut _ _ (λ q=>f (by simp[q])) (Y b o (λ q=>f (by simp[q])) (λ q=>f (by simp[q])) (λ q=>f (by simp[q])) (λ q=>f (by simp[q])) e)
  have I1:Inv X m σ H {s with heap:=L}:=I.turnedL (t':=s.toks) keep W;have hn:H s.heap.objs.size=none:=I.hok.fresh (i7 _);have f5:=I.fpOk (i7 _) hn;have h0:X.s₀.heap.get? s.heap.objs.size=none:=Heap.get?_none_of_le I.sz;have I2:Inv X m σ (upd H s.heap.objs.size (.tup [x,y])) {s with heap:=L}:=I1.track hn h0 f5.2.1 (λ n c e=>f5.2.2.2.2.1 n c e) (λ q hq=>f5.2.2.2.2.2 q hq)
   ⟨by show(2:Nat)<=sizeLine;decide,[u,u2],.cons ru (.cons a0 .nil),_,(l.extBut _ _ N a5),⟨rfl,rfl⟩,_,rfl⟩
  refine⟨.ref s.heap.objs.size,_,I2,rfl,⟨_,x,y,rfl,hn,λ xs' e=>by rw[I.sqd_inj e S];exact U,λ ys' e=>by rw[I.sqd_inj e R];exact hy,rfl⟩,
   ⟨a9,l.extBut _ _ D.TIz (Y _ _ D.TIz D.TITO D.TIi1 D.TIi2 g),⟨_,_,l.extBut _ _ D.TOz a2⟩,Q4 (Q3 a3) (λ o e=>l.extBut _ _ D.i1z e),Q4 (Q3 a4) (λ o e=>l.extBut _ _ D.i2z e)⟩,λ b f=>?_⟩
  have lt:∀b∈[z,TI,TO,A,r],b≠s.heap.objs.size:=λ b f=>by
   simp only[e8,List.not_mem_nil,or_false]at f;rcases f with rfl | rfl | rfl | rfl | rfl
   ·exact Ne.symm N
   ·exact j7 (i5 g)
   ·exact j7 (i5 j)
   ·obtain⟨o,_,e,_⟩:=Q5 F;exact j7 (i5 e)
   ·obtain⟨o,_,e,_⟩:=Q5 C;exact j7 (i5 e)
  rw[j4 (lt b f)];exact(W b f).1
 done:=by
  intro X hP hw hK hc i m s σ H E I W st hg;subst hP hw hK;obtain⟨B,g,⟨a,Z,j⟩,F,C⟩:=st;obtain⟨xs,ys,S,R,U⟩:=hg;obtain⟨a8,rv,p⟩:=I.sqd S;obtain⟨M,J,p2⟩:=I.sqd R;have e1:=rv.length;have e2:=J.length;refine pX (I.ok.hd hc) D (O1 Q D.l1i1) (O1 O D.l2i2) B g j (Q2 F p) (Q2 C p2) (by
   rcases U with q | q
   ·left;simp;omega
   ·right;simp;omega) λ h' Y=>⟨rfl,I.turnedL (t':=s.toks) (ch:=[z,TI,TO,A,r]) (λ b o f e=>Y b o (λ q=>f (by simp[q])) (λ q=>f (by simp[q])) (λ q=>f (by simp[q])) (λ q=>f (by simp[q])) e) W⟩
 self:=λ _ _ _ _ _ st h=>wpAny_pyIter_zip st.1 h
theorem cR:∀(b a:ge DV),(zpD b a).length=min b.length a.length
 | [],a=>by simp[zpD]
 | _::_,[]=>by simp[zpD]
 | x::b,y::a=>by rw[zpD,p9,cR b a,p9,p9];omega
theorem iC:∀{b a:ge DV} {i:Nat} {d:DV},(zpD b a)[i]? = some d->∃x y,b[i]? = some x/\a[i]? = some y/\d=.tup [x,y]
 | [],_,_,_,h=>by simp[zpD]at h
 | _::_,[],_,_,h=>by simp[zpD]at h
 | x::b,y::a,0,d,h=>by simp[zpD]at h;exact⟨x,y,rfl,rfl,h.symm⟩
 | x::b,y::a,i+1,d,h=>by rw[zpD,List.getElem?_cons_succ]at h;simpa using iC h
theorem iE:∀b∈hidW O W (Cl.meet c d),b∈hidW O W c:=by
 cases c<;>cases d<;>intro b a<;>first | exact a | exact w4 _ a
theorem ui:∀b∈hidW O W (Cl.meet c a),b∈hidW O W a:=by
 cases c<;>cases a<;>intro b d<;>first | exact d | exact w4 _ d
theorem iF:∀b∈C4 O W (Cl.meet c d),b∈C4 O W c:=by
 cases c<;>cases d<;>intro b a<;>first | exact a | exact w4 _ a
theorem uj:∀b∈C4 O W (Cl.meet c a),b∈C4 O W a:=by
 cases c<;>cases a<;>intro b d<;>first | exact d | exact w4 _ d
theorem Wk.zip(h:SqD A D.K (L2.wo m f) a xs)(r:RepL D (L2.wo j f) ds xs)(l:SqD w D.K (L2.wo m f) b c)(k:RepL D (L2.wo j f) es c):Wk D (Itz D.K A w a b) (zpD ds es) m j f where
 go:=λ i H s O=>by rw[cR]at O;exact⟨xs,c,xs[i]'(by rw[r.length];omega),c[i]'(by rw[k.length];omega),o8.sqd (s.sqd h),o8.sqd (s.sqd l),j8 _,j8 _⟩
 same:=λ i H x R y=>by obtain⟨p,v,u,_,g,_,_,e⟩:=y;rw[e];exact r9 g
 yld:=λ i H x R d Q s L y e B=>by obtain⟨p,v,u,ex,g,K,J,P⟩:=y;obtain⟨d1,d2,N,M,rfl⟩:=iC e;obtain⟨v1,I,F⟩:=r.get N;obtain⟨v2,E,C⟩:=k.get M;have o:=K xs (o8.sqd (s.sqd h));have n:=J c (o8.sqd (s.sqd l));rw[I]at o;cases o;rw[E]at n;cases n;subst P;refine x2.mpr ⟨p,_,ex,SqT.of (by rw[i6 (λ z=>(B p z).1 g)];exact v6),?_⟩;have q:Same _ (L2.wo Q (upd H p (.tup [v,u]))):=(au L B).trans (r9 g).wo;exact m9.mpr ⟨_,_,rfl,F.mono q,RepL.one (C.mono q)⟩
 stop:=λ H s=>by refine⟨xs,c,o8.sqd (s.sqd h),o8.sqd (s.sqd l),?_⟩;rw[cR,r.length,k.length];omega
section
theorem uk{b:Nat}(ha:a<n)(hb:b<n):ZipApart (n+4) (n+2) (n+3) n (n+1) a b:=by
 constructor<;>(show @Ne Nat _ _)<;>omega
theorem ul(U:Gl X "zip")(S:X.mg "zip" = none)(W:PA X [e,e'] y)(hs:j9 e=false)(o:j9 e'=false) :
  PI X (.Tuple elts k tpos) (.Call (.Name "zip" p) [e,e'] [] pos) (λ m H R=>y m H λ x l=>∃f d a b,x=[.ref a,.ref b]/\(∃w,SqD f X.K l a w)/\(∃v,SqD d X.K l b v)/\R (Itz X.K f d a b) l):=by
 intro g s m H R I h;refine Call_ (J1 I U S boot_zip (PyProof.Rows.callWith_type1 (thn (W pos g s m H _ I h) λ us s1 ⟨x,l,j,M,N⟩=>?_) (by rw[o6 hs]) (P7 [e'] (by simp[o]))));obtain⟨f,d,a,b,Y,⟨w,Q⟩,⟨v,P⟩,q⟩:=N;subst Y;obtain⟨u,u',rfl,L,n⟩:=M.two;cases L;cases n;obtain⟨O,rv,p1⟩:=j.sqd Q;obtain⟨z,K,p2⟩:=j.sqd P;refine pZ f d p1 p2 λ h' r J F E C z6 B=>?_
 refine wpAny_pyIter_zip r ⟨s1.heap.objs.size+4,[s1.heap.objs.size+4,s1.heap.objs.size+2,s1.heap.objs.size+3,s1.heap.objs.size,s1.heap.objs.size+1],_,_,l,rfl,(j.kept B),
  uh f d (uk p1.lt p2.lt),⟨r,J,⟨_,_,F⟩,Q3 E,Q3 C⟩,λ c A=>?_,q⟩
 have i:s1.heap.objs.size<=c:=by
  simp[e8,List.not_mem_nil,or_false]at A;rcases A with rfl | rfl | rfl | rfl | rfl
  ·exact Nat.le_add_right ..
  ·exact Nat.le_add_right ..
  ·exact Nat.le_add_right ..
  ·exact i7 _
  ·exact Nat.le_add_right ..
 exact j.fpOk i (j.hok.fresh i)
theorem cS(k:G6 d=some (t,ds))(g:Got D O W f H d c v)(e:Hid O W f H):∃a b,v=.ref a/\SqD t D.K (L2.wo (hidW O W c) H) a b/\RepL D (L2.wo (C4 O W c) H) ds b:=by
 cases d<;>cases k
 ·exact g.walkT e
 ·exact g.walkL e
theorem um(Z:Gl X "zip")(Y:X.mg "zip" = none)(hs:j9 e=false)(g:j9 l=false)(ha:∀q,r=some q->PE X e (dE X.D E δ q))(hb:∀q,rb=some q->PE X l (dE X.D E δ q))
  (h:q5 (Re.thn r λ x c=>Re.thn rb λ y c'=>zipD x y c c')=some o):PI X (.Tuple elts k tpos) (.Call (.Name "zip" p) [e,l] [] pos) (dI X.D E δ o):=by
 have C:=λ N M (hA:PE X e N) (hB:PE X l M)=>ul (elts:=elts) (k:=k) (tpos:=tpos) (p:=p) (pos:=pos) Z Y (A2 hA (A2 hB C8 (o6 g)) (o6 hs)) hs g;cases f:r with
 | none=>rw[f]at h;cases h
 | some q=>
  rw[f]at h;have A:=ha q f;cases q with
  | ex c=>cases h;exact(C _ _ A K5).weak λ w H J ⟨O,W,R,p⟩=>⟨O,W,R,p⟩
  | ok dx cx=>
   cases d:rb with
   | none=>rw[d]at h;cases h
   | some q=>
    rw[d]at h;have B:=hb q d;cases q with
    | ex c=>cases h;exact(C _ _ A B).weak λ w H J ⟨O,W,R,p⟩=>⟨O,W,R,λ x H1 s1 F=>⟨O,W,R.mono s1,λ H' C m s=>p H' C m (s1.trans s)⟩⟩
    | ok dy cy=>
     have j:q5 (zipD dx dy cx cy)=some o:=h;unfold zipD at j;split at j
     ·rename_i Q ds1 P ds2 U S;cases j;exact(C _ _ A B).weak λ w H J ⟨O,W,R,p⟩=>⟨O,W,R,λ x H1 s1 F=>⟨O,W,R.mono s1,λ y H2 n g2=>by
       have z:=(R.hid.mono s1).mono n;obtain⟨a,L,e1,I,e3⟩:=cS U (F.mono n) z;obtain⟨b,K,v,i,u⟩:=cS S (g2.since s1) z;refine⟨Q,P,a,b,by rw[e1,v],⟨L,o8.sqd I⟩,⟨K,o8.sqd i⟩,p _ H2 (s1.trans n) (.zip ((t4 iE).sqd I) (e3.mono (t4 iF)) ((t4 ui).sqd i) (u.mono (t4 uj)))⟩⟩⟩
     ·cases j
end
section
variable {P:zu} {w:zt} {A:zw} {E:zk->zm->Prop} {s:zm} {n c l:zn} {k:Nat} {vs:zr zk} {S:Nat->zo->Prop} {x old:zk}
abbrev iG(s:zm)(h':zo)(n c:zn)(k:Nat)(x:zk)(S:Nat->zo->Prop):Prop:=
 IsEnumOut h' n c ((k:Int)+1) x s.heap.objs.size/\S (k+1) h'/\h'.get? s.heap.objs.size=some {cls:=.type "tuple",data:=.seq #[.int k s.toks,x]} /\ h'.objs.size=s.heap.objs.size+1/\(∀b o,b≠n->b≠c->s.heap.get? b=some o->h'.get? b=some o)
theorem uo{Q:zk->zm->Prop}(R:Src P w c l vs S)(X:IsEnum s.heap n c k old)(hS:S k s.heap)(hx:vs[k]? = some x)(J:n≠c)(d2:l≠n)(hQ:∀h',iG s h' n c k x S->Q (.ref s.heap.objs.size) {s with heap:=h',toks:=s.toks+1}) :
  wpAny (model P w) A (Builtin.«enumerate.__next__» ⟨[.ref n],[]⟩) (λ Z s'=>∃v,Z=.done (.ret v)/\Q v s') E s:=by
 obtain⟨f,i,j,a,h⟩:=s;show wpAny _ _ (field (.ref n) 2 >>= _) _ _ _;refine d4 (wpAny_field X rfl (x:=.ref c) rfl (d4 (R.step k x hS hx λ m r1 r=>?_)))
 replace r:Heap.SameBut c f m:=r
 have W:IsEnum m n c k old:=(r.2 n J).trans X;show wpAny _ _ (field (.ref n) 3 >>= _) _ _ ⟨m,i,j,a,h⟩;refine d4 (wpAny_field W rfl (x:=rawInt k) rfl ?_);show wpAny _ _ (field (.ref n) 4 >>= _) _ _ ⟨m,i,j,a,h⟩;refine d4 (wpAny_field W rfl (x:=.none) rfl ?_);show wpAny _ _ (mkInt k >>= _) _ _ ⟨m,i,j,a,h⟩;refine d4 (wpAny_mkInt ?_);show wpAny _ _ (setField (.ref n) 3 (rawInt ((k:Int)+1)) >>= _) _ _ ⟨m,i,j,a+1,h⟩;refine d4 (wpAny_setField_rec W (by simp) λ I U q=>?_)
 replace q:Heap.SameBut n m I:=q
 replace U:IsEnum I n c ((k:Int)+1) old:=U
 show wpAny _ _ (setField (.ref n) 4 .none >>= _) _ _ ⟨I,i,j,a+1,h⟩;refine d4 (wpAny_setField_rec U (by simp) λ d O p=>?_)
 replace p:Heap.SameBut n I d:=p
 replace O:IsEnum d n c ((k:Int)+1) old:=O
 show wpAny _ _ (newTuple [.int k a,x] >>= _) _ _ ⟨d,i,j,a+1,h⟩;refine d4 (wpAny_newTuple ?_);have C:IsEnum (d.push {cls:=.type "tuple",data:=.seq #[.int k a,x]}) n c ((k:Int)+1) old:=f9 _ O;have K:d.objs.size=f.objs.size:=by rw[p.1,q.1,r.1]
 have q4:(d.push {cls:=.type "tuple",data:=.seq #[.int k a,x]}).get? f.objs.size=some {cls:=.type "tuple",data:=.seq #[.int k a,x]}:=by rw[←K];exact n6 _ rfl
 have z4:(d.push {cls:=.type "tuple",data:=.seq #[.int k a,x]}).objs.size=f.objs.size+1:=by rw[Heap.size_push,K]
 have k4:∀b o,b≠n->b≠c->f.get? b=some o->(d.push {cls:=.type "tuple",data:=.seq #[.int k a,x]}).get? b=some o:=λ b o g b2 e=>
  f9 _ (p.extBut b o g (q.extBut b o g (r.extBut b o b2 e)))
 have r4:S (k+1) (d.push {cls:=.type "tuple",data:=.seq #[.int k a,x]}):=
  R.keep _ _ _ (R.ext (R.ext r1 q.extBut (Ne.symm J) d2) p.extBut (Ne.symm J) d2) (λ o e=>f9 _ e) (λ o e=>f9 _ e)
 generalize (d.push {cls:=.type "tuple",data:=.seq #[.int k a,x]})=g4 at C q4 z4 k4 r4 ⊢;have lt:n<f.objs.size:=i5 X;show wpAny _ _ (Builtin.SmallTypes.ownedTupleIsFree (.ref n) >>= _) _ _ ⟨g4,i,j,a+1,h⟩;rw[K];refine d4 ?_;unfold Builtin.SmallTypes.ownedTupleIsFree;refine d4 (wpAny_field C rfl (x:=.none) rfl (d7 ?_));simp only[if_true];refine d4 (wpAny_rule (d4 (wpAny_field C rfl (x:=old) rfl (d4 (wpAny_setField_rec C (by simp) λ H N B=>?_)))))
 replace B:Heap.SameBut n g4 H:=B
 replace N:IsEnum H n c ((k:Int)+1) x:=N
 show wpAny _ _ (Builtin.SmallTypes.ownedTupleHandOut (.ref n) (.ref f.objs.size) >>= _) _ _ ⟨H,i,j,a+1,h⟩;refine d4 ?_;unfold Builtin.SmallTypes.ownedTupleHandOut;refine d4 (wpAny_setField_rec N (by simp) λ Y M z=>?_)
 replace z:Heap.SameBut n H Y:=z
 replace M:IsEnumOut Y n c ((k:Int)+1) x f.objs.size:=M
 refine wpAny_setField_rec M (by simp) λ F L y=>?_
 replace y:Heap.SameBut n Y F:=y
 replace L:IsEnumOut F n c ((k:Int)+1) x f.objs.size:=L
 have u:∀b o,b≠n->g4.get? b=some o->F.get? b=some o:=λ b o g e=>y.extBut b o g (z.extBut b o g (B.extBut b o g e));exact d4 (wpAny_letGo (d7 ⟨_,rfl,hQ F ⟨L,R.keep _ _ _ r4 (λ o e=>u _ o (Ne.symm J) e) (λ o e=>u _ o d2 e),u _ _ (Nat.ne_of_gt lt) q4,by rw[y.1,z.1,B.1,z4],λ b o g b2 e=>u b o g (k4 b o g b2 e)⟩⟩))
theorem uq(R:Src P w c l vs S)(d:IsEnum s.heap n c k old)(f:S k s.heap)(e:vs[k]? = some x)(i:n≠c)(h:l≠n)(g:∀b,iG s b n c k x S->Q (some (.ref s.heap.objs.size)) {s with heap:=b,toks:=s.toks+1}) :
  wpAny (model P w) A (pyNext (.ref n)) Q E s:=by
 have T:s.TypeIs (.ref n) "enumerate":=⟨_,d,rfl⟩;unfold pyNext;exact d4 (wpAny_attempt (wpAny_callSpecial?_slot T F.slot_enumerate_next (wpAny_call_entry F.slot_enumerate_next T F.entry_enumerate_next (uo R d f e i h λ b a=>d7 (g b a)) (F.args_enumerate_next_1 _))))
theorem ur(i:A.handled=none)(R:Src P w c l vs S)(a:IsEnum s.heap n c k old)(m:S k s.heap)(h:vs[k]? = none)(p:∀b,Heap.ExtBut c s.heap b->Q none {s with heap:=b}) :
  wpAny (model P w) A (pyNext (.ref n)) Q E s:=by
 have T:s.TypeIs (.ref n) "enumerate":=⟨_,a,rfl⟩;unfold pyNext;refine d4 (wpAny_attempt (wpAny_callSpecial?_slot T F.slot_enumerate_next (wpAny_call_entry F.slot_enumerate_next T F.entry_enumerate_next ?_ (F.args_enumerate_next_1 _))));show wpAny _ _ (field _ 2 >>= _) _ _ _;refine d4 (wpAny_field a rfl rfl (d4 (R.stop k i m h λ g1 e d j=>?_)));obtain⟨o,g,f⟩:=j;exact d4 (wpAny_isInstance ⟨o,g,f⟩ isSubtype_stop (d7 (p _ d)))
end
open AutoSeq1 (wpAny_loadPart') in
theorem ut(l:zn)(vs:zr zk)(m:Nat)(dc:on zn)(sl:zr (on zk)):Meets (Builtin.«enumerate.__new__» ⟨[.type "enumerate",.ref l],[]⟩) (λ _ R s=>s.heap.get? l=some {cls:=.type "tuple",dict:=dc,data:=.seq vs m,slots:=sl} /\
  R (.ok (.ret (.ref (zH1 s.heap true l).objs.size))) {s with heap:=(zH1 s.heap true l).push {cls:=.type "enumerate",data:=.fields #[.none,.bool false,.ref s.heap.objs.size,rawInt 0,.none,.none]}}):=
 .of_wp λ P w A R s h=>by
  obtain⟨g0,gg,gd,gt,go⟩:=s;obtain⟨q,h⟩:=h;have hsub:=sub_enumerate;have qT:Heap.IsTuple (Shared.heap ⟨g0,gg,gd,gt,go⟩) l vs:=⟨_,q,rfl,m,rfl⟩
  wp_walk using wpAny_loadPart' q
  refine wpAny_stack_any λ st=>d7 ?_;split
  ·rename_i y _ _ _ _ _;cases(y==Value.type "enumerate")
   ·wp_walk using wpAny_loadPart' q,wpAny_pyIter_tuple qT
    exact⟨_,rfl,h⟩
   ·wp_walk using wpAny_loadPart' q,wpAny_pyIter_tuple qT
    exact⟨_,rfl,h⟩
  ·wp_walk using wpAny_loadPart' q,wpAny_pyIter_tuple qT
   exact⟨_,rfl,h⟩
theorem uu         (t : Bool) (q : SqK t s.heap l vs)
    (h : ∀ a, IsEnum a (s.heap.objs.size + 1) s.heap.objs.size 0 .none -> sK t s.heap.objs.size l vs 0 a -> a.objs.size = s.heap.objs.size + 2 -> (∀ b o, s.heap.get? b = some o -> a.get? b = some o) -> Q (.ref (s.heap.objs.size + 1)) { s with heap := a }) :
    wpAny (model P w) A (call (.type "enumerate") [.ref l]) Q E s := by
  cases t with
  | false => exact call_enumerate_list (q) λ a z x v k => h a z ⟨x, Heap.IsList.at (q) λ o e => k _ o e⟩ v k
  | true =>
    obtain⟨⟨y, u, r, n⟩, p, d, m, c⟩ := id (q)
    replace d : y = .type "tuple" := d
    replace c : r = .seq vs m := c
    subst d c;refine callType_new F.called_enumerate (by decide) (F.typeCall_enumerate_1 _) (F.newCall_enumerate_1 _) (λ f => F.args_object_init_2 f _) F.entry_enumerate_new (ut l vs m u n) ⟨p, ?_⟩;have g : (zH1 s.heap true l).objs.size = s.heap.objs.size + 1 := Heap.size_push ..;have i := n6 (zH1 s.heap true l) (o := { cls := .type "enumerate", data := .fields #[.none, .bool false, .ref s.heap.objs.size, rawInt 0, .none, .none] }) rfl;have j : ∀ b o, s.heap.get? b = some o -> ((zH1 s.heap true l).push { cls := .type "enumerate", data := .fields #[.none, .bool false, .ref s.heap.objs.size, rawInt 0, .none, .none] }).get? b = some o := λ b o e => f9 _ (f9 _ e)
    rw [g] at i;show _ /\ _;rw [g];exact ⟨⟨_, i, rfl⟩, h _ i (bw (f9 _ (n6 _ rfl)) q j) (by rw [Heap.size_push, g]) j⟩
def Ite(K:zA)(t:Bool)(a:zn):It:=
  ⟨λ i H=>∃xs x,SqD t K H a xs/\xs[i]? = some x,
   λ i H x H'=>∃p v,x=.ref p/\H p=none/\(∀xs,SqD t K H a xs->xs[i]? = some v)/\H'=upd H p (.tup [.int i,v]),
   λ i H=>∃xs,SqD t K H a xs/\xs.length<=i⟩
theorem uv{K:zA}(t:Bool)(d1:n≠c)(d2:l≠n)(d3:l≠c) :
  Turn P w K (.Tuple elts k pos) (Ite K t l) [n,c] n (λ i h=>(∃f,IsEnum h n c (i:Nat) f)/\itK t h c l i) where
 mem:=by simp
 obj:=λ i h st b g=>by
  obtain⟨⟨f,m⟩,r⟩:=st;simp only[e8,List.not_mem_nil,or_false]at g;rcases g with rfl | rfl
  ·exact⟨_,m,λ v q=>by cases q⟩
  ·obtain⟨o,Y,e,d⟩:=Q5 r;exact⟨o,e,λ v q=>by rw[d]at q;cases q⟩
 keep:=λ i h h' st q=>by obtain⟨⟨f,m⟩,r⟩:=st;exact⟨⟨f,q n (by simp) _ m⟩,Q4 r λ o e=>q c (by simp) o e⟩
 item:=by
  intro X R N S Z i j s C H E I B st Q;subst R N S;obtain⟨⟨f,m⟩,r⟩:=st;obtain⟨Y,x,A,M⟩:=Q;obtain⟨L,J,p⟩:=I.sqd A;obtain⟨u,hu,ru⟩:=J.get M;refine uq (O1 t d3) m (Q2 r p) (x:=u) (by simpa using hu) d1 d2 λ h' a=>⟨_,rfl,?_⟩
  obtain⟨a1,a2,a3,a4,a5⟩:=a;refine wpAny_letOwnedTupleGo_enum a1 λ U O F=>?_
  have z:s.heap.objs.size≠n:=Nat.ne_of_gt (i5 m);have keep:∀b o,b∉[n,c]->s.heap.get? b=some o->U.get? b=some o:=λ b o g e=>F.extBut _ _ (λ q=>g (by simp[q])) (a5 b o (λ q=>g (by simp[q])) (λ q=>g (by simp[q])) e);have I1:Inv X j C H {s with heap:=U,toks:=s.toks+1}:=I.turnedL (t':=s.toks+1) keep B;have y:H s.heap.objs.size=none:=I.hok.fresh (i7 _);have W:=I.fpOk (i7 _) y;have h0:X.s₀.heap.get? s.heap.objs.size=none:=Heap.get?_none_of_le I.sz;have I2:Inv X j C (upd H s.heap.objs.size (.tup [.int i,x])) {s with heap:=U,toks:=s.toks+1}:=I1.track y h0 W.2.1 (λ n c e=>W.2.2.2.2.1 n c e) (λ q hq=>W.2.2.2.2.2 q hq)
   ⟨by show(2:Nat)<=sizeLine;decide,[.int i s.toks,u],.cons ⟨_,rfl⟩ (.cons ru .nil),_,(F.extBut _ _ z a3),⟨rfl,rfl⟩,_,rfl⟩
  refine⟨.ref s.heap.objs.size,_,I2,rfl,⟨_,x,rfl,y,λ xs' e=>by rw[I.sqd_inj e A];exact M,rfl⟩,⟨⟨_,by simpa using O⟩,Q4 (Q3 a2) λ o e=>F.extBut _ _ (Ne.symm d1) e⟩,λ b g=>?_⟩;have lt:b≠s.heap.objs.size:=by
   simp only[e8,List.not_mem_nil,or_false]at g;rcases g with rfl | rfl
   ·exact Ne.symm z
   ·obtain⟨o,_,e,_⟩:=Q5 r;exact j7 (i5 e)
  rw[j4 lt];exact(B b g).1
 done:=by
  intro X R N S Z i j s C H E I B st Q;subst R N S;obtain⟨⟨f,m⟩,r⟩:=st;obtain⟨Y,A,M⟩:=Q;obtain⟨L,J,p⟩:=I.sqd A;have e1:=J.length;exact ur (I.ok.hd Z) (O1 t d3) m (Q2 r p) (by simp;omega) λ h' a=>⟨rfl,I.turnedL (t':=s.toks) (ch:=[n,c]) (λ b o g e=>a b o (λ q=>g (by simp[q])) e) B⟩
 self:=λ _ _ _ _ _ st h=>by obtain⟨⟨f,m⟩,_⟩:=st;exact wpAny_pyIter_enum m h
theorem cT:∀(k:Nat) (a:ge DV),(enuD k a).length=a.length
 | _,[]=>rfl
 | k,x::a=>by rw[enuD,p9,cT _ a,p9]
theorem iH:∀{k:Nat} {a:ge DV} {i:Nat} {d:DV},(enuD k a)[i]? = some d->∃x,a[i]? = some x/\d=.tup [.int ((k+i:Nat):Int),x]
 | _,[],_,_,h=>by simp[enuD]at h
 | k,x::a,0,d,h=>by simp[enuD]at h;exact⟨x,rfl,h.symm⟩
 | k,x::a,i+1,d,h=>by rw[enuD,List.getElem?_cons_succ]at h;obtain⟨y,c,b⟩:=iH h;exact⟨y,by simpa using c,by rw[b,show k+1+i=k+(i+1)from by omega]⟩
theorem Wk.enum(h:SqD t D.K (L2.wo k c) a xs)(r:RepL D (L2.wo j c) ds xs):Wk D (Ite D.K t a) (enuD 0 ds) k j c where
 go:=λ i H s u=>by rw[cT]at u;exact⟨xs,xs[i]'(by rw[r.length];omega),o8.sqd (s.sqd h),j8 _⟩
 same:=λ i H x A y=>by obtain⟨p,v,_,b,_,e⟩:=y;rw[e];exact r9 b
 yld:=λ i H x A d O2 s o y e g=>by obtain⟨p,v,ex,b,n,w⟩:=y;obtain⟨d1,q,rfl⟩:=iH e;obtain⟨v1,m,l⟩:=r.get q;have f:=n xs (o8.sqd (s.sqd h));rw[m]at f;cases f;subst w;refine x2.mpr ⟨p,_,ex,SqT.of (by rw[i6 (λ z=>(g p z).1 b)];exact v6),?_⟩;exact m9.mpr ⟨_,_,rfl,v7.mpr (by rw[Nat.zero_add]),RepL.one (l.mono ((au o g).trans (r9 b).wo))⟩
 stop:=λ H s=>⟨xs,o8.sqd (s.sqd h),by rw[cT,r.length];exact i7 _⟩
section
theorem cU(h:a<n):n+1≠n/\a≠n+1/\a≠n:=by omega
theorem uw:bootBuiltins "enumerate" = some (.type "enumerate"):=by decide +kernel
theorem ux(E:Gl X "enumerate")(C:X.mg "enumerate" = none)(F:PA X [e] o)(hs:j9 e=false) :
  PI X (.Tuple elts k tpos) (.Call (.Name "enumerate" p) [e] [] pos) (λ i H R=>o i H λ n g=>∃t a,n=[.ref a]/\(∃m,SqD t X.K g a m)/\R (Ite X.K t a) g):=by
 intro b s i H R I h;refine Call_ (J1 I E C uw (PyProof.Rows.callWith_type1 (thn (F pos b s i H _ I h) λ us s1 ⟨n,g,f,y,z⟩=>?_) (by rw[o6 hs]) (P7 [] (by simp))));obtain⟨t,a,J,⟨m,B⟩,q⟩:=z;subst J;obtain⟨u,rfl,x⟩:=y.one;cases x;obtain⟨A,rv,p1⟩:=f.sqd B;have j:=p1.lt;refine uu t p1 λ h' l w z6 v=>?_
 refine wpAny_pyIter_enum l ⟨s1.heap.objs.size+1,[s1.heap.objs.size+1,s1.heap.objs.size],_,_,g,rfl,(f.kept v),
  uv t (cU j).1 (cU j).2.1 (cU j).2.2,⟨⟨_,l⟩,Q3 w⟩,λ c r=>?_,q⟩
 have d:s1.heap.objs.size<=c:=by
  simp[e8,List.not_mem_nil,or_false]at r;rcases r with rfl | rfl
  ·exact Nat.le_add_right ..
  ·exact i7 _
 exact f.fpOk d (f.hok.fresh d)
theorem uy(u:Gl X "enumerate")(r:X.mg "enumerate" = none)(hs:j9 e=false)(w:∀q,g=some q->PE X e (dE X.D E δ q))
  (h:q5 (Re.thn g λ x c=>Z1 x c)=some f):PI X (.Tuple elts k tpos) (.Call (.Name "enumerate" p) [e] [] pos) (dI X.D E δ f):=by
 have C:=λ m (y:PE X e m)=>ux (elts:=elts) (k:=k) (tpos:=tpos) (p:=p) (pos:=pos) u r (A2 y C8 (o6 hs)) hs;cases b:g with
 | none=>rw[b]at h;cases h
 | some q=>
  rw[b]at h;have A:=w q b;cases q with
  | ex c=>cases h;exact(C _ A).weak λ j H L ⟨O,W,R,p⟩=>⟨O,W,R,p⟩
  | ok I K=>
   have d:q5 (Z1 I K)=some f:=h;unfold Z1 at d;split at d
   ·rename_i n J o;cases d;exact(C _ A).weak λ j H L ⟨O,W,R,p⟩=>⟨O,W,R,λ x M s1 z=>by
     have v:=R.hid.mono s1;obtain⟨a,l,F,i,B⟩:=cS o z v;exact⟨n,a,by rw[F],⟨l,o8.sqd i⟩,p _ M s1 (.enum ((t4 iE).sqd i) (B.mono (t4 iF)))⟩⟩
   ·cases d
end
theorem iI(h:IntsAre l a):∀i,i<a.length->∃t,l.getD i .none=.int (a.getD i 0) t:=by
 induction h with
 | nil=>intro i b;exact absurd b (Nat.not_lt_zero _)
 | cons n t _ c=>
  intro i b;cases i with
  | zero=>exact⟨t,rfl⟩
  | succ i=>exact c i (by simpa using b)
theorem V7{X:Cx}{pins:ge (zn×Obj)}{H H':Hp}{b:zn}(f:FpOk X pins H b)(h:H' b=none):FpOk X pins H' b:=⟨h,f.2⟩
section
theorem iJ{st:SortSt}(I:Inv X pins σ H s)(u:FpOk X pins H D)(r:FpOk X pins H kS)(i:kS≠D)(n:s.heap.get? kS=some (seqObj "list" a e))(p:s.heap.get? D=some (seqObj "list" #[] l))(hz:a.size<=64)(hl:(putIx .none ix us).length<=64)
  (m:(arrOf st).map (·.2)=(putIx .none ix us).toArray) (j:failedOf st=none)
  (h:∀g c,Inv X pins σ H g->g.heap.get? D=some (seqObj "list" (putIx .none ix us).toArray c)->P (.done (.ret .none)) g):wpAny (model X.prog X.w) A (ksk_tail D false l (.ref kS) st) P E s:=by
 unfold ksk_tail;dsimp only;refine d4 (listUpdate_at n rfl ?_ (by rw[sizeLine_eq];omega) (Nat.zero_le _));have s1:=Heap.SameBut.update s.heap kS (Obj.mapSeq λ _=>(#[]:zr zk));have d:=(s1.2 D i.symm).trans p;refine d4 (wpAny_letGo ?_);refine d4 (seqEpoch_at d rfl ?_);rw[m];simp[Bool.false_eq_true,if_false];refine d4 (listUpdate_at d rfl ?_ (Nat.zero_le _) (by rw[p7,sizeLine_eq];omega));rw[j];simp[bne_self_eq_false,Bool.false_eq_true,if_false];refine d7 (h _ _ (I.turnedL (ch:=[kS,D]) (λ b o f q=>?_) λ b f=>?_) (get?_update_seq d λ _=>(putIx Value.none ix us).toArray))
 ·have k:b≠kS:=λ z=>f (by rw[z];exact i9 ..);rw[(Heap.SameBut.update _ D _).2 b (λ z=>f (by rw[z];exact i8 _ (i9 ..))),s1.2 b k];exact q
 ·rcases e8.mp f with rfl | f
  ·exact r
  ·rw[v4.mp f];exact u
theorem uz(I:Inv X pins σ H s)(F:FpOk X pins H D)(B:FpOk X pins H kS)(v:kS≠D)(y:s.heap.get? kS=some (seqObj "list" a e))(z:s.heap.get? D=some (seqObj "list" #[] L))(w:IntsAre a.toList kz)(b:kz.length=us.length)(x:us.length<64)(k:F7 kz=some ix)
  (h:∀d c,Inv X pins σ H d->d.heap.get? D=some (seqObj "list" (putIx .none ix us).toArray c)->ix.length=us.length->P (.done (.ret .none)) d):wpAny (model X.prog X.w) A (ksk_end D false us.toArray L (.ref kS) a) P E s:=by
 have o:a.toList.length=us.length:=by rw[w.length,b]
 have f:a.size=us.length:=by rw[←o,t9]
 have item:∀i,(PySem.W.kas_item (a.toList.toArray.zip us.toArray) i).2=us.getD i .none:=λ i=>by
  unfold PySem.W.kas_item;rw[A7,u8];by_cases n:i<us.length
  ·rw[C6 (by simp[f];omega)];simp[j8 n]
  ·rw[Array.getElem?_eq_none (by simp;omega),List.getElem?_eq_none (by omega)];rfl
 unfold ksk_end;dsimp only;simp only[Bool.false_eq_true,if_false];unfold F7 at k;by_cases m:us.toArray.size<2
 ·rw[d6 m,d6 m];rw[p7]at m;rw[d6 (by omega)]at k;cases k;refine d4 (d7 ?_);rw[StateT.run_pure];refine d4 (d7 ?_);dsimp;have K:putIx Value.none (List.range kz.length) us=us:=by unfold putIx;apply List.ext_getElem (by simp[b]);intro i R m;simp[j8 m]
  refine iJ I F B v y z (by omega) (by rw[K];omega) ?_ rfl λ d c J g=>h d c J g (by simp[b]);rw[K];show(a.zip us.toArray).map (·.2)=us.toArray;apply Array.ext (by simp[f]);intro i R m;simp
 ·rw[d9 m,d9 m];rw[p7]at m;rw[d9 (by omega)]at k;obtain⟨p,M,r⟩:=t7.mp k;rw[ksk_kind w (by rw[f];omega)];refine d4 (d7 ?_);have W:a.zip us.toArray=a.toList.toArray.zip us.toArray:=by simp
  rw[W];refine d4 (wpAny_mono (PySem.W.kat_run (Q:=λ l d=>ix.length=us.length/\(arrOf l).map (·.2)=(putIx .none ix us).toArray/\failedOf l=none/\d=s) (G:=λ q d=>q=p/\d=s)
   o (by omega) x (λ q l d a1 a2 Z Y=>?_) (bI (λ i j C n N O=>?_) ⟨rfl,rfl⟩ _ (by rw[←b];exact M))) ?_ λ _ _ e=>e)
  ·obtain⟨rfl,rfl⟩:=Y;refine⟨by rw[←r,t9];exact a1,?_,Z,rfl⟩;rw[a2,←r];apply Array.ext';unfold putIx;simp only[Array.toList_map,List.map_map];exact List.map_congr_left λ i _=>item i
  ·show wpAny _ A _ C _ s;obtain⟨t,U⟩:=iI w i n;obtain⟨u,S⟩:=iI w j N;rw[U,S];exact PySem.W.kat_lt_int O
  ·rintro⟨⟨⟩,l⟩ d ⟨b1,b2,b3,rfl⟩
   dsimp;exact iJ I F B v y z (by omega) (by unfold putIx;rw[e7];omega) b2 b3 λ d c J g=>h d c J g b1
theorem uA(I:Inv X pins σ H s)(fD:FpOk X pins H D)(fk:FpOk X pins H kS)(hne:kS≠D)(hk:s.heap.get? kS=some (seqObj "list" #[] 0))(hD:s.heap.get? D=some (seqObj "list" #[] e1))(rv:Vals vs us)(hlen:kz.length=us.length)(h64:us.length<64)(hix:F7 kz=some ix)
  (turn:∀(i:Nat) (v:V) (u:zk) (k:Int),vs[i]? = some v->RelV v u->kz[i]? = some k->∀pins' s' H',Inv X pins' σ H' s'->Same H H'->wpAny (model X.prog X.w) A (call (.ref f) [u]) (EP X pins' σ (λ w H''=>w=.int k/\Same H' H'')) (λ _ _=>False) s')
  (h:∀s' H' c,Inv X pins σ H' s'->Same H H'->H' D=none->s'.heap.get? D=some (seqObj "list" (putIx .none ix us).toArray c)->ix.length=us.length->P (.done (.ret .none)) s'):wpAny (model X.prog X.w) A (ksk_rest D (.ref f) false us.toArray e1 (.ref kS)) P E s:=by
 unfold ksk_rest;refine d4 (wpAny_rule ?_)
 first
  | rw[List.forIn_toArray]
  | (rw[←Array.forIn_toList];simp only[List.toList_toArray])
  | rw[←Array.forIn_toList]
 refine d4 (ksk_fold (λ i s'=>∃H' kA e,Inv X pins σ H' s'/\Same H H'/\H' D=none/\H' kS=none/\s'.heap.get? kS=some (seqObj "list" kA e)/\s'.heap.get? D=some (seqObj "list" #[] e1)/\IntsAre kA.toList (kz.take i)) us 0 s
  ⟨H,#[],0,I,Same.refl H,fD.1,fk.1,hk,hD,by simpa using IntsAre.nil⟩ ?step ?done)
 case step=>
  rintro j x s' hx ⟨H',kA,e,I',sm,nD,nk,gk,gD,hi⟩
  simp only[Nat.zero_add]at hi ⊢;have hj:j<us.length:=(t6.mp hx).1;obtain⟨k,hkj⟩:∃k,kz[j]? = some k:=⟨_,j8 (by omega)⟩;have hvj:j<vs.length:=by rw[rv.length];exact hj
  obtain⟨v,hv⟩:∃v,vs[j]? = some v:=⟨_,j8 hvj⟩;obtain⟨u,hu,ru⟩:=rv.get hv;rw[hx]at hu;cases hu;have hz:kA.size<=us.length:=by have h1:=hi.length;rw[t9,List.length_take]at h1;omega
  have Ip:=I'.pinned (fp:=[kS,D]) (λ b hb=>by
   rcases e8.mp hb with rfl | hb
   ·exact V7 fk nk
   ·rw[v4.mp hb];exact V7 fD nD) (λ b hb=>by
   rcases e8.mp hb with rfl | hb
   ·exact⟨_,gk,λ v z=>by cases z⟩
   ·rw[v4.mp hb];exact⟨_,gD,λ v z=>by cases z⟩)
  refine d4 (wpAny_attempt (wpAny_mono (turn j v x k hv ru hkj _ s' H' Ip sm) (λ y s'' he=>?_) λ _ _ hF=>hF.elim));obtain⟨w,H'',I'',r,rfl,sm'⟩:=he;obtain⟨t,rfl⟩:=r;dsimp only;obtain⟨qk,nk',_⟩:=I''.pin _ (v9 _ (v9 _ (N7 (i9 ..) gk)));obtain⟨qD,nD',_⟩:=I''.pin _ (v9 _ (v9 _ (N7 (i8 _ (i9 ..)) gD)));have s1:=Heap.SameBut.update s''.heap kS (Obj.mapSeq (·.push (.int k t)));have ek:kz.take (j+1)=kz.take j++[k]:=by rw[List.take_add_one,hkj];simp
  have ea:(kA.push (Value.int k t)).toList=kA.toList++[Value.int k t]:=by simp
  refine d4 (listUpdate_at qk rfl ?_ (by rw[sizeLine_eq];omega) (g9 (Nat.le_of_eq (Array.size_push ..)) (by rw[sizeLine_eq];omega)));refine d7 ⟨rfl,H'',kA.push (.int k t),_,I''.unpinned.turnedL (t':=s''.toks) (ch:=[kS]) (λ b o hb q=>?_) (λ b hb=>?_),sm.trans sm',nD',nk',get?_update_seq qk (·.push (.int k t)),(s1.2 D (Ne.symm hne)).trans qD,by rw[ea,ek];exact ksk_snoc hi⟩
  ·rw[s1.2 b λ z=>hb (by rw[z];exact i9 ..)];exact q
  ·rw[v4.mp hb];exact V7 fk nk'
 case done=>
  rintro s' ⟨H',kA,e,I',sm,nD,nk,gk,gD,hi⟩
  have hi':IntsAre kA.toList kz:=(by rw[List.take_of_length_le (by omega)]at hi;exact hi);refine d4 (listItems_at gk rfl ?_);exact uz I' (V7 fD nD) (V7 fk nk) hne gk gD hi' hlen h64 hix λ s2 c J g hl=>h s2 H' c J sm nD g hl
theorem uB(I:Inv X pins σ H s)(Y:SqL X.K H a vs)(R:kz.length=vs.length)(h64:vs.length<64)(N:F7 kz=some ix)
  (turn:∀(i:Nat) (v:V) (u:zk) (k:Int),vs[i]? = some v->RelV v u->kz[i]? = some k->∀p K y,Inv X p σ y K->Same H y->wpAny (model X.prog X.w) X.A.in1.in1 (call (.ref f) [u]) (EP X p σ (λ w P=>w=.int k/\Same y P)) (λ _ _=>False) K)
  (h:∀y q,Same H y->y q=none->Q (.ref q) (upd y q (.lst (putIx .non ix vs)))):wpAny (model X.prog X.w) X.A (call (.builtin "sorted") [.ref a] [(Str.ofString "key",.ref f)]) (EP X pins σ Q) E s:=by
 obtain⟨m,L,U,zl⟩:=I.list Y;have W:=L.length;refine call_function_entry_kw kind_sorted plain_sorted entry_sorted (ksk_s1 _ _) ?_
 unfold Builtin.«sorted»;refine d4 (d7 ?_);refine d4 (collect_list U.isList ?_ (by rw[sizeLine_eq];omega));refine d4 (wpAny_newList ?_ (by rw[sizeLine_eq];omega));have z:((s.heap.push (seqObj "list" #[] 0)).update s.heap.objs.size (Obj.mapSeq (· ++ m.toArray))).objs.size=s.heap.objs.size+1:=(by rw[Heap.size_update,size_push']);have r:(((s.heap.push (seqObj "list" #[] 0)).update s.heap.objs.size (Obj.mapSeq (· ++ m.toArray))).push (seqObj "list" m.toArray 0)).get? (s.heap.objs.size+1)=some (seqObj "list" m.toArray 0):=(by rw[←z];exact n6 _ rfl);have keep:∀b o,s.heap.get? b=some o->(((s.heap.push (seqObj "list" #[] 0)).update s.heap.objs.size (Obj.mapSeq (· ++ m.toArray))).push (seqObj "list" m.toArray 0)).get? b=some o:=λ b o q=>by have x:b<s.heap.objs.size:=i5 q;rw[Heap.get?_push_ne _ _ _ (by rw[z];exact j7 (Nat.lt_succ_of_lt x)),Heap.get?_update_ne _ _ _ _ (j7 x),Heap.get?_push_ne _ _ _ (j7 x)];exact q
 show wpAny _ _ _ _ _ {s with heap:=((s.heap.push (seqObj "list" #[] 0)).update s.heap.objs.size (Obj.mapSeq (· ++ m.toArray))).push _};rw[z];refine d4 (wpAny_holding (wpAny_call_entry_kw slot_list_sort ⟨_,r,rfl⟩ entry_list_sort ?body (ksk_l1 _ _)))
 case body=>
  rw[ksk_t1];unfold ksk_tree;refine d4 (listItems_at r rfl ?_);refine d4 (listUpdate_at r rfl ?_ (by rw[p7,sizeLine_eq];omega) (Nat.zero_le _));generalize O:((s.heap.push (seqObj "list" #[] 0)).update s.heap.objs.size (Obj.mapSeq (· ++ m.toArray))).push _=C at r keep ⊢;have M:C.objs.size=s.heap.objs.size+2:=by rw[←O,size_push',z]
  have s1:=Heap.SameBut.update C (s.heap.objs.size+1) (Obj.mapSeq λ _=>(#[]:zr zk));obtain⟨S,A⟩:∃S,(C.update (s.heap.objs.size+1) (Obj.mapSeq λ _=>(#[]:zr zk))).get? (s.heap.objs.size+1)=some _:=⟨_,get?_update_seq r λ _=>#[]⟩;refine d4 (seqEpoch_at A rfl ?_);refine d4 (wpAny_newTuple ?_ (by show m.length<=_;rw[sizeLine_eq];omega));refine d4 (wpAny_newList ?_ (Nat.zero_le _));refine wpAny_holding ?_;have B:((C.update (s.heap.objs.size+1) (Obj.mapSeq λ _=>(#[]:zr zk))).push (seqObj "tuple" m.toArray 0)).objs.size=s.heap.objs.size+3:=by rw[size_push',Heap.size_update,M]
  have I1:Inv X pins σ H {s with heap:=((C.update (s.heap.objs.size+1) (Obj.mapSeq λ _=>(#[]:zr zk))).push (seqObj "tuple" m.toArray 0)).push (seqObj "list" #[] 0)}:=I.kept (t':=s.toks) λ b o q=>by have x:b<s.heap.objs.size:=i5 q;refine f9 _ (f9 _ ?_);rw[s1.2 b (j7 (Nat.lt_succ_of_lt x))];exact keep b o q
  have F:∀n,H (s.heap.objs.size+n)=none:=λ n=>I.hok.fresh (Nat.le_add_right _ _);refine uA I1 (I.fpOk (Nat.le_succ _) (F 1)) (by rw[B];exact I.fpOk (Nat.le_add_right _ _) (F 3)) (by rw[B];exact Nat.ne_of_gt (Nat.add_lt_add_left (by decide) _)) (n6 _ rfl)
   (f9 _ (f9 _ A)) L (by omega) (by omega) N turn λ K y c J sm nD g Z=>⟨_,rfl,?_⟩
  refine d7 ⟨_,rfl,.ref _,upd y (s.heap.objs.size+1) _,?_,rfl,h y _ sm nD⟩;refine J.track nD ?_ (I.fpOk (H':=H) (Nat.le_succ _) (F 1)).2.1 (I.fpOk (H':=H) (Nat.le_succ _) (F 1)).2.2.2.2.1 (I.fpOk (H':=H) (Nat.le_succ _) (F 1)).2.2.2.2.2 ⟨by unfold putIx;rw[e7,Z,sizeLine_eq];omega,putIx .none ix m,c,L.putIx ix,g⟩;exact Heap.get?_none_of_le (g9 I.sz (Nat.le_succ _))
end
section
variable {X:Cx} {E:St->XK} {δ:ge Sv} {ea bd:zq} {pos p lp kp:Pos} {re:Re} {k:Nat} {x:Str} {pr:zC} {sc:zB} {c P:zn} {m:LamD} {cs:ge DV} {fr:ge Nat} {pins:ge (zn×Obj)} {σ:St} {H:Hp} {s:zm} {O W:ge zn} {f:zn}
theorem uC(I:Inv X pins σ H s)(L:LamAt X sc c P)(T:LamTx m.N (m.N.take m.np) sc)(n:M5 m pr bd sc=true)(hN:m.N.length=m.np+fr.length)(d:∀(j i:Nat),fr[j]? = some i->∃y,m.N[m.np+j]? = some y/\X.N[i]? = some y/\X.env.kindOf y=some .cell)
  (r:capD δ fr=some cs) (R:RSt X.D H σ δ O W) (lf:E6 H (X.env.qual ++ "<lambda>") pr bd sc (n7 X.env.cells sc.names []) f):Rep X.D (L2.wo (O++W) (trC ((n7 X.env.cells sc.names []).map (·.2)) s.heap H)) (.lam m cs) (.ref f):=by
 generalize U:(n7 X.env.cells sc.names []).map (·.2)=l;have B:=Cells.of (sc:=sc) I (L.has I.ok);rw[U]at B;have S:=T.full I (L.has I.ok);rw[U]at S;obtain⟨Z,K,w2,w3⟩:=ir R r;have same:=B.same;have hdA:=R.hid.hdA;have N:∀{b:zn} {o:Obj} {u:HO},H b=some (.frz o u)->b∉O++W:=λ {b o u} e z=>by obtain⟨o',a,A⟩:=hdA b z;rw[e]at a;cases a;cases A
 have Q:∀{b:zn},b∈l->b∉O++W:=λ {b} hb z=>by obtain⟨o',a,A⟩:=hdA b z;rw[B.none b hb]at a;cases a
 refine bX.mpr ⟨f,pr,bd,sc,X.env.qual ++ "<lambda>",n7 X.env.cells sc.names [],l,Z,rfl,?_,n,S,w2.mono same.wo,by rw[hN,K],λ c F=>?_,λ i y v x w=>?_⟩
 ·obtain⟨c',C,u,vs,t,pm,J,x,w,h3⟩:=lf;exact⟨c',C,u,vs,t,pm,J,by rw[i6 (N x)];exact same _ _ x,by rw[i6 (N w)];exact same _ _ w,h3⟩
 ·obtain⟨o,v,g,d'⟩:=B.cel c F;exact⟨o,v,by rw[i6 (Q F)];exact aq F g,d'⟩
 ·have hi:i<fr.length:=by rw[←K];exact(t6.mp w).1
  have Y:fr[i]? = some fr[i]:=j8 hi;obtain⟨y',a,A,M⟩:=d i _ Y;rw[x]at a;cases a;have hv:=w3 i _ v Y w;obtain⟨mm,hn',E⟩:=I.loc;obtain⟨u,rv,lk⟩:=E _ y v A hv (.inr (.inl M));rcases lk with⟨h,_⟩ | ⟨h,cc,k2,o,k3,k4⟩
  ·have h:X.env.kindOf y=some .local:=h;rw[M]at h;cases h
  ·have k:=PySem.mem_of_lookup (T.fre (m.np+i) y (by rw[List.length_take];exact g9 (Nat.min_le_left _ _) (Nat.le_add_right _ _)) x);have p:=iq (L.has I.ok) k k2;have q:cc∈l:=S.mem y cc p;exact⟨cc,o,u,p,by rw[i6 (Q q)];exact aq q k3,k4,rv⟩
theorem uD{F:Nat->ge DV->on Ou}(I:Inv X pins σ H s)(lo:Q0 X.prog X.w X.K X.mg X.base fn bl cl k (F z8))(hr:RoomL k A)(hA:A.frames=X.A.frames)(h1:m.fn=fn)(h2:m.bl=bl)(h3:m.cl=cl)
  (L:LamAt X sc c P) (T:LamTx m.N (m.N.take m.np) sc) (x:∀y∈sc.names,y.2=NameKind.free->X.fn y.1=true) (B:M5 m pr bd sc=true) (hN:m.N.length=m.np+fr.length) (q:∀(j i:Nat),fr[j]? = some i->∃y,m.N[m.np+j]? = some y/\X.N[i]? = some y/\X.env.kindOf y=some .cell)
  (C:capD δ fr=some cs) (R:RSt X.D H σ δ O W) (lf:E6 H (X.env.qual ++ "<lambda>") pr bd sc (n7 X.env.cells sc.names []) f) (Y:Rep X.D (L2.wo (O++W) H) d v) (U:RelV v u) (hF:F z8 [.lam m cs,d]=some (.v (.int n) false)) :
  wpAny (model X.prog X.w) A (call (.ref f) [u]) (EP X pins σ (λ w N=>w=.int n/\Same H N)) (λ _ _=>False) s:=by
 have lamR:=uC I L T B hN q C R lf;generalize Q:(n7 X.env.cells sc.names []).map (·.2)=l at lamR;have E:=Cells.of I (L.has I.ok);rw[Q]at E;have K:=tY I (L.has I.ok) x;rw[Q]at K;have same:=E.same;have p:=I.env0;refine wpAny_call (codeAny_mono (lo A X.stack s _ [u] [v] (λ v J=>Same _ J/\v=.int n) (λ _ _ _=>False) (O++W) f m cs [d] _ hr (Env0.trC E (λ c M=>(K c M).1) (λ c M=>(K c M).2) (⟨hA.trans p.frames,p.mod,p.bs,p.bsz,p.funs,p.frf,p.hok,p.bare⟩)) (.cons U .nil) (λ a ha=>?_) h1 h2 h3 lamR (RepL.one (Y.mono same.wo)) hF λ v J sm g=>⟨sm,v7.mp g⟩) λ r S h=>?_)
 ·obtain⟨o,q1,Z⟩:=R.hid.hdA a ha;exact⟨o,same _ _ q1,Z⟩
 ·cases r with
  | error e=>
   obtain⟨_,_,_,_,_,_,_,_,_,_,z⟩:=(h:CXx X.prog X.w X.base X.stack _ s (λ _ _ _=>False) e S);exact z.elim
  | ok fl=>
   cases fl with
   | ret u=>
    refine I.after (CE.trC E h (λ v J sm z=>⟨z.2,λ b o e=>?_⟩) λ v J z=>z.1);rw[i6 λ w=>by rw[E.none b w]at e;cases e];exact sm _ _ (same _ _ e)
   | next=>exact False.elim h
   | brk=>exact False.elim h
   | cont=>exact False.elim h
theorem iK:∀{b:ge DV} {a:ge Int},G7 F mm b=some a->a.length=b.length/\∀(i:Nat) d n,b[i]? = some d->a[i]? = some n->F z8 [mm,d]=some (.v (.int n) false)
 | [],a,h=>by cases h;exact⟨rfl,λ i d n h=>by cases h⟩
 | d::r,a,h=>by
  unfold G7 at h;split at h
  ·rename_i n e;obtain⟨l,m,rfl⟩:=t7.mp h;obtain⟨j,g⟩:=iK m;refine⟨by rw[p9,p9,j],λ i o k f c=>?_⟩;cases i with
   | zero=>cases f;cases c;exact e
   | succ i=>exact g i o k f c
  ·cases h
def QK(X:Cx)(δ:ge Sv)(F:Nat->ge DV->on Ou)(m:LamD)(cs:ge DV)(pr:zC)(bd:zq)(sc:zB)(σ:St)(Q:VK):ge V->Hp->Prop:=λ vs H1=>∃va,vs=[va]/\∀f H2,Same H1 H2->H1 f=none->E6 H2 (X.env.qual ++ "<lambda>") pr bd sc (n7 X.env.cells sc.names []) f ->
 ∃O W a xs ds ks ix,va=V.ref a/\RSt X.D H2 σ δ O W/\SqL X.K H2 a xs/\RepL X.D (L2.wo (O++W) H2) ds xs/\ds.length<64/\G7 F (.lam m cs) ds=some ks/\F7 ks=some ix/\∀H' q,Same H2 H'->H' q=none->Q (.ref q) (upd H' q (.lst (L2.putIx .non ix xs)))
theorem uE(lo:Q0 X.prog X.w X.K X.mg X.base fn bl cl k (F z8))(hr:Room k X.A)(h1:m.fn=fn)(h2:m.bl=bl)(h3:m.cl=cl)(hg:Gl X "sorted")(hm:X.mg "sorted" = none)(J:j9 ea=false)
  (L:LamAt X sc c P) (Y:defaultsOf pr X.env=([],[])) (T:LamTx m.N (m.N.take m.np) sc) (U:∀y∈sc.names,y.2=NameKind.free->X.fn y.1=true) (Z:M5 m pr bd sc=true) (hN:m.N.length=m.np+fr.length) (B:∀(j i:Nat),fr[j]? = some i->∃y,m.N[m.np+j]? = some y/\X.N[i]? = some y/\X.env.kindOf y=some .cell)
  (a0:capD δ fr=some cs) (ha:PE X ea (dE X.D E δ ra)) (h:(Re.thn (some ra) λ x cx=>srtL F (.lam m cs) x cx)=some re):PE X (.Call (.Name "sorted" p) [ea] [⟨some "key",.Lambda pr bd sc lp,kp⟩] pos) (dE X.D E δ re):=by
 have C:∀{ta:TE},PE X ea ta->PE X (.Call (.Name "sorted" p) [ea] [⟨some "key",.Lambda pr bd sc lp,kp⟩] pos) (λ d H Q=>aX ta tNil d H (QK X δ F m cs pr bd sc d Q)):=λ {ta} A=>by
  intro g s d H Q I h;refine wpAny_Call_Name_kw (J1 I hg hm boot_sorted ?_ (by decide) (by decide));refine PyProof.Rows.callWith_kw (thn (A2 A (C8 (X:=X)) (o6 J) pos g s d H _ I h) λ us s1 ⟨vs,H1,I1,r1,q1⟩=>?_) (by rw[o6 J];rfl) (by rw[o6 J];rfl);obtain⟨va,rfl,q1⟩:=q1;refine thn (nU (kpos:=kp) (tZ (bd:=bd) (lp:=lp) L Y) (nT (X:=X)) pos g s1 d H1 (λ ws b=>∃f,ws=[.ref f]/\E6 b (X.env.qual ++ "<lambda>") pr bd sc (n7 X.env.cells sc.names []) f/\∃O W a r o S N,va=V.ref a/\RSt X.D b d δ O W/\SqL X.K b a r/\RepL X.D (L2.wo (O++W) b) o r/\o.length<64/\G7 F (.lam m cs) o=some S/\F7 S=some N/\∀H' q,Same b H'->H' q=none->Q (.ref q) (upd H' q (.lst (L2.putIx .non N r)))) I1
   (λ f b sm hn lf=>⟨f,rfl,lf,q1 f b sm hn lf⟩)) λ ws M B0=>?_
  obtain⟨zs,b,I2,rz,f,e,lf,O,W,a,r,o,S,N,e',R,sq,rl,a5,hk,K,hq⟩:=B0;subst e e';obtain⟨u1,rfl,a3⟩:=C7 r1;obtain⟨u2,rfl,a2⟩:=C7 rz;obtain rfl:u1=Value.ref a:=a3;obtain rfl:u2=Value.ref f:=a2;show wpAny _ X.A _ _ X.xe M;obtain⟨k1,k2⟩:=iK hk;refine uB I2 sq (by rw[k1,rl.length]) (by rw[rl.length];exact a5) K (λ i v u n hv ru hn a4 s' H' I' sm=>?_) hq;have hi:i<o.length:=by rw[←rl.length];exact(t6.mp hv).1
  have hd:=j8 hi;obtain⟨v',e1,rp⟩:=rl.get hd;rw[hv]at e1;cases e1;exact uD I' lo hr.toL2 rfl h1 h2 h3 L T U Z hN B a0 (R.mono sm) (lf.mono sm) (rp.mono sm.wo) ru (k2 i _ n hd hn)
 cases ra with
 | ex c=>cases h;exact(C ha).weak λ d H Q ⟨O,W,R,p⟩=>⟨O,W,R,p⟩
 | ok dx cx=>
  have l:srtL F (.lam m cs) dx cx=some re:=h;unfold srtL at l;split at l
  ·rename_i o;split at l
   ·rename_i z;obtain⟨S,hk,l⟩:=Option.bind_eq_some_iff.mp l;obtain⟨N,K,rfl⟩:=t7.mp l;refine(C ha).weak λ d H Q ⟨O,W,R,p⟩=>⟨O,W,R,λ va H1 s1 g1=>⟨va,rfl,λ f b M hn lf=>?_⟩⟩
    have w:=s1.trans M;obtain⟨a,r,e1,e2,e3⟩:=g1.lstC (R.hid.mono s1);have a1:RepL X.D (L2.wo (O++W) H1) o r:=by
     cases cx with
     | strong=>exact e3
     | fresh=>exact e3
     | weak=>cases z.1
     | top=>exact e3
     | ft=>cases z.1
    refine⟨O,W,a,r,o,S,N,e1,R.mono w,SqL.of (M _ _ e2),a1.mono M.wo,z.2,hk,K,λ H' q sm hq=>p _ _ ((w.trans sm).trans (r9 hq)) ?_⟩;exact E7 (R.hid.mono (w.trans sm)) hq ((a1.mono (M.trans sm).wo).putIx N)
   ·cases l
  ·cases l
end
noncomputable def dEnd(D:Dm)(E:St->XK)(H0:Hp)(O:ge zn)(Dn:Ends):Out->Prop
 | .nx δ=>∀σ H W,RSt D H σ δ O W->(∀a∈W,H0 a=none)->Same H0 H->Dn.nx σ H
 | .rt d fr=>∀v H,Same H0 H->GotR D O H0 H d fr v->Dn.rt v H
 | .rtt d=>∀v H,Same H0 H->GotT D O H0 H d v->Dn.rt v H
 | .ex c δ=>∀σ H W C,D.mg c=some C->RSt D H σ δ O W->(∀a∈W,H0 a=none)->Same H0 H->E σ C none H
def dS(D:Dm)(E:St->XK)(δ:ge Sv)(o:Out):TS:=λ Dn σ H=>∃H0 O W,RSt D H σ δ O W/\(∀a∈W,H0 a=none)/\(∀a∈O,H0 a≠none)/\Same H0 H/\dEnd D E H0 O Dn o
section
theorem uF:PSs X [] (dS X.D E δ (.nx δ)):=mN.weak λ Dn a H ⟨H0,O,W,R,b,fo,sm,k⟩=>k a H W R b sm
theorem uG{st:zx}{rest:ge zx}(f:PS X st (dS X.D E δ (.nx δ1)))(e:PSs X rest (dS X.D E δ1 o)):PSs X (st::rest) (dS X.D E δ o):=
 (Y0 f e).weak λ Dn σ H ⟨c,O,W,R,g,fo,sm,k⟩=>⟨c,O,W,R,g,fo,sm,λ d H' h i b a=>⟨c,O,h,i,b,fo,a,k⟩⟩
theorem uH{st:zx}{rest:ge zx}(a:PS X st (dS X.D E δ (.rt d fr))):PSs X (st::rest) (dS X.D E δ (.rt d fr)):=
 (Y0 a L4).weak λ Dn σ H ⟨b,O,W,R,fr,fo,sm,k⟩=>⟨b,O,W,R,fr,fo,sm,k⟩
theorem uI{st:zx}{rest:ge zx}(a:PS X st (dS X.D E δ (.rtt d))):PSs X (st::rest) (dS X.D E δ (.rtt d)):=
 (Y0 a L4).weak λ Dn σ H ⟨c,O,W,R,b,fo,sm,k⟩=>⟨c,O,W,R,b,fo,sm,k⟩
theorem uJ{X:Cx}{E:St->XK}{δ:ge Sv}{st:zx}{rest:ge zx}{c:Str}{δ':ge Sv}(h1:PS X st (dS X.D E δ (.ex c δ'))):PSs X (st::rest) (dS X.D E δ (.ex c δ')):=
 (Y0 h1 L4).weak λ Dn σ H ⟨H0,O,W,R,fr,fo,sm,k⟩=>⟨H0,O,W,R,fr,fo,sm,k⟩
theorem D2(R:RSt D H σ δ O W)(fr:∀a∈W,b a=none)(sm:Same b H)(k:dEnd D E b O e (.ex c δ)):Post D E σ O W H H Q (.ex c):=
 λ d C m s=>k σ d W C m (R.mono s) fr (sm.trans s)
theorem uK(j:∀q,rt=some q->PT X c (dT X.D E δ q))(n:∀q,g=some q->PSs X body (dS X.D E δ q))(l:∀q,rp=some q->PSs X els (dS X.D E δ q))(h:(Rt.thnS δ rt λ k=>if k then g else rp)=some o):PS X (.If c body els pos) (dS X.D E δ o):=by
 cases a:rt with
 | none=>rw[a]at h;cases h
 | some q=>
  rw[a]at h;have C:=j q a;cases q with
  | ex c=>cases h;exact(aU C L4 L4).weak λ i f H ⟨e,O,W,R,d,fo,sm,k⟩=>⟨O,W,R,λ u C m s=>k f u W C m (R.mono s) d (sm.trans s)⟩
  | ok b=>
   cases b with
   | true=>
    exact(aU C (n o h) L4).weak λ i f H ⟨e,O,W,R,d,fo,sm,k⟩=>⟨O,W,R,λ r s1=>iteT ⟨e,O,W,R.mono s1,d,fo,sm.trans s1,k⟩⟩
   | false=>
    exact(aU C L4 (l o h)).weak λ i f H ⟨e,O,W,R,d,fo,sm,k⟩=>⟨O,W,R,λ r s1=>iteF ⟨e,O,W,R.mono s1,d,fo,sm.trans s1,k⟩⟩
theorem uL(U:∀q,C=some q->PE X e (dE X.D E δ q))(h:(Re.thnS δ C λ d c=>some (retD d c))=some o):PS X (.Return (some e) pos) (dS X.D E δ o):=by
 cases f:C with
 | none=>rw[f]at h;cases h
 | some q=>
  rw[f]at h;have A:=U q f;cases q with
  | ex c=>cases h;exact(S0 A).weak λ B M H ⟨y,O,W,R,w,fo,sm,k⟩=>⟨O,W,R,D2 R w sm k⟩
  | ok d cl=>
   have Y:some (retD d cl)=some o:=h;cases Y;by_cases j:cl=.ft
   ·subst j;refine(S0 A).weak λ B M H ⟨y,O,W,R,w,fo,sm,k⟩=>⟨O,W,R,λ v u s1 g=>(k:dEnd X.D E y O B (.rtt d)) v u (sm.trans s1) ?_⟩
    obtain⟨Q,t,P,p,i,L,es,r,n,x,m,K,J,Z⟩:=g;have N:Same (L2.wo (p::(O++W)) u) (L2.wo (p::O) u):=t4 λ b l=>by rcases e8.mp l with z | z;exact e8.mpr (.inl z);exact i8 _ (w4 _ z)
    exact⟨Q,t,P,p,i,L,es,r,n,(t4 K4).tseq x,sm.free m,K,J.mono N,Z.mono N⟩
   have F:retD d cl=.rt d (frD d cl):=by cases cl<;>first | rfl | exact absurd rfl j
   rw[F];refine(S0 A).weak λ B M H ⟨y,O,W,R,w,fo,sm,k⟩=>⟨O,W,R,λ v u s1 g=>(k:dEnd X.D E y O B (.rt d (frD d cl))) v u (sm.trans s1) ?_⟩
   have S:=R.hid.mono s1;cases I:frD d cl with
   | false=>exact g.weak S
   | true=>
    unfold frD at I;split at I
    ·obtain⟨p,i,L,r,n,m,K,J⟩:=g;exact⟨p,i,L,r,n,sm.free m,K,J.mono (t4 λ b l=>by rcases e8.mp l with z | z;exact e8.mpr (.inl z);exact i8 _ (w4 _ z))⟩
    ·obtain⟨a,i,r,x,n,m⟩:=g;exact⟨a,i,_,r,rfl,w a x,o8 _ _ n,m.mono (t4 λ b l=>by rcases e8.mp l with z | z;rw[z];exact v9 _ x;exact w4 _ z)⟩
    ·cases I
theorem V8(h:M2 v=false):swapsWith v t l env=pure false:=by
 cases v<;>first | rfl | cases h
theorem uM(j:∀q,ra=some q->PE X e (dE X.D E δ q))(i:M2 e=false)(h:(Re.thnS δ ra λ _ _=>some (.nx δ))=some o):PS X (.Expr e pos) (dS X.D E δ o):=by
 cases a:ra with
 | none=>rw[a]at h;cases h
 | some q=>
  rw[a]at h;have A:=j q a;cases q with
  | ex c=>cases h;exact(R9 A (V8 i)).weak λ n f H ⟨m,O,W,R,b,fo,sm,k⟩=>⟨O,W,R,D2 R b sm k⟩
  | ok d cl=>cases h;exact(R9 A (V8 i)).weak λ n f H ⟨m,O,W,R,b,fo,sm,k⟩=>⟨O,W,R,λ v l s1 g=>k f l W (R.mono s1) b (sm.trans s1)⟩
theorem H9:b∈O++p::W↔b∈p::(O++W):=by
 simp[List.mem_append,e8];constructor
 ·rintro(h | h | h)
  ·exact .inr (.inl h)
  ·exact .inl h
  ·exact .inr (.inr h)
 ·rintro(h | h | h)
  ·exact .inr (.inl h)
  ·exact .inl h
  ·exact .inr (.inr h)
theorem n9{l:ge c}(h:(l.set i a)[j]? = some b)(d:a≠b):j≠i:=λ z=>by
 subst z;have e:j<l.length:=by have:=(t6.mp h).1;rw[v5]at this;exact this
 rw[A8 e]at h;exact d (Option.some.inj h)
theorem K8{l:ge c}(h:(l.set i a)[i]? = some b):i<l.length/\a=b:=by
 have d:=(by have:=(t6.mp h).1;rw[v5]at this;exact this);rw[A8 d]at h;exact⟨d,Option.some.inj h⟩
theorem RSt.alloc(R:RSt D H σ δ O W)(s:Same H H')(M:H p=none)(x:H' p=some (.lst xs))(r:RepL D (L2.wo (p::(O++W)) H') ds xs)(i:Nat) :
  RSt D H' (σ.set i (some (.ref p))) (δ.set i (.own (.lst ds))) O (p::W):=by
 have g:Same (L2.wo (O++W) H) (L2.wo (O++p::W) H'):=λ b o e=>by obtain⟨S,e⟩:=x4 e;rw[i6 (λ z=>by rcases e8.mp (H9.mp z)with z | z;exact A0 e M z;exact S z)];exact s b o e
 refine⟨λ j d h=>?_,λ j X h=>?_,λ j k a n L J I B A=>?_,?_,R.od.step (U8 _ (by intro d z;cases z)) (λ _ h _=>i8 _ h) (λ a kvs _ h _=>s _ _ h),by rw[v5,v5];exact R.len,⟨λ a F=>?_,Same.refl _,λ a F=>?_,λ a F=>?_,R.hid.omS s⟩⟩
 ·have c:=n9 h (by intro z;cases z);rw[i4 (Ne.symm c)]at h ⊢;obtain⟨v,B,A⟩:=R.val j d h;exact⟨v,B,A.mono g⟩
 ·by_cases c:j=i
  ·subst c;obtain⟨hl,e⟩:=K8 h;cases e;exact⟨p,xs,ds,rfl,A8 (by rw[R.len];exact hl),i9,x,r.mono (t4 λ b S=>H9.mp S)⟩
  ·rw[i4 (Ne.symm c)]at h ⊢;obtain⟨a,w,K,e0,B,A,U,C⟩:=R.own j X h;exact⟨a,w,K,e0,B,i8 _ A,s _ _ U,C.mono g⟩
 ·have E:∀{j:Nat} {n:DV},(δ.set i (.own (.lst ds)))[j]? = some (.own n)->(σ.set i (some (.ref p)))[j]? = some (some (V.ref a))->(j=i/\a=p)\/(j≠i/\δ[j]? = some (.own n)/\σ[j]? = some (some (V.ref a))/\a≠p):=λ {j n} h e=>by
   by_cases c:j=i
   ·subst c;obtain⟨_,z⟩:=K8 e;cases z;exact .inl ⟨rfl,rfl⟩
   ·rw[i4 (Ne.symm c)]at h e;refine .inr ⟨c,h,e,λ z=>?_⟩;obtain⟨a',w,K,_,q1,_,q3,_⟩:=R.own j n h;rw[e]at q1;cases q1;rw[z,M]at q3;cases q3
  rcases E J B with⟨Y,N⟩ | ⟨Y,N,z3,z4⟩<;>rcases E I A with⟨Z,Q⟩ | ⟨Z,Q,y3,y4⟩
  ·rw[Y,Z]
  ·exact absurd N y4
  ·exact absurd Q z4
  ·exact R.inj j k a n L N Q z3 y3
 ·obtain⟨P,f,u⟩:=R.ot;refine⟨P,λ j d h=>?_,λ j k n L J I=>?_⟩
  ·have c:=n9 h (by intro z;cases z);rw[i4 (Ne.symm c)]at h ⊢;obtain⟨t,ts,B,A,U,C⟩:=f j d h;refine⟨t,ts,B,g.tseq A,U.mono g λ p1 _ w q=>s _ _ q,λ p1 l=>⟨i8 _ (C p1 l).1,(C p1 l).2.1.imp λ w q=>s _ _ q,λ k L q=>?_⟩⟩;by_cases hk:k=i
   ·subst hk;intro z;obtain⟨_,z⟩:=K8 z;obtain⟨w,y⟩:=(C p1 l).2.1;cases z;rw[M]at y;cases y
   ·rw[i4 (Ne.symm hk)]at q ⊢;exact(C p1 l).2.2 k L q
  ·rw[i4 (Ne.symm (n9 J (by intro z;cases z)))]at J;rw[i4 (Ne.symm (n9 I (by intro z;cases z)))]at I;exact u j k n L J I
 ·rcases e8.mp (H9.mp F)with z | z
  ·rw[z,x];intro q;cases q
  ·intro q;exact R.hid.ot a z (s.free q)
 ·rcases e8.mp F with z | z
  ·exact⟨_,by rw[z];exact x,rfl⟩
  ·obtain⟨w,q,m⟩:=R.hid.wl a z;exact⟨w,s _ _ q,m⟩
 ·rcases e8.mp F with z | z
  ·intro q;exact R.hid.ot p (w4 _ (by rw[←z];exact q)) M
  ·exact R.hid.dj a z
theorem cV(h:noOt i δ=true)(q:δ[j]? = some (.ot d)):j=i:=by
 unfold noOt at h;rw[w6]at h;have:=h j (k6.mpr ((t6.mp q).1));rw[q]at this;simpa using this
theorem iL(h:noOt i δ=true)(q:δ[j]? = some (.od d)):j=i:=by
 unfold noOt at h;rw[w6]at h;have:=h j (k6.mpr ((t6.mp q).1));rw[q]at this;simpa using this
theorem RSt.allocT{ms:ge Int}(R:RSt D H σ δ O W)(s:Same H H')(ht:SqT D.K (L2.wo (O++W) H') t (ms.map V.int ++ .ref p::F))(L:H p=none)(c:H' p=some (.lst xs))(r:RepL D (L2.wo (p::(O++W)) H') ds xs)(U:RepL D (L2.wo (p::(O++W)) H') es F)(i:Nat)(M:noOt i δ=true) :
  RSt D H' (σ.set i (some (.ref t))) (δ.set i (.ot (.tup (ms.map DV.int ++ .lst ds::es)))) O (p::W):=by
 have w:Same (L2.wo (O++W) H) (L2.wo (O++p::W) H'):=λ b o e=>by obtain⟨x,e⟩:=x4 e;rw[i6 (λ z=>by rcases e8.mp (H9.mp z)with z | z;exact A0 e L z;exact x z)];exact s b o e
 have C:Same (L2.wo (p::(O++W)) H') (L2.wo (O++p::W) H'):=t4 λ b x=>H9.mp x;have J:SqT D.K (L2.wo (O++p::W) H') t (ms.map V.int ++ .ref p::F):=by
  have ne:∀{o:HO},L2.wo (O++W) H' t=some o->(∀f,o ≠ .lst f)->L2.wo (O++p::W) H' t=some o:=λ {o} e ho=>by
   obtain⟨x,e⟩:=x4 e;rw[i6 (λ z=>by
    rcases e8.mp (H9.mp z)with z | z
    ·rw[z,c]at e;cases e;exact ho _ rfl
    ·exact x z)]
   exact e
  rcases ht with(h | ⟨o,h⟩) | h
  ·exact .inl (.inl (ne h (by intro f z;cases z)))
  ·exact .inl (.inr ⟨o,ne h (by intro f z;cases z)⟩)
  ·exact .inr h
 refine⟨λ j d h=>?_,λ j N h=>?_,λ j k a S I B A u n=>?_,?_,R.od.step (U8 _ (by intro d z;cases z)) (λ _ h _=>i8 _ h) (λ a Z _ h _=>s _ _ h),by rw[v5,v5];exact R.len,⟨λ a y=>?_,Same.refl _,λ a y=>?_,λ a y=>?_,R.hid.omS s⟩⟩
 ·have g:=n9 h (by intro z;cases z);rw[i4 (Ne.symm g)]at h ⊢;obtain⟨v,u,n⟩:=R.val j d h;exact⟨v,u,n.mono w⟩
 ·have g:=n9 h (by intro z;cases z);rw[i4 (Ne.symm g)]at h ⊢;obtain⟨a,f,E,e0,u,n,e3,e4⟩:=R.own j N h;exact⟨a,f,E,e0,u,i8 _ n,s _ _ e3,e4.mono w⟩
 ·have Y:=n9 B (by intro z;cases z);have X:=n9 A (by intro z;cases z);rw[i4 (Ne.symm Y)]at B u;rw[i4 (Ne.symm X)]at A n;exact R.inj j k a S I B A u n
 ·have l:∀{j:Nat} {d:DV},(δ.set i (.ot (.tup (ms.map DV.int ++ .lst ds::es))))[j]? = some (.ot d)->j=i:=λ {j d} h=>by
   by_cases g:j=i
   ·exact g
   ·rw[i4 (Ne.symm g)]at h;exact cV M h
  refine⟨λ _=>[p],λ j d h=>?_,λ j k S I B A ne=>absurd ((l B).trans (l A).symm) ne⟩;have g:=l h;subst g;obtain⟨hl,e⟩:=K8 h;cases e;refine⟨t,_,A8 (by rw[R.len];exact hl),J,⟨ms,p,xs,ds,es,F,rfl,rfl,rfl,c,r.mono C,U.mono C⟩,λ p1 K=>?_⟩;rw[v4.mp K];refine⟨i9,⟨xs,c⟩,λ k I q=>?_⟩;have hk:=n9 q (by intro z;cases z);rw[i4 (Ne.symm hk)]at q ⊢;intro z;obtain⟨a,f,E,f0,Q,f2,P,f4⟩:=R.own k I q;rw[z]at Q;cases Q;rw[L]at P;cases P
 ·rcases e8.mp (H9.mp y)with z | z
  ·rw[z,c];intro q;cases q
  ·intro q;exact R.hid.ot a z (s.free q)
 ·rcases e8.mp y with z | z
  ·exact⟨_,by rw[z];exact c,rfl⟩
  ·obtain⟨f,q,m⟩:=R.hid.wl a z;exact⟨f,s _ _ q,m⟩
 ·rcases e8.mp y with z | z
  ·intro q;exact R.hid.ot p (w4 _ (by rw[←z];exact q)) L
  ·exact R.hid.dj a z
theorem RSt.writeT(R:RSt D H σ δ O W)(hi:δ[i]? = some (.ot d))(ha:σ[i]? = some (some (.ref t)))(hw:p∈W)(x:∀(j:Nat) Q,δ[j]? = some (.own Q)->σ[j]? ≠ some (some (.ref p)))(B:∃c,H p=some (.lst c))(C:noOt i δ=true) :
  RSt D (upd H p (.lst n)) σ (δ.set i .no) O W:=by
 have u:Same _ (L2.wo (O++W) (upd H p (.lst n))):=λ b o e=>by obtain⟨l,e⟩:=x4 e;rw[i6 l,j4 λ z=>l (by rw[z];exact v9 _ hw)];exact e
 refine⟨λ j d h=>?_,λ j y h=>?_,λ j k b P A F E f r=>?_,?_,R.od.step (cf (by intro d z;cases z)) (λ _ h _=>h) (λ b N _ h m=>by obtain⟨c,w⟩:=B;rw[j4 (λ z=>by rw[z,w]at h;cases h;cases m)];exact h),by rw[v5];exact R.len,⟨λ b l q=>?_,Same.refl _,λ b l=>?_,R.hid.dj,R.hid.omW (by assumption)⟩⟩
 ·have g:=n9 h (by intro z;cases z);rw[i4 (Ne.symm g)]at h;obtain⟨v,f,r⟩:=R.val j d h;exact⟨v,f,r.mono u⟩
 ·have g:=n9 h (by intro z;cases z);rw[i4 (Ne.symm g)]at h;obtain⟨b,c,I,L,f,r,K,J⟩:=R.own j y h;refine⟨b,c,I,L,f,r,?_,J.mono u⟩;rw[j4 λ z=>x j _ h (by rw[←z];exact f)];exact K
 ·have M:=n9 F (by intro z;cases z);rw[i4 (Ne.symm M)]at F;rw[i4 (Ne.symm (n9 E (by intro z;cases z)))]at E;exact R.inj j k b P A F E f r
 ·exact RSt.noot λ j A h=>by have g:=n9 h (by intro z;cases z);rw[i4 (Ne.symm g)]at h;exact g ((λ j A q=>cV C q) j A h)
 ·by_cases a:b=p
  ·rw[a,v6]at q;cases q
  ·rw[j4 a]at q;exact R.hid.ot b l q
 ·by_cases a:b=p
  ·exact⟨_,by rw[a];exact v6,rfl⟩
  ·obtain⟨c,q,m⟩:=R.hid.wl b l;exact⟨c,by rw[j4 a];exact q,m⟩
theorem RSt.write(R:RSt D H σ δ O W)(B:δ[i]? = some (.own (.lst ds)))(M:σ[i]? = some (some (.ref a)))(r:RepL D (L2.wo (O++W) H) x g) :
  RSt D (upd H a (.lst g)) σ (δ.set i (.own (.lst x))) O W:=by
 obtain⟨a',xs,ds0,e0,Z,Y,e3,e4⟩:=R.own i _ B;rw[M]at Z;cases Z;have l:Same _ (L2.wo (O++W) (upd H a (.lst g))):=λ b o e=>by obtain⟨C,e⟩:=x4 e;rw[i6 C,j4 λ z=>C (by rw[z];exact v9 _ Y)];exact e
 have hl:=(t6.mp B).1;refine⟨λ j d h=>?_,λ j y h=>?_,λ j k b L N J I A E=>?_,?_,R.od.step (cf (by intro d z;cases z)) (λ _ h _=>h) (λ b kvs _ h m=>by rw[j4 (λ z=>by rw[z,e3]at h;cases h;cases m)];exact h),by rw[v5];exact R.len,⟨λ b C q=>?_,Same.refl _,λ b C=>?_,R.hid.dj,R.hid.omW (by assumption)⟩⟩
 ·have p:=n9 h (by intro z;cases z);rw[i4 (Ne.symm p)]at h;obtain⟨v,A,E⟩:=R.val j d h;exact⟨v,A,E.mono l⟩
 ·by_cases p:j=i
  ·subst p;obtain⟨_,e⟩:=K8 h;cases e;exact⟨a,g,x,rfl,M,Y,v6,r.mono l⟩
  ·rw[i4 (Ne.symm p)]at h;obtain⟨b,w,Q,q0,A,E,q3,q4⟩:=R.own j y h;refine⟨b,w,Q,q0,A,E,?_,q4.mono l⟩;rw[j4 λ z=>p (R.inj j i a y _ h B (by rw[←z];exact A) M)];exact q3
 ·have F:∀{j:Nat} {L:DV},(δ.set i (.own (.lst x)))[j]? = some _->∃d0,δ[j]? = some (.own d0):=λ {j L} h=>by
   by_cases p:j=i
   ·subst p;exact⟨_,B⟩
   ·rw[i4 (Ne.symm p)]at h;exact⟨L,h⟩
  obtain⟨U,z1⟩:=F J;obtain⟨S,z2⟩:=F I;exact R.inj j k b U S z1 z2 A E
 ·obtain⟨P,f,u⟩:=R.ot;refine⟨P,λ j d h=>?_,λ j k L N J I=>?_⟩
  ·have p:=n9 h (by intro z;cases z);rw[i4 (Ne.symm p)]at h;obtain⟨t,ts,f1,f2,f3,K⟩:=f j d h;have un:∀p1∈P j,∀w,H p1=some (.lst w)->upd H a (.lst g) p1=some (.lst w):=λ p1 c w q=>by rw[j4 λ z=>(K p1 c).2.2 i _ B (by rw[z];exact M)];exact q
   refine⟨t,ts,f1,l.tseq f2,f3.mono l un,λ p1 c=>⟨(K p1 c).1,(K p1 c).2.1.imp λ w q=>un p1 c w q,λ k N q=>?_⟩⟩;by_cases X:k=i
   ·subst X;exact(K p1 c).2.2 k _ B
   ·rw[i4 (Ne.symm X)]at q;exact(K p1 c).2.2 k N q
  ·rw[i4 (Ne.symm (n9 J (by intro z;cases z)))]at J;rw[i4 (Ne.symm (n9 I (by intro z;cases z)))]at I;exact u j k L N J I
 ·by_cases n:b=a
  ·rw[n,v6]at q;cases q
  ·rw[j4 n]at q;exact R.hid.ot b C q
 ·by_cases n:b=a
  ·exact⟨_,by rw[n];exact v6,rfl⟩
  ·obtain⟨w,q,m⟩:=R.hid.wl b C;exact⟨w,by rw[j4 n];exact q,m⟩
theorem V9(h:Same c H)(d:c a=none):Same c (upd H a o):=λ b u e=>by
 rw[j4 (A0 e d)];exact h b u e
theorem iM{o:Out}{i:Nat}{σ:St}{H u:Hp}{b:Bool}{d:DV}{cl:Cl}{D:Dm}(h:(if b then J7 i δ d cl else(if stro d cl then some (.nx (δ.set i (.val d)))else none))=some o)
  (R:RSt D H σ δ O W) (fr:∀a∈W,u a=none) (sm:Same u H) (k:dEnd D E u O w o):∀v H',Same H H'->Got D O W H H' d cl v->w.nx (σ.set i (some v)) H':=λ v e s1 g=>by
 cases b with
 | true=>
  simp only[if_true]at h;unfold J7 at h;split at h
  ·cases h;obtain⟨p,x,B,r,q,c,n,l⟩:=g;subst r q;exact k _ e (p::W) (R.alloc s1 c n l i) (λ a j=>by
    rcases e8.mp j with z | z
    ·rw[z];exact sm.free c
    ·exact fr a z) (sm.trans s1)
  ·split at h
   ·rename_i f;cases h;obtain⟨ms,t,ts,p,x,B,es,r,q,A,c,n,l,y⟩:=g;subst r q;exact k _ e (p::W) (R.allocT s1 A c n l y i f) (λ a j=>by
     rcases e8.mp j with z | z
     ·rw[z];exact sm.free c
     ·exact fr a z) (sm.trans s1)
   ·cases h
  ·split at h
   ·cases h;exact k _ e W ((R.mono s1).setVal (F8.mpr (F8.mp (g.weak (R.hid.mono s1)))) i) fr (sm.trans s1)
   ·cases h
 | false=>
  simp only[Bool.false_eq_true,if_false]at h;split at h
  ·rename_i m;cases h;exact k _ e W ((R.mono s1).setVal (g.stro (R.hid.mono s1) m) i) fr (sm.trans s1)
  ·cases h
theorem iN{X:Cx}{i:Nat}{x:Str}{f:Bool}(p:X.N.Nodup)(l:X.N[i]? = some x)(j:Loc X.env.scope x)(m:X.fn x=true\/X.env.scope.names.lookup x=some .local)(u:∀q,b=some q->PE X e (dE X.D E δ q))(n:swapsWith e (some (.Name x pos')) pos.line X.env=pure false)
  (h:(Re.thnS δ b λ d c=>if f then J7 i δ d c else(if stro d c then some (.nx (δ.set i (.val d)))else none))=some o):PS X (.Assign [.Name x pos'] e pos) (dS X.D E δ o):=by
 cases a:b with
 | none=>rw[a]at h;cases h
 | some q=>
  rw[a]at h;have A:=u q a;cases q with
  | ex c=>cases h;exact(S8 p l j A n m).weak λ w r H ⟨v,O,W,R,g,fo,sm,k⟩=>⟨O,W,R,D2 R g sm k⟩
  | ok d cl=>exact(S8 p l j A n m).weak λ w r H ⟨v,O,W,R,g,fo,sm,k⟩=>⟨O,W,R,iM h R g sm k⟩
theorem uN{n:Bool}(S:CompScope X.N q scope X.env.scope fr)(y:X.calm=true)(A:X.N.Nodup)(w:X.N[i]? = some x)(v:X.env.scope.names.lookup x=some .local)
  (P:K7 X E δ b a e elt scope q fr tg m) (hG:∀C f g l K u,PG (o7 X scope q C f g l K u) b (gT X.K tg)) (j:E5 a=false)  (p:swapsWith (.ListComp elt [⟨b,a,e,0⟩] scope cpos) (some (.Name x pos')) pos.line X.env=pure true)
  (h:(Re.thnS δ (some m) λ d c=>if n then J7 i δ d c else(if stro d c then some (.nx (δ.set i (.val d)))else none))=some o):PS X (.Assign [.Name x pos'] (.ListComp elt [⟨b,a,e,0⟩] scope cpos) pos) (dS X.D E δ o):=by
 obtain⟨xE,wi,tc,te,z,J,I,F,B⟩:=P;refine(pu S y z A w v J hG I F p (aw j)).weak λ Dn r H ⟨H0,O,W,R,fr,fo,sm,k⟩=>?_
 unfold tAsg;refine B r H _ ⟨O,W,R,?_⟩;cases m with
 | ex c=>cases h;exact D2 R fr sm k
 | ok d cl=>exact iM h R fr sm k
theorem uO{X:Cx}{E:St->XK}{δ:ge Sv}{o:Out}{e:zq}{pos:Pos}{ra:on Re}{i:Nat}{x:Str}{apos cpos npos:Pos}(hv:PE X (.Name x npos) (tVar i))(he:∀q,ra=some q->PE X e (dE X.D E δ q))(hs:j9 e=false)(hline:(apos.endLine==cpos.line)=true)
  (h:(match δ[i]? with
   | some (.own (.lst ds))=>Re.thnS δ ra λ d c=>if stro d c/\ds.length<k9 then some (.nx (δ.set i (.own (.lst (ds++[d])))))else none
   | _=>none)=some o):PS X (.Expr (.Call (.Attribute (.Name x npos) "append" apos) [e] [] cpos) pos) (dS X.D E δ o):=by
 split at h
 ·rename_i ds hi;have C:=λ t (hA:PE X e t)=>R9 (pos:=pos) (be PySem.F.plainAttrs_list PySem.F.slot_list_append PySem.F.type_list_append eX hv (A2 hA C8 (o6 hs)) rfl (by rw[o6 hs];rfl) hline (o6 hs) rfl) rfl
  cases hra:ra with
  | none=>rw[hra]at h;cases h
  | some q=>
   rw[hra]at h;have A:=he q hra;cases q with
   | ex c=>
    cases h;exact(C _ A).weak λ Dn σ H ⟨H0,O,W,R,fr,fo,sm,k⟩=>by obtain⟨a,xs,ds0,e0,e1,e2,e3,e4⟩:=R.own i _ hi;exact⟨.ref a,e1,.inl ⟨rfl,xs,SqL.of e3⟩,O,W,R,D2 (Q:=λ _ _=>False) R fr sm k⟩
   | ok d cl=>
    have h':(if stro d cl/\ds.length<k9 then some (Out.nx (δ.set i (.own (.lst (ds++[d])))))else none)=some o:=h;split at h'
    ·rename_i m;cases h';exact(C _ A).weak λ Dn σ H ⟨H0,O,W,R,fr,fo,sm,k⟩=>by obtain⟨a,xs,ds0,e0,e1,e2,e3,e4⟩:=R.own i _ hi;cases e0;refine⟨.ref a,e1,.inl ⟨rfl,xs,SqL.of e3⟩,O,W,R,λ v H1 s1 g=>?_⟩;have R1:=R.mono s1;refine⟨a,xs,v,rfl,rfl,s1 _ _ e3,by rw[e4.length];exact p6 m.2 (by decide),?_⟩;exact k σ _ W (R1.write hi e1 ((e4.mono s1.wo).append (RepL.one (g.stro (R.hid.mono s1) m.1)))) fr (V9 (sm.trans s1) (fr a e2))
    ·cases h'
 ·cases h
theorem uP(hv:PE X (.Name x b) (tVar i))(he:∀q,ra=some q->PE X e (dE X.D E δ q))(hx:∀q,rb=some q->PE X p (dE X.D E δ q))(K:ae p=false)
  (h:(match δ[i]? with
   | some (.own (.lst F))=>Re.thnS δ ra λ d c=>Re.thnS δ rb λ k _=>(match k with
    | .int k=>(match A9 F.length k with
     | some j=>if stro d c then some (.nx (δ.set i (.own (.lst (F.set j d)))))else none
     | none=>none)
    | _=>none)
   | _=>none)=some o):PS X (.Assign [.Subscript (.Name x b) p f] e pos) (dS X.D E δ o):=by
 have sub:∀v,assign (.Subscript (.Name x b) p f) X.env v=(do
   let ov ←holding [v] (eval (.Name x b) X.env)
   let iv ←holding [v,ov] (eval p X.env)
   standAt f
   holding [v,ov,iv] (setItem ov iv v)
   release [v,ov,iv] []):=by cases p<;>first | (intro _;rfl) | cases K
 have C:=λ t tk (hA:PE X e t) (hK:PE X p tk)=>mV (pos:=pos) hA (mU hv hK oC sub) (by cases e<;>rfl) (by cases e<;>rfl) rfl;split at h
 ·rename_i F L;cases u:ra with
  | none=>rw[u]at h;cases h
  | some q=>
   rw[u]at h;have A:=he q u;cases q with
   | ex c=>
    cases h;exact(C _ _ A K5).weak λ Z J H ⟨Y,O,W,R,z,fo,sm,k⟩=>⟨O,W,R,D2 R z sm k⟩
   | ok d cl=>
    cases r:rb with
    | none=>rw[r]at h;cases h
    | some q=>
     rw[r]at h;have B:=hx q r;cases q with
     | ex c=>
      cases h;exact(C _ _ A B).weak λ Z J H ⟨Y,O,W,R,z,fo,sm,k⟩=>⟨O,W,R,λ v H1 s1 g=>by
       have l:=R.mono s1;obtain⟨a,P,N,U,I,S,Q,M⟩:=l.own i _ L;exact⟨.ref a,I,O,W,l,D2 l z (sm.trans s1) k⟩⟩
     | ok dk ck=>
      have w:(match(generalizing:=false) dk with
       | .int k=>(match A9 F.length k with
        | some j=>if stro d cl then some (Out.nx _)else none
        | none=>none)
       | _=>none)=some o:=h
      split at w
      ·rename_i k0;split at w
       ·rename_i j hj;split at w
        ·rename_i m;cases w;exact(C _ _ A B).weak λ Z J H ⟨Y,O,W,R,z,fo,sm,k⟩=>⟨O,W,R,λ v H1 s1 g=>by
          have l:=R.mono s1;obtain⟨a,P,N,U,I,S,Q,M⟩:=l.own i _ L;cases U;refine⟨.ref a,I,O,W,l,λ y H2 n g2=>?_⟩;refine⟨a,P,k0,j,rfl,g2.int (l.hid.mono n),n _ _ Q,by rw[M.length];exact hj,?_⟩;exact k J _ W ((l.mono n).write L I (RepL.set ((g.mono n).stro ((R.hid.mono s1).mono n) m) j (M.mono n.wo))) z (V9 ((sm.trans s1).trans n) (z a S))⟩
        ·cases w
       ·cases w
      ·cases w
 ·cases h
theorem RSt.freeze(R:RSt D H σ δ O W)(y:δ[i]? = some (.own d)):∃J,(∀a∈J,a∈W)/\RSt D H σ (δ.set i (.val d)) O J:=by
 obtain⟨a,L,ds,e0,C,e2,I,e4⟩:=R.own i d y;subst e0;have hl:=(t6.mp y).1;have sub:∀b∈O++W.filter (λ b=>decide (b≠a)),b∈O++W:=λ b c=>by
  rcases List.mem_append.mp c with z | z
  ·exact w4 _ z
  ·exact v9 _ (j6.mp z).1
 have B:a∉O++W.filter (λ b=>decide (b≠a)):=λ z=>by
  rcases List.mem_append.mp z with z | z
  ·exact R.hid.dj a e2 z
  ·exact absurd rfl (of_decide_eq_true (j6.mp z).2)
 refine⟨W.filter λ b=>decide (b≠a),λ b c=>(j6.mp c).1,⟨λ j d h=>?_,λ j w h=>?_,λ j k b F x o n p r=>?_,?_,R.od.step (cf (by intro d z;cases z)) (λ b c ⟨Y,h,m⟩=>j6.mpr ⟨c,decide_eq_true λ z=>by rw[z,I]at h;cases h;cases m⟩) (λ _ _ _ h _=>h),by rw[v5];exact R.len,
  ⟨λ b c=>R.hid.ot b (sub b c),Same.refl _,λ b c=>R.hid.wl b (j6.mp c).1,λ b c=>R.hid.dj b (j6.mp c).1,R.hid.om⟩⟩⟩
 ·by_cases l:j=i
  ·subst l;obtain⟨_,e⟩:=K8 h;cases e;exact⟨.ref a,C,x3.mpr ⟨a,L,rfl,by rw[i6 B];exact I,e4.mono (t4 sub)⟩⟩
  ·rw[i4 (Ne.symm l)]at h;obtain⟨v,p,r⟩:=R.val j d h;exact⟨v,p,r.mono (t4 sub)⟩
 ·have l:=n9 h (by intro z;cases z);rw[i4 (Ne.symm l)]at h;obtain⟨b,K,E,S,p,r,Q,N⟩:=R.own j w h;refine⟨b,K,E,S,p,j6.mpr ⟨r,decide_eq_true λ z=>l (R.inj j i a w _ h y (by rw[←z];exact p) C)⟩,Q,N.mono (t4 sub)⟩
 ·have X:=n9 o (by intro z;cases z);have U:=n9 n (by intro z;cases z);rw[i4 (Ne.symm X)]at o;rw[i4 (Ne.symm U)]at n;exact R.inj j k b F x o n p r
 ·obtain⟨P,f,u⟩:=R.ot;refine⟨P,λ j d h=>?_,λ j k F x o n=>?_⟩
  ·have l:=n9 h (by intro z;cases z);rw[i4 (Ne.symm l)]at h;obtain⟨t,M,f1,f2,f3,A⟩:=f j d h;refine⟨t,M,f1,(t4 sub).tseq f2,f3.mono (t4 sub) λ _ _ _ q=>q,λ p1 g=>⟨j6.mpr ⟨(A p1 g).1,decide_eq_true λ z=>(A p1 g).2.2 i _ y (by rw[z];exact C)⟩,(A p1 g).2.1,λ k x q=>?_⟩⟩;have Z:=n9 q (by intro z;cases z);rw[i4 (Ne.symm Z)]at q;exact(A p1 g).2.2 k x q
  ·rw[i4 (Ne.symm (n9 o (by intro z;cases z)))]at o;rw[i4 (Ne.symm (n9 n (by intro z;cases z)))]at n;exact u j k F x o n
theorem uQ{rest:ge zx}(b:δ[i]? = some (.own d))(h:PSs X rest (dS X.D E (δ.set i (.val d)) o)):PSs X rest (dS X.D E δ o):=h.weak λ Dn σ H ⟨j,O,W,R,e,fo,sm,k⟩=>by
 obtain⟨f,hs,g⟩:=R.freeze b;exact⟨j,O,f,g,λ a c=>e a (hs a c),fo,sm,k⟩
end
section
theorem Got.seq(g:Got D O W n H d c v)(m:Hid O W n H)(o:c=.strong\/c=.fresh)(f:G6 d=some (b,k)):∃a e,v=.ref a/\(SqL D.K H a e\/SqT D.K H a e)/\RepL D (L2.wo (O++W) H) k e:=by
 have l:c ≠ .weak:=by rcases o with z | z<;>(rw[z];intro q;cases q)
 unfold G6 at f;split at f
 ·cases f;obtain⟨a,e,j,i,h⟩:=g.items m l;exact⟨a,e,j,.inl (SqL.of i),h⟩
 ·cases f;obtain⟨a,e,j,i,h⟩:=g.itemsT m l;exact⟨a,e,j,.inr i,h⟩
 ·cases f
theorem uR(U:PE X (.Name x f) (tVar i))(Z:∀q,F=some q->PE X e (dE X.D E δ q))(hs:j9 e=false)(l:(apos.endLine==cpos.line)=true)
  (h:(match δ[i]? with
   | some (.own (.lst r))=>Re.thnS δ F λ d c=>if c=.strong\/c=.fresh then(match G6 d with
    | some (_,p)=>if r.length+p.length<=k9 then some (.nx (δ.set i (.own (.lst (r++p)))))else none
    | none=>none)else none
   | _=>none)=some o):PS X (.Expr (.Call (.Attribute (.Name x f) "extend" apos) [e] [] cpos) pos) (dS X.D E δ o):=by
 split at h
 ·rename_i r I;have C:=λ t (hA:PE X e t)=>R9 (pos:=pos) (be PySem.F.plainAttrs_list PySem.F.slot_list_extend PySem.F.type_list_extend qY U (A2 hA C8 (o6 hs)) rfl (by rw[o6 hs];rfl) l (o6 hs) rfl) rfl
  cases j:F with
  | none=>rw[j]at h;cases h
  | some q=>
   rw[j]at h;have A:=Z q j;cases q with
   | ex c=>
    cases h;exact(C _ A).weak λ Dn M H ⟨H0,O,W,R,w,fo,sm,k⟩=>by obtain⟨a,u,L,S,z,P,y,K⟩:=R.own i _ I;exact⟨.ref a,z,.inl ⟨rfl,u,SqL.of y⟩,O,W,R,D2 (Q:=λ _ _=>False) R w sm k⟩
   | ok d cl=>
    have n:(if cl=.strong\/cl=.fresh then(match G6 d with
     | some (_,p)=>if r.length+p.length<=k9 then some (Out.nx (δ.set i (.own (.lst (r++p)))))else none
     | none=>none)else none)=some o:=h
    split at n
    ·rename_i J;split at n
     ·rename_i b p Y;split at n
      ·rename_i m;cases n;exact(C _ A).weak λ Dn M H ⟨H0,O,W,R,w,fo,sm,k⟩=>by obtain⟨a,u,L,S,z,P,y,K⟩:=R.own i _ I;cases S;refine⟨.ref a,z,.inl ⟨rfl,u,SqL.of y⟩,O,W,R,λ v H1 s1 g=>?_⟩;have R1:=R.mono s1;obtain⟨a2,B,f1,f2,N⟩:=g.seq (R.hid.mono s1) J Y;refine⟨a,a2,u,B,rfl,by rw[f1],s1 _ _ y,f2,by rw[K.length,N.length];exact g9 m (by decide),?_⟩;exact k M _ W (R1.write I z ((K.mono s1.wo).append N)) w (V9 (sm.trans s1) (w a P))
      ·cases n
     ·cases n
    ·cases n
 ·cases h
theorem uS(K:∀q,i=some q->PA X es (dA X.D E δ q))(h:(Rs.thnS δ i λ l=>rt3D l)=some o):PS X (.Return (some (.Tuple es I F)) pos) (dS X.D E δ o):=by
 cases d:i with
 | none=>rw[d]at h;cases h
 | some q=>
  rw[d]at h;have A:=K q d;cases q with
  | ex c=>cases h;exact(S0 (Y4 A)).weak λ v w H ⟨u,O,W,R,m,fo,sm,k⟩=>⟨O,W,R,D2 (Q:=λ _ _=>False) R m sm k⟩
  | ok l=>
   have f:rt3D l=some o:=h;unfold rt3D at f;split at f
   ·rename_i a ca b cb n;cases f;refine(S0 (Y4 A)).weak λ v w H ⟨u,O,W,R,m,fo,sm,k⟩=>⟨O,W,R,λ vs r s1 g=>?_⟩
    have j:=R.hid.mono s1;cases g with
    | cons N g=>
     cases g with
     | cons M g=>
      cases g with
      | cons L g=>
       cases g;have B:=N.int j;have y:=M.int j;obtain⟨p,x,ds',e1,Y,U,S,P⟩:=L;cases Y;subst B y e1;refine⟨by show(3:Nat)<=sizeLine;decide,λ q e=>?_⟩;have C:∀{Z:ge zn},Same _ (L2.wo Z (upd r q (.tup [.int a,.int b,.ref p]))):=λ {Z}=>(r9 e).wo
       exact(k:dEnd X.D E u O v _) _ _ ((sm.trans s1).trans (r9 e)) (⟨[a,b],q,[],p,x,n,[],rfl,rfl,SqT.of (by rw[i6 (λ z=>j.ot q (w4 _ z) (s1.free e))];exact v6),sm.free U,r9 e _ _ S,(P.mono (t4 λ b J=>by
        rcases e8.mp J with z | z
        ·rw[z];exact i9 ..
        ·exact i8 _ (w4 _ z))).mono C,u3.mpr rfl⟩)
   ·cases f
theorem iO{ms:ge Int}:atI (ms.map V.int++x::xs) (ms.length:Int)=some x:=by
 unfold atI ixN;rw[d6 (y9 _),d6 (by grind)];simp
theorem ay:∀{ms ms':ge Int} {ds ds' es es':ge DV},ms.map DV.int ++ .lst ds::es=ms'.map DV.int ++ .lst ds'::es'->ms=ms'/\ds=ds'/\es=es'
 | [],[],_,_,_,_,h=>by cases h;exact⟨rfl,rfl,rfl⟩
 | [],_::_,_,_,_,_,h=>by cases h
 | _::_,[],_,_,_,_,h=>by cases h
 | _::_,_::_,_,_,_,_,h=>by obtain⟨b,a⟩:=List.cons.inj h;cases b;obtain⟨rfl,e⟩:=ay a;exact⟨rfl,e⟩
theorem uT{X:Cx}{o:Out}{e:zq}{pos:Pos}{i:Nat}{x:Str}{j:Nat}{ms:ge Int}(hv:PE X (.Name x a) (tVar i))(he:∀q,M=some q->PE X e (dE X.D E δ q))(hs:j9 e=false)(z:(apos.endLine==cpos.line)=true)
  (Z:δ[i]? = some (.ot (.tup (ms.map DV.int ++ .lst ds::U)))) (h:(Re.thnS δ M λ d c=>if stro d c/\ds.length<k9/\noOt i δ=true then some (.nx (δ.set i .no))else none)=some o):PS X (.Expr (.Call (.Attribute (.Subscript (.Name x a) (.Constant (.int (ms.length:Int)) j n) l) "append" apos) [e] [] cpos) pos) (dS X.D E δ o):=by
 have S:PE X (.Subscript (.Name x a) (.Constant (.int (ms.length:Int)) j n) l) (tOp (rIxT X.K) (tVar i) (tC (.int (ms.length:Int)))):=eR eS hv dZ (by intro _ _;rfl);have C:=λ t (hA:PE X e t)=>R9 (pos:=pos) (be PySem.F.plainAttrs_list PySem.F.slot_list_append PySem.F.type_list_append eX S (A2 hA C8 (o6 hs)) rfl (by rw[o6 hs];rfl) z (o6 hs) rfl) rfl;have K:∀{w:St} {H:Hp} {O W:ge zn},RSt X.D H w δ O W->∃t p I b,w[i]? = some (some (.ref t))/\SqT X.K H t (ms.map V.int ++ .ref p::I)/\H p=some (.lst b)/\b.length=ds.length/\p∈W/\∀(j:Nat) d',δ[j]? = some (.own d')->w[j]? ≠ some (some (.ref p)):=λ {w H O W} R=>by obtain⟨P,f,u⟩:=R.ot;obtain⟨t,ts,F,J,r,B⟩:=f i _ Z;obtain⟨ms1,p,b,ds1,es1,I,f0,f1,f2,f3,f4,f5⟩:=r;obtain⟨rfl,rfl,rfl⟩:=ay (DV.tup.inj f0);subst f1;rw[f2]at B;obtain⟨r,_,Y⟩:=B p (v4.mpr rfl);exact⟨t,p,I,b,F,o8.tseq J,f3,f4.length,r,Y⟩
 cases y:M with
 | none=>rw[y]at h;cases h
 | some q=>
  rw[y]at h;have A:=he q y;cases q with
  | ex c=>
   cases h;exact(C _ A).weak λ Dn w H ⟨H0,O,W,R,L,fo,sm,k⟩=>by obtain⟨t,p,I,b,F,J,r,_,_,_⟩:=K R;exact⟨.ref t,F,t,_,_,.ref p,rfl,rfl,J,iO,.inl ⟨rfl,b,SqL.of r⟩,O,W,R,D2 (Q:=λ _ _=>False) R L sm k⟩
  | ok d cl=>
   have N:(if stro d cl/\ds.length<k9/\noOt i δ=true then some (Out.nx (δ.set i .no))else none)=some o:=h;split at N
   ·rename_i m;cases N;exact(C _ A).weak λ Dn w H ⟨H0,O,W,R,L,fo,sm,k⟩=>by obtain⟨t,p,I,b,F,J,B,e5,r,Y⟩:=K R;refine⟨.ref t,F,t,_,_,.ref p,rfl,rfl,J,iO,.inl ⟨rfl,b,SqL.of B⟩,O,W,R,λ v H1 s1 g=>?_⟩;refine⟨p,b,v,rfl,rfl,s1 _ _ B,by rw[e5];exact p6 m.2.1 (by decide),?_⟩;exact k w _ W ((R.mono s1).writeT Z F r Y ⟨_,s1 _ _ B⟩ m.2.2) L (V9 (sm.trans s1) (L p r))
   ·cases N
end
theorem PE.inj(h:PE X e t):PE X e (λ f H Q=>t f H λ v d=>TInj X.K d->Q v d):=λ c s f H Q I q=>
 thn (h c s f H _ I q) λ _ _ ⟨v,d,g,r,k⟩=>⟨v,d,g,r,k λ _ _ _ a b=>g.tuple_inj a b⟩
section
theorem uU{i:Nat}{F:Nat->ge DV->on Ou}{K:Int}(hN:X.N.Nodup)(hh:X.N[h]? = some x)(hx:Loc X.env.scope x)(hf:X.fn x=true\/X.env.scope.names.lookup x=some .local)
  (hA:PE X n (dE X.D E δ (.ok (.lst Z) .fresh))) (hB:PE X l (λ w H Q=>∃v,w[i]? = some (some v)/\spF X.D 1 (F f) [v] H Q (E w))) (s1:j9 n=false) (s2:j9 l=false)
  (hi:δ[i]? = some (.ot (.tup [.int a,.int b,.lst ds]))) (hF:F f [.tup [.int a,.int b,.lst ds]]=some (.t (.tup [.int L,.int K,.lst es]))) (c1:caL m ds=true) (c2:caL m es=true) :
  PS X (.Assign [.Name x pos'] (.List [n,l] lp) pos) (dS X.D E δ (.nx (δ.set h (.val (.lst [.lst Z,.tup [.int L,.int K,.lst es]]))))):=by
 refine(S8 hN hh hx (eF (A2 hA (A2 hB.inj C8 (o6 s2)) (o6 s1))) (V8 rfl) hf).weak λ Dn w H ⟨H0,O,W,R,fr,fo,sm,k⟩=>⟨O,W,R,λ v1 H1 u g1=>?_⟩;obtain⟨P,p1,_⟩:=R.ot;obtain⟨t,ts,n,l,e3,e4⟩:=p1 i _ hi;obtain⟨ms,p,M,J,es1,us,f0,f1,f2,f3,f4,f5⟩:=e3
 ·obtain⟨rfl,rfl,rfl⟩:=ay (ms':=[a,b]) (DV.tup.inj f0).symm;cases u3.mp f5;subst f1;rw[f2]at e4;have hp:=(e4 p (v4.mpr rfl)).1;have B:=R.hid.mono u;obtain⟨U,hU⟩:∃U,U=(O++W).filter (λ z=>z != p):=⟨_,rfl⟩;have e:∀z,z∈U↔z∈O++W/\z≠p:=λ z=>by rw[hU,j6,bne_iff_ne]
  have dn:=Same.trans (u.wo (O:=O++W)) (t4 λ z A=>((e z).mp A).1);refine⟨.ref t,n,U,[.tup _],_,λ z A=>B.hdA z ((e z).mp A).1,rfl,RepL.one (x2.mpr ⟨t,_,rfl,dn.tseq l,m9.mpr ⟨_,_,rfl,v7.mpr rfl,m9.mpr ⟨_,_,rfl,v7.mpr rfl,RepL.one (x3.mpr ⟨p,M,rfl,by rw[i6 (λ z=>((e p).mp z).2 rfl)];exact u _ _ f3,f4.mono dn⟩)⟩⟩⟩),hF,λ v2 d N g2 T=>?_⟩;obtain⟨ms,S,us,q,zs,ds2,es2,I,C,g0,g3,g4,g5,g6⟩:=g2
  ·obtain⟨rfl,rfl,rfl⟩:=ay (ms':=[L,K]) (DV.tup.inj C).symm;cases u3.mp g6;subst I;refine⟨(by decide:2<=sizeLine),λ r Y=>?_⟩;have c:=u.trans N;have o:Same d (upd d r (.lst [v1,.ref S])):=r9 Y;have j:=c _ _ f3;have im:=g0.immut (W:=[p]) λ y g=>by rw[v4.mp g];exact⟨_,j,rfl⟩
   have s4:Same (L2.wo (U++[p]) d) (L2.wo (O++W) d):=t4 λ y g=>by
    by_cases z:y=p
    ·exact v9 _ (v4.mpr z)
    ·exact w4 _ ((e y).mpr ⟨g,z⟩)
   have s5:Same (L2.wo (q::U++[p]) d) (L2.wo (O++W) d):=t4 λ y g=>by
    by_cases z:y=p
    ·exact v9 _ (v4.mpr z)
    ·exact w4 _ (i8 _ ((e y).mpr ⟨g,z⟩))
   have r2:=x2.mpr ⟨S,_,rfl,s4.tseq im,m9.mpr ⟨_,_,rfl,v7.mpr rfl,m9.mpr ⟨_,_,rfl,v7.mpr rfl,RepL.one (x3.mpr ⟨q,zs,rfl,by rw[i6 (B.newOut g3)];exact g4,(ij T j ((f4.mono o8).mono c) c1 (i7 m) c2 g5).mono s5⟩)⟩⟩⟩;refine k _ _ W (((R.mono c).mono o).setVal (x3.mpr ⟨r,_,rfl,by rw[i6 ((R.hid.mono c).newOut Y)];exact v6,m9.mpr ⟨_,_,rfl,((Got.strong g1 B).mono N.wo).mono o.wo,RepL.one (r2.mono o.wo)⟩⟩) h) fr ((sm.trans c).trans o)
theorem uV(h:asIv o=some a):o=some (.val (.int a)):=by
 unfold asIv at h;split at h
 ·cases h;rfl
 ·cases h
theorem uW(C:X.N.Nodup)(y:X.N[i]? = some x)(u:Loc X.env.scope x)(z:X.fn x=true\/X.env.scope.names.lookup x=some .local)(B:∀q,m=some q->PE X e (dE X.D E δ q))(w:δ[i]? = some (.val (.int a)))(h:(Re.thnS δ m λ d _=>augD i a δ d)=some o):PS X (.AugAssign (.Name x pos') .Add e pos) (dS X.D E δ o):=by
 have p:∀{H:Hp} {j:St} {O W:ge zn},RSt X.D H j δ O W->j[i]? = some _:=λ R=>by obtain⟨v,r,F⟩:=R.val i _ w;rw[v7.mp F]at r;exact r
 cases f:m with
 | none=>rw[f]at h;cases h
 | some q=>
  rw[f]at h;have A:=mW (pos:=pos) (pos':=pos') C y u (B q f) mX z;cases q with
  | ex c=>cases h;exact A.weak λ K j H ⟨J,O,W,R,n,fo,sm,k⟩=>⟨.int a,p R,O,W,R,D2 R n sm k⟩
  | ok d cl=>
   have l:augD i a δ d=some o:=h;unfold augD at l;split at l
   ·rename_i b;cases l;exact A.weak λ K j H ⟨J,O,W,R,n,fo,sm,k⟩=>⟨.int a,p R,O,W,R,λ v I s1 g=>by
     have:=g.int (R.hid.mono s1);subst this;exact⟨a,b,rfl,rfl,k _ I W ((R.mono s1).setVal (v7.mpr rfl) i) n (sm.trans s1)⟩⟩
   ·cases l
end
theorem PSs.any{t:ι->TS}(h:∀k,PSs X body (t k)):PSs X body (λ D b H=>∃k,t k D b H):=λ a s b H D I ⟨k,q⟩=>h k a s b H D I q
theorem PT.any{t:ι->TT}(h:∀k,PT X e (t k)):PT X e (λ b H Q=>∃k,t k b H Q):=λ a s b H Q I ⟨k,q⟩=>h k a s b H Q I q
structure Lp(H0 H1:Hp)(O W:List Addr):Prop where
 out:∀{H:Hp},Same (L2.wo W H1) H->Same H0 H
 outW:∀{a:Addr},L2.wo W H1 a=none->H0 a=none
 in1:∀a∈W,L2.wo W H1 a=none
 in2:∀a∈O,L2.wo W H1 a≠none
 wsame:∀{H:Hp},Same (L2.wo W H1) H->Same (L2.wo (O++W) H1) (L2.wo (O++W) H)
theorem Lp.mk'(fr:∀a∈W,d a=none)(fo:∀a∈O,d a≠none)(sm:Same d g):Lp d g O W where
 out:=λ {H} s b u e=>s b u (by
  rw[i6 λ z=>by rw[fr b z]at e;cases e];exact sm b u e)
 outW:=λ {a} q=>by
  by_cases z:a∈W
  ·exact fr a z
  ·rw[i6 z]at q;exact sm.free q
 in1:=λ a c=>P2 c
 in2:=λ a c=>by rw[i6 λ z=>fo a c (fr a z)];intro q;exact fo a c (sm.free q)
 wsame:=λ {H} s b u e=>by obtain⟨f,e⟩:=x4 e;rw[i6 f];exact s b u (by rwa [i6 λ z=>f (v9 _ z)])
theorem Lp.gotR(L:Lp b a O W)(g:GotR D O (L2.wo W a) H d fr v):GotR D O b H d fr v:=by
 cases fr with
 | false=>exact g
 | true=>
  obtain⟨p,c,k,j,i,h,f,e⟩:=g;exact⟨p,c,k,j,i,L.outW h,f,e⟩
theorem Lp.gotT(L:Lp b a O W)(g:GotT D O (L2.wo W a) H d v):GotT D O b H d v:=by
 obtain⟨f,t,e,p,c,o,es,m,l,n,k,j,i,h⟩:=g;exact⟨f,t,e,p,c,o,es,m,l,n,L.outW k,j,i,h⟩
section
theorem uX(hp:PassesOwn (model X.prog X.w) X.A X.env X.xe)(hc:X.calm=true)(hi:∀q,ri=some q->PI X Q j (dI X.D E δ q))(hG:PG X Q (gT X.K tg))(hb:∀δ' o,f δ'=some o->PSs X body (dS X.D E δ' o))(M:E5 j=false)
  (h:(Ri.thnS δ ri λ l c=>if c=.strong\/c=.fresh then u7 tg f l δ else none)=some o):PS X (.For Q j body [] pos) (dS X.D E δ o):=by
 have B:PSs X body (λ D K H=>∃k:{p:ge Sv×Out // f p.1=some p.2},dS X.D E k.1.1 k.1.2 D K H):=PSs.any λ k=>hb k.1.1 k.1.2 k.2;cases U:ri with
 | none=>rw[U]at h;cases h
 | some q=>
  rw[U]at h;have A:=hi q U;cases q with
  | ex c=>cases h;exact(ez hp hc A hG B (aw M)).weak λ Dn K H ⟨H0,O,W,R,fr,fo,sm,k⟩=>⟨O,W,R,λ I C m s=>k K I W C m (R.mono s) fr (sm.trans s)⟩
  | ok l c=>
   have h':(if c=.strong\/c=.fresh then u7 tg f l δ else none)=some o:=h;split at h'
   ·rename_i m;refine(ez hp hc A hG B (aw M)).weak λ Dn K H ⟨H0,O,W,R,fr,fo,sm,k⟩=>⟨O,W,R,λ J H1 s1 w=>?_⟩
    have R1:=R.mono s1;have L:=Lp.mk' fr fo (sm.trans s1);have w:Wk X.D J l (O++W) (O++W) H1:=(by rcases m with m | m<;>subst m<;>exact w);refine⟨λ i n K H=>n=l.length - i/\i<=l.length/\∃b N,u7 tg f (l.drop i) b=some o/\RSt X.D H K b O N/\(∀a∈N,L2.wo W H1 a=none)/\Same (L2.wo W H1) H,
     ⟨l.length,rfl,Nat.zero_le _,δ,W,h',R1,L.in1,o8⟩,?_⟩
    rintro i n a0 H2 ⟨rfl,hi,b,W2,hgo,R2,b1,b2⟩
    by_cases u:i<l.length
    ·refine .inr ⟨w.go i H2 (L.wsame b2) u,λ K H=>∃b N,u7 tg f _ b=some o/\RSt X.D H K b O N/\_/\Same _ H,
      λ P I q=>⟨l.length - (i+1),by omega,rfl,u,q⟩,λ x H3 y=>?_⟩
     have y1:=w.same i H2 x H3 y;have y3:=w.yld i H2 x H3 _ (O++W2) (L.wsame b2) (L.wsame b2) y (j8 u) λ a Y=>⟨R2.hid.ot a Y,by
      rcases List.mem_append.mp Y with z | z
      ·exact .inl (w4 _ z)
      ·have q:=b1 a z;by_cases hw:a∈W
       ·exact .inl (v9 _ hw)
       ·rw[i6 hw]at q;exact .inr q⟩
     rw[List.drop_eq_getElem_cons u]at hgo;unfold u7 at hgo;split at hgo
     ·cases hgo
     ·rename_i Z a3;refine cQ (R2.mono y1) y3 a3 λ σ3 R3=>?_
      split at hgo
      ·rename_i r a2;exact⟨⟨⟨Z,.nx r⟩,a2⟩,L2.wo W H1,O,W2,R3,b1,L.in2,b2.trans y1,λ P I N R' F S=>⟨r,N,hgo,R',F,S⟩⟩
      ·rename_i a1;refine⟨⟨⟨Z,o⟩,hgo⟩,L2.wo W H1,O,W2,R3,b1,L.in2,b2.trans y1,?_⟩;cases o with
       | nx r=>exact absurd hgo (a1 r)
       | rt d F=>exact λ v I s' g=>k v I (L.out s') (L.gotR g)
       | rtt d=>exact λ v I s' g=>k v I (L.out s') (L.gotT g)
       | ex c' δ'=>exact λ P I N C m R' F S=>k P I N C m R' (λ a Y=>L.outW (F a Y)) (L.out S)
    ·have e:i=l.length:=by omega
     subst e;rw[List.drop_length]at hgo;cases hgo;exact .inl ⟨w.stop H2 (L.wsame b2),k a0 H2 W2 R2 (λ a Y=>L.outW (b1 a Y)) (L.out b2)⟩
   ·cases h'
theorem uY(S:PassesOwn (model X.prog X.w) X.A X.env X.xe)(U:∀δ' r,i δ'=some r->PT X c (dT X.D E δ' r))(Y:∀δ' o,j δ'=some o->PSs X body (dS X.D E δ' o))(h:D6 i j n δ=some o):PS X (.While c body [] pos) (dS X.D E δ o):=by
 have B:PSs X body (λ D w H=>∃k:{p:ge Sv×Out // j p.1=some p.2},dS X.D E k.1.1 k.1.2 D w H):=PSs.any λ k=>Y k.1.1 k.1.2 k.2;have T:PT X c (λ w H Q=>∃k:{p:ge Sv×Rt // i p.1=some p.2},dT X.D E k.1.1 k.1.2 w H Q):=PT.any λ k=>U k.1.1 k.1.2 k.2;refine(mZ S T B).weak λ Dn w H ⟨H0,O,W,R,Z,fo,sm,k⟩=>?_;have L:=Lp.mk' Z fo sm;refine⟨λ m w A=>∃b x,D6 i j m b=some o/\RSt X.D A w b O x/\(∀a∈x,L2.wo W H a=none)/\Same (L2.wo W H) A,⟨n,δ,W,h,R,L.in1,o8⟩,?_⟩
 rintro m F A ⟨b,W2,hgo,R2,b1,b2⟩
 cases m with
 | zero=>cases hgo
 | succ m=>
  unfold D6 at hgo;split at hgo
  ·cases hgo
  ·rename_i P f;cases hgo;exact⟨⟨⟨b,.ex P⟩,f⟩,O,W2,R2,λ e C m s=>k F e W2 C m (R2.mono s) (λ a J=>L.outW (b1 a J)) (L.out (b2.trans s))⟩
  ·rename_i f;cases hgo;refine⟨⟨⟨b,.ok false⟩,f⟩,O,W2,R2,λ e s=>iteF ?_⟩;exact k F e W2 (R2.mono s) (λ a J=>L.outW (b1 a J)) (L.out (b2.trans s))
  ·rename_i f;refine⟨⟨⟨b,.ok true⟩,f⟩,O,W2,R2,λ e s=>iteT ?_⟩;refine⟨λ w A=>∃b x,D6 i j m b=some o/\RSt X.D A w b O x/\_/\Same _ A,λ y e q=>⟨m,Nat.lt_succ_self m,q⟩,?_⟩;split at hgo
   ·rename_i l I;exact⟨⟨⟨b,.nx l⟩,I⟩,L2.wo W H,O,W2,R2.mono s,b1,L.in2,b2.trans s,λ y e x N u z=>⟨l,x,hgo,N,u,z⟩⟩
   ·rename_i M;refine⟨⟨⟨b,o⟩,hgo⟩,L2.wo W H,O,W2,R2.mono s,b1,L.in2,b2.trans s,?_⟩;cases o with
    | nx l=>exact absurd hgo (M l)
    | rt d u=>exact λ v e K g=>k v e (L.out K) (L.gotR g)
    | rtt d=>exact λ v e K g=>k v e (L.out K) (L.gotT g)
    | ex P δ'=>exact λ y e x C m N u z=>k y e x C m N (λ a J=>L.outW (u a J)) (L.out z)
end
section
variable {κ:Type} [DecidableEq κ]
noncomputable def valV(kvs:ge (κ×V))(k:κ):on V:=(kvs.find? λ kv=>decide (kv.1=k)).map (·.2)
noncomputable def putK(kvs:ge (κ×V))(k:κ)(v:V):ge (κ×V):=
 if(kvs.any λ kv=>decide (kv.1=k))=true then kvs.map (λ kv=>if kv.1=k then(kv.1,v)else kv)else kvs++[(k,v)]
theorem iP{k:κ}(e:p.1=k):valV (p::r) k=some p.2:=by simp[valV,List.find?_cons,e]
theorem iQ{k:κ}(e:¬p.1=k):valV (p::r) k=valV r k:=by simp[valV,List.find?_cons,e]
theorem iR(k:κ):∀a:ge (κ×V),(a.any λ b=>decide (b.1=k))=(valV a k).isSome
 | []=>rfl
 | p::r=>by
  rw[List.any_cons];by_cases e:p.1=k
  ·simp only[iP e,decide_eq_true e,Bool.true_or,Option.isSome_some]
  ·rw[iQ e,decide_eq_false e,Bool.false_or];exact iR k r
theorem iS(a:ge (κ×V))(k:κ)(v:V):(putK a k v).length<=a.length+1:=by
 unfold putK;split
 ·rw[e7];omega
 ·rw[v0,p9,List.length_nil];omega
theorem RelO.isSome_eq(r:RelO o u):o.isSome=u.isSome:=by
 cases o with
 | none=>cases u with
  | none=>rfl
  | some _=>exact(r).elim
 | some _=>cases u with
  | none=>exact(r).elim
  | some _=>rfl
theorem KV.any(r:KV a vs)(k:κ):(a.any λ b=>decide (b.1=k))=vs.any λ b=>decide (b.1=k):=by
 unfold KV at r
 induction r with
 | nil=>rfl
 | cons h t c=>rw[List.any_cons,List.any_cons,c,h.1]
theorem KV.repl(r:KV b vs)(k:κ)(d:RelV y u) :
  KV (b.map λ a=>if a.1=k then(a.1,y)else a) (vs.map λ a=>if a.1=k then(a.1,u)else a):=by
 unfold KV at r ⊢
 induction r with
 | nil=>exact .nil
 | @cons p q ps qs h t ih=>
  rw[u0,u0];refine .cons ?_ ih;obtain⟨c,f⟩:=h;by_cases e:p.1=k
  ·rw[d6 e,d6 (c.symm.trans e)];exact⟨c,d⟩
  ·rw[d9 e,d9 (λ z=>e (c.trans z))];exact⟨c,f⟩
theorem KV.put(r:KV a vs)(k:κ)(b:RelV y u):KV (putK a k y) (stored vs k u):=by
 unfold putK stored;rw[r.any k];by_cases e:(vs.any λ c=>decide (c.1=k))=true
 ·rw[d6 e,d6 e];exact r.repl k b
 ·rw[d9 e,d9 e];exact Paired.snoc r ⟨rfl,b⟩
theorem KV.length(r:KV a vs):a.length=vs.length:=Paired.length r
end
theorem iT(r:RelV (kV k) u):(D5 P w).is k u=true:=by
 cases k with
 | inl i=>obtain⟨t,e⟩:=(r);subst e;exact mx P w i t
 | inr x=>obtain⟨t,e⟩:=(r);subst e;exact my P w x t
theorem iU:∀{a:ge Key} {us:ge zk},Vals (a.map kV) us->ItemsAre (D5 P w) a us
 | [],_,r=>by rw[List.map_nil]at r;cases r;exact .nil
 | k::a,_,r=>by
  rw[u0]at r;cases r with
  | cons h t=>exact .cons (iT h) (iU t)
abbrev KT(H:Hp):ge (ge Key×V)->ge (ge Key×zn×zk)->Prop:=Paired λ p q=>p.1=q.1/\H q.2.1=some (.tup (p.1.map kV))/\RelV p.2 q.2.2
theorem KT.val(r:KT H a xs)(k:ge Key):RelO (valV a k) ((atKey xs k).map (·.2)):=by
 induction r with
 | nil=>exact True.intro
 | @cons p q ps qs h t ih=>
  obtain⟨d,_,f⟩:=h;by_cases e:p.1=k
  ·have c:=d.symm.trans e;have b:atKey (q::qs) k=some q.2:=by simp[atKey,List.find?_cons,c]
   rw[iP e,b];exact f
  ·have c:¬q.1=k:=λ z=>e (d.trans z);have b:atKey (q::qs) k=atKey qs k:=by simp[atKey,List.find?_cons,c]
   rw[iQ e,b];exact ih
theorem KT.repl(r:KT H a xs)(k:ge Key)(f:RelV y u) :
  KT H (a.map λ c=>if c.1=k then(c.1,y)else c) (xs.map (putAt k u)):=by
 induction r with
 | nil=>exact .nil
 | @cons p q ps qs h t ih=>
  rw[u0,u0];refine .cons ?_ ih;obtain⟨b,d,g⟩:=h;unfold putAt;by_cases e:p.1=k
  ·rw[d6 e,d6 (b.symm.trans e)];exact⟨b,d,f⟩
  ·rw[d9 e,d9 (λ z=>e (b.trans z))];exact⟨b,d,g⟩
theorem KT.put(r:KT H a xs)(k:ge Key)(d:H b=some (.tup (k.map kV)))(c:RelV y u) :
  KT H (putK a k y) (storedH xs k b u):=by
 have e:(a.any λ kv=>decide _)=(atKey xs k).isSome:=(by rw[iR,(r.val k).isSome_eq,Option.isSome_map]);unfold putK storedH;rw[e];by_cases q:(atKey xs k).isSome=true
 ·rw[d6 q,d6 q];exact r.repl k c
 ·rw[d9 q,d9 q];exact Paired.snoc r ⟨rfl,d,c⟩
theorem KT.keeps(r:KT H a xs)(d:∀b c,H b=some (.tup c)->H' b=some (.tup c)):KT H' a xs:=
 Paired.mapP r λ _ _ z=>⟨z.1,d _ _ z.2.1,z.2.2⟩
section
theorem iV(ok:HOk P w H h)(e:Rd H a u):u5 P w H h a u:=e.ok ok
theorem uZ(ok:HOk P w H h)(e:Rd H a (.dK b)):b.length<=sizeLine/\(a==sysModules)=false/\∃vs,KV b vs/\h.DictOf (D5 P w) a vs:=
 show u5 P w H h a (.dK b)from iV ok e
theorem vb(ok:HOk P w H h)(e:H a=some (.dK b)):b.length<=sizeLine/\(a==sysModules)=false/\∃vs,KV b vs/\h.DictOf (D5 P w) a vs:=uZ ok (.inl e)
theorem iW(ok:HOk P w H h)(e:H a=some (.tup (c.map kV))):(tupleKind (D5 P w)).is h c a:=by
 obtain⟨_,b,r,o,g,f,n,d⟩:=(show u5 P w H h a (.tup _)from ok a _ e);exact⟨o,b.toArray,n,g,f.1,d,by simpa using iU r⟩
theorem vc(ok:HOk P w H h)(e:Rd H a (.dT b)):b.length<=sizeLine/\(a==sysModules)=false /\
  ∃xs,KT H b xs/\h.DictOfH (tupleKind (D5 P w)) a xs:=by
 obtain⟨z,y,xs,r,o,es,k,j,i,g,f,d⟩:=(show u5 P w H h a (.dT b)from iV ok e);refine⟨z,y,xs,r,o,es,k,j,i,g,f,λ x c=>?_,d⟩;have all:∀{l:ge _} {m:ge _},KT H l m->∀x∈m,(tupleKind (D5 P w)).is h x.1 x.2.1:=by
  intro l m q
  induction q with
  | nil=>intro x c;exact nomatch c
  | @cons p q ps qs hq t ih=>
   intro x c;rcases e8.mp c with e | c
   ·subst e;exact iW ok (by rw[←hq.1];exact hq.2.1)
   ·exact ih x c
 exact all r x c
theorem vd(ok:HOk P w H h)(e:H a=some (.dT b)):b.length<=sizeLine/\(a==sysModules)=false /\
  ∃xs,KT H b xs/\h.DictOfH (tupleKind (D5 P w)) a xs:=vc ok (.inl e)
end
def DPut(H:Hp)(a:zn)(y v:V)(H':Hp):Prop:=
 (∃kvs k,H a=some (.dK kvs)/\y=kV k/\kvs.length<sizeLine/\H'=upd H a (.dK (putK kvs k v))) \/
 ∃kvs k b,H a=some (.dT kvs)/\y=.ref b/\H b=some (.tup (k.map kV))/\kvs.length<sizeLine/\H'=upd H a (.dT (putK kvs k v))
theorem DPut.t{k:ge Key}(e:H a=some (.dT c))(f:H b=some (.tup (k.map kV)))(d:c.length<sizeLine) :
  DPut H a (.ref b) v (upd H a (.dT (putK c k v))):=.inr ⟨c,k,b,e,rfl,f,d,rfl⟩
section
theorem Inv.big(I:Inv X a σ H s):sysModules<s.heap.objs.size:=by
 exact Nat.lt_trans (by decide) ((I.mod.glob.keeps I.bk).lt)
theorem iX(I:Inv X c σ H s)(f:Mut (H a))(hs:Heap.SameBut a s.heap d)(g:∃q,d.get? a=some q)(new:u5 X.prog X.w (upd H a e) d a e) :
  Inv X c σ (upd H a e) {s with heap:=d,toks:=t'}:=
 I.write f (.inl rfl) (λ b q h z=>(hs.2 b h).trans z) g new
theorem ve(z:b.length<=sizeLine)(e:(a==sysModules)=false)(c:KV b vs)(dd:d.DictOf (D5 P w) a vs) :
  u5 P w H' d a (.dK b):=⟨z,e,vs,c,dd⟩
theorem vf(O:A.units+1<cLine)(I:Inv X j σ H s)(g:DPut H a y v H')(C:RelV y u)(F:RelV v r)(h:∀B,Inv X j σ H' B->Q () B) :
  wpAny (model X.prog X.w) A (setItem (.ref a) u r) Q E s:=by
 rcases g with⟨f,k,e,p,l,w⟩ | ⟨f,k,b,e,p,eb,l,w⟩
 ·subst p w;obtain⟨z,o,M,d,x⟩:=vb I.hok e;have N:M.length<=sizeLine:=by rw[←d.length];exact z
  have n:(putK f k v).length<=sizeLine:=by have:=iS f k v;omega
  refine wpAny_setItem_pairs (iT C) x λ J i hs=>h _ ?_;have P:∃q,J.get? a=some q:=let ⟨q,_,_,m,_⟩:=i;⟨q,m⟩;exact iX I (by rw[e];exact True.intro) hs P (ve n o (d.put k F) i)
 ·subst p w;cases(C);obtain⟨z,o,L,d,x⟩:=vd I.hok e;have N:L.length<=sizeLine:=by rw[←Paired.length d];exact z
  have n:(putK f k v).length<=sizeLine:=by have:=iS f k v;omega
  refine wpAny_setItem_heap (tupleKind_room_in1 O) (iW I.hok eb) x λ J i hs=>h _ ?_;obtain⟨q,es,Y,m,W,U,S,_,R⟩:=i;refine iX I (by rw[e];exact True.intro) hs ⟨q,m⟩ ⟨n,o,_,(d.put k eb F).keeps λ c ys K=>?_,q,es,Y,m,W,U,S,R⟩;rw[j4 (mz K e (λ z=>nomatch z))];exact K
end
section
end
noncomputable def vg(td ty tv:TE):TS:=λ D σ H=>tv σ H λ v H1=>td σ H1 λ x H2=>ty σ H2 λ y H3=>∃a H4,x=.ref a/\DPut H3 a y v H4/\D.nx σ H4
section
theorem vh(z:X.A.units+1<cLine)(A:PE X o f)(B:PE X i ty)(w:PE X b e)(hs:swapsWith b (some (.Subscript o i pos')) pos.line X.env=pure false) :
  PS X (.Assign [.Subscript o i pos'] b pos) (vg f ty e):=by
 intro c s d H D I h;refine wpAny_Assign_Subscript (thn (w c s d H _ I h) λ r s1 ⟨v,M,J,m,q⟩=>thn (A c s1 d M _ J q) λ u j ⟨x,L,F,l,p⟩=>thn (B c j d L _ F p) λ iv s3 ⟨y,H3,E,k,a,K,ex,g,n⟩=>?_) hs;subst ex;obtain rfl:u=Value.ref a:=l;exact vf z E g k m λ s4 C=>⟨d,K,C,n⟩
end
theorem vi(h:zo)(a:sysModules<h.objs.size):u5 P w H (h.push {cls:=.type "dict",data:=.dict #[]}) h.objs.size (.dT []):=
 ⟨Nat.zero_le _,u9.mpr (Ne.symm (j7 a)),[],.nil,_,#[],0,n6 _ rfl,⟨rfl,rfl,rfl⟩,rfl,rfl,List.nodup_nil⟩
def vj:TE:=λ _ H Q=>∀p,H p=none->Q (.ref p) (upd H p (.dT []))
section
theorem vk:PE X (.Dict [] [] pos) vj:=λ a s σ H Q I h=>
 wpAny_Dict_empty ⟨.ref s.heap.objs.size,_,I.laid (λ _ _ q=>f9 _ q) (i7 _) (vi s.heap I.big),rfl,h _ (I.hok.fresh (i7 _))⟩
end
section
theorem RSt.growD(R:RSt D H σ δ O W)(g:H p=none)(B:mutO w=true):RSt D (upd H p w) σ δ O (p::W):=by
 have s:Same H (upd H p w):=r9 g;have c:Same _ (L2.wo (O++(p::W)) _):=λ b o e=>by
  obtain⟨C,e⟩:=x4 e;rw[i6 λ z=>?_]
  ·exact s b o e
  ·rcases e8.mp (H9.mp z)with z | z
   ·rw[z,g]at e;cases e
   ·exact C z
 refine⟨λ j d h=>?_,λ j d h=>?_,R.inj,?_,R.od.step (λ j d h=>⟨h,rfl⟩) (λ _ h _=>i8 _ h) (λ a _ _ h _=>s _ _ h),R.len,⟨λ a i=>?_,Same.refl _,λ a i=>?_,λ a i=>?_,R.hid.omS s⟩⟩
 ·obtain⟨v,n,l⟩:=R.val j d h;exact⟨v,n,l.mono c⟩
 ·obtain⟨a,r,y,E,n,l,x,k⟩:=R.own j d h;exact⟨a,r,y,E,n,i8 _ l,s _ _ x,k.mono c⟩
 ·obtain⟨P,f,u⟩:=R.ot;refine⟨P,λ j d h=>?_,u⟩;obtain⟨t,A,n,l,x,k⟩:=f j d h;exact⟨t,A,n,c.tseq l,x.mono c λ _ _ _ q=>s _ _ q,λ p g=>⟨i8 _ (k p g).1,(k p g).2.1.imp λ _ q=>s _ _ q,(k p g).2.2⟩⟩
 ·rcases e8.mp (H9.mp i)with z | z
  ·rw[z,v6];intro q;cases q
  ·intro q;exact R.hid.ot a z (s.free q)
 ·rcases e8.mp i with z | z
  ·exact⟨_,by rw[z];exact v6,B⟩
  ·obtain⟨r,q,m⟩:=R.hid.wl a z;exact⟨r,s _ _ q,m⟩
 ·rcases e8.mp i with z | z
  ·intro q;exact R.hid.ot p (w4 _ (by rw[←z];exact q)) g
  ·exact R.hid.dj a z
theorem RSt.setOd(R:RSt D H σ δ O W)(x:p∈W)(m:OdOk u p l)(A:H p=some l)(c:noOt i δ=true):RSt D H (σ.set i (some (.ref p))) (δ.set i (.od u)) O W:=by
 refine⟨λ j d h=>?_,λ j d h=>?_,λ j k a C B g f r o=>?_,RSt.noot λ j d h=>?_,λ j d h=>?_,by rw[v5,v5];exact R.len,R.hid⟩
 ·have b:=n9 h (by intro z;cases z);rw[i4 (Ne.symm b)]at h ⊢;exact R.val j d h
 ·have b:=n9 h (by intro z;cases z);rw[i4 (Ne.symm b)]at h ⊢;exact R.own j d h
 ·have w:=n9 g (by intro z;cases z);have v:=n9 f (by intro z;cases z);rw[i4 (Ne.symm w)]at g r;rw[i4 (Ne.symm v)]at f o;exact R.inj j k a C B g f r o
 ·have b:=n9 h (by intro z;cases z);rw[i4 (Ne.symm b)]at h;exact absurd (cV c h) b
 ·have b:j=i:=by
   by_cases b:j=i
   ·exact b
   ·rw[i4 (Ne.symm b)]at h;exact iL c h
  subst b;obtain⟨y,e⟩:=K8 h;cases e;refine⟨⟨p,l,m,A8 (by rw[R.len];exact y),x,A⟩,λ k d' q=>?_⟩;by_cases n:k=j
  ·exact n
  ·rw[i4 (Ne.symm n)]at q;exact iL c q
theorem RSt.writeOd(R:RSt D H σ δ O W)(X:δ[i]? = some (.od d))(ha:σ[i]? = some (some (.ref p)))(J:p∈W)(hH:H p=some U)(K:dicO U=true)(C:OdOk B p F):RSt D (upd H p F) σ (δ.set i (.od B)) O W:=by
 have l:Same _ (L2.wo (O++W) (upd H p F)):=λ b o e=>by obtain⟨A,e⟩:=x4 e;rw[i6 A,j4 λ z=>A (by rw[z];exact v9 _ J)];exact e
 have x:∀{b:zn} {n:ge V},H b=some (.lst n)->b≠p:=λ {b n} h z=>by rw[z,hH]at h;cases h;cases K
 refine⟨λ j d h=>?_,λ j d h=>?_,λ j k a B E w r e1 e2=>?_,?_,λ j d h=>?_,by rw[v5];exact R.len,⟨λ b A q=>?_,Same.refl _,λ b A=>?_,R.hid.dj,R.hid.omW J⟩⟩
 ·have g:=n9 h (by intro z;cases z);rw[i4 (Ne.symm g)]at h;obtain⟨v,w,r⟩:=R.val j d h;exact⟨v,w,r.mono l⟩
 ·have g:=n9 h (by intro z;cases z);rw[i4 (Ne.symm g)]at h;obtain⟨b,n,Q,q0,w,r,S,Z⟩:=R.own j d h;exact⟨b,n,Q,q0,w,r,by rw[j4 (x S)];exact S,Z.mono l⟩
 ·have n1:=n9 w (by intro z;cases z);have n2:=n9 r (by intro z;cases z);rw[i4 (Ne.symm n1)]at w;rw[i4 (Ne.symm n2)]at r;exact R.inj j k a B E w r e1 e2
 ·obtain⟨P,f,u⟩:=R.ot;refine⟨P,λ j d h=>?_,λ j k B E M L=>?_⟩
  ·have g:=n9 h (by intro z;cases z);rw[i4 (Ne.symm g)]at h;obtain⟨t,Y,f1,f2,f3,N⟩:=f j d h;refine⟨t,Y,f1,l.tseq f2,f3.mono l λ p1 _ n q=>by rw[j4 (x q)];exact q,λ p1 y=>⟨(N p1 y).1,(N p1 y).2.1.imp λ n q=>by rw[j4 (x q)];exact q,λ k E q=>?_⟩⟩;have I:=n9 q (by intro z;cases z);rw[i4 (Ne.symm I)]at q;exact(N p1 y).2.2 k E q
  ·rw[i4 (Ne.symm (n9 M (by intro z;cases z)))]at M;rw[i4 (Ne.symm (n9 L (by intro z;cases z)))]at L;exact u j k B E M L
 ·have g:j=i:=by
   by_cases g:j=i
   ·exact g
   ·rw[i4 (Ne.symm g)]at h;exact(R.od i _ X).2 j _ h
  subst g;obtain⟨hl,e⟩:=K8 h;cases e;refine⟨⟨p,F,C,ha,J,v6⟩,λ k d' q=>?_⟩;by_cases I:k=j
  ·exact I
  ·rw[i4 (Ne.symm I)]at q;exact(R.od j _ X).2 k _ q
 ·by_cases c:b=p
  ·rw[c,v6]at q;cases q
  ·rw[j4 c]at q;exact R.hid.ot b A q
 ·by_cases c:b=p
  ·exact⟨_,by rw[c];exact v6,C.mut⟩
  ·obtain⟨n,q,m⟩:=R.hid.wl b A;exact⟨n,by rw[j4 c];exact q,m⟩
end
section
end
noncomputable def kP(p:Int×Int):ge Key:=[.inl p.1,.inl p.2]
theorem iY(h:kP p=kP q):p=q:=by
 unfold kP at h;obtain⟨a,b⟩:=p;obtain⟨c,d⟩:=q;simp at h;rw[h.1,h.2]
noncomputable def kD(p:Int×Int):DKey:=.t [.inl p.1,.inl p.2]
theorem vm(h:kD p=kD q):p=q:=iY (DKey.t.inj h)
section
end
def Kp(a:zn)(h h':zo):Prop:=∀b o,b≠a->h.get? b=some o->h'.get? b=some o
theorem Kp.of(x:Heap.SameBut a h c):Kp a h c:=λ b o n e=>x.extBut b o n e
theorem Kp.push(x:Kp a h c)(d:Obj):Kp a h (c.push d):=λ b o n e=>f9 _ (x b o n e)
section
variable {prog:zu} {w:zt} {A:zw} {E:zk->zm->Prop} {s:zm} {d it:zn} {i ep:Nat} {od:Obj} {es:zr DictEntry} {ok ov:zk}
def Q6(h:zo)(it d:zn)(i n ep:Nat):Prop:=h.get? it=some {cls:=.type "dict_keyiterator",dict:=none,data:=.fields #[.ref d,.int i 0,.int n 0,.int ep 0],slots:=#[]}
theorem vn(f:(d==sysModules)=false)(b:s.TypeIs (.ref d) "dict")(c:s.heap.get? d=some od)(a:od.data=.dict es ep)
  (q:Q (.ref s.heap.objs.size) {s with heap:=s.heap.push {cls:=.type "dict_keyiterator",data:=.fields #[.ref d,.int 0 0,.int es.size 0,.int ep 0]}}):wpAny (model prog w) A (pyIter (.ref d)) Q E s:=by
 have e:¬((d==sysModules)=true):=by rw[f];exact y8
 refine wpAny_pyIter_slot b F.slot_dict_iter (wpAny_call_entry F.slot_dict_iter b F.entry_dict_iter ?_ (F.args_dict_iter_1 _));unfold Builtin.«dict.__iter__» Builtin.Dict.dictSlotNone Builtin.Dict.showsAll;refine d4 (d4 (wpAny_notOrdered_dict b (d7 ?_)));show wpAny _ _ ((if _=true then _ else _) >>= _) _ _ s;rw[d9 e];exact d4 (d7 (d4 (wpAny_dictEntries c a (d4 (wpAny_dictEpoch c a (d4 (wpAny_newObj_type (d7 ⟨_,rfl,"dict_keyiterator",_,⟨_,n6 _ rfl,rfl⟩,F.slot_dict_keyiterator_next.lookup,q⟩))))))))
theorem iZ(u:A.handled=none)(c:Q6 s.heap it d i es.size ep)(k:s.heap.get? d=some od)(l:od.data=.dict es ep)
  (e:∀en g,es[i]? = some en->Q6 g it d (i+1) es.size ep->Kp it s.heap g->Q (some en.key) {s with heap:=g})
  (f:∀g,es[i]? = none->Kp it s.heap g->Q none {s with heap:=g}):wpAny (model prog w) A (pyNext (.ref it)) Q E s:=by
 have ty:∀{h:zo} {j:Nat},Q6 h it d j es.size ep->Shared.TypeIs {s with heap:=h} (.ref it) "dict_keyiterator":=λ z=>⟨_,z,rfl⟩;have m:Builtin.Dict_items.ownsTuple "dict_keyiterator" = false:=by decide
 have r:¬((Value.ref d==Value.none)=true):=y8;unfold pyNext;refine d4 (wpAny_attempt (wpAny_callSpecial?_slot (ty c) F.slot_dict_keyiterator_next (wpAny_call_entry F.slot_dict_keyiterator_next (ty c) F.entry_dict_keyiterator_next ?_ (F.args_dict_keyiterator_next_1 _))));refine d4 (d7 (d4 (d4 (d4 (wpAny_typeNameOfWhole_keyiter (ty c) (d7 (d4 (wpAny_fieldsOf c rfl ?_))))))));simp only[m,Bool.false_eq_true,if_false];show wpAny _ _ (if(Value.ref d==Value.none)=true then _ else _) _ _ s;rw[d9 r];refine d4 (d7 (d4 (wpAny_dictEntries k l ?_)));rw[d9 (by simp)];refine d4 (d7 (d4 (wpAny_dictEpoch k l ?_)));rw[d9 (by simp)];refine d7 ?_;dsimp only;rw[d9 (by omega),z0];cases p:es[i]? with
 | none=>
  dsimp only;refine d4 (d4 (wpAny_typeNameOfWhole_keyiter (ty c) (d7 ?_)));simp only[m,Bool.false_eq_true,if_false];refine d4 (wpAny_setField_rec c (by simp) λ n o s1=>d4 ?_);unfold newExc newTuple;refine d4 (wpAny_newObj_type (d4 (wpAny_of_eq (by first | rfl | (simp only[firstArgMember];rfl)) (wpAny_newObj_type (wpAny_raiseNew_none u (d4 (wpAny_isInstance ⟨_,n6 _ rfl,rfl⟩ isSubtype_stop (d7 ?_)))) (by size_fits)))) (by size_fits));exact f _ p (((Kp.of s1).push _).push _)
 | some en=>
  dsimp only;refine d4 (d4 (wpAny_typeNameOfWhole_keyiter (ty c) (d7 (d4 (wpAny_isOneOf_keyiter (ty c) ?_)))));simp only[m,Bool.false_eq_true,if_false];refine d4 (wpAny_setField_rec c (by simp) λ n o s1=>?_);have q:Q6 n it d (i+1) es.size ep:=by unfold Q6;rw[show((i+1:Nat):Int)=(i:Int)+1 by omega];exact o
  refine d4 (wpAny_holding (d4 (wpAny_isOneOf_keyiter (ty q) ?_)));exact d7 (d7 ⟨_,rfl,d7 (e en n p q (.of s1))⟩)
end
end L2
end
noncomputable section
namespace L2
open PySem PyProof.Rows
variable {α:Type} {r:α->Int} {la lb out:ge α} {ia ib:Nat}
end L2
end
noncomputable section
namespace L2
open PySem PyProof.Rows
section
variable {prog:zu} {w:zt} {A:zw} {E:zk->zm->Prop} {s:zm} {κ:SortKind} {S:Keyed->Prop} {r:Keyed->Int} {st:SortSt} {a b:zr Keyed}
end
section
variable {prog:zu} {w:zt} {A:zw} {E:zk->zm->Prop} {s:zm} {κ:SortKind} {S:Keyed->Prop} {r:Keyed->Int} {st:SortSt} {a b:zr Keyed}
end
noncomputable def rk(r:Keyed->Int)(xs:zr Keyed)(i:Nat):Int:=match xs[i]? with
 | some p=>r p
 | none=>0
section
end
open PySem.Spec PySem.Calls
theorem W0(p q:Int×Int):ltP p q=true↔p.1<q.1\/(p.1=q.1/\p.2<q.2):=by
 unfold ltP;rw[Bool.or_eq_true,decide_eq_true_iff,d8,f7,decide_eq_true_iff]
theorem PrAt.uniq(a:PrAt h v p)(b:PrAt h v q):p=q:=by
 obtain⟨a1,o1,n1,t1,f,rfl,j,e3,i⟩:=a;obtain⟨a2,o2,n2,t2,e,g,d,f3,c⟩:=b;cases g;rw[j]at d;cases d;rw[i]at c;simp at c;exact Prod.ext c.1.1.1 c.1.2.1
open Classical in
noncomputable def prOf(h:zo)(v:zk):Int×Int:=if e:∃p,PrAt h v p then e.choose else(0,0)
theorem ja(a:PrAt h v p):prOf h v=p:=by
 have e:∃p,PrAt h v p:=⟨p,a⟩;unfold prOf;rw[dif_pos e];exact(e.choose_spec).uniq a
theorem r6.map:∀{a:ge zk} {ps:ge (Int×Int)},r6 h a ps->a.map (prOf h)=ps
 | [],[],_=>rfl
 | _::_,_::_,x=>by rw[u0,ja x.1,x.2.map]
 | [],_::_,x=>x.elim
 | _::_,[],x=>x.elim
theorem r6.all:∀{b:ge zk} {c:ge (Int×Int)},r6 h b c->∀v∈b,∃p∈c,PrAt h v p
 | [],[],_,v,a=>nomatch a
 | u::b,p::c,x,v,a=>by
  rcases e8.mp a with rfl | a
  ·exact⟨p,i9 ..,x.1⟩
  ·obtain⟨q,e,d⟩:=x.2.all v a;exact⟨q,i8 _ e,d⟩
 | [],_::_,x,_,_=>x.elim
 | _::_,[],x,_,_=>x.elim
theorem r6.of:∀{a:ge zk},(∀v∈a,∃p,PrAt h v p)->r6 h a (a.map (prOf h))
 | [],_=>trivial
 | v::a,x=>by obtain⟨p,e⟩:=x v (i9 ..);exact⟨by rwa [ja e],r6.of λ u b=>x u (i8 _ b)⟩
section
theorem r6.putIx(r:r6 h vs ps):∀{a:ge Nat},(∀i∈a,i<ps.length)->r6 h (L2.putIx .none a vs) (L2.putIx (0,0) a ps)
 | [],_=>trivial
 | i::l,q=>⟨r.get (q i (i9 ..)),r6.putIx r λ j b=>q j (i8 _ b)⟩
theorem vo(g:s.heap.get? a=some (seqObj "list" vs.toArray n))(d:r6 s.heap vs ps)(e:ps.Nodup)(hz:ps.length<=63)
  (h:∀b c,b.Perm vs->r6 s.heap b c->c.Perm ps->c.Pairwise (λ p q=>ltP p q=true)->P (.done (.ret .none)) {s with heap:=sortedHeap s.heap a vs b.toArray}):wpAny (model prog w) A (Builtin.«list.sort» ⟨[.ref a],[]⟩) P E s:=by
 obtain⟨ix,l,f,k⟩:=rH e;exact rA g d l (by omega) λ _=>h _ _ (bL (by rwa [d.len])) (d.putIx λ i j=>k6.mp (f.mem_iff.mp j)) (bL f) k
theorem vq(B:(d==sysModules)=false)(j:c.cls=.type "dict")(g:c.data=.dict es ep):PySem.W.KdlSrc prog w "dict" d d es.size (λ i v=>∃en,es[i]? = some en/\v=en.key) (λ h=>h.get? d=some c) where
 type:=λ _ a=>⟨c,a,j⟩
 there:=λ _ a=>⟨i5 a,i5 a⟩
 keep:=λ _ _ a C=>C d (.inl rfl) c a
 notList:=by decide
 notTuple:=by decide
 hint:=λ _ _ _ _ a u=>PySem.W.kdl_hint_dict ⟨c,a,j⟩ u
 iter:=λ A s y a=>by
  refine⟨_,λ i h=>Q6 h s.heap.objs.size d i es.size ep/\h.get? d=some c,λ _ _ u=>vn B ⟨c,a,j⟩ a g u,⟨λ b p=>?_,λ i h l st k=>⟨k _ (by simp) _ st.1,k _ (by simp) _ st.2⟩,λ i r Q E F st q=>?_,λ r Q E st q=>?_,λ i r Q E st q=>wpAny_pyIter_keyiter ⟨_,st.1,rfl,rfl⟩ q⟩,⟨n6 _ rfl,f9 _ a⟩⟩
  ·rw[v4.mp p];simp
  ·refine iZ y st.1 st.2 g (λ en l f x m=>q en.key l r.toks ⟨en,f,rfl⟩ ⟨x,m d c (j7 (i5 a)) st.2⟩ λ b o p e=>m b o (λ z=>p (by grind)) e) λ l n _=>?_;rw[C6 F]at n;cases n
  ·refine iZ y st.1 st.2 g (λ en l f x m=>?_) λ l _ m=>q l r.toks λ b o p e=>m b o (λ z=>p (by grind)) e;rw[Array.getElem?_eq_none (i7 _)]at f;cases f
theorem vt(W:A.handled=none)(O:(d==sysModules)=false)(Y:s.heap.get? d=some u)(C:u.cls=.type "dict")(B:u.data=.dict es ep)(y:r6 s.heap (es.toList.map (·.key)) ps)(z:ps.Nodup)(P:ps.length<=63)
  (h:∀(j F:zo) p e n a f,a.Perm (es.toList.map (·.key))->r6 s.heap a f->f.Perm ps->f.Pairwise (λ p q=>ltP p q=true)->(∀b o,s.heap.get? b=some o->j.get? b=some o)->(∀b o,j.get? b=some o->F.get? b=some o)->j.objs.size<=p->F.get? p=some (seqObj "list" a.toArray e)->Q (.ref p) {s with heap:=F,toks:=n}) :
  wpAny (model prog w) A (call (.builtin "sorted") [.ref d]) Q E s:=by
 have U:=y.len;rw[e7,t9]at U;refine Calls.call_function_entry kind_sorted plain_sorted entry_sorted (args_sorted1 _) ?_
 unfold Builtin.«sorted»;refine d4 (d7 ?_);refine d4 (PySem.W.kdu_collect (vq O C B) W Y (by rw[sizeLine_eq];omega) λ j n l J g=>?_);have Z:l.toList=es.toList.map (·.key):=by
  apply List.ext_getElem (by rw[e7,t9,t9];exact g.1);intro i I i2;have x:i<l.size:=by rw[t9]at I;exact I
  obtain⟨en,K,e2⟩:=g.2 i l[i] (C6 x);rw[List.getElem_map,Array.getElem_toList,Array.getElem_toList,e2];rw[C6 (by have:=g.1;omega)]at K;cases K;rfl
 rw[Z];refine d4 (wpAny_newList ?_ (by rw[e7,t9,sizeLine_eq];omega));generalize R:es.toList.map _=vs at *;have k:(j.push (seqObj "list" vs.toArray 0)).get? j.objs.size=some _:=n6 _ rfl;have keep:∀b o,s.heap.get? b=some o->(j.push (seqObj "list" vs.toArray 0)).get? b=some o:=λ b o q=>f9 _ (J b o q)
 refine d4 (wpAny_holding (wpAny_call_entry slot_list_sort ⟨_,k,rfl⟩ entry_list_sort (vo k (y.keep keep) z P λ a f H N M L=>⟨_,rfl,?_⟩) (args_list_sort _)));refine d7 ⟨_,rfl,?_⟩;obtain⟨e,X⟩:=sortedHeap_at k;have r:r6 s.heap a f:=by
  have b:∀v∈a,∃p,PrAt s.heap v p:=λ v S=>by obtain⟨p,_,e⟩:=y.all v (H.mem_iff.mp S);exact⟨p,e⟩
  have c:=r6.of b;have:=(c.keep keep).map;rw[←this,N.map]at c;exact c
 refine h j _ _ e n a f H r M L J (λ b o q=>?_) (i7 _) X;have m:=i5 q;rw[sortedHeap_old (j7 m) (by show b<(j.push _).objs.size;rw[size_push'];exact Nat.lt_succ_of_lt m)];exact f9 _ q
end
section
theorem PrsV.get:∀{K:zA} {H:Hp} {vs:ge V} {ps:ge (Int×Int)},PrsV K H vs ps->vs.length=ps.length
 | _,_,[],[],_=>rfl
 | _,_,_::_,_::_,x=>by rw[p9,p9,x.2.get]
 | _,_,[],_::_,x=>x.elim
 | _,_,_::_,[],x=>x.elim
theorem jb:∀a:ge (ge Key×zn×zk),Vals (a.map λ x=>V.ref x.2.1) (a.map λ x=>Value.ref x.2.1)
 | []=>.nil
 | _::a=>.cons rfl (jb a)
theorem vv(hc:X.calm=true):x5 X (.builtin "sorted") (λ d H Q=>∃(p:zn) (j:ge (ge Key×V)) (f:ge (Int×Int)),d=[.ref p]/\H p=some (.dT j)/\j.map (·.1)=f.map (λ p=>[.inl p.1,.inl p.2])/\f.length<=63 /\
  ∀q bs c,H q=none->PrsV X.K H bs c->c.Perm f->c.Pairwise (λ p q=>ltP p q=true)->Q (.ref q) (upd H q (.lst bs))):=by
 intro n s σ H d us Q I r h;obtain⟨p,j,f,rfl,Y,U,R,q⟩:=h;obtain⟨u,rfl,r1⟩:=C7 r;cases r1;obtain⟨zz,y,d,rr,o,es,ep,h1,h2,h3,Z,K⟩:=(I.hok p _ Y);have L:es.toList.map (·.key)=d.map λ x=>Value.ref x.2.1:=by rw[Z,List.map_map];rfl
 have F:d.map (·.1)=f.map (λ p=>[.inl p.1,.inl p.2]):=by
  rw[←U]
  clear U Z K L Y R q zz
  induction rr with
  | nil=>rfl
  | cons a _ l=>rw[u0,u0,l,a.1]
 have z:f.Nodup:=(by rw[F]at K;exact(List.pairwise_map.mp K).imp λ {a b} W e=>W (by rw[e]));have B:∀x∈d,∃k:ge Key,x.1=k/\H x.2.1=some (.tup (k.map kV)):=by
  clear U Z K L Y R q F zz z
  induction rr with
  | nil=>exact λ _ h=>nomatch h
  | cons a _ l=>
   intro x i;rcases e8.mp i with rfl | i
   ·exact⟨_,a.1.symm,a.2.1⟩
   ·exact l x i
 have O:∀(d:ge (ge Key×zn×zk)) (f:ge (Int×Int)),d.map (·.1)=f.map (λ p=>[.inl p.1,.inl p.2])->(∀x∈d,∃k:ge Key,x.1=k/\H x.2.1=some (.tup (k.map kV)))->PrsV X.K H (d.map λ x=>V.ref x.2.1) f:=by
  intro d
  induction d with
  | nil=>
   intro f e _;cases f with
   | nil=>exact trivial
   | cons _ _=>cases e
  | cons x d l=>
   intro f e ha;cases f with
   | nil=>cases e
   | cons p f=>
    rw[u0,u0]at e;obtain⟨e1,A⟩:=List.cons.inj e;obtain⟨k,P,J⟩:=ha x (i9 ..);rw[←P,e1]at J;exact⟨⟨_,rfl,SqT.of J⟩,l f A λ y hy=>ha y (i8 _ hy)⟩
 refine vt (I.ok.hd hc) y h1 h2.1 h3 ((O d f F B).at I ((by rw[L];exact jb d))) z R λ g1 g' E e tk g c q1 C N q4 P J w he=>?_;have I1:Inv X n σ H {s with heap:=g1,toks:=tk}:=I.kept P;obtain⟨bs,b1,M⟩:∃bs,Vals bs g/\PrsV X.K H bs c:=by
  have mm:∀v∈g,∃x∈d,v=Value.ref x.2.1:=λ v hv=>by have:=q1.mem_iff.mp hv;rw[L]at this;obtain⟨x,i,ex⟩:=k8.mp this;exact⟨x,i,ex.symm⟩
  have kp:∀x∈d,∃p:Int×Int,x.1=[.inl p.1,.inl p.2]:=λ x i=>by have:x.1∈d.map (·.1):=List.mem_map_of_mem i;rw[F]at this;obtain⟨p,_,e⟩:=k8.mp this;exact⟨p,e.symm⟩
  clear q1 N q4 he
  induction g generalizing c with
  | nil=>
   cases c with
   | nil=>exact⟨[],.nil,trivial⟩
   | cons _ _=>exact C.elim
  | cons v g l=>
   cases c with
   | nil=>exact C.elim
   | cons p1 c=>
    obtain⟨bs,b1,M⟩:=l c C.2 λ u hu=>mm u (i8 _ hu)
    obtain⟨x,i,rfl⟩:=mm v (i9 ..);obtain⟨k,e1,A⟩:=B x i;obtain⟨p2,e3⟩:=kp x i;rw[←e1,e3]at A;have S:p1=p2:=by have u1:PrsV X.K H [V.ref x.2.1] [p2]:=⟨⟨_,rfl,SqT.of A⟩,trivial⟩;exact C.1.uniq ((u1.at I (.cons rfl .nil)).1)
    subst S;exact⟨.ref x.2.1::bs,.cons rfl b1,⟨_,rfl,SqT.of A⟩,M⟩
 have ok:u5 X.prog X.w (upd H E (.lst bs)) g' E (.lst bs):=⟨by rw[M.get,N.length_eq,sizeLine_eq];omega,g,e,b1,he⟩;exact⟨.ref E,_,(I1.laid J w ok),rfl,q E bs c (I1.hok.fresh w) M N q4⟩
end
noncomputable def addP(L:ge (Int×Int))(k:Int×Int):ge (Int×Int):=if k∈L then L else L++[k]
theorem vw(L:ge (Int×Int))(k:Int×Int):putK (esK L) (kP k) (.bl true)=esK (addP L k):=by
 have e:((esK L).any λ a=>decide (a.1=kP k))=decide (k∈L):=by
  unfold esK;rw[List.any_map];by_cases h:k∈L
  ·rw[decide_eq_true h,List.any_eq_true];exact⟨k,h,decide_eq_true rfl⟩
  ·rw[decide_eq_false h,List.any_eq_false];intro p hp z;exact h (by rwa [←iY (of_decide_eq_true z)])
 unfold putK addP;rw[e];by_cases h:k∈L
 ·rw[decide_eq_true h,d6 rfl,d6 h];unfold esK;rw[List.map_map];apply List.map_congr_left;intro p _;show(if kP p=kP k then _ else _)=_;split<;>rfl
 ·rw[decide_eq_false h,d9 (by simp),d9 h];unfold esK;rw[List.map_append];rfl
theorem jc(L:ge (Int×Int))(k:Int×Int):addK (kD k) (L.map kD)=(addP L k).map kD:=by
 have e:(kD k∈L.map kD)↔k∈L:=by
  rw[k8];constructor
  ·rintro⟨p,h1,a⟩;rwa [←vm a]
  ·intro h;exact⟨k,h,rfl⟩
 unfold addK addP;by_cases h:k∈L
 ·rw[d6 (e.mpr h),d6 h]
 ·rw[d9 (λ z=>h (e.mp z)),d9 h,List.map_append];rfl
theorem cW(p:Int×Int):∀l:ge (Int×Int),(insP p l).Perm (p::l)
 | []=>.refl _
 | q::l=>by
  unfold insP;split
  ·exact .refl _
  ·exact((cW p l).cons q).trans (.swap ..)
theorem W1:∀l:ge (Int×Int),(L7 l).Perm l
 | []=>.refl _
 | p::l=>(cW p _).trans ((W1 l).cons p)
theorem jd(h:ltP p q=true)(h':ltP q r=true):ltP p r=true:=by
 rw[W0]at *;omega
theorem je:∀{l:ge (Int×Int)},L6 l=true->l.Pairwise λ p q=>ltP p q=true
 | [],_=>.nil
 | [_],_=>List.pairwise_singleton _ _
 | p::q::r,h=>by
  have a:(ltP p q&&L6 _)=true:=h;rw[d8]at a;have c:=je a.2;refine A3.mpr ⟨λ z b=>?_,c⟩;rcases e8.mp b with rfl | b
  ·exact a.1
  ·exact jd a.1 ((A3.mp c).1 z b)
theorem jf{c:ge (Int×Int)}(h:l.Perm c)(a:l.Pairwise λ p q=>ltP p q=true)(b:c.Pairwise λ p q=>ltP p q=true):l=c:=
 List.Perm.eq_of_pairwise (λ x y _ _ e d=>by rw[W0]at e d;omega) a b h
theorem cX:∀(L:ge (Int×Int)),prK (L.map kD)=some L
 | []=>rfl
 | p::L=>by show(prK _).map _=_;rw[cX L];rfl
theorem jg(b:Hid O W g H):∀{bs:ge V} {c:ge (Int×Int)},PrsV D.K H bs c->RepL D (L2.wo (O++W) H) (c.map λ p=>.tup [.int p.1,.int p.2]) bs
 | [],[],_=>u3.mpr rfl
 | _::_,p::c,x=>by
  obtain⟨⟨a,rfl,e⟩,y⟩:=x;refine m9.mpr ⟨_,_,rfl,x2.mpr ⟨a,_,rfl,?_,m9.mpr ⟨_,_,rfl,v7.mpr rfl,RepL.one (v7.mpr rfl)⟩⟩,jg b y⟩;have d:∀a∈O++W,∃o,H a=some o/\mutO o=true:=λ a f=>by
   rcases List.mem_append.mp f with z | z
   ·obtain⟨o,q,m⟩:=b.om a z;exact⟨o,b.same _ _ q,m⟩
   ·obtain⟨o,q,m⟩:=b.wl a z;exact⟨o,b.same _ _ q,m⟩
  exact SqT.immut (O:=[]) d e
 | [],_::_,x=>x.elim
 | _::_,[],x=>x.elim
section
theorem vx(l:X.N.Nodup)(f:X.N[i]? = some x)(e:Loc X.env.scope x)(g:X.fn x=true\/X.env.scope.names.lookup x=some .local)(h:(if noOt i δ then some (Out.nx (δ.set i (.od (.tup [.dct [] [],.non]))))else none)=some o):PS X (.Assign [.Name x b] (.Dict [] [] pos') pos) (dS X.D E δ o):=by
 split at h
 ·rename_i d;cases h;refine(S8 l f e vk rfl g).weak λ Dn σ H ⟨H0,O,W,R,m,fo,sm,k⟩=>λ p c=>?_
  exact k _ _ _ ((R.growD c rfl).setOd (i9 ..) (⟨[],rfl,rfl⟩) v6 d) (λ a j=>by
   rcases e8.mp j with z | z
   ·rw[z];exact sm.free c
   ·exact m a z) (sm.trans (r9 c))
 ·cases h
theorem jh(h:OdOk (.tup [.dct c [],.non]) a b):∃L,c=L.map kD/\b=.dT (esK L):=by
 obtain⟨L,q,d⟩:=h;exact⟨L,(DV.dct.inj (List.cons.inj (DV.tup.inj q)).1).1,d⟩
theorem vy(hu:X.A.units+1<cLine)(hv:PE X (.Name x j) (tVar i))(he:∀q,N=some q->PE X e (dE X.D E δ q))(hk:∀q,M=some q->PA X es (dA X.D E δ q))(hc:M2 e=false)
  (h:(match δ[i]? with
   | some (.od (.tup [.dct ks [],.non]))=>Re.thnS δ N λ d _=>Rs.thnS δ M λ l=>(dptD i δ ks l d).map Out.nx
   | _=>none)=some o):PS X (.Assign [.Subscript (.Name x j) (.Tuple es x1 tpos) f] e pos) (dS X.D E δ o):=by
 split at h
 ·rename_i ks Y;have C:=λ t t' (hA:PE X e t) (hB:PA X es t')=>vh (pos:=pos) (pos':=f) hu hv (Y4 (pos:=tpos) (x1:=x1) hB) hA (V8 hc)
  cases n:N with
  | none=>rw[n]at h;cases h
  | some q=>
   rw[n]at h;have A:=he q n;cases q with
   | ex c=>
    cases h;exact(C _ _ A gG).weak λ Dn J H ⟨H0,O,W,R,w,fo,sm,k⟩=>⟨O,W,R,D2 R w sm k⟩
   | ok d cl=>
    cases m:M with
    | none=>rw[m]at h;cases h
    | some q2=>
     rw[m]at h;have B:=hk q2 m;cases q2 with
     | ex c=>
      cases h;refine(C _ _ A B).weak λ Dn J H ⟨H0,O,W,R,w,fo,sm,k⟩=>⟨O,W,R,λ v H1 s1 g=>?_⟩
      obtain⟨⟨p,ob,e0,I,e2,e3⟩,u⟩:=R.od i _ Y;exact⟨.ref p,I,O,W,R.mono s1,D2 (Q:=λ _ _=>False) (R.mono s1) w (sm.trans s1) k⟩
     | ok l=>
      obtain⟨δ',r,h2⟩:=t7.mp h;cases h2;unfold dptD at r;split at r
      ·rename_i a ca b cb;split at r
       ·rename_i hl;cases r;refine(C _ _ A B).weak λ Dn J H ⟨H0,O,W,R,w,fo,sm,k⟩=>⟨O,W,R,λ v H1 s1 g=>?_⟩
        obtain⟨⟨p,ob,e0,I,e2,e3⟩,u⟩:=R.od i _ Y;obtain⟨L,Z,eo⟩:=jh e0;subst eo Z;refine⟨.ref p,I,O,W,R.mono s1,λ vs2 H2 F g2=>?_⟩;have U:=g.bl (R.hid.mono s1);obtain⟨w1,w2,ew,g3,g4⟩:=g2.two;have y:=(R.mono s1).hid.mono F;have S:=g3.int y;have P:=g4.int y;subst U S P ew;refine⟨by show(2:Nat)<=sizeLine;decide,λ q hq=>?_⟩;have K:Same H2 (upd H2 q (.tup [.int a,.int b])):=r9 hq;have z:=K _ _ (F _ _ (s1 _ _ e3));rw[e7]at hl;refine⟨p,_,rfl,DPut.t (k:=kP (a,b)) z v6 (by unfold esK;rw[e7];exact p6 hl (by decide)),?_⟩;rw[vw];have pe:=jc L (a,b);have ex:DKey.t [.inl a,.inl b]=kD (a,b):=rfl;rw[ex,pe]at k;exact k J _ W ((((R.mono s1).mono F).mono K).writeOd Y I e2 z rfl (⟨_,rfl,rfl⟩)) w (V9 (((sm.trans s1).trans F).trans K) (w p e2))
       ·cases r
      ·cases r
 ·cases h
theorem vz{δ:ge Sv}(n:X.calm=true)(j:PE X (.Name x npos) (tVar i))(m:Gl X "sorted")(k:X.mg "sorted" = none)
  (h:(match δ[i]? with
   | some (.od (.tup [.dct d [],.non]))=>srdD d
   | _=>none)=some re):PE X (.Call (.Name "sorted" p) [.Name x npos] [] pos) (dE X.D E δ re):=by
 split at h
 ·rename_i d l;unfold srdD at h;split at h
  ·rename_i ps a;split at h
   ·rename_i e;cases h;refine(S9 (vv n) m k gZ (A2 j C8 rfl) (by decide) (by decide) rfl rfl).weak λ σ H Q ⟨O,W,R,p⟩=>?_
    obtain⟨⟨c,ob,w,v,e2,r⟩,u⟩:=R.od i _ l;obtain⟨L,b,o⟩:=jh w;subst o b;rw[cX]at a;obtain rfl:=Option.some.inj a;refine⟨.ref c,v,c,esK L,L,rfl,r,?_,e.2,λ q bs g f A z y=>?_⟩
    ·unfold esK;rw[List.map_map];rfl
    ·have:=jf (z.trans (W1 L).symm) y (je e.1);subst this;exact p _ _ (r9 f) (E7 R.hid f (jg R.hid A))
   ·cases h
  ·cases h
 ·cases h
end
def vA(K:zA)(C:zn):Prop:=∃B newId initId bmB,ExcBaseFacts B newId initId bmB/\PySem.W.excIn K C bmB newId=true
structure XOne(K:PySem.W.Frag)(mg:Str->Option Value)(G:Gs)(cl:List Str)(c:Str)(C:Addr):Prop where
 mc:mg c=some (.ref C)
 ck:ClsK K C
 rk:vA K C
 own:∀t∈cl,∀Ct,mg t=some (.ref Ct)->PySem.W.kitOne K (.ref C) (.ref Ct)=some (E9 G c t)/\PySem.W.exmOne K (.ref C) (.ref Ct)=some (E9 G c t)
 blt:PySem.W.kitOne K (.ref C) (.type "ValueError")=some (E9 G c "ValueError")
structure XFacts(K:PySem.W.Frag)(mg:Str->Option Value)(G:Gs)(cl:List Str):Prop where
 one:∀c,(G.cls.lookup c).isSome=true->∃C,XOne K mg G cl c C
 all:∀t∈cl,∃Ct,mg t=some (.ref Ct)
section
variable {X:Cx} {E:St->XK} {δ:ge Sv} {e:zq} {pos p p':Pos} {re:Re} {ra:on Re} {G:Gs} {cl:ge Str} {t:Str} {o:Out}
def rIsx(X:Cx):ge V->Hp->VK->Prop:=λ xs H Q=>∃(a C:zn) (y:V) (c:zk) (b:Bool),xs=[.ref a,y]/\H a=some (excO a (.ref C))/\ClsK X.K C/\((∃Ct,y=.ref Ct/\c=.ref Ct)\/∃n,y=.ty n/\c=.type n)/\PySem.W.kitOne X.K (.ref C) c=some b/\Q (.bl b) H
theorem vC:x5 X (.builtin "isinstance") (rIsx X):=by
 intro e s σ H xs us Q I r h;obtain⟨a,C,y,c,b,rfl,v,ck,k,m,q⟩:=h;obtain⟨u,f,rfl,i,d⟩:=Y3 r;cases(i);obtain⟨⟨j,vs,p,o,_⟩,_⟩:=(I.hok a _ v);have l:f=c:=by
  rcases k with⟨Ct,rfl,rfl⟩ | ⟨n,rfl,rfl⟩
  ·exact d
  ·exact d
 subst l;exact pP ck I.kIn ⟨j,p,o⟩ m λ g=>⟨.bl b,H,I.tok g,rfl,q⟩
theorem vD:bootBuiltins "ValueError" = some (.type "ValueError"):=by decide +kernel
theorem vE(F:XFacts X.K X.mg G cl)(N:Gl X "isinstance")(L:X.mg "isinstance" = none)(j:Gl X t)(K:(t∈cl/\(t==("__debug__" : Str))=false)\/(X.mg t=none/\t = "ValueError"))
  (S:∀q,ra=some q->PE X e (dE X.D E δ q)) (hs:j9 e=false) (h:(Re.thn ra λ y _=>(isxD G y t).map λ k=>.ok (.bl k) .strong)=some re):PE X (.Call (.Name "isinstance" p) [e,.Name t p'] [] pos) (dE X.D E δ re):=by
 have T:∃(v:V) (c:zk),PE X (.Name t p') (tC v)/\((∃g,v=.ref g/\c=.ref g)\/∃n,v=.ty n/\c=.type n)/\∀f C,XOne X.K X.mg G cl f C->PySem.W.kitOne X.K (.ref C) c=some (E9 G f t):=by
  rcases K with⟨l,m⟩ | ⟨l,m⟩
  ·obtain⟨g,u⟩:=F.all t l;exact⟨.ref g,.ref g,ed j u rfl m,.inl ⟨g,rfl,rfl⟩,λ f C x=>(x.own t l g u).1⟩
  ·subst m;exact⟨.ty "ValueError",.type "ValueError",ee j l vD rfl (by decide +kernel) (by decide +kernel),.inr ⟨_,rfl,rfl⟩,λ f C x=>x.blt⟩
 obtain⟨v,c,T,J,M⟩:=T;have C:=λ I (U:PE X e I)=>S9 (p:=p) (pos:=pos) vC N L boot_isinstance (A2 U (A2 T C8) (o6 hs)) (by decide) (by decide) (o6 hs)
 cases b:ra with
 | none=>rw[b]at h;cases h
 | some q=>
  rw[b]at h;have A:=S q b;cases q with
  | ex c=>cases h;exact(C _ A).weak λ w H Q ⟨O,W,R,p⟩=>⟨O,W,R,p⟩
  | ok d dc=>
   obtain⟨k,i,Z⟩:=t7.mp (h);cases Z;unfold isxD at i;split at i
   ·rename_i f;split at i
    ·rename_i P;cases i;obtain⟨o,x⟩:=F.one f P;refine(C _ A).weak λ w H Q ⟨O,W,R,p⟩=>⟨O,W,R,λ v1 H1 s1 Y=>?_⟩
     obtain⟨a,C1,B,z,r⟩:=bW.mp (Y.all (R.hid.mono s1));rw[show C1=Value.ref o from Option.some.inj (z.symm.trans x.mc)]at r;exact⟨a,o,v,c,_,by rw[B],r,x.ck,J,M f o x,p _ H1 s1 M6⟩
    ·cases i
   ·cases i
theorem vF(F:XFacts X.K X.mg G cl)(r:X.calm=true)(n:Gl X c)(p:(c==("__debug__" : Str))=false)(w:Y9 X E)(u:∀q,ra=some q->PE X e (dE X.D E δ q))(hs:j9 e=false)
  (h:(if(G.cls.lookup c).isSome then Re.thnS δ ra λ _ _=>some (.ex c δ)else none)=some o):PS X (.Raise (some (.Call (.Name c np) [e] [] cpos)) none pos) (dS X.D E δ o):=by
 split at h
 ·rename_i i;obtain⟨C,x⟩:=F.one c i;obtain⟨B,f,b,y,I,m⟩:=x.rk;cases a:ra with
  | none=>rw[a]at h;cases h
  | some q=>
   rw[a]at h;have P:=pI (np:=np) (cpos:=cpos) (pos:=pos) I r n x.mc m w (A2 (u q a) C8 (o6 hs)) p (o6 hs) rfl;cases q with
   | ex c2=>cases h;exact P.weak λ J l H ⟨A,O,W,R,j,fo,sm,k⟩=>⟨O,W,R,D2 R j sm k⟩
   | ok d dc=>cases h;exact P.weak λ J l H ⟨A,O,W,R,j,fo,sm,k⟩=>⟨O,W,R,λ v z s1 g=>⟨by show 1<=sizeLine;decide,k l z W _ x.mc (R.mono s1) j (sm.trans s1)⟩⟩
 ·cases h
theorem RSt.unset(R:RSt D H σ δ O W)(i:Nat):RSt D H (σ.set i none) (δ.set i .no) O W where
 val:=λ j d h=>by
  by_cases g:j=i
  ·subst g;have e:=(by have:=(t6.mp h).1;rw[v5]at this;exact this);rw[A8 e]at h;cases h
  ·rw[i4 (Ne.symm g)]at h ⊢;exact R.val j d h
 own:=λ j d h=>by
  by_cases g:j=i
  ·subst g;have e:=(by have:=(t6.mp h).1;rw[v5]at this;exact this);rw[A8 e]at h;cases h
  ·rw[i4 (Ne.symm g)]at h ⊢;exact R.own j d h
 inj:=λ j k a d x c b w v=>by
  have ne:∀(j:Nat) d,(δ.set i .no)[j]? = some (.own d)->j≠i:=λ j d h z=>by
   subst z;have e:j<δ.length:=by have:=(t6.mp h).1;rw[v5]at this;exact this
   rw[A8 e]at h;cases h
  have m:=ne j d c;have l:=ne k x b;rw[i4 (Ne.symm m)]at c w;rw[i4 (Ne.symm l)]at b v;exact R.inj j k a d x c b w v
 ot:=by
  obtain⟨P,f,u⟩:=R.ot;refine⟨P,λ j d h=>?_,λ j k E r c b=>?_⟩
  ·have m:=n9 h (by intro z;cases z);rw[i4 (Ne.symm m)]at h ⊢;obtain⟨t,y,C,B,A,o⟩:=f j d h;refine⟨t,y,C,B,A,λ p n=>⟨(o p n).1,(o p n).2.1,λ k r q=>?_⟩⟩;have l:=n9 q (by intro z;cases z);rw[i4 (Ne.symm l)]at q ⊢;exact(o p n).2.2 k r q
  ·rw[i4 (Ne.symm (n9 c (by intro z;cases z)))]at c;rw[i4 (Ne.symm (n9 b (by intro z;cases z)))]at b;exact u j k E r c b
 od:=R.od.step (U8 _ (by intro d z;cases z)) (λ _ h _=>h) (λ _ _ _ h _=>h)
 len:=by rw[v5,v5];exact R.len
 hid:=R.hid
theorem vG{e:Nat}(F:XFacts X.K X.mg G cl)(A:X.stack=X.env::X.outer)(Q:X.env.frame=some X.env.locals)(S:X.ex=[])(P:Gl X c)(hc:c∈cl)(hd:(c==("__debug__" : Str))=false)(hN:X.N.Nodup)(hi:X.N[e]? = some n)(hl:X.env.scope.names.lookup n=some .local)
  (I:(n==("__debug__" : Str))=false) (B:(n==("__classdict__" : Str))=false) (J:X.N[g]? = some x) (hx:Loc X.env.scope x) (hf:X.fn x=true\/X.env.scope.names.lookup x=some .local)
  (hb:∀b (v:St->zk->Hp->Prop) q,z=some q->PSs (X.tryIn b v) body (dS X.D (λ σ C _ H=>v σ C H) δ q))
  (h:tryD G c e g z=some o) :
  PS X (.Try body [.ExceptHandler (some (.Name c np)) (some n) [.Assign [.Name x tp] (.Name n vp) ap] r] [] [] pos) (dS X.D E δ o):=by
 obtain⟨Ct,u⟩:=F.all c hc;cases j:z with
 | none=>rw[j]at h;cases h
 | some q=>
  rw[j]at h;refine(pE (i:=e) A Q S P u hN hi hl (λ b v=>hb b v q j) (λ m=>mO (S8 hN J hx (G5 hi (.inl hl) I B) rfl hf)) hd).weak λ Dn σ H ⟨H0,O,W,R,fr,fo,sm,k⟩=>⟨H0,O,W,R,fr,fo,sm,?_⟩
  cases q with
  | nx a=>cases h;exact k
  | rt d f=>cases h;exact k
  | rtt d=>cases h;exact k
  | ex p a=>
   have U:(if(G.cls.lookup p).isSome/\E9 G p c/\e<a.length/\e≠g then some (Out.nx ((a.set g (.val (.exc p))).set e .no))else none)=some o:=h;split at U
   ·rename_i hh;cases U;obtain⟨N,M,L,K⟩:=hh;obtain⟨C0,w⟩:=F.one p N;intro σ' H' W' C hm Z Y y;rw[show C=Value.ref C0 from Option.some.inj (hm.symm.trans w.mc)];refine⟨by rw[(w.own c hc Ct u).2,M],λ m l=>?_⟩;have rp:Rep X.D (L2.wo (O++W') (upd H' m (excO m (.ref C0)))) (.exc p) (.ref m):=bW.mpr ⟨m,_,rfl,w.mc,by rw[i6 (Z.hid.newOut l)];exact v6⟩;refine⟨.ref m,A8 (by rw[Z.len];exact L),?_⟩;refine k _ _ W' ?_ Y (y.trans (r9 l));have R2:=(((Z.mono (r9 l)).setVal rp e).setVal rp g).unset e;rw[show((a.set e (Sv.val (.exc p))).set g _).set e Sv.no=(a.set g _).set e Sv.no by rw[List.set_comm _ _ K,List.set_set]]at R2;exact R2
   ·cases U
end
structure Good(sg:Sg)(G:Gs)(F:Nat->List DV->Option Ou)(X:Cx)(E:St->XK):Prop where
 N:X.N=sg.N
 nd:X.N.Nodup
 vis:∀x,visB sg x=true->Vis X.env.scope x
 glo:∀x,gloB sg x=true->Gl X x
 loc:∀x,locB sg x=true->Loc X.env.scope x/\(X.fn x=true\/X.env.scope.names.lookup x=some .local)
 lcl:∀x,sg.sc.lookup x=some .local->X.env.scope.names.lookup x=some .local
 cel:∀x,(sg.sc.lookup x=some .cell\/sg.sc.lookup x=some .free)->X.env.scope.names.lookup x=some .cell\/X.env.scope.names.lookup x=some .free
 calm:X.calm=true
 hu:X.A.units+64<cLine
 fns:∀f x,sg.fn[f]? = some x->∃k fa fd ps,Room k X.A/\X.mg x=some (.ref fa)/\PySem.W.keepIn X.K (.ref fa)=true/\J2 X.K fd ps []/\(∀ds o,F f ds=some o->ds.length=ps.length) /\
  FnOk X.prog X.w X.K X.mg X.base (CXx X.prog X.w X.base) k fa fd ps (spF X.D ps.length (F f))
 blt:∀x∈sg.bl,X.mg x=none
 pas:O0 (CXx X.prog X.w X.base) X E
 con:∀x d,G.con.lookup x=some d->∃u v,X.mg x=some u/\RelV v u/\∀H,Rep X.D H d v
 own:sg.lp=true->PassesOwn (model X.prog X.w) X.A X.env X.xe
 xf:XFacts X.K X.mg G sg.cl
 st:sg.top=true->X.stack=X.env::X.outer/\X.env.frame=some X.env.locals/\X.ex=[]/\Y9 X E
 lms:G.fnl.isEmpty=false->(G.fnl=sg.fn/\G.bll=sg.bl/\G.cll=sg.cl)/\(∃k,Room k X.A/\Q0 X.prog X.w X.K X.mg X.base sg.fn sg.bl sg.cl k (F z8))/\(sg.top=true->∃c P,X.env.code=.ref c/\(∀h:Heap,X.K.In h->PySem.W.CodeHd h c P)/\(P,X.env.qual ++ "<lambda>")∈u6 X.K)
theorem Q7:∀{l:ge Str},K0 l=true->l.Nodup
 | [],_=>List.nodup_nil
 | x::r,h=>by unfold K0 at h;rw[d8]at h;refine List.nodup_cons.mpr ⟨λ z=>?_,Q7 h.2⟩;have:=h.1;rw[List.contains_iff_mem.mpr z]at this;cases this
section
theorem W3(g:Good sg G F X E)(h:K1 sg N' fr sc tg=true):CompScope X.N N' sc X.env.scope fr/\(∀(j k i:Nat),fr[j]? = some (some i)->fr[k]? = some (some i)->j=k)/\∀i∈M4 tg,fr[i]? = some none:=by
 unfold K1 at h;simp only[d8,w6,f7]at h;obtain⟨⟨⟨⟨⟨⟨A,z⟩,m⟩,w⟩,l⟩,v⟩,u⟩:=h;have d:∀(j i:Nat),fr[j]? = some _->∃x,N'[j]? = some x/\sg.N[i]? = some x/\(x,NameKind.free)∈sc.names:=λ j i e=>by
  have hj:=(t6.mp e).1;have f:j<N'.length:=by rwa [←l]
  have o:(some i,N'[j])∈fr.zip N':=(by refine List.mem_of_getElem? (i:=j) ?_;rw[List.getElem?_zip_eq_some];exact⟨e,j8 f⟩);have q:=v _ o;simp[d8,f7,List.contains_iff_mem]at q;exact⟨_,j8 f,q.1,q.2⟩
 refine⟨⟨z,Q7 m,Q7 w,l,λ j i e=>?_,λ y p r=>?_⟩,λ j k i C B=>?_,A⟩
 ·obtain⟨x,a,b,c⟩:=d j i e;exact⟨x,a,by rwa [g.N],c⟩
 ·have q:=u y p;rw[d6 r]at q;simp[Bool.or_eq_true,f7]at q;exact g.cel _ q
 ·obtain⟨x,a,b,_⟩:=d j i C;obtain⟨x',H,n,_⟩:=d k i B;rw[b]at n;cases n;exact X7 (Q7 m) a H
theorem vH(g:Good j G F X E)(h:K1 j i fr sc tg=true)(C:zn)(b:ge (Str×zn))(c:zm)(d:Hp)(fp:ge zn)(x1:XK)(n:∀σ C o H,m σ C o H->x1 C o H):Good ⟨i,sc.names,j.fn,j.bl,j.cl,false,false⟩ G F (o7 X sc i C b c d fp x1) m:=by
 obtain⟨S,_,_⟩:=W3 g h;have f:∀x,(o7 X sc i C b c d fp x1).env.scope.names.lookup x=(sc.names.lookup x).map λ k=>if(k==NameKind.free&&X.env.scope.kind == .function&&X.env.kindOf x==some .cell)=true then NameKind.cell else k:=λ x=>br
 have one:∀x k,sc.names.lookup x=some k->k ≠ .free->(o7 X sc i C b c d fp x1).env.scope.names.lookup x=some k:=λ x k e p=>by rw[f,e,Option.map_some,d9];intro z;simp only[d8,f7]at z;exact p z.1.1
 have two:∀x,sc.names.lookup x=some .free->(o7 X sc i C b c d fp x1).env.scope.names.lookup x=some .cell\/(o7 X sc i C b c d fp x1).env.scope.names.lookup x=some .free:=λ x e=>by
  rw[f,e,Option.map_some];split
  ·exact .inl rfl
  ·exact .inr rfl
 refine⟨rfl,S.nd,λ x a=>?_,λ x a=>?_,λ x a=>?_,λ x a=>one x _ a (by intro z;cases z),λ x a=>?_,g.calm,g.hu,g.fns,g.blt,?_,g.con,(λ z=>nomatch z),g.xf,(λ z=>nomatch z),(λ z=>⟨(g.lms z).1,(g.lms z).2.1,λ w=>nomatch w⟩)⟩
 ·unfold visB at a;simp only[Bool.or_eq_true,f7]at a;rcases a with(a | a) | a
  ·exact .inl (one x _ a (by intro z;cases z))
  ·exact .inr (.inl (one x _ a (by intro z;cases z)))
  ·exact .inr (two x a)
 ·unfold gloB at a;rw[f7]at a;exact one x _ a (by intro z;cases z)
 ·unfold locB at a;simp only[Bool.or_eq_true,f7]at a;rcases a with a | a
  ·exact⟨.inl (one x _ a (by intro z;cases z)),.inr (one x _ a (by intro z;cases z))⟩
  ·exact⟨.inr (one x _ a (by intro z;cases z)),.inl (by show(sc.names.lookup x==some .cell)=true;rw[a];rfl)⟩
 ·rcases a with a | a
  ·exact .inl (one x _ a (by intro z;cases z))
  ·exact two x a
 ·intro l σ H s e s' I z;obtain⟨r,M,L,B,K,J,A,y,v,u,q⟩:=z;exact⟨l,σ,H,s,I.comp0,r,M,L,B,K,J,A,y,v,u,n _ _ _ _ q⟩
theorem M8(g:Good sg G F X E)(h:K1 sg N' fr sc tg=true)(C:zn)(a:ge (Str×zn))(b:zm)(c:Hp)(d:ge zn)(x1:XK):Good ⟨N',sc.names,sg.fn,sg.bl,sg.cl,false,false⟩ G F (o7 X sc N' C a b c d x1) E0s:=vH g h C a b c d x1 λ _ _ _ _ z=>z.elim
theorem K9(g:Good sg G F X E)(h:G9 sg i x=true):X.N[i]? = some x/\Vis X.env.scope x/\(x==("__debug__" : Str))=false/\(x==("__classdict__" : Str))=false:=by
 unfold G9 at h;simp[d8,f7,bne_iff_ne,ne_eq]at h;obtain⟨⟨⟨h1,c⟩,b⟩,a⟩:=h;exact⟨by rwa [g.N],g.vis x c,u9.mpr b,u9.mpr a⟩
theorem I0(g:Good sg G F X E)(h:bltB sg x f=true):(∃p,f=.Name x p)/\Gl X x/\X.mg x=none:=by
 unfold bltB at h;simp[d8,f7,List.contains_iff_mem]at h;obtain⟨⟨c,b⟩,a⟩:=h;exact⟨x0 c,g.glo x b,g.blt x a⟩
theorem vI(g:Good a G F X E)(b:ge (zn×Obj))(c:St->zk->Hp->Prop):Good ⟨a.N,a.sc,a.fn,a.bl,a.cl,false,false⟩ G F (X.tryIn b c) (λ d C _ H=>c d C H):=
 ⟨g.N,g.nd,g.vis,g.glo,g.loc,g.lcl,g.cel,g.calm,g.hu,g.fns,g.blt,pB,g.con,(λ z=>nomatch z),g.xf,(λ z=>nomatch z),(λ z=>⟨(g.lms z).1,(g.lms z).2.1,λ w=>nomatch w⟩)⟩
theorem ji(g:Good sg G F X E):∀(a:ge Nat) (es:ge zq),es.length=a.length->((a.zip es).all λ p=>match w9 p.2 with | some x=>sg.N[p.1]? == some x&&locB sg x | none=>false)=true ->
  PGs X es (av a)/\(assignEach es X.env).length=a.length/\(assignEach es X.env).findIdx? (·.1)=none
 | [],[],_,_=>⟨mR,rfl,rfl⟩
 | [],_::_,h,_=>by cases h
 | _::_,[],h,_=>by cases h
 | i::a,e::es,hl,h=>by
  rw[List.zip_cons_cons,List.all_cons,d8]at h;obtain⟨b,c⟩:=h;obtain⟨A,B,C⟩:=ji g a es (by grind) c;split at b
  ·rename_i x q;obtain⟨p,rfl⟩:=x0 q;simp[d8,f7]at b;have l:=g.loc x b.2;refine⟨mS (er g.nd (by rw[g.N];exact b.1) l.1 l.2) A rfl,?_,?_⟩
   ·show(assignEach es X.env).length+1=a.length+1;rw[B]
   ·show(_::assignEach es X.env).findIdx? (·.1)=none;rw[List.findIdx?_cons,C];rfl
  ·cases b
theorem W4(g:Good sg G F X E)(h:tgOk sg tg a=true):PG X a (gT X.K tg):=by
 cases tg with
 | one i=>
  unfold tgOk at h;dsimp at h;split at h
  ·rename_i x q;obtain⟨p,rfl⟩:=x0 q;simp[d8,f7]at h;have l:=g.loc x h.2;exact er g.nd (by rw[g.N];exact h.1) l.1 l.2
  ·cases h
 | many b=>
  unfold tgOk at h;dsimp at h;split at h
  ·rename_i es q;obtain⟨k,p,rfl⟩:=M3 q;rw[d8,d8,f7]at h;obtain⟨A,B,C⟩:=ji g b es h.1.1 h.2;exact mT g.calm A B C
  ·cases h
end
section
variable (G:Gs) (F:Nat->ge DV->on Ou)
def SE(m:ME):Prop:=∀{sg:Sg} {X:Cx} {E:St->XK} {e:zq} {δ:ge Sv} {r:Re},Good sg G F X E->corE sg false m e=true->evE G F m δ=some r->PE X e (dE X.D E δ r)
def ST(m:ME):Prop:=∀{sg:Sg} {X:Cx} {E:St->XK} {e:zq} {δ:ge Sv} {r:Rt},Good sg G F X E->corE sg false m e=true->tstD (evE G F m δ)=some r->PT X e (dT X.D E δ r)
def SI(m:ME):Prop:=∀{sg:Sg} {X:Cx} {E:St->XK} {e tg:zq} {δ:ge Sv} {r:Ri},Good sg G F X E->corE sg true m e=true->(isZp m=true->(D1 tg).isSome=true)->q5 (evE G F m δ)=some r->PI X tg e (dI X.D E δ r)
def SEs(ms:ge ME):Prop:=∀{sg:Sg} {X:Cx} {E:St->XK} {es:ge zq} {δ:ge Sv} {r:Rs},Good sg G F X E->q9 sg ms es=true->evEs G F ms δ=some r->PA X es (dA X.D E δ r)
def SAnd(ms:ge ME):Prop:=∀{sg:Sg} {X:Cx} {E:St->XK} {es:ge zq} {δ:ge Sv} {pos:Pos},Good sg G F X E->q9 sg ms es=true ->
 (∀r,D9 G F ms δ=some r->PE X (.BoolOp .And es pos) (dE X.D E δ r))/\(∀r,tstD (D9 G F ms δ)=some r->PW X (.BoolOp .And es pos) (dT X.D E δ r))
def SOr(ms:ge ME):Prop:=∀{sg:Sg} {X:Cx} {E:St->XK} {es:ge zq} {δ:ge Sv} {pos:Pos},Good sg G F X E->q9 sg ms es=true ->
 (∀r,evOr G F ms δ=some r->PE X (.BoolOp .Or es pos) (dE X.D E δ r))/\(∀r,tstD (evOr G F ms δ)=some r->PW X (.BoolOp .Or es pos) (dT X.D E δ r))
def S1(m:ME):Prop:=SE G F m/\ST G F m/\SI G F m
end
section
theorem S1.of(h:SE G F m)(hw:∀b e,corE b true m e=corE b false m e)(j:∀b e f,corE b false m e=true->∀a,isTrue e f a=(do let v ←a;standAt e.pos;holding [v] (truthy v))):S1 G F m:=
 ⟨h,λ {b X E e i r} g d q=>sG (λ z c=>h g d c) (j b e X.env d) q,λ {b X E e tg i r} g d _ q=>iu (λ z c=>h g (by grind) c) q⟩
theorem S1.of2(h:SE G F m)(c:ST G F m)(hw:∀a e,corE a true m e=corE a false m e):S1 G F m:=
 ⟨h,c,λ {a X E e tg δ r} g hc _ q=>iu (λ z b=>h g (by grind) b) q⟩
end
noncomputable def vJ:zq->Bool
 | .UnaryOp .Not _ _=>false | .BoolOp _ _ _=>false | .IfExp _ _ _ _=>false | .Compare _ _ _ _=>false
 | _=>true
theorem A6(h:vJ e=true)(env:Env):∀b,isTrue e env b=(do let v ←b;standAt e.pos;holding [v] (truthy v)):=by
 cases e with
 | UnaryOp o a p=>cases o<;>first | (intro _;rfl) | cases h
 | BoolOp _ _ _=>cases h
 | IfExp _ _ _ _=>cases h
 | Compare _ _ _ _=>cases h
 | _=>intro _;rfl
section
variable {G:Gs} {F:Nat->ge DV->on Ou} {a b c:ME}
theorem vK:S1 G F (.var i):=by
 refine .of (λ {c X E e δ r} g a h=>?_) (λ _ _=>rfl) (λ c e b a=>?_)
 ·unfold corE at a;split at a
  ·rename_i x q;obtain⟨p,rfl⟩:=x0 q;obtain⟨k,j,f,d⟩:=K9 g a;exact rV k j f d (by unfold evE at h;exact h)
  ·cases a
 ·unfold corE at a;split at a
  ·rename_i x q;obtain⟨p,rfl⟩:=x0 q;exact A6 rfl b
  ·cases a
theorem az(i:∀a w e,corE a w m e=true->M1 e=some k)(o:∀b,evE G F m b=some (.ok d .strong))(l:∀a e,corE a true m e=corE a false m e)
  (n:∀{X:Cx} {E:St->XK} {b:ge Sv} {j:Nat} {pos:Pos} a e,corE a false m e=true->PE X (.Constant k j pos) (dE X.D E b (.ok d .strong))):S1 G F m:=by
 refine .of (λ {a X E e b r} g c h=>?_) l (λ a e f c=>?_)
 ·obtain⟨j,p,rfl⟩:=bR (i a false e c);rw[o]at h;cases h;exact n a _ c
 ·obtain⟨j,p,rfl⟩:=bR (i a false e c);exact A6 rfl f
theorem vL:S1 G F (.int i):=az (λ sg w e h=>by unfold corE at h;exact f7.mp h) (λ δ=>by unfold evE;rfl) (λ _ _=>rfl) λ _ _ _=>rW
theorem s_bl:S1 G F (.bl i):=az (λ sg w e h=>by unfold corE at h;exact f7.mp h) (λ δ=>by unfold evE;rfl) (λ _ _=>rfl) λ _ _ _=>rX
theorem vM:S1 G F .non:=az (λ sg w e h=>by unfold corE at h;exact f7.mp h) (λ δ=>by unfold evE;rfl) (λ _ _=>rfl) λ _ _ _=>rZ
theorem vN:S1 G F (.str i):=az (λ sg w e h=>by unfold corE at h;rw[d8]at h;exact f7.mp h.1) (λ δ=>by unfold evE;rfl) (λ _ _=>rfl) λ _ _ h=>by
 unfold corE at h;rw[d8,decide_eq_true_eq]at h;exact rY (g9 h.2 (by decide))
theorem vO:S1 G F (.glb x):=by
 refine .of (λ {c X E e δ r} g a h=>?_) (λ _ _=>rfl) (λ c e b a=>?_)
 ·unfold corE at a;simp[d8,f7,bne_iff_ne,ne_eq]at a;obtain⟨p,rfl⟩:=x0 a.1.1;unfold evE at h;obtain⟨d,j,i⟩:=t7.mp h;cases i;obtain⟨u,v,m,f,rp⟩:=g.con x d j;exact(ed (g.glo x a.1.2) m f (u9.mpr a.2)).weak λ σ H Q ⟨O,W,R,p⟩=>p v H (Same.refl H) (rp _)
 ·unfold corE at a;simp[d8,f7]at a;obtain⟨p,rfl⟩:=x0 a.1.1;exact A6 rfl b
theorem vP(k:S1 G F a)(j:S1 G F b):S1 G F (.bin op a b):=by
 refine .of (λ {i X E e δ r} g c h=>?_) (λ _ _=>rfl) (λ i e f c=>?_)
 ·unfold corE at c;split at c
  ·rename_i ea o eb q;obtain⟨p,rfl⟩:=bS q;simp[d8,f7]at c;obtain⟨⟨n,m⟩,l⟩:=c;subst n;unfold evE at h;exact sj (λ z d=>k.1 g m d) (λ z d=>j.1 g l d) h
  ·cases c
 ·unfold corE at c;split at c
  ·rename_i q;obtain⟨p,rfl⟩:=bS q;exact A6 rfl f
  ·cases c
theorem vQ(i:S1 G F a):S1 G F (.not a):=by
 refine .of2 (λ {k X E e j r} g b h=>?_) (λ {k X E e j r} g b h=>?_) (λ _ _=>rfl)
 ·unfold corE at b;split at b
  ·rename_i o l q;obtain⟨p,rfl⟩:=gr q;simp[d8,f7]at b;obtain⟨f,d⟩:=b;subst f;unfold evE at h;exact sI (λ z c=>i.1 g d c) h
  ·cases b
 ·unfold corE at b;split at b
  ·rename_i o l q;obtain⟨p,rfl⟩:=gr q;simp[d8,f7]at b;obtain⟨f,d⟩:=b;subst f;unfold evE at h;exact sN (λ z c=>i.2.1 g d c) h
  ·cases b
theorem vR(m:S1 G F a)(l:S1 G F b):S1 G F (.cmp op a b):=by
 refine .of2 (λ {u X E e n r} g c h=>?_) (λ {u X E e n r} g c h=>?_) (λ _ _=>rfl)
 ·unfold corE at c;split at c
  ·rename_i w o v q;obtain⟨p,rfl⟩:=gu q;simp[d8,f7,t5]at c;obtain⟨⟨⟨k,j⟩,i⟩,f⟩:=c;subst k;unfold evE at h;exact sB g.hu (λ z d=>m.1 g j d) (λ z d=>l.1 g i d) f h
  ·cases c
 ·unfold corE at c;split at c
  ·rename_i w o v q;obtain⟨p,rfl⟩:=gu q;simp[d8,f7,t5]at c;obtain⟨⟨⟨k,j⟩,i⟩,f⟩:=c;subst k;unfold evE at h;exact sF g.hu (λ z d=>m.1 g j d) (λ z d=>l.1 g i d) f h
  ·cases c
theorem s_ix(k:S1 G F a)(j:S1 G F b):S1 G F (.ix a b):=by
 refine .of (λ {i X E e δ r} g c h=>?_) (λ _ _=>rfl) (λ i e f c=>?_)
 ·unfold corE at c;split at c
  ·rename_i ea eb q;obtain⟨p,rfl⟩:=F1 q;simp[d8,t5]at c;obtain⟨⟨n,m⟩,l⟩:=c;unfold evE at h;exact sw (λ z d=>k.1 g n d) (λ z d=>j.1 g m d) l h
  ·cases c
 ·unfold corE at c;split at c
  ·rename_i q;obtain⟨p,rfl⟩:=F1 q;exact A6 rfl f
  ·cases c
theorem s_sl(n:S1 G F a)(m:S1 G F b)(i:S1 G F c):S1 G F (.sl a b c):=by
 refine .of (λ {k X E e δ r} g d h=>?_) (λ _ _=>rfl) (λ k e j d=>?_)
 ·unfold corE at d;split at d
  ·rename_i ea es q;obtain⟨p,rfl⟩:=F1 q;split at d
   ·rename_i l;obtain⟨p2,rfl⟩:=bU l;simp[d8]at d;obtain⟨⟨v,u⟩,o⟩:=d;unfold evE at h;exact sA (λ z f=>n.1 g v f) (λ z f=>m.1 g u f) (λ z f=>i.1 g o f) h
   ·cases d
  ·cases d
 ·unfold corE at d;split at d
  ·rename_i q;obtain⟨p,rfl⟩:=F1 q;exact A6 rfl j
  ·cases d
theorem vS(l:S1 G F a)(k:S1 G F b):S1 G F (.slf a b):=by
 refine .of (λ {i X E e δ r} g c h=>?_) (λ _ _=>rfl) (λ i e f c=>?_)
 ·unfold corE at c;split at c
  ·rename_i ea es q;obtain⟨p,rfl⟩:=F1 q;split at c
   ·rename_i j;obtain⟨p2,rfl⟩:=bU j;simp only[d8]at c;obtain⟨n,m⟩:=c;unfold evE at h;exact sx (λ z d=>l.1 g n d) (λ z d=>k.1 g m d) h
   ·cases c
  ·cases c
 ·unfold corE at c;split at c
  ·rename_i q;obtain⟨p,rfl⟩:=F1 q;exact A6 rfl f
  ·cases c
theorem vT(l:S1 G F a)(k:S1 G F b):S1 G F (.slt a b):=by
 refine .of (λ {i X E e δ r} g c h=>?_) (λ _ _=>rfl) (λ i e f c=>?_)
 ·unfold corE at c;split at c
  ·rename_i ea es q;obtain⟨p,rfl⟩:=F1 q;split at c
   ·rename_i j;obtain⟨p2,rfl⟩:=bU j;simp[d8]at c;obtain⟨n,m⟩:=c;unfold evE at h;exact sy (λ z d=>l.1 g n d) (λ z d=>k.1 g m d) h
   ·cases c
  ·cases c
 ·unfold corE at c;split at c
  ·rename_i q;obtain⟨p,rfl⟩:=F1 q;exact A6 rfl f
  ·cases c
variable {ms:ge ME}
theorem Q8:∀{a:Sg} {b:ge ME} {es:ge zq},q9 a b es=true->es.any j9=false
 | _,[],[],_=>rfl
 | _,[],_::_,h=>by unfold q9 at h;cases h
 | _,_::_,[],h=>by unfold q9 at h;cases h
 | a,m::b,e::es,h=>by unfold q9 at h;simp[d8,t5]at h;rw[List.any_cons,h.1.2,Q8 h.2];rfl
theorem vU(f:SEs G F ms):S1 G F (.lst ms):=by
 refine .of (λ {c X E e δ r} g a h=>?_) (λ _ _=>rfl) (λ c e b a=>?_)
 ·unfold corE at a;split at a
  ·rename_i es q;obtain⟨p,rfl⟩:=bT q;unfold evE at h;exact sS (λ z d=>f g a d) h
  ·cases a
 ·unfold corE at a;split at a
  ·rename_i q;obtain⟨p,rfl⟩:=bT q;exact A6 rfl b
  ·cases a
theorem vV(f:SEs G F ms):S1 G F (.tup ms):=by
 refine .of (λ {c X E e δ r} g a h=>?_) (λ _ _=>rfl) (λ c e b a=>?_)
 ·unfold corE at a;split at a
  ·rename_i es q;obtain⟨k,p,rfl⟩:=M3 q;unfold evE at h;exact sU (λ z d=>f g a d) h
  ·cases a
 ·unfold corE at a;split at a
  ·rename_i q;obtain⟨k,p,rfl⟩:=M3 q;exact A6 rfl b
  ·cases a
theorem vW(B:SEs G F ms):S1 G F (.call f ms):=by
 refine .of (λ {j X E e δ r} g a h=>?_) (λ _ _=>rfl) (λ j e d a=>?_)
 ·unfold corE at a;split at a
  ·rename_i ef es m q;have:=x8 q;subst this;rw[d8,d8]at a;obtain⟨⟨b,C⟩,i⟩:=a;split at b
   ·rename_i x l;obtain⟨p,rfl⟩:=x0 l;simp only[d8,f7,bne_iff_ne,ne_eq]at b;obtain⟨k,fa,fd,ps,o,u,w,A,v,fo⟩:=g.fns f x b.1.1;cases es with
    | nil=>cases C
    | cons y ys=>
     have c:=Q8 i;rw[List.any_cons,Bool.or_eq_false_iff]at c;unfold evE at h;exact sZ fo v o (g.glo x b.1.2) u w A g.pas (λ z n=>B g i n) (u9.mpr b.2) c.1 c.2 h
   ·cases b
  ·cases a
 ·unfold corE at a;split at a
  ·rename_i q;have:=x8 q;subst this;exact A6 rfl d
  ·cases a
theorem s_bi(C:SEs G F ms):S1 G F (.bi f ms):=by
 refine .of (λ {x X E e H r} g c h=>?_) (λ _ _=>rfl) (λ x e v c=>?_)
 ·unfold corE at c;split at c
  ·rename_i ef es M q;have:=x8 q;subst this;rw[d8,d8]at c;obtain⟨⟨O,N⟩,a⟩:=c;obtain⟨⟨p,rfl⟩,i,d⟩:=I0 g O;unfold evE at h;cases es with
   | nil=>cases N
   | cons y I=>
    have j:q9 x ms _=true->(∀q,evEs G F ms H=some q->PA X _ _)/\j9 y=false/\I.any j9=false:=λ z=>by have k:=Q8 z;rw[List.any_cons,Bool.or_eq_false_iff]at k;exact⟨λ w m=>C g z m,k.1,k.2⟩
    cases f with
    | len=>obtain⟨A,s1,b⟩:=j a;exact ao tu tf i d boot_len (by decide) (by decide) A s1 b h
    | min=>obtain⟨A,s1,b⟩:=j a;exact ao (tw g.calm (by have:=g.hu;omega)) tj i d boot_min (by decide) (by decide) A s1 b h
    | sum=>obtain⟨A,s1,b⟩:=j a;exact ao (tx g.calm) tD i d tA (by decide) (by decide) A s1 b h
    | all=>obtain⟨A,s1,b⟩:=j a;exact ao (tz g.calm) tE i d tB (by decide) (by decide) A s1 b h
    | int=>obtain⟨A,s1,b⟩:=j a;exact cF tH tm i d boot_int (by decide) (by decide) A s1 b h
    | list=>obtain⟨A,s1,b⟩:=j a;exact cF tI tq i d boot_list (by decide) (by decide) A s1 b h
    | tuple=>obtain⟨A,s1,b⟩:=j a;exact cF tJ tt i d boot_tuple (by decide) (by decide) A s1 b h
    | sset=>
     dsimp at a;split at a
     ·rename_i e1 L;split at a
      ·rename_i P u B K;have J:=x8 K;cases L;subst J;rw[d8,d8]at a;obtain⟨⟨p',rfl⟩,o,n⟩:=I0 g a.1.1;cases u with
       | nil=>cases a.1.2
       | cons y' l=>
        have k:=Q8 a.2;rw[List.any_cons,Bool.or_eq_false_iff]at k;cases l with
        | nil=>exact tG g.calm i d o n (λ w m=>C g a.2 m) k.1 h
        | cons y2 yr=>
         have z:=f7.mp a.1.2;simp at z
      ·cases a
     ·cases a
  ·cases c
 ·unfold corE at c;split at c
  ·rename_i q;have:=x8 q;subst this;exact A6 rfl v
  ·cases c
theorem vX(h:J4.contains x=true):∃t,P9 x=some t:=by
 have a:∀x∈J4,∃t,P9 x=some t:=by
  intro x b;simp only[J4,e8,List.not_mem_nil,or_false]at b;rcases b with rfl | rfl | rfl | rfl | rfl | rfl
  ·exact⟨"int",by decide +kernel⟩
  ·exact⟨"bool",by decide +kernel⟩
  ·exact⟨"str",by decide +kernel⟩
  ·exact⟨"list",by decide +kernel⟩
  ·exact⟨"tuple",by decide +kernel⟩
  ·exact⟨"dict",by decide +kernel⟩
 exact a x (List.contains_iff_mem.mp h)
theorem vY:∀x∈J4,x ≠ "__name__" /\ (x==("__debug__" : Str))=false:=by
 intro x a;simp[J4,e8,List.not_mem_nil,or_false]at a;rcases a with rfl | rfl | rfl | rfl | rfl | rfl<;>exact⟨by decide +kernel,by decide +kernel⟩
def vZ:V->ge V->Hp->VK->Prop:=λ x xs H Q=>∃i,x=.int i/\xs=[]/\Q (.int (O3 i)) H
theorem wa(i:Int):((Builtin.Int.intBits i:Nat):Int)=O3 i:=by
 unfold Builtin.Int.intBits O3;by_cases h:i=0
 ·subst h;rfl
 ·rw[d9 (by grind),d9 h];rfl
theorem wb:MtR X "int.bit_length" vZ:=by
 intro a s σ H x xs v us Q I b c h;obtain⟨i,rfl,rfl,q⟩:=h;obtain⟨t,rfl⟩:=(b);cases c;exact PyProof.Rows.call_int_bit_length ⟨.int _,H,I.tok _,by rw[←wa];exact⟨_,rfl⟩,q⟩
theorem wc(M:S1 G F a):S1 G F (.meth m a es):=by
 refine .of (λ {C X E e B r} g b h=>?_) (λ _ _=>rfl) (λ C e w b=>?_)
 ·unfold corE at b;split at b
  ·rename_i ef J q;have:=x8 q;subst this;split at b
   ·rename_i l n x I;have:=U4 I;subst this;simp only[d8,f7]at b;obtain⟨⟨⟨⟨U,S⟩,j⟩,h4⟩,h5⟩:=b;subst U;have u:attributeBase l (gw m) X.env (eval l X.env)=eval l X.env:=by
     rw[Bool.or_eq_true]at j;rcases j with j | j
     ·obtain⟨y,o⟩:=Option.isSome_iff_exists.mp j;obtain⟨K,rfl⟩:=x0 o;rfl
     ·obtain⟨⟨a1,o1,b1⟩,o⟩:=Option.isSome_iff_exists.mp j;obtain⟨K,rfl⟩:=bS o;rfl
    unfold evE at h;cases m with
    | bitLength=>
     rw[d6 rfl]at h;have P:=λ t (N:PE X l t)=>oH PySem.F.plainAttrs_int PySem.F.slot_int_bit_length PySem.F.type_int_bit_length wb N u (by rwa [f7])
     cases f:evE G F a B with
     | none=>rw[f]at h;cases h
     | some q=>
      rw[f]at h;have A:=M.1 g S f;cases q with
      | ex c=>cases h;exact(P _ A).weak λ z H Q ⟨O,W,R,p⟩=>⟨O,W,R,p⟩
      | ok d dc=>
       have k:mtD .bitLength d=some r:=h;unfold mtD at k;split at k
       ·rename_i i _;cases k;exact(P _ A).weak λ z H Q ⟨O,W,R,p⟩=>⟨O,W,R,λ v Z s1 Y=>by
         have L:=Y.int (R.hid.mono s1);subst L;exact⟨rfl,i,rfl,rfl,p _ Z s1 y7⟩⟩
       ·cases k
    | index=>rw[d9 (by decide)]at h;cases h
    | get=>rw[d9 (by decide)]at h;cases h
   ·cases b
  ·cases b
 ·unfold corE at b;split at b
  ·rename_i q;have:=x8 q;subst this;exact A6 rfl w
  ·cases b
theorem we(p:S1 G F a)(o:S1 G F b):S1 G F (.idx a b):=by
 refine .of (λ {j X E e δ r} g c h=>?_) (λ _ _=>rfl) (λ j e f c=>?_)
 ·unfold corE at c;split at c
  ·rename_i ef eb l q;have:=x8 q;subst this;split at c
   ·rename_i ea n i k;have:=U4 k;subst this;simp[d8,f7,t5]at c;obtain⟨⟨⟨⟨⟨A,x⟩,w⟩,h4⟩,v⟩,u⟩:=c;subst A;obtain⟨y,m⟩:=Option.isSome_iff_exists.mp w;obtain⟨np,rfl⟩:=x0 m;unfold evE at h;exact sX g.hu (λ z d=>p.1 g x d) (λ z d=>o.1 g v d) rfl (by grind) (o6 u) h
   ·cases c
  ·cases c
 ·unfold corE at c;split at c
  ·rename_i q;have:=x8 q;subst this;exact A6 rfl f
  ·cases c
theorem wf(n:S1 G F a):S1 G F (.isx a t):=by
 refine .of (λ {i X E e δ r} g b h=>?_) (λ _ _=>rfl) (λ i e f b=>?_)
 ·unfold corE at b;split at b
  ·rename_i ef ea et j q;have:=x8 q;subst this;simp only[d8,t5,f7,Bool.or_eq_true,List.contains_iff_mem,bne_iff_ne,ne_eq]at b;obtain⟨⟨⟨⟨⟨⟨y,x⟩,w⟩,h4⟩,v⟩,u⟩,o⟩:=b;obtain⟨⟨p,rfl⟩,m,l⟩:=I0 g y;obtain⟨p',rfl⟩:=x0 v;unfold evE at h;refine vE g.xf m l (g.glo t u) ?_ (λ z k=>n.1 g x k) w h;rcases o with⟨d,c⟩ | ⟨d,c⟩
   ·exact .inl ⟨d,u9.mpr c⟩
   ·refine .inr ⟨g.blt t d,?_⟩;simp only[gn,e8,List.not_mem_nil,or_false]at c;exact c
  ·cases b
 ·unfold corE at b;split at b
  ·rename_i q;have:=x8 q;subst this;exact A6 rfl f
  ·cases b
theorem wg:S1 G F (.srd i):=by
 refine .of (λ {d X E e δ r} g a h=>?_) (λ _ _=>rfl) (λ d e c a=>?_)
 ·unfold corE at a;split at a
  ·rename_i ef eo m q;have:=x8 q;subst this;rw[d8]at a;obtain⟨u,b⟩:=a;obtain⟨⟨p,rfl⟩,o,n⟩:=I0 g u;split at b
   ·rename_i x l;obtain⟨np,rfl⟩:=x0 l;obtain⟨s1,k,j,f⟩:=K9 g b;unfold evE at h;exact vz g.calm (G5 s1 k j f) o n h
   ·cases b
  ·cases a
 ·unfold corE at a;split at a
  ·rename_i q;have:=x8 q;subst this;exact A6 rfl c
  ·cases a
theorem wj{e:zq}{pr:zC}{bd:zq}{sc:zB}{lp:Pos}(h:gy e=some (pr,bd,sc,lp)):e=.Lambda pr bd sc lp:=by
 cases e<;>cases h;rfl
theorem wk(h:P1 pr=some ps):defaultsOf pr env=([],[]):=by
 unfold P1 at h;split at h
 ·rfl
 ·cases h
theorem wm(ha:S1 G F a):S1 G F (.srtk a N np I fr):=by
 refine .of (λ {Y X E e δ r} g b h=>?_) (λ _ _=>rfl) (λ Y e Q b=>?_)
 ·unfold corE at b;rw[d8]at b;obtain⟨ht,b⟩:=b;split at b
  ·rename_i ef ea kn el kp pos q;have:=x8 q;subst this;simp only[d8,f7,t5]at b;obtain⟨⟨⟨⟨c1,c2⟩,c4⟩,c5⟩,b⟩:=b;split at b
   ·rename_i pr bd H lp ql;have:=wj ql;subst this;subst c2;obtain⟨⟨px,rfl⟩,O,M⟩:=I0 g c1;rw[d8]at b;obtain⟨C,c9⟩:=b;have a0:=C;unfold gz at C;simp only[d8,f7,t5,w6,bne_iff_ne,ne_eq,decide_eq_true_eq]at C;obtain⟨⟨⟨⟨⟨⟨⟨⟨⟨⟨⟨l1,l2⟩,l3⟩,l4⟩,l5⟩,l6⟩,l7⟩,l8⟩,l9⟩,o⟩,K⟩,J⟩:=C;unfold evE at h;split at h
    ·rename_i cs A;split at h
     ·cases h
     ·rename_i L;have p:G.fnl.isEmpty=false:=by simpa using L
      obtain⟨⟨W,U,S⟩,⟨k,hr,B⟩,wt⟩:=g.lms p;obtain⟨c,P,k1,k2,k3⟩:=wt ht;have n:∀y∈H.names,y.2=NameKind.free->X.env.kindOf y.1=some .cell/\X.fn y.1=true:=λ y d x=>by
       have z:=J y d;rw[d6 (by rw[x])]at z;have R:Y.sc.lookup y.1=some .cell:=f7.mp z;have B:=g.loc y.1 (by unfold locB;rw[R];rfl);have nl:X.env.scope.names.lookup y.1≠some .local:=λ w=>by rcases g.cel y.1 (.inl R)with v | v<;>(rw[w]at v;cases v)
       refine⟨?_,B.2.elim id λ w=>absurd w nl⟩;exact B.1.elim (λ w=>absurd w nl) id
      have T:LamTx N (N.take np) H:=by
       have Z:(N.take np).length=np:=by rw[List.length_take];omega
       refine⟨l2,l3,l4,Q7 l5,by rw[Z],l8,l9,λ i y h1 h2=>o y ?_⟩;rw[Z]at h1;refine List.mem_of_getElem? (i:=i - np) ?_;rw[List.getElem?_drop,show np+(i - np)=i by omega];exact h2
      have f:∀(j i:Nat),fr[j]? = some i->∃y,N[np+j]? = some y/\X.N[i]? = some y/\X.env.kindOf y=some .cell:=λ j i hj=>by
       have hjl:j<fr.length:=(t6.mp hj).1;have u:np+j<N.length:=by omega
       have d:(N.drop np)[j]? = some N[np+j]:=by rw[List.getElem?_drop,j8 u]
       have hz:(i,N[np+j])∈fr.zip (N.drop np):=List.mem_of_getElem? (i:=j) (by rw[List.getElem?_zip_eq_some];exact⟨hj,d⟩);have q1:=K _ hz;have q2:=o _ (List.mem_of_getElem? d);exact⟨_,j8 u,by rw[g.N];exact q1,(n _ (PySem.mem_of_lookup q2) rfl).1⟩
      cases l:evE G F a δ with
      | none=>rw[l]at h;cases h
      | some ra=>
       rw[l]at h;exact uE (m:=⟨N,np,I,G.fnl,G.bll,G.cll⟩) (fr:=fr) (P:=P) (c:=c) B hr W U S O M c5 ⟨k1,k2,k3,λ y d x=>(n y d x).1⟩ (wk l1) T (λ y d x=>(n y d x).2) ((by unfold M5;rw[d8];refine⟨f7.mpr l1,?_⟩;show corE ⟨N,H.names,G.fnl,G.bll,G.cll,false,false⟩ false I bd=true;rw[W,U,S];exact c9)) l7 f A (ha.1 g c4 l) h
    ·cases h
   ·cases b
  ·cases b
 ·unfold corE at b;rw[d8]at b;obtain⟨_,b⟩:=b;split at b
  ·rename_i q;have:=x8 q;subst this;exact A6 rfl Q
  ·cases b
theorem wn(y:S1 G F a):S1 G F (.isi a i):=by
 refine .of (λ {j X E e δ r} g b h=>?_) (λ _ _=>rfl) (λ j e d b=>?_)
 ·unfold corE at b;split at b
  ·rename_i ef ea et k q;have:=x8 q;subst this;simp[d8,t5]at b;obtain⟨⟨⟨⟨H,C⟩,B⟩,h4⟩,c⟩:=b;obtain⟨⟨p,rfl⟩,x,w⟩:=I0 g H;split at c
   ·rename_i t;simp[d8,f7,List.contains_iff_mem]at c;obtain⟨⟨⟨u,o⟩,n⟩,f⟩:=c;obtain⟨p',rfl⟩:=x0 u;obtain⟨T,A⟩:=vX (List.contains_iff_mem.mpr f);obtain⟨m,l⟩:=vY t f;unfold evE at h;exact tP A x w (g.glo t o) (g.blt t n) m l (λ z v=>y.1 g C v) B h
   ·cases c
  ·cases b
 ·unfold corE at b;split at b
  ·rename_i q;have:=x8 q;subst this;exact A6 rfl d
  ·cases b
theorem cY:∀{a:ge ME} {b:ge Sv} {l:ge (DV×Cl)},evEs G F a b=some (.ok l)->l.length=a.length
 | [],_,_,h=>by unfold evEs at h;cases h;rfl
 | m::a,b,l,h=>by
  unfold evEs at h;split at h
  ·cases h
  ·cases h
  ·split at h
   ·cases h
   ·cases h
   ·rename_i l' q;cases h;rw[p9,p9,cY q]
theorem jk:∀{b:Sg} {a:ge ME} {es:ge zq},q9 b a es=true->a.length=es.length
 | _,[],[],_=>rfl
 | _,[],_::_,h=>by unfold q9 at h;cases h
 | _,_::_,[],h=>by unfold q9 at h;cases h
 | b,m::a,e::es,h=>by unfold q9 at h;simp[d8]at h;rw[p9,p9,jk h.2]
theorem wq(u:SEs G F ms):S1 G F (.rng ms):=by
 refine⟨λ {m X E e k r} g a h=>?_,λ {m X E e k r} g a h=>?_,λ {m X E e tg k r} g a _ h=>?_⟩
 ·unfold corE at a;rw[Bool.false_and]at a;cases a
 ·unfold corE at a;rw[Bool.false_and]at a;cases a
 ·unfold corE at a;rw[Bool.true_and]at a;split at a
  ·rename_i ef es x q;have:=x8 q;subst this;rw[d8,decide_eq_true_eq]at a;obtain⟨a,i⟩:=a;rw[d8]at a;obtain⟨⟨p,rfl⟩,o,n⟩:=I0 g a.1;have d:=jk a.2;have c:=Q8 a.2;unfold evE at h;cases es with
   | nil=>
    exfalso;cases ms with
    | nil=>unfold evEs at h;cases h
    | cons _ _=>cases d
   | cons y w=>
    rw[List.any_cons,Bool.or_eq_false_iff]at c;cases w with
    | nil=>exact uc o n (λ z f=>u g a.2 f) c.1 h λ l j=>by rw[cY j,d];rfl
    | cons z v=>
     cases v with
     | nil=>
      have b:=c.2;rw[List.any_cons,Bool.or_eq_false_iff]at b;exact ud o n (λ z f=>u g a.2 f) c.1 b.1 h λ l j=>by rw[cY j,d];rfl
     | cons _ _=>simp at i
  ·cases a
theorem s_zp(x:S1 G F a)(w:S1 G F b):S1 G F (.zp a b):=by
 refine⟨λ {i X E e f r} g c h=>?_,λ {i X E e f r} g c h=>?_,λ {i X E e m f r} g c o h=>?_⟩
 · cases c
 · cases c
 ·unfold corE at c;rw[Bool.true_and]at c;split at c
  ·rename_i ef ea eb n q;have:=x8 q;subst this;simp[d8,t5]at c;obtain⟨⟨⟨⟨H,C⟩,B⟩,A⟩,y⟩:=c;obtain⟨⟨p,rfl⟩,v,u⟩:=I0 g H;have t:=o rfl;cases j:D1 m with
   | none=>rw[j]at t;cases t
   | some l=>
    obtain⟨k,tp,rfl⟩:=M3 j;unfold evE at h;exact um v u A y (λ z d=>x.1 g C d) (λ z d=>w.1 g B d) h
  ·cases c
theorem wu(v:S1 G F a):S1 G F (.enu a):=by
 refine⟨λ {d X E e c r} g b h=>?_,λ {d X E e c r} g b h=>?_,λ {d X E e j c r} g b n h=>?_⟩
 · cases b
 · cases b
 ·unfold corE at b;rw[Bool.true_and]at b;split at b
  ·rename_i ef ea l q;have:=x8 q;subst this;simp[d8,t5]at b;obtain⟨⟨y,x⟩,w⟩:=b;obtain⟨⟨p,rfl⟩,u,o⟩:=I0 g y;have t:=n rfl;cases f:D1 j with
   | none=>rw[f]at t;cases t
   | some i=>
    obtain⟨k,tp,rfl⟩:=M3 f;unfold evE at h;exact uy u o w (λ z m=>v.1 g x m) h
  ·cases b
theorem wv{d:Sg}{X:Cx}{E:St->XK}{e:zq}{r:Re}{tg:Tg}{f:CParts}(A:S1 G F a)(y:S1 G F b)(g:Good d G F X E)(k:f.ifs=[])
  (I:corE d true b f.it=true) (w:isZp b=true->(D1 f.tg).isSome=true) (o:K1 d (B7 d l fr) fr f.sc tg=true) (H:tgOk ⟨B7 d l fr,f.sc.names,d.fn,d.bl,d.cl,false,false⟩ tg f.tg=true) (B:corE ⟨B7 d l fr,f.sc.names,d.fn,d.bl,d.cl,false,false⟩ false a f.elt=true)
  (h:evE G F (.comp a tg b fr) δ=some r):K7 X E δ f.tg f.it f.ifs f.elt f.sc (B7 d l fr) fr tg r:=by
 obtain⟨S,v,u⟩:=W3 g o;rw[k];unfold evE at h;exact uf S g.calm v u (λ z n=>y.2.2 g I w n) (λ C c i j p m=>W4 (M8 g o C c i j p m) H) (λ q r' x C c i j p m=>A.1 (M8 g o C c i j p m) B x) h
theorem ww{sg:Sg}{X:Cx}{E:St->XK}{e cd:zq}{δ:ge Sv}{r:Re}{tg:Tg}{fr:ge (on Nat)}{cp:CParts}{tn:ge Str}(ha:S1 G F a)(hb:S1 G F b)(hcc:S1 G F c)(g:Good sg G F X E)(hemp:cp.ifs=[cd])
  (h2:corE sg true b cp.it=true) (hz:isZp b=true->(D1 cp.tg).isSome=true) (h4:K1 sg (B7 sg tn fr) fr cp.sc tg=true) (h5:tgOk ⟨B7 sg tn fr,cp.sc.names,sg.fn,sg.bl,sg.cl,false,false⟩ tg cp.tg=true) (h6:corE ⟨B7 sg tn fr,cp.sc.names,sg.fn,sg.bl,sg.cl,false,false⟩ false a cp.elt=true)
  (h7:corE ⟨B7 sg tn fr,cp.sc.names,sg.fn,sg.bl,sg.cl,false,false⟩ false c cd=true) (h:evE G F (.compi a tg b c fr) δ=some r):K7 X E δ cp.tg cp.it cp.ifs cp.elt cp.sc (B7 sg tn fr) fr tg r:=by
 obtain⟨S,nd,sl⟩:=W3 g h4;rw[hemp];unfold evE at h;exact ug S g.calm nd sl (λ z hz'=>hb.2.2 g h2 hz hz') (λ C cells s₂ H₂ fp x1=>W4 (M8 g h4 C cells s₂ H₂ fp x1) h5) (λ δ' r' hr C cells s₂ H₂ fp x1=>ha.1 (M8 g h4 C cells s₂ H₂ fp x1) h6 hr)
  (λ δ' r' hr C cells s₂ H₂ fp x1=>hcc.2.1 (M8 g h4 C cells s₂ H₂ fp x1) h7 hr) h
def M9(G:Gs)(F:Nat->ge DV->on Ou)(m:ME):Prop:=∀{sg:Sg} {X:Cx} {E:St->XK} {e:zq} {δ:ge Sv} {r:Re},Good sg G F X E->corE sg false m e=true->evE G F m δ=some r ->
 ∃(cp:CParts) (N':ge Str) (fr:ge (on Nat)) (tg:Tg) (p:Pos),e=.ListComp cp.elt [⟨cp.tg,cp.it,cp.ifs,0⟩] cp.sc p/\CompScope X.N N' cp.sc X.env.scope fr/\K7 X E δ cp.tg cp.it cp.ifs cp.elt cp.sc N' fr tg r /\
  (∀C cells s₂ H₂ fp x1,PG (o7 X cp.sc N' C cells s₂ H₂ fp x1) cp.tg (gT X.K tg))/\E5 cp.it=false
theorem M9.s1(h:M9 G F m)(d:∀a e,corE a true m e=corE a false m e)(f:∀a e,corE a false m e=true->(P0 e).isSome=true):S1 G F m:=by
 refine .of (λ {a X E e δ r} g b q=>?_) d (λ a e c b=>?_)
 ·obtain⟨i,N',fr,tg,p,rfl,S,P,hG,hs⟩:=h g b q;exact P.pe S g.calm hG hs
 ·have:=f a e b;cases z:P0 e with
  | none=>rw[z]at this;cases this
  | some i=>obtain⟨p,rfl⟩:=bV z;exact A6 rfl c
theorem jl(n:S1 G F a)(m:S1 G F b):M9 G F (.comp a tg b fr):=by
 intro sg X E e δ r g j h;unfold corE at j;split at j
 ·rename_i f q;obtain⟨p,rfl⟩:=bV q;simp only[d8,t5,Bool.or_eq_true]at j;obtain⟨⟨⟨x,v,u⟩,o⟩,c⟩:=j;split at c
  ·rename_i tn qt;simp[d8]at c;refine⟨f,_,fr,tg,p,rfl,(W3 g c.1.1).1,wv (e:=.ListComp f.elt [⟨f.tg,f.it,f.ifs,0⟩] f.sc p) n m g (List.isEmpty_iff.mp x) v (λ z=>?_) c.1.1 c.1.2 c.2 h,λ C d i k y l=>W4 (M8 g c.1.1 C d i k y l) c.1.2,o⟩;rcases u with w | w
   ·rw[z]at w;cases w
   ·exact w
  ·cases c
 ·cases j
theorem jm(v:S1 G F a)(u:S1 G F b)(m:S1 G F c):M9 G F (.compi a tg b c fr):=by
 intro sg X E e δ r g k h;unfold corE at k;split at k
 ·rename_i i q;obtain⟨p,rfl⟩:=bV q;simp only[d8,t5,Bool.or_eq_true]at k;obtain⟨⟨⟨A,y⟩,x⟩,d⟩:=k;split at d
  ·rename_i tn ec qt o;simp only[d8]at d;refine⟨i,_,fr,tg,p,rfl,(W3 g d.1.1.1).1,ww (e:=.ListComp i.elt [⟨i.tg,i.it,i.ifs,0⟩] i.sc p) v u m g o A (λ z=>?_) d.1.1.1 d.1.1.2 d.1.2 d.2 h,λ C f j l B n=>W4 (M8 g d.1.1.1 C f j l B n) d.1.1.2,x⟩;rcases y with w | w
   ·rw[z]at w;cases w
   ·exact w
  ·cases d
 ·cases k
theorem wx(g:S1 G F a)(f:S1 G F b):S1 G F (.comp a tg b fr):=M9.s1 (λ {d X E e δ r}=>jl g f) (λ _ _=>rfl) λ d e c=>by
 unfold corE at c;split at c
 ·rename_i q;rw[q];rfl
 ·cases c
theorem wy(i:S1 G F a)(h:S1 G F b)(d:S1 G F c):S1 G F (.compi a tg b c fr):=M9.s1 (λ {g X E e δ r}=>jm i h d) (λ _ _=>rfl) λ g e f=>by
 unfold corE at f;split at f
 ·rename_i q;rw[q];rfl
 ·cases f
theorem wz:SEs G F []:=λ {sg X E es δ r} g a h=>by
 cases es with
 | nil=>unfold evEs at h;cases h;exact sQ
 | cons _ _=>unfold q9 at a;cases a
theorem wA(f:S1 G F a)(d:SEs G F ms):SEs G F (a::ms):=λ {sg X E es δ r} g b h=>by
 cases es with
 | nil=>unfold q9 at b;cases b
 | cons e es=>
  unfold q9 at b;simp[d8,t5]at b;unfold evEs at h;exact sR b.1.2 (λ z c=>f.1 g b.1.1 c) (λ z c=>d g b.2 c) h
theorem wC:SAnd G F []:=λ {sg X E es δ a} g hc=>⟨λ r h=>(by unfold D9 at h;cases h),λ r h=>(by unfold D9 at h;cases h)⟩
theorem wD:SOr G F []:=λ {sg X E es δ a} g hc=>⟨λ r h=>(by unfold evOr at h;cases h),λ r h=>(by unfold evOr at h;cases h)⟩
theorem wE(d:S1 G F a)(l:SAnd G F i):SAnd G F (a::i):=λ {k X E es j f} g b=>by
 cases es with
 | nil=>unfold q9 at b;cases b
 | cons e es=>
  unfold q9 at b;simp[d8,t5]at b;cases i with
  | nil=>
   cases es with
   | nil=>
    refine⟨λ r h=>?_,λ r h=>?_⟩
    · exact em (d.1 g b.1.1 h)
    · exact mK (d.2.1 g b.1.1 h)
   | cons _ _=>have:=b.2;cases this
  | cons m i=>
   cases es with
   | nil=>have:=b.2;cases this
   | cons e' es=>
    have B:=@l k X E _ j f g b.2;refine⟨λ r h=>?_,λ r h=>?_⟩
    · exact sJ (λ z c=>d.1 g b.1.1 c) (λ z c=>B.1 z c) h
    · exact sO (λ z c=>d.2.1 g b.1.1 c) (λ z c=>B.2 z c) h
theorem wF(d:S1 G F a)(l:SOr G F i):SOr G F (a::i):=λ {k X E es j f} g b=>by
 cases es with
 | nil=>unfold q9 at b;cases b
 | cons e es=>
  unfold q9 at b;simp[d8,t5]at b;cases i with
  | nil=>
   cases es with
   | nil=>
    refine⟨λ r h=>?_,λ r h=>?_⟩
    ·unfold evOr at h;exact em (d.1 g b.1.1 h)
    ·unfold evOr at h;exact mL (d.2.1 g b.1.1 h)
   | cons _ _=>have:=b.2;unfold q9 at this;cases this
  | cons m i=>
   cases es with
   | nil=>have:=b.2;unfold q9 at this;cases this
   | cons e' es=>
    have B:=@l k X E _ j f g b.2;refine⟨λ r h=>?_,λ r h=>?_⟩
    ·unfold evOr at h;exact sM (λ z c=>d.1 g b.1.1 c) (λ z c=>B.1 z c) h
    ·unfold evOr at h;exact sP (λ z c=>d.2.1 g b.1.1 c) (λ z c=>B.2 z c) h
theorem wG(d:SAnd G F ms):S1 G F (.and ms):=by
 refine .of2 (λ {i X E e f r} g a h=>?_) (λ {i X E e f r} g a h=>?_) (λ _ _=>rfl)
 ·unfold corE at a;split at a
  ·rename_i o es q;obtain⟨p,rfl⟩:=af q;simp[d8,f7]at a;obtain⟨c,b⟩:=a;subst c;unfold evE at h;exact(d g b).1 r h
  ·cases a
 ·unfold corE at a;split at a
  ·rename_i o es q;obtain⟨p,rfl⟩:=af q;simp[d8,f7]at a;obtain⟨c,b⟩:=a;subst c;unfold evE at h;exact((d g b).2 r h).pt
  ·cases a
theorem s_or(d:SOr G F ms):S1 G F (.or ms):=by
 refine .of2 (λ {i X E e f r} g a h=>?_) (λ {i X E e f r} g a h=>?_) (λ _ _=>rfl)
 ·unfold corE at a;split at a
  ·rename_i o es q;obtain⟨p,rfl⟩:=af q;simp[d8,f7]at a;obtain⟨c,b⟩:=a;subst c;unfold evE at h;exact(d g b).1 r h
  ·cases a
 ·unfold corE at a;split at a
  ·rename_i o es q;obtain⟨p,rfl⟩:=af q;simp[d8,f7]at a;obtain⟨c,b⟩:=a;subst c;unfold evE at h;exact((d g b).2 r h).pt
  ·cases a
end
section
variable {G:Gs} {F:Nat->ge DV->on Ou}
mutual
theorem snd:∀m:ME,S1 G F m
 | .var _=>vK
 | .int _=>vL
 | .bl _=>s_bl
 | .str _=>vN
 | .non=>vM
 | .glb _=>vO
 | .bin _ a b=>vP (snd a) (snd b)
 | .not a=>vQ (snd a)
 | .cmp _ a b=>vR (snd a) (snd b)
 | .and es=>wG (jn es)
 | .or es=>s_or (jo es)
 | .lst es=>vU (sndL es)
 | .tup es=>vV (sndL es)
 | .ix a b=>s_ix (snd a) (snd b)
 | .sl a b c=>s_sl (snd a) (snd b) (snd c)
 | .slf a b=>vS (snd a) (snd b)
 | .slt a b=>vT (snd a) (snd b)
 | .call _ es=>vW (sndL es)
 | .bi _ es=>s_bi (sndL es)
 | .isi a _=>wn (snd a)
 | .isx a _=>wf (snd a)
 | .meth _ a _=>wc (snd a)
 | .comp a _ b _=>wx (snd a) (snd b)
 | .compi a _ b c _=>wy (snd a) (snd b) (snd c)
 | .idx a b=>we (snd a) (snd b)
 | .rng es=>wq (sndL es)
 | .zp a b=>s_zp (snd a) (snd b)
 | .enu a=>wu (snd a)
 | .srd _=>wg
 | .srtk a _ _ _ _=>wm (snd a)
theorem sndL:∀ms:ge ME,SEs G F ms
 | []=>wz
 | a::ms=>wA (snd a) (sndL ms)
theorem jn:∀ms:ge ME,SAnd G F ms
 | []=>wC
 | a::ms=>wE (snd a) (jn ms)
theorem jo:∀ms:ge ME,SOr G F ms
 | []=>wD
 | a::ms=>wF (snd a) (jo ms)
end
end
section
variable (G:Gs) (F:Nat->ge DV->on Ou) (fu:Nat)
def SS(m:MS):Prop:=∀{sg:Sg} {X:Cx} {E:St->XK} {st:zx} {δ:ge Sv} {o:Out},Good sg G F X E->corS sg m st=true->evS G F fu m δ=some o->PS X st (dS X.D E δ o)
def SSs(ms:ge MS):Prop:=∀{sg:Sg} {X:Cx} {E:St->XK} {sts:ge zx} {δ:ge Sv} {o:Out},Good sg G F X E->B8 sg ms sts=true->evSs G F fu ms δ=some o->PSs X sts (dS X.D E δ o)
end
section
theorem wH(h:gA e=true):M9 G F e:=by
 cases e with
 | comp a _ b _=>exact jl (snd a) (snd b)
 | compi a _ b c _=>exact jm (snd a) (snd b) (snd c)
 | _=>cases h
theorem wI:SS G F fu (.set i f e):=by
 intro sg X E st A o g b h;unfold corS at b;split at b
 ·rename_i t v B;split at b
  ·rename_i x pt;simp[d8,f7,Bool.or_eq_true,t5]at b;obtain⟨⟨⟨h1,H⟩,w⟩,c⟩:=b;have l:=g.loc x H;have u:X.N[i]? = some x:=by rwa [g.N]
   unfold evS at h;cases y:M2 v with
   | false=>exact iN g.nd u l.1 l.2 (λ z j=>(snd e).1 g w j) (V8 y) h
   | true=>
    rcases c with c | C
    ·rw[y]at c;cases c
    ·cases q:evE G F e A with
     | none=>rw[q]at h;cases h
     | some r=>
      obtain⟨a,N',fr,tg,p,rfl,S,P,hG,hs⟩:=wH C g w q;cases d:(X.env.blockKind == .function&&X.env.kindOf x==some .local&&pt.line==(Expr.ListComp a.elt _ a.sc p).pos.line && !_)with
      | false=>
       exact iN g.nd u l.1 l.2 (λ z j=>(snd e).1 g w j) ((by show(pure (X.env.blockKind == .function&&X.env.kindOf x==some .local&&pt.line==(Expr.ListComp a.elt [⟨a.tg,a.it,a.ifs,0⟩] a.sc p).pos.line && !(a.sc.names.any λ (n,k)=>n==x&&(k == .local||k == .cell))):Sem Bool)=pure false;rw[d])) h
      | true=>
       rw[q]at h;have c:X.env.kindOf x=some .local:=by simp[d8,f7]at d;exact d.1.1.2
       exact uN S g.calm g.nd u c P hG hs ((by show(pure _:Sem Bool)=pure true;rw[d])) h
  ·cases b
 ·cases b
theorem wJ:SS G F fu (.app i e):=by
 intro sg X E st δ o g a h;unfold corS at a;split at a
 ·rename_i v p;split at a
  ·rename_i ef ea c q;have:=x8 q;subst this;split at a
   ·rename_i ob n d m;have:=U4 m;subst this;simp only[d8,t5]at a;obtain⟨⟨⟨⟨B,b⟩,A⟩,y⟩,w⟩:=a;split at b
    ·rename_i x l;obtain⟨np,rfl⟩:=x0 l;obtain⟨s1,k,j,f⟩:=K9 g b;have u:=f7.mp B;subst u;unfold evS at h;exact uO (G5 s1 k j f) (λ z r=>(snd e).1 g A r) y w h
    ·cases b
   ·cases a
  ·cases a
 ·cases a
theorem wK:SS G F fu (.ext i e):=by
 intro sg X E st δ o g a h;unfold corS at a;split at a
 ·rename_i v p;split at a
  ·rename_i ef ea c q;have:=x8 q;subst this;split at a
   ·rename_i ob n d m;have:=U4 m;subst this;simp only[d8,t5]at a;obtain⟨⟨⟨⟨B,b⟩,A⟩,y⟩,w⟩:=a;split at b
    ·rename_i x l;obtain⟨np,rfl⟩:=x0 l;obtain⟨s1,k,j,f⟩:=K9 g b;have u:=f7.mp B;subst u;unfold evS at h;exact uR (G5 s1 k j f) (λ z r=>(snd e).1 g A r) y w h
    ·cases b
   ·cases a
  ·cases a
 ·cases a
theorem wL:SS G F fu (.ses i):=by
 intro sg X E st δ o g a h;unfold corS at a;split at a
 ·rename_i t v b;split at a
  ·rename_i x q;obtain⟨np,rfl⟩:=x0 q;split at a
   ·rw[d8,f7]at a;obtain⟨d,c⟩:=g.loc x a.2;unfold evS at h;exact vx g.nd (by rw[g.N];exact a.1) d c h
   ·cases a
  ·cases a
 ·cases a
theorem wM:SS G F fu (.dpt i ks e):=by
 intro sg X E st δ o g a h;unfold corS at a;split at a
 ·rename_i t v n;split at a
  ·rename_i ob ek q;obtain⟨sp,rfl⟩:=F1 q;simp[d8,t5]at a;obtain⟨⟨⟨d,c⟩,r⟩,p⟩:=a;split at d
   ·rename_i x m;obtain⟨np,rfl⟩:=x0 m;obtain⟨s1,k,j,f⟩:=K9 g d;split at c
    ·rename_i es l;obtain⟨tk,tp,rfl⟩:=M3 l;unfold evS at h;exact vy (Nat.lt_of_le_of_lt (by omega) g.hu) (G5 s1 k j f) (λ z b=>(snd e).1 g r b) (λ z b=>sndL ks g c b) p h
    ·cases c
   ·cases d
  ·cases a
 ·cases a
theorem wO:SS G F fu (.seti i k e):=by
 intro sg X E st δ o g a h;unfold corS at a;split at a
 ·rename_i t v m;split at a
  ·rename_i ob ek q;obtain⟨sp,rfl⟩:=F1 q;simp only[d8,t5]at a;obtain⟨⟨⟨c,r⟩,p⟩,n⟩:=a;split at c
   ·rename_i x l;obtain⟨np,rfl⟩:=x0 l;obtain⟨s1,j,f,d⟩:=K9 g c;unfold evS at h;exact uP (G5 s1 j f d) (λ z b=>(snd e).1 g n b) (λ z b=>(snd k).1 g r b) p h
   ·cases c
  ·cases a
 ·cases a
theorem wP:SS G F fu (.exp e):=by
 intro sg X E st δ o g a h;unfold corS at a;split at a
 ·simp[d8,t5]at a;unfold evS at h;exact uM (λ z b=>(snd e).1 g a.1 b) a.2 h
 ·cases a
theorem wQ:SS G F fu (.ret e):=by
 intro sg X E st δ o g a h;unfold corS at a;split at a
 ·unfold evS at h;exact uL (λ z b=>(snd e).1 g a b) h
 ·cases a
theorem wR:SS G F fu (.rt3 es):=by
 intro sg X E st δ o g a h;unfold corS at a;split at a
 ·rename_i v b;split at a
  ·rename_i d q;obtain⟨kk,tp,rfl⟩:=M3 q;unfold evS at h;exact uS (λ z c=>sndL es g a c) h
  ·cases a
 ·cases a
theorem wS:SS G F fu (.app2 i e):=by
 intro sg X E st δ o g c h;unfold corS at c;split at c
 ·rename_i v w;split at c
  ·rename_i ef ea f q;have:=x8 q;subst this;split at c
   ·rename_i ob n j u;have:=U4 u;subst this;simp only[d8,t5]at c;obtain⟨⟨⟨⟨K,d⟩,J⟩,I⟩,H⟩:=c;split at d
    ·rename_i oa oi r;obtain⟨sp,rfl⟩:=F1 r;rw[d8]at d;obtain⟨d,C⟩:=d;split at d
     ·rename_i x p;obtain⟨np,rfl⟩:=x0 p;obtain⟨jj,ip,rfl⟩:=bR (f7.mp C);obtain⟨s1,m,l,k⟩:=K9 g d;have A:=f7.mp K;subst A;unfold evS at h;split at h
      ·rename_i a b ds L B;exact uT (ms:=[a,b]) (G5 s1 m l k) (λ z y=>(snd e).1 g J y) I H B h
      ·cases h
     ·cases d
    ·cases d
   ·cases c
  ·cases c
 ·cases c
theorem wT:SS G F fu (.aug i e):=by
 intro sg X E st δ o g b h;unfold corS at b;split at b
 ·rename_i t op v f;rw[d8,d8]at b;obtain⟨⟨m,c⟩,k⟩:=b;cases f7.mp m;split at c
  ·rename_i x q;obtain⟨p,rfl⟩:=x0 q;rw[d8]at c;have l:=g.loc x c.2;unfold evS at h;obtain⟨a,d,h⟩:=Option.bind_eq_some_iff.mp h;exact uW g.nd (by rw[g.N];exact f7.mp c.1) l.1 l.2 (λ z j=>(snd e).1 g k j) (uV d) h
  ·cases c
 ·cases b
theorem wU{K:Nat}:SS G F fu (.hld K i f e):=by
 intro sg X E st δ o g j h;unfold corS at j;split at j
 ·rename_i t v Y;split at j
  ·rename_i x pt;rw[d8,d8]at j;obtain⟨⟨h1,h2⟩,C⟩:=j;have l:=g.loc x h2;have hN:X.N[K]? = some x:=by rw[g.N];exact f7.mp h1
   split at C
   ·rename_i e1 e2 q;obtain⟨lp,rfl⟩:=bT q;simp only[d8,t5]at C;obtain⟨⟨⟨k1,w⟩,k3⟩,Z⟩:=C;unfold evS at h;obtain⟨c,n,h⟩:=Option.bind_eq_some_iff.mp h;obtain⟨d,n,W⟩:=Option.bind_eq_some_iff.mp n;obtain⟨gs,U,h⟩:=Option.bind_eq_some_iff.mp h;obtain⟨c',b,h⟩:=Option.bind_eq_some_iff.mp h;obtain⟨d',b,S⟩:=Option.bind_eq_some_iff.mp b;obtain⟨m,u,h⟩:=t7.mp h;subst h;have u:=List.find?_some u;rw[d8]at u;have n:=tQ n;have b:=tR b;rw[ig W]at n;rw[ig S]at b;unfold corE at w;split at w
    ·rename_i ef J L q;have:=x8 q;subst this;rw[d8,d8]at w;obtain⟨⟨r,j2⟩,A⟩:=w;split at r
     ·rename_i y R;obtain⟨p,rfl⟩:=x0 R;simp only[d8,f7,bne_iff_ne,ne_eq]at r;obtain⟨k,fa,fd,ps,hr,hm,hk,hb,hl,fo⟩:=g.fns f y r.1.1;cases J with
      | nil=>cases j2
      | cons a J=>
       have B:=Q8 A;rw[List.any_cons,Bool.or_eq_false_iff]at B;unfold q9 at A;rw[d8,d8]at A;cases J with
       | cons _ _=>exact absurd A.2 (by unfold q9;intro z;cases z)
       | nil=>
        have I:=A.1.1;unfold corE at I;split at I
        ·rename_i z P;obtain⟨np,rfl⟩:=x0 P;obtain⟨s1,O,N,M⟩:=K9 g I;refine uU g.nd hN l.1 l.2 ((snd e).1 g k1 (tS U)) ((fw fo hr (g.glo y r.1.2) hm hk hb .nil g.pas (A2 (G5 s1 O N M) C8 (o6 B.1)) (u9.mpr r.2) (o6 B.1) (P7 [] B.2)).weak λ σ H Q z=>?_) k3 Z n b u.1 u.2;rw[((hl _ _ b).symm)];exact z
        ·cases I
     ·cases r
    ·cases w
   ·cases C
  ·cases j
 ·cases j
theorem wV:SS G F fu (.rse c e):=by
 intro sg X E st δ o g a h;unfold corS at a;split at a
 ·rename_i v d;split at a
  ·rename_i ef ea b q;have:=x8 q;subst this;simp[d8,t5,f7,bne_iff_ne,ne_eq]at a;obtain⟨⟨⟨⟨⟨n,m⟩,l⟩,k⟩,j⟩,i⟩:=a;obtain⟨np,rfl⟩:=x0 m;unfold evS at h;exact vF g.xf g.calm (g.glo c l) (u9.mpr k) (g.st n).2.2.2 (λ z f=>(snd e).1 g j f) i h
  ·cases a
 ·cases a
theorem wW(K:SSs G F fu body):SS G F fu (.tryc body c C H):=by
 intro sg X E st δ o g e h;unfold corS at e;split at e
 ·rename_i b J m;cases J with
  | ExceptHandler t n bd hp=>
  simp only[d8,gB]at e;obtain⟨⟨M,L⟩,f⟩:=e;split at f
  ·rename_i t' n' t2 v2 ap q;simp[Option.some.injEq,Prod.mk.injEq]at q;obtain⟨rfl,rfl,rfl⟩:=q;simp[d8,f7,bne_iff_ne,ne_eq,List.contains_iff_mem]at f;obtain⟨⟨⟨⟨⟨⟨⟨⟨⟨⟨B,z⟩,y⟩,w⟩,k5⟩,v⟩,u⟩,r⟩,p⟩,a⟩,A⟩:=f;split at a
   ·rename_i x k;simp[d8,f7]at a;obtain⟨tp,rfl⟩:=x0 k;obtain⟨vp,rfl⟩:=x0 p;obtain⟨np,rfl⟩:=x0 B;have l:=g.loc x a.2;obtain⟨s1,j,i,_⟩:=g.st M;unfold evS at h;exact vG g.xf s1 j i (g.glo c z) w (u9.mpr y) g.nd (by rwa [g.N]) (g.lcl _ v) (u9.mpr u) (u9.mpr r) (by rw[g.N];exact a.1) l.1 l.2
     (λ d N q I=>K (vI g d N) L I) h
   ·cases a
  ·cases f
 ·cases e
theorem wX(h:∀a,evS G F fu m a=none):SS G F fu m:=by
 intro sg X E st a o g hc q;rw[h]at q;cases q
theorem wY:SS G F fu (.frz i):=by
 intro sg X E st δ o g a h;unfold corS at a;cases a
theorem wZ(i:SSs G F fu a)(f:SSs G F fu b):SS G F fu (.iff c a b):=by
 intro sg X E st δ o g d h;unfold corS at d;split at d
 ·simp[d8]at d;unfold evS at h;exact uK (λ z e=>(snd c).2.1 g d.1.1 e) (λ z e=>i g d.1.2 e) (λ z e=>f g d.2 e) h
 ·cases d
theorem t_fo(f:SSs G F fu body):SS G F fu (.fo tg e body):=by
 intro sg X E st δ o g a h;unfold corS at a;split at a
 ·simp[d8,t5,Bool.or_eq_true]at a;obtain⟨⟨⟨⟨n,m⟩,l,k⟩,j⟩,i⟩:=a;unfold evS at h;exact uX (g.own n) g.calm (λ z c=>(snd e).2.2 g l (λ w=>by
   rcases k with q | q
   ·rw[w]at q;cases q
   ·exact q) c) (W4 g m) (λ b o' d=>f g i d) j h
 ·cases a
theorem t_wh(f:SSs G F fu body):SS G F fu (.wh c body):=by
 intro sg X E st δ o g a h;unfold corS at a;split at a
 ·simp[d8]at a;unfold evS at h;exact uY (g.own a.1.1) (λ b r d=>(snd c).2.1 g a.1.2 d) (λ b o' e=>f g a.2 e) h
 ·cases a
theorem xa:SSs G F fu []:=by
 intro sg X E c δ o g d h;cases c with
 | nil=>unfold evSs at h;cases h;exact uF
 | cons a b=>unfold B8 at d;cases d
theorem xb(b:SSs G F fu ms):SSs G F fu (.frz i::ms):=by
 intro k X E e c o g j h;have a:B8 k ms e=true:=by unfold B8 at j;exact j
 unfold evSs at h;have f:evS G F fu (.frz i) c=(match c[i]? with | some (.own d)=>some (.nx (c.set i (.val d))) | _=>some (.nx c)):=by unfold evS;rfl
 rw[f]at h;cases q:c[i]? with
 | none=>rw[q]at h;exact b g a h
 | some sv=>
  rw[q]at h;cases sv with
  | own d=>exact uQ q (b g a h)
  | no=>exact b g a h
  | val d=>exact b g a h
  | ot d=>exact b g a h
  | od d=>exact b g a h
theorem B1(n:SS G F fu m)(p:SSs G F fu ms)(l:∀i,m ≠ .frz i):SSs G F fu (m::ms):=by
 intro k X E b δ o g f h;cases b with
 | nil=>
  exfalso;cases m<;>first | exact l _ rfl | (unfold B8 at f;cases f)
 | cons st b=>
  have e:corS k m st=true/\B8 k ms b=true:=(by cases m<;>first | exact absurd rfl (l _) | (unfold B8 at f;rw[d8]at f;exact f));unfold evSs at h;split at h
  ·rename_i a q;exact uG (n g e.1 q) (p g e.2 h)
  ·rename_i j;have A:=n g e.1 h;cases o with
   | nx a=>exact absurd h (j a)
   | rt d fr=>exact uH A
   | rtt d=>exact uI A
   | ex c a=>exact uJ A
end
section
variable {G:Gs} {F:Nat->ge DV->on Ou} {fu:Nat}
mutual
theorem sndS:∀m:MS,SS G F fu m
 | .set _ _ _=>wI
 | .aug _ _=>wT
 | .app _ _=>wJ
 | .ext _ _=>wK
 | .seti _ _ _=>wO
 | .exp _=>wP
 | .ret _=>wQ
 | .rt3 _=>wR
 | .hld _ _ _ _=>wU
 | .app2 _ _=>wS
 | .iff _ a b=>wZ (x9 a) (x9 b)
 | .fo _ _ body=>t_fo (x9 body)
 | .wh _ body=>t_wh (x9 body)
 | .ses _=>wL
 | .unk=>wX λ δ=>by unfold evS;rfl
 | .dpt _ _ _=>wM
 | .rse _ _=>wV
 | .tryc body _ _ _=>wW (x9 body)
 | .frz _=>wY
theorem x9:∀ms:ge MS,SSs G F fu ms
 | []=>xa
 | .frz _::ms=>xb (x9 ms)
 | .set i o e::ms=>B1 (sndS (.set i o e)) (x9 ms) (by intro i z;cases z)
 | .aug i o::ms=>B1 (sndS (.aug i o)) (x9 ms) (by intro i z;cases z)
 | .app i o::ms=>B1 (sndS (.app i o)) (x9 ms) (by intro i z;cases z)
 | .ext i o::ms=>B1 (sndS (.ext i o)) (x9 ms) (by intro i z;cases z)
 | .seti i k o::ms=>B1 (sndS (.seti i k o)) (x9 ms) (by intro i z;cases z)
 | .exp e::ms=>B1 (sndS (.exp e)) (x9 ms) (by intro i z;cases z)
 | .ret e::ms=>B1 (sndS (.ret e)) (x9 ms) (by intro i z;cases z)
 | .rt3 e::ms=>B1 (sndS (.rt3 e)) (x9 ms) (by intro i z;cases z)
 | .hld h i f e::ms=>B1 (sndS (.hld h i f e)) (x9 ms) (by intro i z;cases z)
 | .app2 i e::ms=>B1 (sndS (.app2 i e)) (x9 ms) (by intro i z;cases z)
 | .iff c a b::ms=>B1 (sndS (.iff c a b)) (x9 ms) (by intro i z;cases z)
 | .fo t i b::ms=>B1 (sndS (.fo t i b)) (x9 ms) (by intro i z;cases z)
 | .wh c b::ms=>B1 (sndS (.wh c b)) (x9 ms) (by intro i z;cases z)
 | .unk::ms=>B1 (sndS .unk) (x9 ms) (by intro i z;cases z)
 | .ses i::ms=>B1 (sndS (.ses i)) (x9 ms) (by intro i z;cases z)
 | .dpt i k e::ms=>B1 (sndS (.dpt i k e)) (x9 ms) (by intro i z;cases z)
 | .rse c e::ms=>B1 (sndS (.rse c e)) (x9 ms) (by intro i z;cases z)
 | .tryc a b c d::ms=>B1 (sndS (.tryc a b c d)) (x9 ms) (by intro i z;cases z)
end
end
structure FunD(K:PySem.W.Frag)(x qual:Str)(st:Stmt)(f:Addr)(fd:FuncData):Prop where
 ex:∃(oc:Value) (od:Option Addr) (dV kV doc pm:Value) (an:Option Addr) (cdv ct:Value) (osl:Array (Option Value)),
  fd=PySem.W.fnOf x qual (F4 st) (D4 st) (y0 st) dV kV doc pm an cdv ct/\K.lookup f=some ⟨oc,od,.func fd,osl⟩/\PySem.W.codeIn K cdv qual=true
theorem FunD.okX{K:zA}{st:zx}(F:FunD K x b st f fd)(S:FnScope N ps (y0 st))(len:∀d H Q E,g d H Q E->d.length=ps.length)
  (e:∀(c:zk),fd.code=c->∀(A:zw) (a:ge Env) (s:zm) (H:Hp) (d:ge V) (Q:VK) (E:XK),Room k (A.deeper (envOfC b (y0 st) s.heap.objs.size f c))->g d H Q E ->
   ∃t,PSs (cxD P w K mg base N b (y0 st) f c A a s H E) (D4 st) t/\t {nx:=λ _ o=>Q .non o,rt:=Q} (start N d) H):FnOk P w K mg base (CXx P w base) (k+1) f fd ps g:=by
 obtain⟨oc,od,dV,kV,n,pm,an,c,ct,j,rfl,l,i⟩:=F.ex;exact nW l i S len λ A a s H d Q E m h=>e c rfl A a s H d Q E m h
section
end
section
end
theorem RSt.start(o:n=N.length)(r:RepL D (L2.wo O H) ds vs)(l:Hdn O H):RSt D H (L2.start N vs) (j0 n ds) O []:=by
 subst o;have e:∀(i:Nat) b,(j0 N.length ds)[i]? ≠ some (.own b):=λ i b h=>by
  unfold j0 at h;by_cases c:i<(ds.map Sv.val).length
  ·rw[List.getElem?_append_left c,u4]at h;cases q:ds[i]? with
   | none=>rw[q]at h;cases h
   | some d=>rw[q]at h;cases h
  ·rw[List.getElem?_append_right (by omega),List.getElem?_replicate]at h;split at h<;>cases h
 have g:∀(i:Nat) b,(j0 N.length ds)[i]? ≠ some (.ot b):=λ i b h=>by
  unfold j0 at h;by_cases c:i<(ds.map Sv.val).length
  ·rw[List.getElem?_append_left c,u4]at h;cases q:ds[i]? with
   | none=>rw[q]at h;cases h
   | some d=>rw[q]at h;cases h
  ·rw[List.getElem?_append_right (by omega),List.getElem?_replicate]at h;split at h<;>cases h
 have k:∀(i:Nat) b,(j0 N.length ds)[i]? ≠ some (.od b):=λ i b h=>by
  unfold j0 at h;by_cases c:i<(ds.map Sv.val).length
  ·rw[List.getElem?_append_left c,u4]at h;cases q:ds[i]? with
   | none=>rw[q]at h;cases h
   | some d=>rw[q]at h;cases h
  ·rw[List.getElem?_append_right (by omega),List.getElem?_replicate]at h;split at h<;>cases h
 refine⟨λ i d h=>?_,λ i b h=>absurd h (e i b),λ i j a u d2 h=>absurd h (e i u),RSt.noot g,λ i d h=>absurd h (k i d),?_,⟨λ a f=>l.ne a (by simpa using f),Same.refl _,λ a f=>(nomatch f),λ a f=>(nomatch f),l⟩⟩
 ·unfold j0 at h;by_cases c:i<(ds.map Sv.val).length
  ·rw[List.getElem?_append_left c,u4]at h;cases q:ds[i]? with
   | none=>rw[q]at h;cases h
   | some d'=>
    rw[q]at h;cases h;obtain⟨v,m,p⟩:=r.get q;refine⟨v,?_,by rw[List.append_nil];exact p⟩;unfold L2.start;rw[List.getElem?_append_left (by rw[e7];exact(t6.mp m).1),u4,m];rfl
  ·rw[List.getElem?_append_right (by omega),List.getElem?_replicate]at h;split at h<;>cases h
 ·unfold L2.start j0;rw[v0,v0,e7,e7,List.length_replicate,List.length_replicate,r.length]
structure Stands(K:PySem.W.Frag)(mg:Str->Option Value)(fn bl cl:List Str)(d:FD)(x:Str)(fa:Addr)(fd:FuncData)(ps:List Str):Prop where
 mg:mg x=some (.ref fa)
 kp:PySem.W.keepIn K (.ref fa)=true
 bi:J2 K fd ps []
 np:d.np=ps.length
 ex:∃qual st N,FunD K x qual st fa fd/\FnScope N ps (y0 st)/\d.n=N.length/\B8 ⟨N,(y0 st).names,fn,bl,cl,true,true⟩ d.body (D4 st)=true
section
theorem xc{K:zA}(hT:T.length=fn.length)(hs:∀(i:Nat) d x,T[i]? = some d->fn[i]? = some x->∃fa fd ps,Stands K mg fn bl cl d x fa fd ps)(hbl:∀x∈bl,mg x=none)(hxf:XFacts K mg G cl)
  (hcon:∀x d,G.con.lookup x=some d->∃u v,mg x=some u/\RelV v u/\∀H,Rep ⟨K,mg⟩ H d v) (hlm0:G.fnl=fn/\G.bll=bl/\G.cll=cl) (hTl:T.length<=bz)
  (ih1:∀(i:Nat) d x fa fd ps,T[i]? = some d->fn[i]? = some x->Stands K mg fn bl cl d x fa fd ps->FnOk P w K mg base (CXx P w base) k fa fd ps (spF ⟨K,mg⟩ ps.length (run G T fu k i))) (ih2:Q0 P w K mg base fn bl cl k (run G T fu k z8)):Q0 P w K mg base fn bl cl (k+1) (run G T fu (k+1) z8):=by
 intro A outer s H us vs Q E O f m cs ds d hr e0 r hO m1 m2 m3 rp rl hF hq;have hF':(match T[z8]? with | none=>if z8=z8 then lamR (evE G (run G T fu k)) (.lam m cs::ds)else none | some fd=>if(DV.lam m cs::ds).length=fd.np then Ou.of (evSs G (run G T fu k) fu fd.body (j0 fd.n (.lam m cs::ds)))else none)=some (.v d false):=hF;rw[(List.getElem?_eq_none (g9 hTl (by decide)))]at hF';have hF2:=hF';rw[d6 rfl]at hF2;unfold lamR at hF2;dsimp only at hF2;split at hF2
 ·rename_i cond;obtain⟨n1,n2,n3,n4⟩:=cond;split at hF2
  ·rename_i d' hev;split at hF2
   ·rename_i nl;cases hF2;obtain⟨f',pr,bd,sc,q,cl',l,ws,e1,lf,hcor,S,rc,lc1,lc2,lc3⟩:=bX.mp rp;cases e1;have lf':=lf.mono o8;have atH:∀c∈l,∃o v,H c=some (.frz o (.own c))/\s.heap.get? c=some o/\o.data=.cell v:=λ c hc=>by obtain⟨o,v,g1,g2⟩:=lc2 c hc;have g:=(x4 g1).2;exact⟨o,v,g,(e0.hok c _ g).1,g2⟩
    unfold M5 at hcor;rw[d8,f7]at hcor;have hlv:vs.length=ds.length:=rl.length;have hnp:(m.N.take m.np).length=m.np:=by rw[List.length_take];omega
    have hus:us.length=(m.N.take m.np).length:=by rw[←r.length,hlv,hnp];exact n1
    have hlw:ws.length=cs.length:=rc.length;have hlO:∀c∈l,∃o,H c=some (.frz o (.own c)):=λ c hc=>by obtain⟨o,_,g,_⟩:=atH c hc;exact⟨o,g⟩
    have hO2:Hdn O (L2.wo l H):=λ a ha=>by obtain⟨o,g1,g2⟩:=hO a ha;refine⟨o,?_,g2⟩;rw[i6 λ z=>by obtain⟨o',g⟩:=hlO a z;rw[g1]at g;cases g;cases g2];exact g1
    refine tW (ps:=m.N.take m.np) (ws:=ws) (vs:=vs) S (⟨atH⟩) hr.ok e0 lf' (λ pm c' ctv=>rQ hcor.1 hus) (by rw[hlv,hnp];exact n1) r (by rw[hnp];exact lc1) (λ i x v h1 h2=>?_) λ c'=>?_
    ·rw[hnp]at h1;obtain⟨c,o,u,g1,g2,g3,g4⟩:=lc3 i x v h1 h2;have g:=(x4 g2).2;exact⟨c,u,g1,⟨o,(e0.hok c _ g).1,g3⟩,g4⟩
    ·have hr':Room k (A.deeper (PySem.W.envX q sc s.heap.objs.size f (.ref c') cl')):=hr.deeper _;have g4:Good ⟨m.N,sc.names,fn,bl,cl,false,false⟩ G (run G T fu k) (ar P w K mg base m.N q sc f (.ref c') cl' A outer s (L2.wo l H)) E0s:=by
      refine⟨rfl,S.nd,λ y hy=>?_,λ y hy=>?_,λ y hy=>?_,λ y hy=>hy,λ y hy=>hy,rfl,hr'.units,λ f2 y hy=>?_,hbl,?_,hcon,(λ z=>nomatch z),hxf,(λ z=>nomatch z),(λ z=>⟨hlm0,⟨k,hr',ih2⟩,λ w=>nomatch w⟩)⟩
      ·unfold visB at hy;simp only[Bool.or_eq_true,f7]at hy;rcases hy with(hy | hy) | hy
       ·exact .inl hy
       ·exact .inr (.inl hy)
       ·exact .inr (.inr hy)
      ·unfold gloB at hy;rw[f7]at hy;exact hy
      ·unfold locB at hy;simp only[Bool.or_eq_true,f7]at hy;rcases hy with hy | hy
       ·exact⟨.inl hy,.inr hy⟩
       ·exact absurd rfl (S.nocell _ (PySem.mem_of_lookup hy))
      ·have hf:f2<T.length:=by rw[hT];exact(t6.mp hy).1
       obtain⟨d',hd'⟩:∃d',T[f2]? = some d':=⟨_,j8 hf⟩;obtain⟨fa',fd',ps',S'⟩:=hs f2 d' y hd' hy;refine⟨k,fa',fd',ps',hr',S'.mg,S'.kp,S'.bi,λ ds o q=>?_,ih1 f2 d' y fa' fd' ps' hd' hy S'⟩;cases k with
       | zero=>cases q
       | succ k=>
        have q':(match T[f2]? with | none=>if f2=z8 then lamR (evE G (run G T fu k)) ds else none | some fd=>if ds.length=fd.np then Ou.of (evSs G (run G T fu k) fu fd.body (j0 fd.n ds))else none)=some o:=q;rw[hd']at q';have q'':(if ds.length=d'.np then Ou.of (evSs G (run G T fu k) fu d'.body (j0 d'.n ds))else none)=some o:=q';split at q''
        ·rename_i z;rw[z,S'.np]
        ·cases q''
      ·intro pins σ H s e s' I z;obtain⟨_,_,_,_,_,_,_,_,_,_,q⟩:=z;exact q.elim
     have pe:=(snd m.body).1 g4 ((by have:=hcor.2;rw[m1,m2,m3]at this;exact this)) hev;refine⟨_,pe,O,[],?_,λ v H' sm gt=>λ gone=>?_⟩
     ·have R:=RSt.start (D:=⟨K,mg⟩) (N:=m.N) (ds:=ds++cs) (vs:=vs++ws) (n:=m.N.length) rfl ((V6 hlO n3 rl).append (V6 hlO n4 rc)) hO2;have e1:j0 m.N.length (ds++cs)=(ds++cs).map Sv.val:=(by unfold j0;rw[v0,show m.N.length - (ds.length+cs.length)=0 by omega];exact List.append_nil _);have e2:L2.start m.N (vs++ws)=(vs++ws).map some:=(by unfold L2.start;rw[v0,show m.N.length - (vs.length+ws.length)=0 by omega];exact List.append_nil _);rw[e1,e2]at R;exact R
     ·have gt':Rep ⟨K,mg⟩ (L2.wo (O++[]) H') d v:=gt;rw[List.append_nil]at gt';refine hq v _ (λ b o e=>?_) (gt'.mono λ b o e=>?_)
      ·by_cases hb:b∈l
       ·rw[cJ hb];exact e
       ·rw[K6 hb];exact sm _ _ (by rw[i6 hb];exact e)
      ·obtain⟨hb,e⟩:=x4 e;rw[i6 hb,K6 λ z=>by rw[gone b z]at e;cases e];exact e
   ·cases hF2
  ·cases hF2
 ·cases hF2
theorem jq{P:zu}{w:zt}{K:zA}{mg:Str->on zk}{base:zo}{G:Gs}{T:ge FD}{fu:Nat}{fn bl cl:ge Str}(hT:T.length=fn.length)(hs:∀(i:Nat) d x,T[i]? = some d->fn[i]? = some x->∃fa fd ps,Stands K mg fn bl cl d x fa fd ps)(hbl:∀x∈bl,mg x=none)(hxf:XFacts K mg G cl)
  (hcon:∀x d,G.con.lookup x=some d->∃u v,mg x=some u/\RelV v u/\∀H,Rep ⟨K,mg⟩ H d v)
  (hlm:G.fnl.isEmpty=false->(G.fnl=fn/\G.bll=bl/\G.cll=cl)/\T.length<=bz/\∀(i:Nat) (d:FD) (x qual:Str) (st:zx) (fa:zn) (fd:zy),T[i]? = some d->fn[i]? = some x->FunD K x qual st fa fd->∃c P,fd.code=.ref c/\(∀h:zo,K.In h->PySem.W.CodeHd h c P)/\(P,(qual ++ ".<locals>.") ++ "<lambda>")∈u6 K) :
  ∀k,(∀(i:Nat) d x fa fd ps,T[i]? = some d->fn[i]? = some x->Stands K mg fn bl cl d x fa fd ps->FnOk P w K mg base (CXx P w base) k fa fd ps (spF ⟨K,mg⟩ ps.length (run G T fu k i)))/\(G.fnl.isEmpty=false->Q0 P w K mg base fn bl cl k (run G T fu k z8))
 | 0=>by
  refine⟨λ i d x fa fd ps h1 h2 S=>?_,λ _ A outer s H us vs Q E O f m cs ds d _ _ _ _ _ _ _ _ _ hF _=>by cases hF⟩;refine⟨λ vs H Q E h=>?_,λ A outer s H args us vs Q E hr he hb hv h=>?_⟩
  ·obtain⟨_,_,_,_,_,_,q,_⟩:=h;cases q
  ·obtain⟨_,_,_,_,_,_,q,_⟩:=h;cases q
 | k+1=>by
  have ih:=jq (P:=P) (w:=w) (base:=base) (fu:=fu) hT hs hbl hxf hcon hlm k;refine⟨λ i d x fa fd ps h1 h2 S=>?_,λ z=>xc hT hs hbl hxf hcon (hlm z).1 (hlm z).2.1 ih.1 (ih.2 z)⟩;obtain⟨qual,st,N,F,FS,hn,hc⟩:=S.ex;refine F.okX FS (λ vs H Q E h=>?_) (λ cdv hcd A outer s H vs Q E hr h=>?_)
  ·obtain⟨O,ds,o,_,e1,e2,_⟩:=h;rw[e2.length,e1]
  ·obtain⟨O,ds,o,ho,e1,e2,e3,e4⟩:=h;have e3':(match T[i]? with | none=>if i=z8 then lamR (evE G (run G T fu k)) ds else none | some fd=>if ds.length=fd.np then Ou.of (evSs G (run G T fu k) fu fd.body (j0 fd.n ds))else none)=some o:=e3;rw[h1]at e3';have e3'':(if ds.length=d.np then Ou.of (evSs G (run G T fu k) fu d.body (j0 d.n ds))else none)=some o:=e3';rw[d6 (e1.trans S.np.symm)]at e3'';have g:Good ⟨N,(y0 st).names,fn,bl,cl,true,true⟩ G (run G T fu k) (cxD P w K mg base N qual (y0 st) fa cdv A outer s H E) (λ _=>E):=by
    refine⟨rfl,FS.nd,λ y hy=>?_,λ y hy=>?_,λ y hy=>⟨?_,.inl rfl⟩,λ y hy=>hy,λ y hy=>hy,rfl,hr.units,λ f y hy=>?_,hbl,pz.s,hcon,λ _=>PassesOwn.leaving,hxf,λ _=>⟨rfl,rfl,rfl,pG⟩,λ z=>⟨(hlm z).1,⟨k,hr,ih.2 z⟩,λ _=>by
      obtain⟨c,P,q1,q2,q3⟩:=(hlm z).2.2 i d x qual st fa fd h1 h2 F;exact⟨c,P,hcd.symm.trans q1,q2,q3⟩⟩⟩
    ·unfold visB at hy;simp only[Bool.or_eq_true,f7]at hy;rcases hy with(hy | hy) | hy
     ·exact .inl hy
     ·exact .inr (.inl hy)
     ·exact .inr (.inr hy)
    ·unfold gloB at hy;rw[f7]at hy;exact hy
    ·unfold locB at hy;simp only[Bool.or_eq_true,f7]at hy;exact hy
    ·have hf:f<T.length:=by rw[hT];exact(t6.mp hy).1
     obtain⟨d',hd'⟩:∃d',T[f]? = some d':=⟨_,j8 hf⟩;obtain⟨fa',fd',ps',S'⟩:=hs f d' y hd' hy;refine⟨k,fa',fd',ps',hr,S'.mg,S'.kp,S'.bi,λ ds o q=>?_,ih.1 f d' y fa' fd' ps' hd' hy S'⟩;cases k with
     | zero=>cases q
     | succ k=>
      have q':(match T[f]? with | none=>if f=z8 then lamR (evE G (run G T fu k)) ds else none | some fd=>if ds.length=fd.np then Ou.of (evSs G (run G T fu k) fu fd.body (j0 fd.n ds))else none)=some o:=q;rw[hd']at q';have q'':(if ds.length=d'.np then Ou.of (evSs G (run G T fu k) fu d'.body (j0 d'.n ds))else none)=some o:=q';split at q''
      ·rename_i z;rw[z,S'.np]
      ·cases q''
   cases ho':evSs G (run G T fu k) fu d.body (j0 d.n ds)with
   | none=>rw[ho']at e3'';cases e3''
   | some oo=>
    rw[ho']at e3'';refine⟨_,x9 d.body g hc ho',H,O,[],RSt.start hn e2 ho,(λ a ha=>(nomatch ha)),ho.ne,Same.refl H,?_⟩;cases oo with
    | nx δ=>cases e3'';exact λ σ' H' W R fr sm=>e4 .non H' sm (show Rep ⟨K,mg⟩ (L2.wo O H') .non .non by unfold Rep;rfl)
    | rt d fr=>cases e3'';exact λ v H' sm gt=>e4 v H' sm gt
    | rtt d=>cases e3'';exact λ v H' sm gt=>e4 v H' sm gt
    | ex c δ=>cases e3'';exact λ σ' H' W C hm R fr sm=>e4 H' C hm sm
end
def okD(fn bl cl:ge Str)(d:FD)(N ps:ge Str)(st:zx):Bool:=
 (y0 st).kind == .function && !(y0 st).isCoroutine && !(y0 st).isGenerator&&K0 N&&(N.take ps.length==ps) &&
 ps.all (λ x=>(y0 st).names.lookup x==some .local||(y0 st).names.lookup x==some .cell)&&(y0 st).names.all (λ y=>!(y.2 == .free)) &&
 d.n==N.length&&d.np==ps.length&&B8 ⟨N,(y0 st).names,fn,bl,cl,true,true⟩ d.body (D4 st)
section
variable {P:zu} {w:zt} {K:zA} {mg:Str->on zk} {base h:zo} {G:Gs} {T:ge FD} {fu:Nat} {fn bl cl:ge Str}
theorem xg{st:zx}{dV kV e pm b i:zk}(X:K.In h)(C:h.Ns mainGlobals mg)(ok:okD fn bl cl d N ps st=true)
  (a:PySem.W.nsIn K mainGlobals x=some (some (.ref f))) (l:K.lookup f=some ⟨o,n,.func (PySem.W.fnOf x x (F4 st) (D4 st) (y0 st) dV kV e pm j b i),g⟩)
  (c:PySem.W.codeIn K b x=true) (k:PySem.W.keepIn K (.ref f)=true)
  (p:J2 K (PySem.W.fnOf x x (F4 st) (D4 st) (y0 st) dV kV e pm j b i) ps []) :
  Stands K mg fn bl cl d x f (PySem.W.fnOf x x (F4 st) (D4 st) (y0 st) dV kV e pm j b i) ps:=by
 unfold okD at ok;simp only[d8,f7,t5,w6,Bool.or_eq_true,u9]at ok;obtain⟨⟨⟨⟨⟨⟨⟨⟨⟨B,A⟩,z⟩,y⟩,w⟩,v⟩,u⟩,r⟩,q⟩,m⟩:=ok;exact⟨PySem.W.mg_of X C a,k,p,q,x,st,N,⟨o,n,dV,kV,e,pm,j,b,i,g,rfl,l,c⟩,⟨B,A,z,Q7 y,w,v,u⟩,r,m⟩
theorem jr{st:zx}{kV e pm b g:zk}(X:K.In h)(q:h.Ns mainGlobals mg)(ok:okD fn bl cl d N ps st=true)
  (a:PySem.W.nsIn K mainGlobals x=some (some (.ref f))) (l:K.lookup f=some ⟨o,n,.func (PySem.W.fnOf x x (F4 st) (D4 st) (y0 st) .none kV e pm i b g),m⟩)
  (c:PySem.W.codeIn K b x=true) (k:PySem.W.keepIn K (.ref f)=true)
  (p:∀(kV e pm:zk) (i:on zn) (b g:zk) (j:ge zk),j.length=ps.length->bindArgs (PySem.W.fnOf x x (F4 st) (D4 st) (y0 st) .none kV e pm i b g) ⟨j,[]⟩=pure (ps.zip j)) :
  Stands K mg fn bl cl d x f (PySem.W.fnOf x x (F4 st) (D4 st) (y0 st) .none kV e pm i b g) ps:=
 xg X q ok a l c k (.all (p kV e pm i b g))
def HS(K:zA)(mg:Str->on zk)(fn bl cl:ge Str)(T:ge FD)(fs:ge Str):Prop:=∀(i:Nat) d x,T[i]? = some d->fs[i]? = some x->∃fa fd ps,Stands K mg fn bl cl d x fa fd ps
theorem xh:HS K mg fn bl cl [] fs:=λ i d x h=>by cases h
theorem o9(h:Stands K mg fn bl cl d x e fd ps)(t:HS K mg fn bl cl T fs):HS K mg fn bl cl (d::T) (x::fs):=λ i f c b a=>by
 cases i with
 | zero=>cases b;cases a;exact⟨_,_,_,h⟩
 | succ i=>exact t i f c b a
theorem xi:L2.wo [] H=H:=by
 funext b
 unfold L2.wo;simp
def HC(K:zA)(mg:Str->on zk)(c:ge (Str×DV)):Prop:=∀x d,c.lookup x=some d->∃u v,mg x=some u/\RelV v u/\∀H,Rep ⟨K,mg⟩ H d v
theorem xj:HC K mg []:=λ x d h=>by cases h
theorem xk(h:∃u v,mg y=some u/\RelV v u/\∀H,Rep ⟨K,mg⟩ H d v)(t:HC K mg c):HC K mg ((y,d)::c):=λ x a q=>by
 rw[List.lookup_cons]at q;split at q
 ·rename_i e;cases q
  rwa [eq_of_beq e]
 ·exact t x a q
def OneL(K:zA)(mg:Str->on zk)(G:Gs)(cl:ge Str)(l:ge (Str×ge Str)):Prop:=∀c,(l.lookup c).isSome=true->∃C,XOne K mg G cl c C
theorem xl:OneL K mg G cl []:=λ c h=>by cases h
theorem aA(h:∃C,XOne K mg G cl c C)(t:OneL K mg G cl l):OneL K mg G cl ((c,b)::l):=λ a q=>by
 rw[List.lookup_cons]at q;split at q
 ·rename_i e
  rwa [eq_of_beq e]
 ·exact t a q
def AllL(mg:Str->on zk)(l:ge Str):Prop:=∀t∈l,∃Ct,mg t=some (.ref Ct)
theorem xm:AllL mg []:=λ t h=>by cases h
theorem all_cons(h:∃b,mg t=some (.ref b))(r:AllL mg l):AllL mg (t::l):=λ a q=>by
 rcases e8.mp q with e | e
 ·rwa [e]
 ·exact r a e
def OwnL(K:zA)(mg:Str->on zk)(G:Gs)(c:Str)(C:zn)(l:ge Str):Prop:=∀t∈l,∀Ct,mg t=some (.ref Ct)->PySem.W.kitOne K (.ref C) (.ref Ct)=some (E9 G c t)/\PySem.W.exmOne K (.ref C) (.ref Ct)=some (E9 G c t)
theorem aB:OwnL K mg G c C []:=λ t h=>by cases h
theorem B9(m:mg t=some (.ref Ct))(h:PySem.W.kitOne K (.ref C) (.ref Ct)=some (E9 G c t)/\PySem.W.exmOne K (.ref C) (.ref Ct)=some (E9 G c t))(r:OwnL K mg G c C l):OwnL K mg G c C (t::l):=λ d q a b=>by
 rcases e8.mp q with e | e
 ·subst e;cases m.symm.trans b;exact h
 ·exact r d e a b
noncomputable def spS(K:zA):Sp:=λ vs H Q _=>∃(a:zn) (ns:ge Int),vs=[.ref a]/\ns.length<=63/\SqS K H a (ns.map V.int)/\∀H',Q (.bl true) H'
theorem xn(Z:T.length=fn.length)(hs:HS K mg fn bl cl T fn)(C:∀x∈bl,mg x=none)(y:XFacts K mg G cl)
  (l:∀x d,G.con.lookup x=some d->∃u v,mg x=some u/\RelV v u/\∀H,Rep ⟨K,mg⟩ H d v) (h1:T[i]? = some d) (h2:fn[i]? = some x) (S:Stands K mg fn bl cl d x m fd [p])
  (B:G.fnl.isEmpty=false->(G.fnl=fn/\G.bll=bl/\G.cll=cl)/\T.length<=bz/\∀(i:Nat) (d:FD) (x f:Str) (st:zx) (m:zn) (fd:zy),T[i]? = some d->fn[i]? = some x->FunD K x f st m fd->∃c P,fd.code=.ref c/\(∀h:zo,K.In h->PySem.W.CodeHd h c P)/\(P,(f ++ ".<locals>.") ++ "<lambda>")∈u6 K)
  (o:∀j:ge Int,j.length<=63->run G T fu k i [.scr j]=some (.v (.bl true) false)):FnOk P w K mg base CX0 k m fd [p] (spS K):=by
 refine⟨λ J H Q E h=>?_,λ A b s H n L J Q E O W X N h=>?_⟩
 ·obtain⟨a,j,rfl,_⟩:=h;rfl
 ·obtain⟨a,j,rfl,U,hS,R⟩:=h;refine codeAny_mono (((jq Z hs C y l B k).1 i d x m fd [p] h1 h2 S).run A b s H n L _ Q E0 O W X N ⟨[],[.scr j],_,(λ a Y=>(nomatch Y)),rfl,?_,o j U,λ v I _ g=>?_⟩) λ r M q=>?_
  ·refine RepL.one (F9.mpr ⟨a,rfl,?_⟩);rw[xi];exact hS
  ·have F:Rep ⟨K,mg⟩ (L2.wo [] I) _ v:=g;rw[K2]at F;subst F;exact R I
  ·cases r with
   | error e=>
    obtain⟨_,_,_,_,_,_,_,_,_,_,z⟩:=(q:CXx P w base b H s E0 e M);exact z.elim
   | ok fl=>cases fl<;>first | exact False.elim q | exact q
end
theorem walkE{l:PySem.W.OpenLaw}{XP:(Str->on zk)->zo->Prop}{K:Params->zA}(r:l.most=some 63)(g:d.params.defaults=[])(o:Room k callerA)
  (x:∀(w:zt) (h:zo),YP w h->(K w.params).In h) (e:∀(w:zt) (h:zo),YP w h->(∀p∈u6 (K w.params),(K w.params).lookup p.1=none/\h.get? p.1=some {cls:=.none,data:=.fields #[]} /\ isCodeTable h p.1)/\((u6 (K w.params)).map (·.1)).Nodup)
  (F:∀(w:zt) (c:Str->on zk) (j:zn) (h:zo),(K w.params).In h->h.Ns mainGlobals c->c d.name=some (.ref j) ->
   ∃i:zy,(∀(s:zm) (u:zk),BindsTo s i ⟨[u],[]⟩ [(p,u)])/\∀b:zo,(K w.params).In b->b.Ns mainGlobals c->FnOk l.prog w (K w.params) c b CX0 k j i [p] (spS (K w.params))) :
  PySem.W.WalkO q loose XP YP l.row.toRowW d [] (λ f m=>PySem.call f m):=
 L2.walk_of r (by decide) g o x e F (λ _ _ a n v A y=>⟨a,n,rfl,v,SqS.of A y,λ _=>rfl⟩) λ _ _ _ _ _ z=>z
noncomputable def js(K:zA)(o:Obj)(c:zn):on zn:=match o.cls,o.data with
 | .type "code",.fields vs=>(match(vs[11]?:on zk),(vs[18]?:on zk),(vs[7]?:on zk),(vs[9]?:on zk),(vs[10]?:on zk)with
  | some (.ref P),some (.str _ _),some (.int _ _),some (.bool _),some (.int _ _)=>if(c==P)=false/\(K.lookup P).isNone=true then some P else none
  | _,_,_,_,_=>none)
 | _,_=>none
def xo(K:zA):Bool:=K.all λ p=>match p.2.data with
 | .func fd=>(match fd.code with
  | .ref c=>(match K.lookup c with | some o=>(js K o c).isSome | none=>true)
  | _=>true)
 | _=>true
theorem W5{vs:zr zk}(h:vs[i]? = some v):vs.getD i .none=v:=by
 rw[A7,h];rfl
theorem xp{K:zA}{st:zx}(S:xo K=true)(F:FunD K x f st Y fd):∃c P,fd.code=.ref c/\(∀h:zo,K.In h->PySem.W.CodeHd h c P)/\(P,(f ++ ".<locals>.") ++ "<lambda>")∈u6 K:=by
 obtain⟨oc,od,dV,kV,Z,pm,an,w,ct,H,e,I,g⟩:=F.ex;have j:fd.code=w:=by rw[e]
 have q:=w6.mp S _ (T2 I);dsimp at q;unfold PySem.W.codeIn at g;split at g
 ·rename_i c;rw[j]at q;dsimp at q;split at g
  ·rename_i cls dct y sl p;rw[p]at q;obtain⟨P,i⟩:=Option.isSome_iff_exists.mp q;unfold js at i;split at i
   ·rename_i B A U;have u:=(by have:=U;injection this);subst u;split at i
    ·rename_i P' k E W m b C l o O N M L;split at i
     ·rename_i d;cases i;split at g
      ·rename_i a n t r Q;have R:=f7.mp g;subst R;have J:y[1]? = some (.str n t):=by rw[←Array.getElem?_toList,Q];rfl
       refine⟨c,P,j,λ h X=>⟨_,y,k,E,W,m,b,C,l,X _ _ p,A,rfl,o,W5 o,W5 O,W5 N,W5 M,W5 L,λ z=>?_⟩,?_⟩
       ·rw[z]at d;have:=d.1;simp at this
       ·unfold u6;refine List.mem_filterMap.mpr ⟨_,T2 p,?_⟩;have v:=A;subst v;simp[o,J,d.2,if_true]
      ·cases g
     ·cases i
    ·cases i
   ·cases i
  ·cases g
 ·cases g
theorem xq{K:zA}(h:p∈u6 K):∃(c:zn) (a:Obj) (vs:zr zk),(c,a)∈K/\a.cls=.type "code" /\ a.data=.fields vs/\vs[11]? = some (.ref p.1)/\K.lookup p.1=none:=by
 unfold u6 at h;obtain⟨⟨c,a⟩,d,e⟩:=List.mem_filterMap.mp h;dsimp only at e;split at e
 ·rename_i vs g f;split at e
  ·rename_i P q t b k2;split at e
   ·rename_i z;cases e;exact⟨c,a,vs,d,g,f,b,Option.isNone_iff_eq_none.mp z⟩
   ·cases e
  ·cases e
 ·cases e
theorem xr{K:zA}(f:(K.map (·.1)).Nodup)(h:(c,o)∈K):K.lookup c=some o:=by
 induction K with
 | nil=>cases h
 | cons y l g=>
  rw[u0]at f;have d:=List.nodup_cons.mp f;obtain⟨a,b⟩:=y;rw[List.lookup_cons];rcases e8.mp h with z | z
  ·cases z;rw[beq_self_eq_true]
  ·have:c≠a:=λ e=>d.1 (by rw[←e];exact k8.mpr ⟨_,z,rfl⟩);rw[u9.mpr this];exact g d.2 z
theorem htb_of{K T:zA}(i:K.In h)(f:T.In h)(e:(K.map (·.1)).Nodup)(j:(u6 K).map (λ p=>T.lookup p.1)=(u6 K).map λ _=>some {cls:=.none,data:=.fields #[]}) :
  ∀p∈u6 K,K.lookup p.1=none/\h.get? p.1=some {cls:=.none,data:=.fields #[]} /\ isCodeTable h p.1:=λ p a=>by
 obtain⟨c,d,b,g,n,m,l,k⟩:=xq a;exact⟨k,f _ _ (List.map_inj_left.mp j p a),c,d,b,i _ _ (xr e g),n,m,l⟩
theorem in_app{K:zA}(X:PySem.W.Frag.In (T++K) h)(f:(K.map (·.1)).all (λ a=>(T.lookup a).isNone)=true):K.In h/\T.In h:=by
 have c:∀(T K:zA) a,(T++K).lookup a=(T.lookup a).or (K.lookup a):=λ T K a=>by
  induction T with
  | nil=>simp
  | cons y l d=>
   obtain⟨b,v⟩:=y;rw[List.cons_append,List.lookup_cons,List.lookup_cons];cases hb:a==b with
   | true=>rfl
   | false=>
    exact d
 refine⟨λ a o e=>X a o ?_,λ a o e=>X a o ?_⟩
 ·rw[c,Option.isNone_iff_eq_none.mp (w6.mp f a (k8.mpr ⟨_,T2 e,rfl⟩)),e];rfl
 ·rw[c,e];rfl
end L2
end
noncomputable section
namespace cv
variable {α β:Type} (h:β->α->Bool)
noncomputable def wi(bs:ge β)(e:α):ge β:=bs.filter λ b=>h b e
noncomputable def lf(es:ge α)(b:β):ge α:=es.filter λ e=>!h b e
noncomputable def fst1(g:β->on (ge β)):ge β->on (ge β)
 | []=>none
 | b::bs=>match g b with
  | some c=>some (b::c)
  | none=>fst1 g bs
def cov:Nat->ge α->ge β->on (ge β)
 | _,[],_=>some []
 | 0,_::_,_=>none
 | m+1,e::es,bs=>fst1 (λ b=>cov m (lf h (e::es) b) bs) (wi h bs e)
theorem jt:∀{bs:ge β} {c:ge β},fst1 g bs=some c->∃b r,b∈bs/\g b=some r/\c=b::r
 | [],_,q=>by cases q
 | b::bs,c,q=>by
  unfold fst1 at q;split at q
  ·rename_i r e;cases q;exact⟨b,r,i9,e,rfl⟩
  ·obtain⟨h,r,f,d,a⟩:=jt q;exact⟨h,r,i8 _ f,d,a⟩
theorem aC:∀{bs:ge β},fst1 g bs=none↔∀b∈bs,g b=none
 | []=>⟨(λ _ b a=>by cases a),λ _=>rfl⟩
 | b::bs=>by
  constructor
  ·intro q c a;unfold fst1 at q;split at q
   ·cases q
   ·rename_i e;rcases e8.mp a with z | z
    ·rwa [z]
    ·exact aC.mp q c z
  ·intro q;unfold fst1;rw[q b i9];exact aC.mpr λ c a=>q c (i8 _ a)
theorem cov_ok:∀{m:Nat} {es:ge α} {bs c:ge β},cov h m es bs=some c->(∀b∈c,b∈bs)/\(∀e∈es,∃b∈c,h b e=true)/\c.length<=m
 | m,[],bs,c,q=>by
  have:c=[]:=by cases m<;>(unfold cov at q;cases q;rfl)
  subst this;exact⟨(λ _ z=>by cases z),(λ _ z=>by cases z),Nat.zero_le _⟩
 | 0,_::_,_,_,q=>by unfold cov at q;cases q
 | m+1,e::es,bs,c,q=>by
  unfold cov at q;obtain⟨b,r,h1,h2,rfl⟩:=jt q;obtain⟨i1,i2,i3⟩:=cov_ok h2;have hb:=j6.mp h1;refine⟨λ b' z=>?_,λ e' z=>?_,Nat.succ_le_succ i3⟩
  ·rcases e8.mp z with z | z
   ·rw[z];exact hb.1
   ·exact i1 b' z
  ·by_cases hh:h b e'=true
   ·exact⟨b,i9,hh⟩
   ·obtain⟨b',p1,p2⟩:=i2 e' (j6.mpr ⟨z,by simpa using hh⟩);exact⟨b',i8 _ p1,p2⟩
theorem cov_all[DecidableEq β]:∀{m:Nat} {es:ge α} {bs c:ge β},(∀b∈c,b∈bs)->(∀e∈es,∃b∈c,h b e=true)->c.length<=m->cov h m es bs≠none
 | m,[],bs,c,_,_,_=>by cases m<;>(unfold cov;intro z;cases z)
 | 0,e::es,bs,c,_,h2,h3=>by
  obtain⟨b,p,_⟩:=h2 e i9;cases c with
  | nil=>cases p
  | cons _ _=>cases h3
 | m+1,e::es,bs,c,h1,h2,h3=>by
  obtain⟨b,p,q⟩:=h2 e i9;unfold cov;intro z;have:=aC.mp z b (j6.mpr ⟨h1 b p,q⟩);refine cov_all (c:=c.erase b) (λ b' hb=>h1 b' (List.mem_of_mem_erase hb)) (λ e' he=>?_) ?_ this
  ·obtain⟨he1,he2⟩:=j6.mp he;obtain⟨b',p',q'⟩:=h2 e' he1;have hne:b'≠b:=λ z=>by rw[z]at q';rw[q']at he2;cases he2
   exact⟨b',(List.mem_erase_of_ne hne).mpr p',q'⟩
  ·have:=List.length_erase_of_mem p;omega
theorem cov_least[DecidableEq β](q:cov h m es bs=some c)(l:∀k<m,cov h k es bs=none):c.length=m:=by
 obtain⟨d,b,a⟩:=cov_ok h q;rcases Nat.lt_or_eq_of_le a with z | z
 ·exact absurd (l _ z) (cov_all h d b (i7 _))
 ·exact z
theorem cas_left(q:cov h (m+1) (e::es) bs=none)(a:b∈wi h bs e):cov h m (lf h (e::es) b) bs=none:=by
 unfold cov at q;exact aC.mp q b a
theorem cas_ne(q:cov h m es bs=none):es≠[]:=λ z=>by
 subst z;cases m<;>(unfold cov at q;cases q)
end cv
end
noncomputable section
namespace k33
open PySem L2
noncomputable def ju:FD:={n:=1,np:=1,body:=[.ret (.bi .tuple [.comp (.bi .tuple [.comp (.ix (.var 0) (.var 1)) (.one 0) (.var 1) [none,some 0]]) (.one 0) (.rng [.bi .len [.ix (.var 0) (.int 0)]]) [none,some 0]])]}
noncomputable def jv:FD:={n:=1,np:=1,body:=[.ret (.compi (.var 0) (.one 0) (.rng [.meth .bitLength (.var 0) []]) (.bin .BitAnd (.bin .RShift (.var 1) (.var 0)) (.int 1)) [none,some 0])]}
noncomputable def jw:FD:={n:=3,np:=3,body:=[.ret (.bi .tuple [.comp (.bi .tuple [.comp (.ix (.ix (.var 1) (.var 2)) (.var 0)) (.one 0) (.var 1) [none,some 2,some 0]]) (.one 0) (.var 1) [none,some 2,some 0]])]}
noncomputable def jx:FD:={n:=1,np:=1,body:=[.ret (.comp (.idx (.var 1) (.var 0)) (.one 0) (.var 0) [none,some 0])]}
noncomputable def jy:FD:={n:=1,np:=1,body:=[.ret (.call 3 [.call 0 [.var 0]])]}
noncomputable def jz:FD:={n:=1,np:=1,body:=[.ret (.call 2 [.var 0,.bi .sset [.call 3 [.var 0]],.bi .sset [.call 4 [.var 0]]])]}
noncomputable def jA:FD:={n:=2,np:=1,body:=[.set 1 false (.call 5 [.var 0]),.ret (.and [.cmp .LtE (.bi .len [.var 1]) (.glb "SMALL_LINES"),.cmp .LtE (.bi .len [.ix (.var 1) (.int 0)]) (.glb "SMALL_LINES")])]}
def jB:FD:={n:=1,np:=1,body:=[.iff (.not (.call 6 [.var 0])) [.rse "TooGreat" (.str "the table has more than five kinds of rows or of columns")] []]}
def cZ:FD:={n:=5,np:=2,body:=[.set 2 true (.lst []),.fo (.one 3) (.rng [.int 1,.bin .LShift (.int 1) (.bi .len [.var 0])]) [.set 4 false (.call 9 [.var 0,.var 3,.var 1]),.iff (.and [.cmp .NotEq (.var 4) (.int 0),.cmp .Eq (.call 10 [.var 0,.var 4,.var 1]) (.var 3)]) [.app 2 (.tup [.var 3,.var 4])] []],.ret (.var 2)]}
noncomputable def jC:FD:={n:=4,np:=3,body:=[.set 3 false (.call 1 [.var 1]),.ret (.bi .sum [.compi (.bin .LShift (.int 1) (.var 0)) (.one 0) (.rng [.bi .len [.ix (.var 0) (.int 0)]]) (.bi .all [.comp (.cmp .Eq (.ix (.ix (.var 1) (.var 0)) (.var 2)) (.var 3)) (.one 0) (.var 1) [none,some 2,some 0,some 3]]) [none,some 3,some 0,some 2]])]}
noncomputable def jD:FD:={n:=4,np:=3,body:=[.set 3 false (.call 1 [.var 1]),.ret (.bi .sum [.compi (.bin .LShift (.int 1) (.var 0)) (.one 0) (.rng [.bi .len [.var 0]]) (.bi .all [.comp (.cmp .Eq (.ix (.ix (.var 1) (.var 2)) (.var 0)) (.var 3)) (.one 0) (.var 1) [none,some 2,some 0,some 3]]) [none,some 3,some 0,some 2]])]}
noncomputable def da:FD:={n:=6,np:=2,body:=[.exp (.call 7 [.var 0]),.set 2 false (.call 8 [.var 0,.var 1]),.set 3 false (.call 13 [.var 0,.var 1,.var 2]),.set 4 false (.int 0),.set 5 true (.call 17 [.var 3,.var 2,.var 4]),.wh (.cmp .Is (.var 5) (.non)) [.aug 4 (.int 1),.set 5 true (.call 17 [.var 3,.var 2,.var 4])],.ret (.var 5)]}
noncomputable def aD:FD:={n:=4,np:=2,body:=[.set 2 false (.bi .len [.call 11 [.var 0,.var 1]]),.iff (.cmp .Eq (.var 2) (.int 0)) [.ret (.non)] [],.set 3 false (.call 8 [.var 0,.var 1]),.ret (.call 18 [.call 13 [.var 0,.var 1,.var 3],.var 3,.bin .Sub (.var 2) (.int 1)])]}
def db:FD:={n:=6,np:=3,body:=[.set 3 true (.lst []),.fo (.many [4,5]) (.enu (.var 0)) [.ext 3 (.compi (.tup [.var 1,.var 0]) (.one 0) (.rng [.bi .len [.var 5]]) (.cmp .Eq (.ix (.var 2) (.var 0)) (.var 3)) [none,some 4,some 5,some 1])],.ret (.srtk (.var 3) ["entry","blocks"] 1 (.bi .len [.call 14 [.var 1,.var 0]]) [2])]}
noncomputable def jE:FD:={n:=2,np:=2,body:=[.ret (.compi (.var 0) (.one 0) (.var 0) (.call 15 [.var 0,.var 1]) [none,some 1])]}
noncomputable def jF:FD:={n:=2,np:=2,body:=[.ret (.cmp .Eq (.bin .BitAnd (.bin .BitAnd (.bin .RShift (.ix (.var 0) (.int 0)) (.ix (.var 1) (.int 0))) (.bin .RShift (.ix (.var 0) (.int 1)) (.ix (.var 1) (.int 1)))) (.int 1)) (.int 1))]}
noncomputable def jG:FD:={n:=2,np:=2,body:=[.ret (.compi (.var 0) (.one 0) (.var 0) (.not (.call 15 [.var 1,.var 0])) [none,some 1])]}
def aE:FD:={n:=5,np:=3,body:=[.iff (.cmp .Eq (.var 0) (.lst [])) [.ret (.lst [])] [],.iff (.cmp .Eq (.var 2) (.int 0)) [.ret (.non)] [],.fo (.one 3) (.call 14 [.var 1,.ix (.var 0) (.int 0)]) [.set 4 false (.call 17 [.call 16 [.var 0,.var 3],.var 1,.bin .Sub (.var 2) (.int 1)]),.iff (.cmp .IsNot (.var 4) (.non)) [.ret (.bin .Add (.lst [.var 3]) (.var 4))] []],.ret (.non)]}
noncomputable def W6:FD:={n:=5,np:=3,body:=[.set 3 false (.ix (.var 0) (.int 0)),.iff (.cmp .Eq (.var 2) (.int 0)) [.rt3 [.ix (.var 3) (.int 0),.ix (.var 3) (.int 1),.lst []]] [],.set 4 false (.call 14 [.var 1,.var 3]),.rt3 [.ix (.var 3) (.int 0),.ix (.var 3) (.int 1),.comp (.call 18 [.call 16 [.var 1,.var 0],.var 2,.bin .Sub (.var 3) (.int 1)]) (.one 0) (.var 4) [none,some 0,some 1,some 2]]]}
noncomputable def xt:FD:={n:=1,np:=1,body:=[.ret (.and [.isi (.var 0) ["int"],.not (.isi (.var 0) ["bool"])])]}
noncomputable def jH:FD:={n:=2,np:=2,body:=[.iff (.cmp .Lt (.var 1) (.bi .len [.var 0])) [.ret (.ix (.var 0) (.var 1))] [],.ret (.int 0)]}
def jI:FD:={n:=5,np:=2,body:=[.set 2 true (.lst []),.set 3 false (.bin .Add (.bin .Mod (.var 0) (.int 2147483647)) (.int 48271)),.fo (.one 4) (.rng [.var 1]) [.set 3 false (.bin .Mod (.bin .Add (.bin .Add (.bin .Mult (.var 3) (.int 48271)) (.bin .Mult (.var 4) (.var 4))) (.int 11)) (.int 2147483647)),.app 2 (.bin .FloorDiv (.var 3) (.int 7))],.ret (.var 2)]}
def W7:FD:={n:=10,np:=3,body:=[.set 3 false (.ix (.lst [.int 4,.int 4,.int 4,.int 4,.int 4,.int 4,.int 4,.int 5]) (.bin .Mod (.ix (.var 2) (.int 0)) (.int 8))),.set 4 false (.bin .Add (.int 1) (.bin .Mod (.ix (.var 2) (.int 1)) (.var 3))),.set 5 false (.bin .Add (.int 1) (.bin .Mod (.ix (.var 2) (.int 2)) (.var 3))),.set 6 false (.ix (.lst [.int 2,.int 3,.int 10,.int 2]) (.bin .Mod (.ix (.var 2) (.int 3)) (.int 4))),.set 7 true (.comp (.bin .Mod (.var 0) (.var 1)) (.one 0) (.call 21 [.call 20 [.var 0,.int 1],.bin .Mult (.var 4) (.var 5)]) [none,some 6]),.fo (.one 8) (.rng [.bi .min [.bin .Mult (.var 4) (.var 5),.bin .Sub (.bi .len [.var 0]) (.var 1)]]) [.seti 7 (.var 8) (.bin .Mod (.ix (.var 0) (.bin .Add (.var 1) (.var 8))) (.var 6))],.set 9 false (.comp (.sl (.var 1) (.bin .Mult (.var 0) (.var 2)) (.bin .Add (.bin .Mult (.var 0) (.var 2)) (.var 2))) (.one 0) (.rng [.var 4]) [none,some 7,some 5]),.iff (.cmp .Eq (.bin .Mod (.ix (.var 2) (.int 4)) (.int 8)) (.int 1)) [.set 9 false (.comp (.comp (.bi .int [.cmp .Eq (.var 1) (.var 0)]) (.one 0) (.rng [.var 1]) [none,some 0]) (.one 0) (.rng [.var 4]) [none,some 5])] [],.iff (.cmp .Eq (.bin .Mod (.ix (.var 2) (.int 4)) (.int 8)) (.int 2)) [.set 9 false (.comp (.comp (.bi .int [.cmp .Lt (.var 1) (.var 0)]) (.one 0) (.rng [.var 1]) [none,some 0]) (.one 0) (.rng [.var 4]) [none,some 5])] [],.iff (.cmp .Eq (.bin .Mod (.ix (.var 2) (.int 4)) (.int 8)) (.int 3)) [.set 9 false (.comp (.comp (.bin .Mod (.ix (.var 1) (.int 5)) (.int 10)) (.one 0) (.rng [.var 1]) [none,some 2]) (.one 0) (.rng [.var 4]) [none,some 5,some 2])] [],.ret (.var 9)]}
def jJ:FD:={n:=7,np:=2,body:=[.set 2 false (.call 21 [.call 20 [.var 0,.int 0],.int 24]),.set 3 false (.call 22 [.var 0,.var 1,.var 2]),.fo (.one 4) (.rng [.bin .Mod (.ix (.var 2) (.int 6)) (.int 5)]) [.iff (.and [.cmp .Lt (.bi .len [.var 3]) (.int 8),.cmp .Eq (.bin .Mod (.ix (.var 2) (.bin .Add (.int 7) (.var 4))) (.int 2)) (.int 0)]) [.set 5 false (.bin .Mod (.ix (.var 2) (.bin .Add (.int 12) (.var 4))) (.bin .Add (.bi .len [.var 3]) (.int 1))),.set 3 false (.bin .Add (.bin .Add (.slt (.var 3) (.var 5)) (.lst [.ix (.var 3) (.bin .Mod (.ix (.var 2) (.bin .Add (.int 17) (.var 4))) (.bi .len [.var 3]))])) (.slf (.var 3) (.var 5)))] [.iff (.cmp .Lt (.bi .len [.ix (.var 3) (.int 0)]) (.int 8)) [.set 5 false (.bin .Mod (.ix (.var 2) (.bin .Add (.int 12) (.var 4))) (.bin .Add (.bi .len [.ix (.var 3) (.int 0)]) (.int 1))),.set 6 false (.bin .Mod (.ix (.var 2) (.bin .Add (.int 17) (.var 4))) (.bi .len [.ix (.var 3) (.int 0)])),.set 3 false (.comp (.bin .Add (.bin .Add (.slt (.var 0) (.var 1)) (.lst [.ix (.var 0) (.var 2)])) (.slf (.var 0) (.var 1))) (.one 0) (.var 3) [none,some 5,some 6])] []]],.ret (.bi .tuple [.comp (.bi .tuple [.var 0]) (.one 0) (.var 3) [none]])]}
def jK:FD:={n:=3,np:=1,body:=[.set 1 false (.int 1),.fo (.one 2) (.rng [.var 0]) [.set 1 false (.bin .Mult (.var 1) (.int 2))],.ret (.var 1)]}
noncomputable def jL:FD:={n:=1,np:=1,body:=[.ret (.compi (.var 0) (.one 0) (.rng [.int 8]) (.cmp .Eq (.bin .BitAnd (.bin .RShift (.var 1) (.var 0)) (.int 1)) (.int 1)) [none,some 0])]}
def jM:FD:={n:=3,np:=1,body:=[.set 1 false (.int 0),.fo (.one 2) (.var 0) [.set 1 false (.bin .Add (.var 1) (.call 24 [.var 2]))],.ret (.var 1)]}
def de:FD:={n:=7,np:=2,body:=[.ses 2,.fo (.one 3) (.rng [.int 1,.call 24 [.bi .len [.var 0]]]) [.set 4 false (.comp (.ix (.var 1) (.var 0)) (.one 0) (.call 25 [.var 3]) [none,some 0]),.set 5 false (.compi (.var 0) (.one 0) (.rng [.bi .len [.ix (.var 0) (.int 0)]]) (.cmp .Eq (.bi .len [.compi (.var 0) (.one 0) (.var 1) (.cmp .NotEq (.ix (.var 0) (.var 1)) (.var 2)) [none,some 0,some 2]]) (.int 0)) [none,some 4,some 1]),.iff (.cmp .NotEq (.var 5) (.lst [])) [.set 6 false (.compi (.var 0) (.one 0) (.rng [.bi .len [.var 0]]) (.cmp .Eq (.bi .len [.compi (.var 0) (.one 0) (.var 1) (.cmp .NotEq (.ix (.ix (.var 1) (.var 2)) (.var 0)) (.var 3)) [none,some 2,some 0,some 3]]) (.int 0)) [none,some 5,some 0,some 1]),.dpt 2 [.call 26 [.var 6],.call 26 [.var 5]] (.bl true)] []],.ret (.srd 2)]}
def jN:FD:={n:=4,np:=2,body:=[.set 2 false (.lst []),.fo (.one 3) (.rng [.bi .len [.var 0]]) [.set 2 false (.bin .Add (.var 2) (.compi (.tup [.var 1,.var 0]) (.one 0) (.rng [.bi .len [.ix (.var 0) (.int 0)]]) (.cmp .Eq (.ix (.ix (.var 2) (.var 1)) (.var 0)) (.var 3)) [none,some 3,some 0,some 1]))],.ret (.var 2)]}
noncomputable def Q9:FD:={n:=3,np:=1,body:=[.set 1 false (.bin .Add (.int 6) (.bin .Mod (.var 0) (.int 3))),.set 2 false (.comp (.comp (.bin .Mod (.bin .RShift (.var 1) (.var 0)) (.int 2)) (.one 0) (.rng [.int 3]) [none,some 0]) (.one 0) (.rng [.var 1]) [none]),.iff (.cmp .Eq (.bin .Mod (.bin .FloorDiv (.var 0) (.int 3)) (.int 2)) (.int 0)) [.set 2 false (.comp (.comp (.bi .int [.cmp .Eq (.var 1) (.var 0)]) (.one 0) (.rng [.var 1]) [none,some 0]) (.one 0) (.rng [.var 1]) [none,some 1])] [],.iff (.cmp .Eq (.bin .Mod (.bin .FloorDiv (.var 0) (.int 6)) (.int 2)) (.int 1)) [.set 2 false (.comp (.comp (.ix (.var 0) (.var 1)) (.one 0) (.var 1) [none,some 0]) (.one 0) (.rng [.bi .len [.ix (.var 2) (.int 0)]]) [none,some 2])] [],.ret (.bi .tuple [.comp (.bi .tuple [.var 0]) (.one 0) (.var 2) [none]])]}
noncomputable def jO:FD:={n:=5,np:=3,body:=[.set 3 false (.non),.tryc [.iff (.var 2) [.exp (.call 12 [.var 0,.var 1])] [.exp (.call 11 [.var 0,.var 1])]] "TalkError" 4 3,.iff (.or [.cmp .Is (.var 3) (.non),.not (.isx (.var 3) "TooGreat"),.not (.isx (.var 3) "ValueError")]) [.ret (.bl false)] [],.ret (.and [.not (.isx (.var 3) "NoTable"),.not (.isx (.var 3) "NoCard")])]}
noncomputable def jP:FD:={n:=2,np:=2,body:=[.ret (.and [.cmp .Eq (.bin .BitAnd (.bin .RShift (.ix (.var 0) (.int 0)) (.ix (.var 1) (.int 0))) (.int 1)) (.int 1),.cmp .Eq (.bin .BitAnd (.bin .RShift (.ix (.var 0) (.int 1)) (.ix (.var 1) (.int 1))) (.int 1)) (.int 1)])]}
noncomputable def jQ:FD:={n:=2,np:=2,body:=[.ret (.compi (.var 0) (.one 0) (.var 0) (.cmp .Eq (.bi .len [.compi (.var 0) (.one 0) (.var 1) (.call 31 [.var 0,.var 1]) [none,some 0]]) (.int 0)) [none,some 1])]}
def jR:FD:={n:=4,np:=3,body:=[.iff (.not (.isi (.var 0) ["list"])) [.ret (.bl false)] [],.fo (.one 3) (.var 0) [.iff (.or [.not (.isi (.var 3) ["tuple"]),.cmp .NotEq (.bi .len [.var 3]) (.int 2),.cmp .NotIn (.var 3) (.var 1)]) [.ret (.bl false)] [],.iff (.or [.not (.call 19 [.ix (.var 3) (.int 0)]),.not (.call 19 [.ix (.var 3) (.int 1)])]) [.ret (.bl false)] []],.ret (.cmp .Eq (.call 32 [.var 2,.var 0]) (.lst []))]}
def df:FD:={n:=7,np:=4,body:=[.iff (.or [.not (.isi (.var 0) ["tuple"]),.cmp .NotEq (.bi .len [.var 0]) (.int 3),.not (.isi (.ix (.var 0) (.int 2)) ["list"])]) [.ret (.bl false)] [],.iff (.or [.not (.call 19 [.ix (.var 0) (.int 0)]),.not (.call 19 [.ix (.var 0) (.int 1)]),.cmp .NotIn (.slt (.var 0) (.int 2)) (.var 2)]) [.ret (.bl false)] [],.iff (.cmp .Eq (.var 3) (.int 0)) [.ret (.cmp .Eq (.ix (.var 0) (.int 2)) (.lst []))] [],.set 4 false (.compi (.var 0) (.one 0) (.var 1) (.call 31 [.var 0,.var 1]) [none,some 0]),.iff (.cmp .NotEq (.bi .len [.ix (.var 0) (.int 2)]) (.bi .len [.var 4])) [.ret (.bl false)] [],.fo (.many [5,6]) (.zp (.var 4) (.ix (.var 0) (.int 2))) [.iff (.not (.call 34 [.var 6,.var 1,.compi (.var 0) (.one 0) (.var 2) (.not (.call 31 [.var 1,.var 0])) [none,some 5],.bin .Sub (.var 3) (.int 1)])) [.ret (.bl false)] []],.ret (.bl true)]}
noncomputable def dg:FD:={n:=1,np:=1,body:=[.rt3 [.ix (.var 0) (.int 0),.ix (.var 0) (.int 1),.comp (.call 35 [.var 0]) (.one 0) (.ix (.var 0) (.int 2)) [none]]]}
noncomputable def dh:FD:={n:=7,np:=2,body:=[.set 2 false (.call 27 [.var 0,.var 1]),.set 3 false (.call 28 [.var 0,.var 1]),.set 4 true (.call 11 [.var 0,.var 1]),.set 5 true (.call 12 [.var 0,.var 1]),.iff (.cmp .Eq (.var 3) (.lst [])) [.ret (.and [.cmp .Eq (.var 4) (.lst []),.cmp .Is (.var 5) (.non)])] [],.iff (.or [.not (.call 33 [.var 4,.var 2,.var 3]),.not (.call 34 [.var 5,.var 2,.var 3,.bin .Sub (.bi .len [.var 4]) (.int 1)])]) [.ret (.bl false)] [],.hld 6 5 35 (.bi .list [.var 4]),.app 4 (.int 0),.app2 5 (.int 0),.ret (.cmp .Eq (.lst [.call 11 [.var 0,.var 1],.call 12 [.var 0,.var 1]]) (.var 6))]}
noncomputable def aF:FD:={n:=5,np:=1,body:=[.set 1 false (.call 23 [.var 0,.int 2]),.set 2 false (.ix (.var 1) (.bin .Mod (.bin .FloorDiv (.call 20 [.var 0,.int 0]) (.int 7)) (.bi .len [.var 1]))),.set 3 false (.ix (.var 2) (.bin .Mod (.bin .FloorDiv (.call 20 [.var 0,.int 1]) (.int 7)) (.bi .len [.var 2]))),.iff (.or [.not (.call 36 [.var 1,.var 3]),.not (.call 36 [.var 1,.bin .Mod (.bin .Add (.var 3) (.int 1)) (.int 10)])]) [.ret (.bl false)] [],.set 4 false (.call 29 [.call 20 [.var 0,.int 1]]),.ret (.and [.call 30 [.var 4,.int 1,.bl false],.call 30 [.var 4,.int 7,.bl true]])]}
def T:ge FD:=[ju,jv,jw,jx,jy,jz,jA,jB,cZ,jC,jD,da,aD,db,jE,jF,jG,aE,W6,xt,jH,jI,W7,jJ,jK,jL,jM,de,jN,Q9,jO,jP,jQ,jR,df,dg,dh,aF]
noncomputable def fnl:ge Str:="flipped" :: "cards_in" :: "crossing" :: "row_kinds" :: "column_kinds" :: "trimmed" :: "is_small" :: "check_small" :: "widest" :: "columns_with" :: "rows_with" :: "fewest_cover" :: "cover_paper" :: "entries_by_choice" :: "blocks_with" :: "contains" :: "left_bare" :: "cover_within" :: "case_for" :: "_law_int" :: "_law_cell_at" :: "_law_stream" :: "_law_core" :: "_law_table" :: "_law_power" :: "_law_cards" :: "_law_set" :: "_law_all_widest" :: "_law_entries" :: "_law_great" :: "_law_refused" :: "_law_has" :: "_law_bare" :: "_law_covers" :: "_law_case" :: "_law_copy" :: "_law_word" :: "law" :: []
noncomputable def bll:ge Str:="tuple" :: "range" :: "len" :: "sorted" :: "set" :: "sum" :: "all" :: "enumerate" :: "isinstance" :: "int" :: "bool" :: "min" :: "ValueError" :: "list" :: "zip" :: []
noncomputable def cll:ge Str:="TalkError" :: "NoTable" :: "NoCard" :: "TooGreat" :: []
def G:Gs:={con:=[("SMALL_LINES",.int 5)],cls:=[("TalkError",["ValueError","Exception","BaseException","object"]),("NoTable",["TalkError","ValueError","Exception","BaseException","object"]),("NoCard",["TalkError","ValueError","Exception","BaseException","object"]),("TooGreat",["TalkError","ValueError","Exception","BaseException","object"])],fnl:=fnl,bll:=bll,cll:=cll}
end k33
namespace k33
open PySem L2
theorem aG(a:ge Int)(j:Nat):∃v:Int,run G T fu (k+1) 20 [.scr a,.int j]=some (.v (.int v) false):=by
 rw[m7 rfl rfl];unfold jH;by_cases h:j<a.length
 ·refine⟨a[j],o4 (L8 (i0 (cl:=.strong) ?_) (k7 ?_))⟩
  ·simp[evE,evEs,A4,O5,j0,biOk,biD,lenD,cmpD,h]
  ·simp[evS,evE,A4,j0,ixD,A9,h,Re.thnS,frD,retD,Cl.item]
 ·refine⟨0,o4 (p5 (i0 (cl:=.strong) ?_) (k7 rfl))⟩;simp[evE,evEs,A4,O5,j0,biOk,biD,lenD,cmpD];omega
theorem xu(xs:ge Int)(v:Int):xs.map DV.int++[.int v]=(xs++[v]).map DV.int:=by rw[List.map_append];rfl
theorem L0{n:Nat}(h:evE G F e δ=some (.ok (.int n) cl))(hn:n<=1000):q5 (evE G F (.rng [e]) δ)=some (.ok (upTo 0 n) .fresh):=by
 show q5 (Rs.thn _ _)=_;rw[e9 h j5,O5];have hs:(B3 (n:Int)&&decide ((n:Int)<=(k9:Int)))=true:=by rw[d8,decide_eq_true_iff];refine⟨?_,Int.le_trans (show(n:Int)<=1000 by omega) (by decide)⟩;unfold B3;rw[d8,decide_eq_true_iff,decide_eq_true_iff];exact⟨Int.le_trans (by decide) (y9 n),Int.lt_of_le_of_lt (show(n:Int)<=1000 by omega) (by decide)⟩
 show q5 ((if B3 (n:Int)&&decide ((n:Int)<=(k9:Int))then some (upTo 0 (n:Int).toNat)else none).map λ a=>.ok _ .fresh)=_;rw[d6 hs,z0];rfl
theorem xv{j:Nat}(hj:j<1000):D7 (j:Int) (j:Int)=true:=by unfold D7;simp;omega
theorem m48(x:Int):D7 x 48271=true:=by unfold D7;simp
theorem jS(c:Int)(n:Nat)(l:n<=1000):∃b:ge Int,b.length=n/\run G T fu (k+1) 21 [.int c,.int n]=some (.v (.lst (b.map DV.int)) true):=by
 rw[m7 rfl rfl];obtain⟨m,r,b,e,z,f,rfl⟩:=L9 (i:=4) (I:=λ j h=>∃(b:ge Int) (e:Int) (z:Sv),b.length=j/\h=[.val (.int c),.val (.int n),.own (.lst (b.map DV.int)),.val (.int e),z])
  (body:=λ g=>evSs G _ fu [.set 3 false (.bin .Mod (.bin .Add (.bin .Add (.bin .Mult (.var 3) (.int 48271)) (.bin .Mult (.var 4) (.var 4))) (.int 11)) (.int 2147483647)),.app 2 (.bin .FloorDiv (.var 3) (.int 7))] g) n 0
  (λ j o h I=>by
   obtain⟨b,e,z,f,rfl⟩:=I;rw[show(0:Int)+_=j by omega];obtain⟨N,p⟩:∃N:Int,(e*48271+(j:Int)*j+11)%2147483647=N:=⟨_,rfl⟩;obtain⟨D,q⟩:∃D:Int,N/7=D:=⟨_,rfl⟩;refine⟨_,f8 (j3 (d:=.int N) (cl:=.strong) ?_ rfl) (f8 (bC (d:=.int D) (cl:=.strong) rfl ?_ rfl (by rw[e7,f];exact p6 (p6 o l) (by decide))) rfl),b++[D],N,.val (.int j),by rw[v0,f];rfl,?_⟩
   ·rw[←p];exact y6 (E3 (E3 (M0 (d5 rfl) g8 (m48 _)) (M0 (d5 rfl) (d5 rfl) (xv (by omega)))) g8) g8 (by decide)
   ·rw[←q];exact U1 (d5 rfl) g8 (by decide)
   ·rw[←xu];rfl) ⟨[],_,.no,rfl,rfl⟩
 refine⟨b,f,?_⟩;unfold jI;exact o4 (f8 (O7 rfl) (f8 (j3 (E3 (y6 (d5 rfl) g8 (by decide)) g8) rfl) (E2 (L0 (n:=n) (d5 rfl) l) (.inr rfl) r (k7 rfl))))
theorem jT(n:Nat)(e:n<=1000):run G T fu (k+1) 24 [.int n]=some (.v (.int ((2^n:Nat):Int)) false):=by
 rw[m7 rfl rfl];obtain⟨c,f,z,rfl⟩:=L9 (i:=2) (I:=λ j b=>∃z:Sv,b=[.val (.int n),.val (.int ((2^j:Nat):Int)),z])
  (body:=λ a=>evSs G _ fu [.set 1 false (.bin .Mult (.var 1) _)] a) n 0
  (λ j hj b I=>by
   obtain⟨z,rfl⟩:=I;refine⟨_,f8 (j3 (cl:=.strong) ?_ rfl) rfl,_,rfl⟩;rw[show((2^(j+1):Nat):Int)=_*2 by rw[Nat.pow_succ];push_cast;rfl];exact M0 (d5 rfl) g8 (by unfold D7;simp)) ⟨.no,rfl⟩
 unfold jK;exact o4 (f8 (j3 rfl rfl) (E2 (L0 (d5 rfl) e) (.inr rfl) f (k7 (p8 (d5 rfl)))))
theorem W8(h:evE G F e δ=some (.ok (.lst ds) c)):evE G F (.bi .tuple [e]) δ=some (.ok (.tup ds) c.item):=by
 show Rs.thn _ _=_;rw[e9 h j5];rfl
theorem E8(h:evE G F e δ=some (.ok (.lst ds) c)):evE G F (.bi .len [e]) δ=some (.ok (.int ds.length) .strong):=by
 show Rs.thn _ _=_;rw[e9 h j5];rfl
theorem N0(h:evE G F e δ=some (.ok (.tup ds) c)):evE G F (.bi .len [e]) δ=some (.ok (.int ds.length) .strong):=by
 show Rs.thn _ _=_;rw[e9 h j5];rfl
noncomputable def iD(r:ge Int):ge DV:=r.map DV.int
def tT(rows:ge (ge Int)):DV:=.tup (rows.map λ r=>.tup (iD r))
def Rect(n m:Nat)(rows:ge (ge Int)):Prop:=rows.length=n/\∀r∈rows,r.length=m
theorem R0{j:Nat}(h:j<r.length):ixD (.tup (iD r)) (.int j)=some (.int (r.getD j 0)):=by
 have a:(j:Int)<((r.map DV.int).length:Int):=by rw[e7];exact_mod_cast h
 unfold iD;simp only[ixD,atD,A9,d6 (y9 j),d6 a,Option.bind_some,z0,u4,j8 h,Option.map_some,u8,Option.getD_some]
theorem jU{j:Nat}(h:j<r.length):ixD (.lst (iD r)) (.int j)=some (.int (r.getD j 0)):=by
 have a:(j:Int)<((r.map DV.int).length:Int):=by rw[e7];exact_mod_cast h
 unfold iD;simp only[ixD,atD,A9,d6 (y9 j),d6 a,Option.bind_some,z0,u4,j8 h,Option.map_some,u8,Option.getD_some]
theorem N1{i:Nat}(h:i<rows.length):ixD (tT rows) (.int i)=some (.tup (iD (rows.getD i []))):=by
 have a:(i:Int)<((rows.map λ r=>DV.tup (iD r)).length:Int):=by rw[e7];exact_mod_cast h
 simp only[tT,ixD,atD,A9,d6 (y9 i),d6 a,Option.bind_some,z0,u4,j8 h,Option.map_some,u8,Option.getD_some]
theorem D3{rows:ge (ge Int)}(h:i<rows.length):rows.getD i []∈rows:=by
 rw[u8,j8 h];exact List.getElem_mem h
theorem jV(n:Nat):∀r:ge Int,DV.plains n (iD r)=true
 | []=>by unfold iD;simp[DV.plains]
 | a::r=>by have q:=jV n r;unfold iD at q ⊢;rw[u0];unfold DV.plains;rw[q];cases n<;>rfl
theorem xw(b:q5 (evE G F it δ)=some (.ok ds cl))(hc:cl ≠ .weak)(hl:ds.length<=k9)
  (h:∀d∈ds,∃a c,tg.bind d (z7 fr δ)=some a/\evE G F elt a=some (.ok (f d) c)/\stro (f d) c=true):evE G F (.comp elt tg it fr) δ=some (.ok (.lst (ds.map f)) .fresh):=by
 show Ri.thn _ _=_;rw[b,U0,d9 (by grind),bA (λ d e=>?_)]
 ·rfl
 ·obtain⟨a,c,j,i,g⟩:=h d e;rw[j,Option.bind_some,i];show(if stro (f d) c then some _ else none)=_;rw[d6 g]
theorem xx(h:evE G F e δ=some (.ok (.int i) cl))(a:i<=1000)(b : -1000<=i):q5 (evE G F (.rng [e]) δ)=some (.ok (upTo 0 i.toNat) .fresh):=by
 show q5 (Rs.thn _ _)=_;rw[e9 h j5,O5];have hs:(B3 i&&decide (i<=(k9:Int)))=true:=by rw[d8,decide_eq_true_iff];refine⟨?_,Int.le_trans a (by decide)⟩;unfold B3;rw[d8,decide_eq_true_iff,decide_eq_true_iff];exact⟨Int.le_trans (by decide) b,Int.lt_of_le_of_lt a (by decide)⟩
 show q5 ((if B3 i&&decide _ then some _ else none).map λ ds=>.ok _ .fresh)=_;rw[d6 hs];rfl
noncomputable def L3(n m:Nat)(ws:ge Int):ge (ge Int):=(List.range n).map λ j=>(ws.drop (j*m)).take m
theorem xy(h:ws.length=n*m):Rect n m (L3 n m ws):=by
 unfold L3;refine⟨by rw[e7,p4],λ r a=>?_⟩;obtain⟨j,b,rfl⟩:=k8.mp a;rw[List.length_take,List.length_drop,h];have:(j+1)*m<=n*m:=Nat.mul_le_mul_right m (k6.mp b);rw[Nat.add_mul,Nat.one_mul]at this;omega
theorem xz(g:evE G F a δ=some (.ok (.lst ds) c))(e:evE G F b δ=some (.ok (.int l) c1))(f:evE G F d δ=some (.ok (.int h) c2)):evE G F (.sl a b d) δ=some (.ok (.lst (cutD ds (some l) (some h))) (Cl.anew c c)):=by
 unfold evE;rw[g,A4,e,A4];show Re.thn _ _=_;rw[f];rfl
theorem xA{m:Nat}(h:ws.length=n*m)(b:j<n):cutD (iD ws) (some ((j:Int)*m)) (some ((j:Int)*m+m))=iD ((ws.drop (j*m)).take m):=by
 have d:((j:Int)*m)=((j*m:Nat):Int):=by push_cast;rfl
 have c:((j:Int)*m+m)=((j*m+m:Nat):Int):=by push_cast;rfl
 have a:=(by have:(j+1)*m<=n*m:=Nat.mul_le_mul_right m b;rw[Nat.add_mul,Nat.one_mul]at this;exact this);have len:(iD ws).length=n*m:=by unfold iD;rw[e7,h]
 unfold cutD slIx;rw[c,d];simp only[len];rw[d9 (by omega),d9 (by omega),z0,z0,Nat.min_eq_left a,Nat.min_eq_left (by omega),show j*m+m - j*m=m by omega];unfold iD;rw[←List.map_drop,←List.map_take]
theorem jW(h:j<n):A9 n (j:Int)=some j:=by
 unfold A9;rw[d6 (y9 j),d6 (by omega),z0]
theorem xC{es:ge ME}(h:evEs G F es δ=some (.ok l)):evE G F (.bi .min es) δ=minD l:=by
 have e:evE G F (.bi .min es) δ=Rs.thn _ _:=rfl;rw[e,h];rfl
theorem G1{es:ge ME}(h:evEs G F es δ=some (.ok l))(a:l.length<=k9)(hs:stros l=true):evE G F (.lst es) δ=some (.ok (.lst (l.map (·.1))) .fresh):=by
 have e:evE G F (.lst es) δ=Rs.thn _ _:=rfl;rw[e,h,O5,d6 a,hs];rfl
noncomputable def nD(l:ge Nat):ge DV:=l.map λ (j:Nat)=>DV.int (j:Int)
theorem jX:∀a b:ge Int,deqs (iD a) (iD b)=(a==b)
 | [],[]=>rfl
 | [],_::_=>rfl
 | _::_,[]=>rfl
 | x::a,y::b=>by have c:=jX a b;unfold iD at c ⊢;rw[u0,u0];unfold deqs;rw[c];unfold deq;rfl
theorem xD(a b:ge Int):deq (.tup (iD a)) (.tup (iD b))=(a==b):=jX a b
theorem G2:∀{l:ge DV},(∀d∈l,d.plain n=true)->DV.plains n l=true
 | [],_=>by unfold DV.plains;rfl
 | d::r,h=>by unfold DV.plains;rw[h d (i9 ..),G2 λ x a=>h x (i8 _ a)];rfl
theorem jY(n:Nat)(a:ge Int):DV.plain (n+1) (.tup (iD a))=true:=jV n a
theorem di(n:Nat)(a:Int):DV.plain n (.int a)=true:=by cases n<;>(unfold DV.plain;rfl)
theorem jZ{b:Type}{h f:b->DV}:∀{l:ge b},(∀a∈l,g (h a)=some (.item (f a)))->x6 g (l.map h)=some (l.map f)
 | [],_=>rfl
 | a::r,q=>by rw[u0,u0];unfold x6;rw[q a (i9 ..)];show(match x6 g _ with | none=>none | some xs=>some _)=_;rw[jZ λ x c=>q x (i8 _ c)]
theorem C2{d:Type}{l:ge d}{h f:d->DV}(e:q5 (evE G F it δ)=some (.ok (l.map h) cl))(hc:cl ≠ .weak)(hl:l.length<=k9)
  (q:∀a∈l,∃b c,tg.bind (h a) (z7 fr δ)=some b/\evE G F elt b=some (.ok (f a) c)/\stro (f a) c=true):evE G F (.comp elt tg it fr) δ=some (.ok (.lst (l.map f)) .fresh):=by
 show Ri.thn _ _=_;rw[e,U0,d9 (by grind),jZ (λ a g=>?_)]
 ·rfl
 ·obtain⟨b,c,k,j,i⟩:=q a g;rw[k,Option.bind_some,j];show(if stro (f a) c then some _ else none)=_;rw[d6 i]
theorem J0{n:Nat}(h:evE G F e δ=some (.ok (.int (n:Int)) c))(a:n<=1000):q5 (evE G F (.rng [e]) δ)=some (.ok ((List.range n).map λ (j:Nat)=>DV.int (j:Int)) .fresh):=by
 rw[L0 h a];unfold L2.upTo
 congr 2
 apply List.map_congr_left;intro j _
 congr 1
 omega
theorem ka(n:Nat):upTo 0 n=nD (List.range n):=by
 unfold L2.upTo nD;apply List.map_congr_left;intro j _;rw[Int.zero_add]
theorem aH(a b:Int):cmpD .NotEq (.int a) (.int b)=some (!(a==b)):=rfl
section
theorem N2{G:Gs}{F:Nat->ge DV->on Ou}{δ:ge Sv}{a b:ME}{r:ge ME}{cx:Cl}{o:on Re}(ha:evE G F a δ=some (.ok (.bl true) cx))(hb:evE G F (.and (b::r)) δ=o):evE G F (.and (a::b::r)) δ=o:=by
 have e:evE G F (.and (a::b::r)) δ=Re.thn (evE G F a δ) (λ x c=>andD x c (D9 G F (b::r) δ)):=(by rw[evE,D9];rfl);have e2:evE G F (.and (b::r)) δ=D9 G F (b::r) δ:=by rw[evE]
 rw[e,ha,A4,←e2,hb];rfl
theorem aI{G:Gs}{F:Nat->ge DV->on Ou}{δ:ge Sv}{a b:ME}{r:ge ME}{cx:Cl}(ha:evE G F a δ=some (.ok (.bl false) cx)):evE G F (.and (a::b::r)) δ=some (.ok (.bl false) cx):=by
 have e:evE G F (.and (a::b::r)) δ=Re.thn (evE G F a δ) (λ x c=>andD x c (D9 G F (b::r) δ)):=(by rw[evE,D9];rfl);rw[e,ha,A4];rfl
theorem N3{G:Gs}{F:Nat->ge DV->on Ou}{δ:ge Sv}{a:ME}{o:on Re}(ha:evE G F a δ=o):evE G F (.and [a]) δ=o:=by
 have e:evE G F (.and [a]) δ=evE G F a δ:=by rw[evE,D9];rfl
 rw[e,ha]
theorem R4(c:tg.bind d δ=some δ1)(b:body δ1=some (.nx a)):u7 tg body (d::r) δ=u7 tg body r a:=by
 show(match tg.bind d δ with | none=>none | some δ1=>match body δ1 with | some (.nx a)=>u7 tg body r a | o=>o)=_;rw[c];show(match body δ1 with | some (.nx a)=>u7 tg body r a | o=>o)=_;rw[b]
theorem xF(b:tg.bind d δ=some δ1)(a:body δ1=some (.rt v fr)):u7 tg body (d::r) δ=some (.rt v fr):=by
 show(match tg.bind d δ with | none=>none | some δ1=>match body δ1 with | some (.nx δ2)=>u7 tg body r δ2 | o=>o)=_;rw[b];show(match body δ1 with | some (.nx δ2)=>u7 tg body r δ2 | o=>o)=_;rw[a]
theorem xG{G:Gs}{F:Nat->ge DV->on Ou}{δ:ge Sv}{fu:Nat}{tg:Tg}{it:ME}{ds:ge DV}{cl:Cl}{body r:ge MS}{d:DV}{fr:Bool}(hw:q5 (evE G F it δ)=some (.ok ds cl))(hc:cl=.strong\/cl=.fresh)(h:u7 tg (λ δ'=>evSs G F fu body δ') ds δ=some (.rt d fr)):evSs G F fu (.fo tg it body::r) δ=some (.rt d fr):=by
 refine k7 ?_;have e:evS G F fu (.fo tg it body) δ=Ri.thnS δ (q5 (evE G F it δ)) (λ ds c=>if c=.strong\/c=.fresh then u7 tg (λ δ'=>evSs G F fu body δ') ds δ else none):=by rw[evS]
 rw[e,hw,qd,d6 hc,h]
theorem or_f{G:Gs}{F:Nat->ge DV->on Ou}{δ:ge Sv}{a b:ME}{r:ge ME}{cx:Cl}{o:on Re}(ha:evE G F a δ=some (.ok (.bl false) cx))(hb:evE G F (.or (b::r)) δ=o):evE G F (.or (a::b::r)) δ=o:=by
 unfold evE at hb ⊢;unfold evOr;rw[ha];exact hb
theorem or_1{G:Gs}{F:Nat->ge DV->on Ou}{δ:ge Sv}{a:ME}{o:on Re}(ha:evE G F a δ=o):evE G F (.or [a]) δ=o:=by
 unfold evE evOr;exact ha
end
theorem kb{i:Type}{h f:i->DV}{p:i->Bool}:∀{l:ge i},(∀a∈l,g (h a)=some (if p a then .item (f a)else .skip))->x6 g (l.map h)=some ((l.filter p).map f)
 | [],_=>rfl
 | a::l,q=>by
  have d:=q a (i9 ..);have j:=kb (g:=g) (h:=h) (f:=f) (p:=p) (l:=l) λ b k=>q b (i8 _ k);cases e:p a with
  | true=>
   rw[e]at d;show(match g (h a)with | none=>none | some .skip=>x6 g _ | some (.item x)=>match x6 g (l.map h)with | none=>none | some c=>some (x::c))=_;rw[d,List.filter_cons_of_pos e,u0];show(match x6 g (l.map h)with | none=>none | some c=>some (f a::c))=_;rw[j]
  | false=>
   rw[e]at d;show(match g (h a)with | none=>none | some .skip=>x6 g (l.map h) | some (.item x)=>match x6 g (l.map h)with | none=>none | some c=>some (x::c))=_;rw[d,List.filter_cons_of_neg (by rw[e];simp)];exact j
theorem C5{d:Type}{l:ge d}{h f:d->DV}{p:d->Bool}(e:q5 (evE G F it δ)=some (.ok (l.map h) cl))(hc:cl ≠ .weak)(hl:l.length<=k9)
  (q:∀a∈l,∃b,tg.bind (h a) (z7 fr δ)=some b/\tstD (evE G F cd b)=some (.ok (p a))/\∃c,evE G F elt b=some (.ok (f a) c)/\stro (f a) c=true):evE G F (.compi elt tg it cd fr) δ=some (.ok (.lst ((l.filter p).map f)) .fresh):=by
 show Ri.thn _ _=_;rw[e,U0,d9 (by grind),kb (λ a g=>?_)]
 ·rfl
 ·obtain⟨b,m,k,c,j,i⟩:=q a g;rw[m,Option.bind_some,k,j];cases p a with
  | false=>rfl
  | true=>
   show(if stro (f a) c then some _ else none)=_;rw[d6 i];rfl
theorem dl(r o:Nat):Builtin.bitAnd r o=((r &&& o:Nat):Int):=by
 unfold Builtin.bitAnd;rw[decide_eq_true (y9 r),decide_eq_true (y9 o)];rfl
theorem dm(o i:Nat):Builtin.bitAnd ((o:Int)/2^((i:Int).toNat)) 1=if o.testBit i then 1 else 0:=by
 have e:(o:Int)/2^((i:Int).toNat)=((o/2^i:Nat):Int):=(by rfl);rw[e,show(1:Int)=((1:Nat):Int)from rfl,dl,Nat.and_one_is_mod,Nat.testBit_eq_decide_div_mod_eq];have:o/2^i%2=0\/o/2^i%2=1:=by omega
 rcases this with h | h<;>rw[h]<;>rfl
noncomputable def cs(c:Nat):ge Nat:=(List.range (c.log2+1)).filter c.testBit
theorem ke(c:Nat)(h0:0<c)(h:c<2^64):run G T fu (k+1) 1 [.int c]=some (.v (.lst (nD (cs c))) true):=by
 rw[m7 rfl rfl];have l:O3 (c:Int)=((c.log2+1:Nat):Int):=by unfold O3;rw[d9 (by omega),Int.natAbs_natCast];rfl
 have hl:=(Nat.log2_lt (by omega)).mpr h;have e:evE G (run G T fu k) (.meth .bitLength (.var 0) []) (j0 1 [.int c])=some (.ok (.int ((c.log2+1:Nat):Int)) .strong):=(by rw[←l];rfl);have a:=qp (elt:=.var 0) (tg:=.one 0) (fr:=[none,some 0]) (p:=λ d=>match d with | .int i=>c.testBit i.toNat | _=>false)
  (L0 e (by omega)) (by decide) (by unfold L2.upTo;rw[e7,p4];exact g9 (show c.log2+1<=64 by omega) (by decide)) (λ d g=>by
   obtain⟨j,hj,rfl⟩:=fA g;rw[show(0:Int)+_=j by omega];refine⟨[.val _,.val _],rfl,?_,rfl⟩;have m:evE G (run G T fu k) (.bin .BitAnd (.bin .RShift (.var 1) (.var 0)) (.int 1)) [.val (.int j),.val (.int c)]=some (.ok (.int (if c.testBit j then 1 else 0)) .strong):=B5 (B5 (d5 rfl) (d5 rfl) (show(if 0<=(j:Int)then some (Re.ok (.int ((c:Int)/2^((j:Int).toNat))) Cl.strong)else none)=_ from d6 (y9 j))) g8 (by rw[←dm];rfl);have b:∀t:Bool,tstD (some (Re.ok (DV.int (if t=true then 1 else 0)) Cl.strong))=some (Rt.ok t):=λ t=>by cases t<;>rfl
   rw[m];refine(b _).trans ?_;show _=some (Rt.ok (c.testBit (j:Int).toNat));rw[z0])
 have f:(upTo 0 (c.log2+1)).filter (λ d=>match d with | .int i=>c.testBit i.toNat | _=>false)=nD (cs c):=by
  unfold L2.upTo nD cs;rw[List.filter_map];have:((λ d=>match d with | DV.int i=>c.testBit i.toNat | _=>false) ∘ λ (i:Nat)=>DV.int (0+(i:Int)))=c.testBit:=by
   funext j
   show c.testBit ((0:Int)+(j:Int)).toNat=_;rw[show((0:Int)+(j:Int)).toNat=j by omega]
  rw[this];apply List.map_congr_left;intro j _;show DV.int _=DV.int _
  congr 1
  omega
 rw[f]at a;unfold jv;exact o4 (k7 (p8 a))
theorem W9(h:c<2^n)(a:j∈cs c):j<n:=by
 unfold cs at a;rw[j6]at a;by_cases q:j<n
 ·exact q
 ·have z:=Nat.testBit_lt_two_pow (p6 h (Nat.pow_le_pow_right (by decide) (show n<=j by omega)));rw[z]at a;cases a.2
theorem dq(h0:0<c)(h:c<2^64):(cs c).length<=1000:=by
 have hl:=(Nat.log2_lt (by omega)).mpr h;unfold cs;exact g9 (List.length_filter_le _ _) (by rw[p4];omega)
theorem dr(a0:0<a)(h:a<2^n):cs a=(List.range n).filter a.testBit:=by
 unfold cs
 have hl:=(Nat.log2_lt (by omega)).mpr h
 obtain⟨d,rfl⟩:∃d,n=a.log2+1+d:=⟨n - (a.log2+1),by omega⟩
 conv=>rhs;rw[List.range_add,List.filter_append]
 have:((List.range d).map (λ x=>a.log2+1+x)).filter a.testBit=[]:=by
  rw[List.filter_eq_nil_iff]
  intro j b
  obtain⟨x,_,rfl⟩:=k8.mp b
  rw[Nat.testBit_lt_two_pow (p6 Nat.lt_log2_self (Nat.pow_le_pow_right (by decide) (Nat.le_add_right _ _)))]
  exact y8
 rw[this,List.append_nil]
theorem xH(r:ge Int):(iD r).length=r.length:=by unfold iD;rw[e7]
theorem dt(R:Rect n m rows)(hn:0<n)(h:evE G F x δ=some (.ok (tT rows) c)):evE G F (.bi .len [.ix x (.int 0)]) δ=some (.ok (.int (m:Nat)) .strong):=by
 have a:0<rows.length:=by rwa [R.1]
 have q:=N0 (w5 h g8 (N1 a));rw[xH,R.2 _ (D3 a)]at q;exact q
theorem R5(R:Rect n m rows)(h:evE G F x δ=some (.ok (tT rows) c)):evE G F (.bi .len [x]) δ=some (.ok (.int (n:Nat)) .strong):=by
 have q:=N0 h;rw[e7,R.1]at q;exact q
noncomputable def bs(l:ge Nat):Nat:=(l.map λ c=>2^c).sum
theorem xI(a b:ge Nat):bs (a++b)=bs a+bs b:=by unfold bs;rw[List.map_append,List.sum_append]
theorem bs_f(p:Nat->Bool):∀n,bs ((List.range n).filter p)<2^n/\∀j,(bs ((List.range n).filter p)).testBit j=(decide (j<n)&&p j)
 | 0=>⟨by simp[bs],λ j=>by simp[bs]⟩
 | n+1=>by
  obtain⟨h1,b⟩:=bs_f p n;rw[List.range_succ,List.filter_append,xI];by_cases a:p n=true
  ·have e:bs ([n].filter p)=2^n:=by simp[bs,a]
   rw[e];refine⟨by rw[Nat.pow_succ];omega,λ j=>?_⟩;rw[Nat.add_comm];rcases Nat.lt_trichotomy j n with h | h | h
   ·rw[Nat.testBit_two_pow_add_gt h,b j];simp[show j<n by omega,show j<n+1 by omega]
   ·subst h;rw[Nat.testBit_two_pow_add_eq,b j];simp[a]
   ·have:2^n+bs ((List.range n).filter p)<2^j:=by
     refine p6 (by omega) (Nat.pow_le_pow_right (by decide) h)
    rw[Nat.testBit_lt_two_pow this];simp[show ¬j<n+1 by omega]
  ·have e:bs ([n].filter p)=0:=by simp[bs,a]
   rw[e];refine⟨by rw[Nat.pow_succ];omega,λ j=>?_⟩;rw[Nat.add_zero,b j];rcases Nat.lt_trichotomy j n with h | h | h
   ·simp[show j<n by omega,show j<n+1 by omega]
   ·subst h;simp[a]
   ·simp[show ¬j<n by omega,show ¬j<n+1 by omega]
theorem aJ:bs l=0↔l=[]:=by
 cases l with
 | nil=>simp[bs]
 | cons a l=>
  have:0<2^a:=Nat.pow_pos (by decide);simp only[bs,u0,List.sum_cons];constructor
  ·intro h;omega
  ·intro h;cases h
theorem kf(h:(List.range n).filter p≠[]):cs (bs ((List.range n).filter p))=(List.range n).filter p:=by
 rw[dr (Nat.pos_of_ne_zero λ z=>h (aJ.mp z)) (bs_f p n).1];apply List.filter_congr;intro j a;rw[(bs_f p n).2 j,decide_eq_true (k6.mp a),Bool.true_and]
theorem xJ(b:0<S)(h:S<2^n):bs (cs S)=S:=by
 rw[dr b h];apply Nat.eq_of_testBit_eq;intro j;rw[(bs_f _ n).2 j];by_cases a:j<n
 ·rw[decide_eq_true a,Bool.true_and]
 ·rw[decide_eq_false a,Bool.false_and,Nat.testBit_lt_two_pow (p6 h (Nat.pow_le_pow_right (by decide) (by omega)))]
theorem xK(a:0<S)(h:S<2^n):cs S≠[]:=λ z=>by
 have:=xJ a h;rw[z]at this;simp[bs]at this;omega
noncomputable def ax(rows:ge (ge Int))(r c:Nat):Int:=(rows.getD r []).getD c 0
section
variable (rows:ge (ge Int)) (w:Int) (n m:Nat)
def jp(I:ge Nat)(c:Nat):Bool:=I.all λ r=>ax rows r c==w
def rp(J:ge Nat)(r:Nat):Bool:=J.all λ c=>ax rows r c==w
def JL(S:Nat):ge Nat:=(List.range m).filter (jp rows w (cs S))
def RL(J:ge Nat):ge Nat:=(List.range n).filter (rp rows w J)
def good(S:Nat):Bool:=!(JL rows w m S).isEmpty&&bs (RL rows w n (JL rows w m S))==S
def pr(S:Nat):Int×Int:=((S:Int),((bs (JL rows w m S):Nat):Int))
noncomputable def al:ge Nat:=(List.range (2^n - 1)).map (· + 1)
def wl:ge (Int×Int):=((al n).filter (good rows w n m)).map (pr rows w m)
def mp(S:Nat):Int×Int:=(((bs (RL rows w n (JL rows w m S)):Nat):Int),((bs (JL rows w m S):Nat):Int))
def ml(l:ge Nat):ge (Int×Int):=(l.filter λ S=>!(JL rows w m S).isEmpty).foldl (λ a S=>addP a (mp rows w n m S)) []
end
section
theorem X0:S∈al n↔0<S/\S<2^n:=by
 unfold al;rw[k8];constructor
 ·rintro⟨j,h,rfl⟩;rw[k6]at h;omega
 ·intro h;exact⟨S - 1,k6.mpr (by omega),by omega⟩
theorem kg(f:0<S)(h:S<2^n)(hJ:JL rows w m S≠[]):∃b,0<b/\b<2^n/\bs (RL rows w n (JL rows w m S))=b/\JL rows w m b=JL rows w m S:=by
 have sub:∀r∈cs S,r∈RL rows w n (JL rows w m S):=λ r a=>by refine j6.mpr ⟨k6.mpr (W9 h a),w6.mpr λ c d=>?_⟩;exact w6.mp (j6.mp d).2 r a
 have ne:RL rows w n _≠[]:=λ z=>by obtain⟨r,a⟩:=List.exists_mem_of_ne_nil _ (xK f h);have:=sub r a;rw[z]at this;cases this
 refine⟨_,Nat.pos_of_ne_zero λ z=>ne (aJ.mp z),(bs_f _ n).1,rfl,?_⟩;have e:cs (bs (RL rows w n _))=RL rows w n _:=kf ne;unfold JL at e ⊢;rw[e];apply List.filter_congr;intro c d;rw[Bool.eq_iff_iff];constructor
 ·intro z;refine w6.mpr λ r a=>w6.mp z r (sub r a)
 ·intro z;refine w6.mpr λ r a=>?_
  exact w6.mp (j6.mp a).2 c (j6.mpr ⟨d,z⟩)
theorem aK:good rows w n m S=true↔JL rows w m S≠[]/\bs (RL rows w n (JL rows w m S))=S:=by
 unfold good;rw[d8,f7,t5,List.isEmpty_eq_false_iff]
theorem xL:x∈wl rows w n m↔∃S,(0<S/\S<2^n)/\JL rows w m S≠[]/\x=mp rows w n m S:=by
 unfold wl;rw[k8];constructor
 ·rintro⟨S,h,rfl⟩
  obtain⟨a,b⟩:=j6.mp h;obtain⟨e,d⟩:=aK.mp b;exact⟨S,X0.mp a,e,by unfold pr mp;rw[d]⟩
 ·rintro⟨S,a,b,rfl⟩
  obtain⟨j,i,g,f,c⟩:=kg a.1 a.2 b;refine⟨j,j6.mpr ⟨X0.mpr ⟨i,g⟩,aK.mpr ⟨by rwa [c],by rwa [c]⟩⟩,?_⟩;unfold pr mp;rw[c,f]
theorem xM:x∈addP L k↔x∈L\/x=k:=by
 unfold addP;split
 ·rename_i h;constructor
  ·exact .inl
  ·rintro(z | rfl)
   ·exact z
   ·exact h
 ·rw[List.mem_append,v4]
theorem xN(h:L.Nodup):(addP L k).Nodup:=by
 unfold addP;split
 ·exact h
 ·rename_i q;exact List.nodup_append.mpr ⟨h,List.pairwise_singleton _ _,λ a d b c=>by rw[v4.mp c];rintro rfl;exact q d⟩
theorem kh{f:Nat->Int×Int}:∀(l:ge Nat) (L:ge (Int×Int)),L.Nodup->(l.foldl (λ a S=>addP a (f S)) L).Nodup/\∀x,x∈l.foldl (λ a S=>addP a (f S)) L↔x∈L\/∃S∈l,x=f S
 | [],L,h=>⟨h,λ x=>by simp⟩
 | S::l,L,h=>by
  obtain⟨d,c⟩:=kh l _ (xN h);refine⟨d,λ x=>?_⟩;rw[List.foldl_cons,c x,xM];constructor
  ·rintro((z | z) | ⟨T,b,q2⟩)
   ·exact .inl z
   ·exact .inr ⟨S,i9 ..,z⟩
   ·exact .inr ⟨T,i8 _ b,q2⟩
  ·rintro(z | ⟨T,b,q2⟩)
   ·exact .inl (.inl z)
   ·rcases e8.mp b with rfl | b
    ·exact .inl (.inr q2)
    ·exact .inr ⟨T,b,q2⟩
theorem du:(wl rows w n m).Pairwise λ p q=>ltP p q=true:=by
 unfold wl;refine List.pairwise_map.mpr (List.Pairwise.filter _ ?_);unfold al;refine List.pairwise_map.mpr (List.pairwise_lt_range.imp λ {a b} h=>?_);rw[W0];left;show((a+1:Nat):Int)<((b+1:Nat):Int);omega
theorem xO(p:Int×Int):ltP p p=false:=by
 cases h:ltP p p with
 | false=>rfl
 | true=>rw[W0]at h;omega
theorem xP:(wl rows w n m).Nodup:=du.imp λ {a b} h e=>by rw[e,xO]at h;cases h
theorem ki:∀{l:ge (Int×Int)},l.Pairwise (λ p q=>ltP p q=true)->p∉l->(insP p l).Pairwise λ p q=>ltP p q=true
 | [],_,_=>List.pairwise_singleton _ _
 | q::l,h,b=>by
  unfold insP;obtain⟨c,d⟩:=A3.mp h;split
  ·rename_i z;refine A3.mpr ⟨λ x a=>?_,h⟩;rcases e8.mp a with rfl | a
   ·exact z
   ·exact jd z (c x a)
  ·rename_i z;refine A3.mpr ⟨λ x a=>?_,ki d λ y=>b (i8 _ y)⟩;rcases e8.mp ((cW p l).mem_iff.mp a)with rfl | a
   ·have ne:x≠q:=λ e=>b (by grind);rw[W0]at z ⊢;by_cases g:q.1=x.1
    ·by_cases f:q.2=x.2
     ·exact absurd (Prod.ext g f).symm ne
     ·omega
    ·omega
   ·exact c x a
theorem kj:∀{l:ge (Int×Int)},l.Nodup->(L7 l).Pairwise λ p q=>ltP p q=true
 | [],_=>.nil
 | p::l,h=>by
  obtain⟨b,a⟩:=List.nodup_cons.mp h;exact ki (kj a) λ z=>b ((W1 l).mem_iff.mp z)
theorem kq:∀{l:ge (Int×Int)},l.Pairwise (λ p q=>ltP p q=true)->L6 l=true
 | [],_=>rfl
 | [_],_=>rfl
 | p::q::l,h=>by obtain⟨b,a⟩:=A3.mp h;show(ltP p q&&L6 _)=true;rw[b q (i9 ..),kq a];rfl
theorem dv:L7 (ml rows w n m (al n))=wl rows w n m:=by
 obtain⟨e,f⟩:=kh _ [] .nil;refine jf ?_ (kj e) du;refine(W1 _).trans ((List.perm_ext_iff_of_nodup e xP).mpr λ x=>?_);rw[xL,f x];constructor
 ·rintro(z | ⟨S,b,d⟩)
  ·cases z
  ·obtain⟨a,c⟩:=j6.mp b;exact⟨S,X0.mp a,by rw[t5,List.isEmpty_eq_false_iff]at c;exact c,d⟩
 ·rintro⟨S,b,d,a⟩
  exact .inr ⟨S,j6.mpr ⟨X0.mpr b,by rwa [t5,List.isEmpty_eq_false_iff]⟩,a⟩
end
theorem kr{n:Nat}(c:evE G F b δ=some (.ok (.int n) cx))(hn:n<=1000):q5 (evE G F (.rng [.int 1,b]) δ)=some (.ok (upTo 1 (n - 1)) .fresh):=by
 show q5 (Rs.thn (evEs G F [.int 1,b] δ) (λ l=>(rngD l).map λ a=>.ok (.lst a) .fresh))=_;rw[e9 g8 (e9 c j5),O5];have hs:(B3 1&&B3 (n:Int)&&decide ((n:Int) - 1<=(k9:Int)))=true:=by rw[d8,d8,decide_eq_true_iff];refine⟨⟨by decide,?_⟩,Int.le_trans (show(n:Int) - 1<=1000 by omega) (by decide)⟩;unfold B3;rw[d8,decide_eq_true_iff,decide_eq_true_iff];exact⟨Int.le_trans (by decide) (y9 n),Int.lt_of_le_of_lt (show(n:Int)<=1000 by omega) (by decide)⟩
 show q5 ((if B3 1&&B3 (n:Int)&&decide ((n:Int) - 1<=(k9:Int))then some (upTo 1 ((n:Int) - 1).toNat)else none).map λ a=>.ok (.lst a) .fresh)=_;rw[d6 hs,show((n:Int) - 1).toNat=n - 1 by omega];rfl
theorem kt{b:Type}{p:b->Bool}:∀l:ge b,bools? (l.map λ w=>DV.bl (p w))=some (l.map p)
 | []=>rfl
 | a::r=>by show bools? (DV.bl (p a)::r.map λ w=>DV.bl (p w))=_;unfold bools?;rw[(kt r)];rfl
theorem ku{a:Type}{p:a->Bool}{l:ge a}(h:evE G F e δ=some (.ok (.lst (l.map λ w=>DV.bl (p w))) cl)):evE G F (.bi .all [e]) δ=some (.ok (.bl (l.all p)) .strong):=by
 show Rs.thn _ _=_;rw[e9 h j5];show(bools? _).map _=_;rw[kt];show some (Re.ok _ .strong)=_;rw[List.all_map];rfl
theorem kw:∀l:ge Nat,ints? (l.map λ (x:Nat)=>DV.int (x:Int))=some (l.map λ (x:Nat)=>(x:Int))
 | []=>rfl
 | a::l=>by show(ints? _).map _=_;rw[(kw l)];rfl
theorem kx:∀l:ge Nat,(l.map λ (x:Nat)=>(x:Int)).sum=((l.sum:Nat):Int)
 | []=>rfl
 | a::l=>by rw[u0,List.sum_cons,List.sum_cons,kx l];rfl
theorem ky{l:ge Nat}(h:evE G F e δ=some (.ok (.lst (l.map λ (x:Nat)=>DV.int (x:Int))) c)):evE G F (.bi .sum [e]) δ=some (.ok (.int ((l.sum:Nat):Int)) .strong):=by
 show Rs.thn _ _=_;rw[e9 h j5];show(ints? _).map _=_;rw[kw,Option.map_some,kx]
section
theorem aL(R:Rect n m rows)(hr:r<n)(e:c<m){c3:Cl}(g:evE G F a δ=some (.ok (tT rows) c1))(f:evE G F b δ=some (.ok (.int (r:Int)) c2))(d:evE G F x δ=some (.ok (.int (c:Int)) c3)):∃h,evE G F (.ix (.ix a b) x) δ=some (.ok (.int (ax rows r c)) h):=
 ⟨_,w5 (w5 g f (N1 (by rwa [R.1]))) d (R0 (by rw[R.2 _ (D3 (by rwa [R.1]))];exact e))⟩
theorem dw{j:Nat}(hj:j<=1000)(h:evE G F e δ=some (.ok (.int (j:Int)) c)):evE G F (.bin .LShift (.int 1) e) δ=some (.ok (.int ((2^j:Nat):Int)) .strong):=by
 refine B5 g8 h ?_;show(if 0<=_/\_<=1000000/\(1:Int).natAbs<2^64 then some _ else none)=_;rw[d6 ⟨y9 j,by omega,by decide⟩,z0,Int.one_mul]
 push_cast
 rfl
theorem two8(hn:n<=8)(h:S<2^n):S<2^64:=p6 h (Nat.pow_le_pow_right (by decide) (by omega))
theorem xQ(R:Rect n m rows)(g:0<n)(j:n<=8)(q:m<=8){S:Nat}(i:0<S)(s1:S<2^n):run G T fu (k+2) 9 [tT rows,.int S,.int w]=some (.v (.int ((bs (JL rows w m S):Nat):Int)) false):=by
 rw[m7 rfl rfl];unfold jC;refine o4 (f8 (j3 (d:=.lst (nD (cs S))) (cl:=.fresh) (j1 (e9 (d5 (n:=1) (d:=.int S) rfl) j5) rfl (ke S i (two8 j s1))) rfl) (k7 (p8 (cl:=.strong) ?_)));have v:=C5 (F:=run G T fu (k+1)) (δ:=[.val (tT rows),.val (.int S),.val (.int w),.val (.lst (nD (cs S)))]) (p:=jp rows w (cs S)) (elt:=.bin .LShift (.int 1) (.var 0)) (tg:=.one 0) (it:=.rng [.bi .len [.ix (.var 0) (.int 0)]])
  (cd:=.bi .all [.comp (.cmp .Eq (.ix (.ix (.var 1) (.var 0)) (.var 2)) (.var 3)) (.one 0) (.var 1) [none,some 2,some 0,some 3]]) (fr:=[none,some 3,some 0,some 2])
  (J0 (dt R g (d5 rfl)) (by omega)) (by decide) (by rw[p4];exact g9 q (by decide)) (λ c u=>by
   have h:=k6.mp u;refine⟨[.val (.int c),.val _,.val (tT rows),.val (.int w)],rfl,?_,.strong,dw (by omega) (d5 rfl),rfl⟩;refine i0 (ku (cl:=.fresh) (l:=cs S) ?_);refine C2 (l:=cs S) rfl (by decide) (g9 (dq i (two8 j s1)) (by decide)) (λ r o=>?_);obtain⟨c4,e⟩:=aL (F:=run G T fu (k+1)) (δ:=[.val (.int r),.val (tT rows),.val (.int c),.val (.int w)]) R (W9 s1 o) h (a:=.var 1) (b:=.var 0) (x:=.var 2) (d5 rfl) (d5 rfl) (d5 rfl);exact⟨_,.strong,rfl,b_eq e (d5 rfl),rfl⟩)
 have:=ky (c:=.fresh) (by rw[List.map_map];exact v);exact this
theorem xR(R:Rect n m rows)(j:0<n)(o:n<=8)(h:m<=8){C:Nat}(g:0<C)(s1:C<2^m):run G T fu (k+2) 10 [tT rows,.int C,.int w]=some (.v (.int ((bs (RL rows w n (cs C)):Nat):Int)) false):=by
 rw[m7 rfl rfl];unfold jD;refine o4 (f8 (j3 (d:=.lst (nD (cs C))) (cl:=.fresh) (j1 (e9 (d5 (n:=1) (d:=.int C) rfl) j5) rfl (ke C g (two8 h s1))) rfl) (k7 (p8 (cl:=.strong) ?_)));have u:=C5 (F:=run G T fu (k+1)) (δ:=[.val (tT rows),.val (.int C),.val (.int w),.val (.lst (nD (cs C)))]) (p:=rp rows w (cs C)) (elt:=.bin .LShift (.int 1) (.var 0)) (tg:=.one 0) (it:=.rng [.bi .len [.var 0]])
  (cd:=.bi .all [.comp (.cmp .Eq (.ix (.ix (.var 1) (.var 2)) (.var 0)) (.var 3)) (.one 0) (.var 1) [none,some 2,some 0,some 3]]) (fr:=[none,some 3,some 0,some 2])
  (J0 (R5 R (d5 rfl)) (by omega)) (by decide) (by rw[p4];exact g9 o (by decide)) (λ r i=>by
   have f:=k6.mp i;refine⟨[.val (.int r),.val _,.val (tT rows),.val (.int w)],rfl,?_,.strong,dw (by omega) (d5 rfl),rfl⟩;refine i0 (ku (cl:=.fresh) (l:=cs C) ?_);refine C2 (l:=cs C) rfl (by decide) (g9 (dq g (two8 h s1)) (by decide)) (λ c q=>?_);obtain⟨c4,e⟩:=aL (F:=run G T fu (k+1)) (δ:=[.val (.int c),.val (tT rows),.val (.int r),.val (.int w)]) R f (W9 s1 q) (a:=.var 1) (b:=.var 2) (x:=.var 0) (d5 rfl) (d5 rfl) (d5 rfl);exact⟨_,.strong,rfl,b_eq e (d5 rfl),rfl⟩)
 have:=ky (by rw[List.map_map];exact u);exact this
noncomputable def pD(l:ge (Int×Int)):ge DV:=l.map λ p=>.tup [.int p.1,.int p.2]
noncomputable def wB:ge MS:=[.set 4 false (.call 9 [.var 0,.var 3,.var 1]),.iff (.and [.cmp .NotEq (.var 4) (.int 0),.cmp .Eq (.call 10 [.var 0,.var 4,.var 1]) (.var 3)]) [.app 2 (.tup [.var 3,.var 4])] []]
theorem kC(j:Nat):(List.range (j+1)).map (· + 1)=(List.range j).map (· + 1)++[j+1]:=by rw[List.range_succ,List.map_append];rfl
theorem kF(R:Rect n m rows)(hn0:0<n)(hn:n<=8)(hm:m<=8):run G T fu (k+3) 8 [tT rows,.int w]=some (.v (.lst (pD (wl rows w n m))) true):=by
 rw[m7 (fd:=cZ) rfl rfl];have h8:2^n<=2^8:=Nat.pow_le_pow_right (by decide) hn;obtain⟨δ1,h1,z3,z4,rfl⟩:=L9 (i:=3) (I:=λ j δ=>∃z3 z4:Sv,δ=[.val (tT rows),.val (.int w),.own (.lst (pD ((((List.range j).map (· + 1)).filter (good rows w n m)).map (pr rows w m)))),z3,z4])
  (body:=λ δ'=>evSs G (run G T fu (k+2)) fu wB δ') (2^n - 1) 1
  (λ j hj δ I=>by
   obtain⟨z3,z4,rfl⟩:=I;rw[show(1:Int)+(j:Int)=((j+1:Nat):Int) by omega];have s1:j+1<2^n:=by omega
   have c1:=xQ (fu:=fu) (k:=k) (w:=w) R hn0 hn hm (S:=j+1) (by omega) s1;obtain⟨L,hL⟩:∃L,(((List.range j).map (· + 1)).filter (good rows w n m)).map (pr rows w m)=L:=⟨_,rfl⟩;have hLl:L.length<=255:=(by rw[←hL,e7];refine g9 (List.length_filter_le ..) ?_;rw[e7,p4];omega);rw[hL,kC,List.filter_append,List.map_append,hL];have ecol:∀z:Sv,evE G (run G T fu (k+2)) (.cmp .NotEq (.var 4) (.int 0)) [.val (tT rows),.val (.int w),.own (.lst (pD L)),.val (.int ((j+1:Nat):Int)),.val (.int ((bs (JL rows w m (j+1)):Nat):Int))]=some (.ok (.bl (!(JL rows w m (j+1)).isEmpty)) .strong):=λ z=>by have e3:(((bs (JL rows w m (j+1)):Nat):Int)==0)=(JL rows w m (j+1)).isEmpty:=(by rw[Bool.eq_iff_iff,f7,List.isEmpty_iff];rw[show(((bs (JL rows w m (j+1)):Nat):Int)=0↔bs (JL rows w m (j+1))=0) by omega];exact aJ);refine C3 (d5 rfl) g8 ?_;rw[aH,e3]
   have main:∃b,evSs G (run G T fu (k+2)) fu [.iff (.and [.cmp .NotEq (.var 4) (.int 0),.cmp .Eq (.call 10 [.var 0,.var 4,.var 1]) (.var 3)]) [.app 2 (.tup [.var 3,.var 4])] []] [.val (tT rows),.val (.int w),.own (.lst (pD L)),.val (.int ((j+1:Nat):Int)),.val (.int ((bs (JL rows w m (j+1)):Nat):Int))]=some (.nx b)/\∃z3 z4:Sv,b=[.val (tT rows),.val (.int w),.own (.lst (pD (L++([j+1].filter (good rows w n m)).map (pr rows w m)))),z3,z4]:=by
    have ec:=ecol .no;by_cases hJ:JL rows w m (j+1)=[]
    ·have c:good rows w n m (j+1)=false:=by unfold good;rw[hJ];rfl
     have hE:(JL rows w m (j+1)).isEmpty=true:=by rw[hJ];rfl
     rw[hE]at ec;refine⟨_,p5 (i0 (aI ec)) rfl,.val (.int ((j+1:Nat):Int)),.val (.int ((bs (JL rows w m (j+1)):Nat):Int)),?_⟩;rw[List.filter_cons_of_neg (by rw[c];decide),List.filter_nil,List.map_nil,List.append_nil]
    ·have hne:(JL rows w m (j+1)).isEmpty=false:=List.isEmpty_eq_false_iff.mpr hJ;rw[hne]at ec;have c0:0<bs (JL rows w m (j+1)):=Nat.pos_of_ne_zero λ z=>hJ (aJ.mp z);have cl2:bs (JL rows w m (j+1))<2^m:=(bs_f _ m).1;have r1:=xR (fu:=fu) (k:=k) (w:=w) R hn0 hn hm c0 cl2;have ecs:cs (bs (JL rows w m (j+1)))=JL rows w m (j+1):=kf hJ;rw[ecs]at r1;have e2:evE G (run G T fu (k+2)) (.cmp .Eq (.call 10 [.var 0,.var 4,.var 1]) (.var 3)) [.val (tT rows),.val (.int w),.own (.lst (pD L)),.val (.int ((j+1:Nat):Int)),.val (.int ((bs (JL rows w m (j+1)):Nat):Int))]=some (.ok (.bl (good rows w n m (j+1))) .strong):=(by have q:=b_eq (j1 (G:=G) (F:=run G T fu (k+2)) (δ:=[.val (tT rows),.val (.int w),.own (.lst (pD L)),.val (.int ((j+1:Nat):Int)),.val (.int ((bs (JL rows w m (j+1)):Nat):Int))]) (f:=10) (e9 (d5 (n:=0) (d:=tT rows) rfl) (e9 (d5 (n:=4) (d:=.int ((bs (JL rows w m (j+1)):Nat):Int)) rfl) (e9 (d5 (n:=1) (d:=.int w) rfl) j5))) rfl r1) (d5 (n:=3) (d:=.int ((j+1:Nat):Int)) rfl);have e3:(((bs (RL rows w n (JL rows w m (j+1))):Nat):Int)==((j+1:Nat):Int))=good rows w n m (j+1):=(by unfold good;rw[hne,Bool.not_false,Bool.true_and,Bool.eq_iff_iff,f7,f7];omega);rw[q,e3]);cases c:good rows w n m (j+1)with
     | false=>
      rw[c]at e2;refine⟨_,p5 (i0 (N2 ec (N3 e2))) rfl,.val (.int ((j+1:Nat):Int)),.val (.int ((bs (JL rows w m (j+1)):Nat):Int)),?_⟩;rw[List.filter_cons_of_neg (by rw[c];decide),List.filter_nil,List.map_nil,List.append_nil]
     | true=>
      rw[c]at e2;refine⟨_,G8 (i0 (N2 ec (N3 e2))) (f8 (bC (cl:=.strong) (ds:=pD L) rfl rfl rfl (by unfold pD;rw[e7];exact Nat.lt_of_le_of_lt hLl (by decide))) rfl) rfl,.val (.int ((j+1:Nat):Int)),.val (.int ((bs (JL rows w m (j+1)):Nat):Int)),?_⟩;rw[List.filter_cons_of_pos c,List.filter_nil];unfold pD;rw[List.map_append];rfl
   obtain⟨b,g1,g2⟩:=main;exact⟨b,f8 (j3 (d:=.int ((bs (JL rows w m (j+1)):Nat):Int)) (cl:=.strong) (j1 (e9 (d5 (n:=0) (d:=tT rows) rfl) (e9 (d5 (n:=3) (d:=.int ((j+1:Nat):Int)) rfl) (e9 (d5 (n:=1) (d:=.int w) rfl) j5))) rfl c1) rfl) g1,g2⟩) ⟨.no,.no,rfl⟩
 unfold cZ;exact o4 (f8 (O7 (d:=.lst []) rfl) (E2 (kr (n:=2^n) (dw (j:=n) (by omega) (R5 R (d5 rfl))) (by omega)) (.inr rfl) h1 (k7 rfl)))
end
theorem xS{S:Nat}(b:0<S)(s1:S<2^8):run G T fu (k+1) 25 [.int S]=some (.v (.lst (nD (cs S))) true):=by
 rw[m7 rfl rfl];have a:=C5 (δ:=[.val _]) (p:=S.testBit) (elt:=.var 0) (tg:=.one 0) (it:=.rng [.int 8])
  (fr:=[none,some 0])
  (J0 rfl (by decide)) (by decide) (by decide) (λ j hj=>by
   refine⟨[.val _,.val _],rfl,?_,.strong,rfl,rfl⟩;have d:evE G (run G T fu k) (.bin .BitAnd (.bin .RShift (.var 1) (.var 0)) (.int 1)) [.val (.int j),.val (.int S)]=some (.ok (.int (if S.testBit j then 1 else 0)) .strong):=B5 (B5 (d5 rfl) (d5 rfl) (show(if 0<=(j:Int)then some (Re.ok (.int ((S:Int)/2^((j:Int).toNat))) Cl.strong)else none)=_ from d6 (y9 j))) g8 (by rw[←dm];rfl);rw[i0 (b_eq d (g8 (i:=1)))];cases S.testBit j<;>rfl)
 rw[←dr b s1]at a;unfold jL;exact o4 (k7 (p8 a))
theorem kG:∀(l:ge Nat) (a:Nat) (z:Sv) (t:Sv),(∀j∈l,j<=1000)->∃c:Sv,u7 (.one 2) (λ b=>evSs G (run G T fu (k+1)) fu [.set 1 false (.bin .Add (.var 1) (.call 24 [.var 2]))] b) (nD l) [t,.val (.int (a:Int)),z]=some (.nx [t,.val (.int ((a+bs l:Nat):Int)),c])
 | [],a,z,t,_=>⟨z,rfl⟩
 | j::l,a,z,t,h=>by
  obtain⟨c,e⟩:=kG l _ _ t (λ i g=>h i (i8 _ g));refine⟨c,?_⟩;have m:a+bs (j::l)=a+2^j+bs l:=by simp[bs,u0,List.sum_cons];omega
  rw[m,←e];refine R4 (δ1:=[t,.val _,.val _]) rfl (f8 (j3 (cl:=.strong) ?_ rfl) rfl);have:=E3 (d5 (G:=G) (δ:=[t,.val (.int (a:Int)),.val _]) (n:=1) rfl) (j1 (e9 (d5 (n:=2) rfl) j5) rfl (jT (fu:=fu) (k:=k) j (h j (i9 ..))));rw[this]
  push_cast
  rfl
theorem kH(l:ge Nat)(h:∀j∈l,j<=1000):run G T fu (k+2) 26 [.lst (nD l)]=some (.v (.int ((bs l:Nat):Int)) false):=by
 rw[m7 rfl rfl];obtain⟨z',e⟩:=kG (k:=k) l 0 .no _ h;rw[Nat.zero_add]at e;unfold jM;exact o4 (f8 (j3 rfl rfl) (E2 rfl (.inl rfl) e (k7 (p8 (d5 rfl)))))
section
noncomputable def mB:ge MS:=[.set 4 false (.comp (.ix (.var 1) (.var 0)) (.one 0) (.call 25 [.var 3]) [none,some 0]),.set 5 false (.compi (.var 0) (.one 0) (.rng [.bi .len [.ix (.var 0) (.int 0)]]) (.cmp .Eq (.bi .len [.compi (.var 0) (.one 0) (.var 1) (.cmp .NotEq (.ix (.var 0) (.var 1)) (.var 2)) [none,some 0,some 2]]) (.int 0)) [none,some 4,some 1]),.iff (.cmp .NotEq (.var 5) (.lst [])) [.set 6 false (.compi (.var 0) (.one 0) (.rng [.bi .len [.var 0]]) (.cmp .Eq (.bi .len [.compi (.var 0) (.one 0) (.var 1) (.cmp .NotEq (.ix (.ix (.var 1) (.var 2)) (.var 0)) (.var 3)) [none,some 2,some 0,some 3]]) (.int 0)) [none,some 5,some 0,some 1]),.dpt 2 [.call 26 [.var 6],.call 26 [.var 5]] (.bl true)] []]
def es(L:ge (Int×Int)):Sv:=.od (.tup [.dct (L.map kD) [],.non])
theorem xT(f:δ[i]? = some (es L))(d:L.length<=1000)(b:evE G F e δ=some (.ok (.bl true) c))(a:evEs G F ks δ=some (.ok [(.int p.1,c1),(.int p.2,c2)])):evS G F fu (.dpt i ks e) δ=some (.nx (δ.set i (es (addP L p)))):=by
 unfold evS;rw[f];show Re.thnS δ _ _=_;rw[b];show Rs.thnS δ _ _=_;rw[a];show(if(L.map kD).length<k9 then some (δ.set i (.od (.tup [.dct (addK (kD p) _) [],.non])))else none).map Out.nx=_;rw[d6 (by rw[e7];exact Nat.lt_of_le_of_lt d (by decide)),jc];rfl
theorem aM(h:DV.plains 59 ds=true):cmpD .Eq (.lst ds) (.lst [])=some ds.isEmpty/\cmpD .NotEq (.lst ds) (.lst [])=some (!ds.isEmpty):=by
 have p:DV.plain 60 (.lst ds)=true:=h;have d:deq (.lst ds) (.lst [])=ds.isEmpty:=by cases ds<;>rfl
 refine⟨?_,?_⟩
 ·show(if _=true then some _ else none)=_;rw[p,d];rfl
 ·show(if _=true then some _ else none)=_;rw[p,d];rfl
theorem xU(l:ge Nat):DV.plains 59 (nD l)=true:=G2 λ d a=>by
 obtain⟨j,_,rfl⟩:=k8.mp a;exact di _ _
theorem len0(l:ge c)(p:c->Bool):(((l.filter λ a=>!p a).length:Int)==0)=l.all p:=by
 rw[Bool.eq_iff_iff,f7,w6];rw[show(((l.filter λ a=>!p a).length:Int)=0↔(l.filter λ a=>!p a).length=0) by omega,List.length_eq_zero_iff,List.filter_eq_nil_iff];constructor
 ·intro h a b;have:=h a b;cases q:p a with
  | true=>rfl
  | false=>rw[q]at this;exact absurd rfl this
 ·intro h a b;rw[h a b];decide
theorem xV(l:ge Nat)(S:Nat):ml rows w n m (l++[S])=if JL rows w m S=[]then ml rows w n m l else addP (ml rows w n m l) (mp rows w n m S):=by
 unfold ml;rw[List.filter_append,List.foldl_append];by_cases h:JL rows w m S=[]
 ·rw[d6 h,List.filter_cons_of_neg (by grind)];rfl
 ·rw[d9 h,List.filter_cons_of_pos (by grind)];rfl
theorem kJ(l:ge Nat):(ml rows w n m l).length<=l.length:=by
 have b:∀(L:ge _) k,(addP L k).length<=L.length+1:=λ L k=>by
  unfold addP;split
  ·omega
  ·rw[v0];exact i7 _
 have:∀(l:ge Nat) (L:ge _),(l.foldl (λ a S=>addP a (mp rows w n m S)) L).length<=L.length+l.length:=by
  intro l
  induction l with
  | nil=>exact λ L=>i7 _
  | cons S l c=>
   intro L;have h1:=c (addP L (mp rows w n m S));have h2:=b L (mp rows w n m S);rw[List.foldl_cons,p9];omega
 refine g9 (this _ _) ?_;rw[List.length_nil,Nat.zero_add];exact List.length_filter_le ..
theorem turn(R:Rect n m rows)(B:0<n)(C:n<=8)(N:m<=8){S:Nat}(I:0<S)(s1:S<2^n)(L:ge (Int×Int))(X:L.length<=1000)(H z5 z6:Sv):∃U Q P:Sv,evSs G (run G T fu (k+2)) fu mB [.val (tT rows),.val (.int w),es L,.val (.int (S:Int)),H,z5,z6]=some (.nx [.val (tT rows),.val (.int w),es (if JL rows w m S=[]then L else addP L (mp rows w n m S)),.val (.int (S:Int)),U,Q,P]):=by
 have Y:S<2^8:=p6 s1 (Nat.pow_le_pow_right (by decide) C);have v:(cs S).length<=1000:=dq I (two8 C s1);have O:=C2 (F:=run G T fu (k+2)) (δ:=[.val (tT rows),.val (.int w),es L,.val (.int (S:Int)),H,z5,z6]) (l:=cs S) (h:=λ (j:Nat)=>DV.int (j:Int)) (f:=λ j=>.tup (iD (rows.getD j []))) (elt:=.ix (.var 1) (.var 0)) (tg:=.one 0) (it:=.call 25 [.var 3]) (fr:=[none,some 0]) (cl:=.fresh)
  (by rw[j1 (G:=G) (f:=25) (e9 (d5 (n:=3) (d:=.int (S:Int)) rfl) j5) rfl (xS I Y)];rfl) (by decide) (g9 v (by decide)) (λ j g=>⟨[.val (.int j),.val (tT rows)],_,rfl,w5 (d5 rfl) (d5 rfl) (N1 (by rw[R.1];exact W9 s1 g)),rfl⟩)
 have e2:=C5 (F:=run G T fu (k+2)) (δ:=[.val (tT rows),.val (.int w),es L,.val (.int (S:Int)),.val (.lst ((cs S).map λ j=>.tup (iD (rows.getD j [])))),z5,z6]) (l:=List.range m) (h:=λ (j:Nat)=>DV.int (j:Int)) (f:=λ (j:Nat)=>DV.int (j:Int)) (p:=jp rows w (cs S)) (elt:=.var 0) (tg:=.one 0) (it:=.rng [.bi .len [.ix (.var 0) (.int 0)]])
  (fr:=[none,some 4,some 1]) (cl:=.fresh)
  (J0 (dt R B (d5 rfl)) (by omega)) (by decide) (by rw[p4];exact g9 N (by decide)) (λ c E=>by
   refine⟨[.val (.int c),.val _,.val (.int w)],rfl,?_,.strong,rfl,rfl⟩;have q:=C5 (F:=run G T fu (k+2)) (δ:=[.val (.int c),.val (.lst ((cs S).map λ j=>.tup (iD (rows.getD j [])))),.val (.int w)]) (l:=cs S) (f:=λ j=>DV.tup (iD (rows.getD j []))) (p:=λ r=>!(ax rows r c==w)) (elt:=.var 0) (tg:=.one 0) (it:=.var 1) (cd:=.cmp .NotEq (.ix (.var 0) (.var 1)) (.var 2)) (fr:=[none,some 0,some 2]) (cl:=.strong)
    rfl (by decide) (g9 v (by decide)) (λ r A=>⟨[.val (.tup (iD (rows.getD r []))),.val (.int c),.val (.int w)],rfl,i0 (C3 (w5 (d5 rfl) (d5 rfl) (R0 (by rw[R.2 _ (D3 (by rw[R.1];exact W9 s1 A))];exact k6.mp E))) (d5 rfl) (aH _ _)),.strong,rfl,rfl⟩)
   have u:=b_eq (E8 q) (g8 (i:=0));rw[e7,len0 (cs S) λ r=>ax rows r c==w]at u;exact i0 u)
 have o:evE G (run G T fu (k+2)) (.compi (.var 0) (.one 0) (.rng [.bi .len [.ix (.var 0) (.int 0)]]) (.cmp .Eq (.bi .len [.compi (.var 0) (.one 0) (.var 1) (.cmp .NotEq (.ix (.var 0) (.var 1)) (.var 2)) [none,some 0,some 2]]) (.int 0)) [none,some 4,some 1]) [.val (tT rows),.val (.int w),es L,.val (.int (S:Int)),.val (.lst ((cs S).map λ j=>.tup (iD (rows.getD j [])))),z5,z6]=some (.ok (.lst (nD (JL rows w m S))) .fresh):=e2;have W:(JL rows w m S).length<=8:=(by unfold JL;refine g9 (List.length_filter_le ..) ?_;rw[p4];exact N);have K:∀j∈JL rows w m S,j<m:=λ j g=>k6.mp (j6.mp g).1;unfold mB;by_cases z:JL rows w m S=[]
 ·refine⟨.val (.lst ((cs S).map λ j=>.tup (iD (rows.getD j [])))),.val (.lst (nD [])),z6,?_⟩;rw[d6 z];rw[z]at o;refine f8 (j3 (d:=.lst ((cs S).map λ j=>.tup (iD (rows.getD j [])))) (cl:=.fresh) O rfl) (f8 (j3 (d:=.lst (nD [])) (cl:=.fresh) o rfl) (p5 (i0 (x:=false) (cl:=.strong) rfl) rfl))
 ·rw[d9 z];obtain⟨M,J,ej⟩:∃M J,JL rows w m S=M::J:=List.exists_cons_of_ne_nil z;have Z:=C5 (F:=run G T fu (k+2)) (δ:=[.val (tT rows),.val (.int w),es L,.val (.int (S:Int)),.val (.lst ((cs S).map λ j=>.tup (iD (rows.getD j [])))),.val (.lst (nD (JL rows w m S))),z6]) (l:=List.range n) (h:=λ (j:Nat)=>DV.int (j:Int)) (f:=λ (j:Nat)=>DV.int (j:Int)) (p:=rp rows w (JL rows w m S)) (elt:=.var 0) (tg:=.one 0) (it:=.rng [.bi .len [.var 0]])
   (fr:=[none,some 5,some 0,some 1]) (cl:=.fresh)
   (J0 (R5 R (d5 rfl)) (by omega)) (by decide) (by rw[p4];exact g9 C (by decide)) (λ r A=>by
    refine⟨[.val (.int r),.val (.lst (nD (JL rows w m S))),.val (tT rows),.val (.int w)],rfl,?_,.strong,rfl,rfl⟩;have q:=C5 (F:=run G T fu (k+2)) (δ:=[.val (.int r),.val (.lst (nD (JL rows w m S))),.val (tT rows),.val (.int w)]) (l:=JL rows w m S) (h:=λ (j:Nat)=>DV.int (j:Int)) (f:=λ (j:Nat)=>DV.int (j:Int)) (p:=λ c=>!(ax rows r c==w)) (elt:=.var 0) (tg:=.one 0) (it:=.var 1) (cd:=.cmp .NotEq (.ix (.ix (.var 1) (.var 2)) (.var 0)) (.var 3)) (fr:=[none,some 2,some 0,some 3]) (cl:=.strong)
     rfl (by decide) (g9 W (by decide)) (λ c E=>by
      obtain⟨c4,e⟩:=aL (F:=run G T fu (k+2)) (δ:=[.val (.int c),.val (tT rows),.val (.int r),.val (.int w)]) R (k6.mp A) (K c E) (a:=.var 1) (b:=.var 2) (x:=.var 0) (d5 rfl) (d5 rfl) (d5 rfl);exact⟨_,rfl,i0 (C3 e (d5 rfl) (aH _ _)),.strong,rfl,rfl⟩)
    have u:=b_eq (E8 q) (g8 (i:=0));rw[e7,len0 (JL rows w m S) λ c=>ax rows r c==w]at u;exact i0 u)
  refine⟨.val _,.val (.lst (nD (JL rows w m S))),.val (.lst (nD (RL rows w n (JL rows w m S)))),f8 (j3 (d:=.lst ((cs S).map λ j=>.tup (iD (rows.getD j [])))) (cl:=.fresh) O rfl) (f8 (j3 (d:=.lst (nD (JL rows w m S))) (cl:=.fresh) o rfl) (G8 (i0 (x:=true) (cl:=.strong) ?_) (f8 (j3 (d:=.lst (nD (RL rows w n (JL rows w m S)))) (cl:=.fresh) Z rfl) (f8 (xT (L:=L) (p:=mp rows w n m S) rfl X rfl (e9 (j1 (f:=26) (e9 (d5 (n:=6) (d:=.lst (nD (RL rows w n (JL rows w m S)))) rfl) j5) rfl (kH (RL rows w n (JL rows w m S)) (λ j g=>by have:=k6.mp (j6.mp g).1;omega))) (e9 (j1 (f:=26) (e9 (d5 (n:=5) (d:=.lst (nD (JL rows w m S))) rfl) j5) rfl (kH (JL rows w m S) (λ j g=>by have:=K j g;omega))) j5))) rfl)) rfl))⟩;refine C3 (d5 (d:=.lst (nD (JL rows w m S))) rfl) (y:=.lst []) (cy:=.fresh) rfl ?_;rw[(aM (xU _)).2,ej];rfl
theorem xW(R:Rect n m rows)(h:0<n)(q:n<=8)(z:m<=8)(A:(wl rows w n m).length<=63):run G T fu (k+3) 27 [tT rows,.int w]=some (.v (.lst (pD (wl rows w n m))) true):=by
 rw[m7 (fd:=de) rfl rfl];have h8:2^n<=2^8:=Nat.pow_le_pow_right (by decide) q;obtain⟨r,B,g,c,b,a,rfl⟩:=L9 (i:=3) (I:=λ j o=>∃g c b a:Sv,o=[.val (tT rows),.val (.int w),es (ml rows w n m ((List.range j).map (· + 1))),g,c,b,a])
  (body:=λ d=>evSs G (run G T fu (k+2)) fu mB d) (2^n - 1) 1 (δ:=[.val (tT rows),.val (.int w),es [],.no,.no,.no,.no])
  (λ j hj o I=>by
   obtain⟨g,c,b,a,rfl⟩:=I;rw[show(1:Int)+(j:Int)=((j+1:Nat):Int) by omega];have l:=kJ (rows:=rows) (w:=w) (n:=n) (m:=m) ((List.range j).map (· + 1));rw[e7,p4]at l;obtain⟨x,v,u,e⟩:=turn (fu:=fu) (k:=k) (w:=w) R h q z (S:=j+1) (by omega) (by omega) (ml rows w n m ((List.range j).map (· + 1))) (by omega) c b a;refine⟨_,e,.val (.int ((j+1:Nat):Int)),x,v,u,?_⟩;rw[kC,xV]) ⟨.no,.no,.no,.no,rfl⟩
 unfold de;have l:=kJ (rows:=rows) (w:=w) (n:=n) (m:=m) ((List.range (2^n - 1)).map (· + 1));rw[e7,p4]at l;have y:=jT (fu:=fu) (k:=k+1) n (by omega);refine o4 (f8 (m:=.ses 2) (δ':=[.val (tT rows),.val (.int w),es [],.no,.no,.no,.no]) rfl (E2 (kr (n:=2^n) (j1 (f:=24) (e9 (R5 R (d5 rfl)) j5) rfl y) (by omega)) (.inr rfl) B (k7 (p8 (cl:=.fresh) ?_))));show srdD ((ml rows w n m (al n)).map kD)=_;unfold srdD;rw[cX];show(if L6 (L7 (ml rows w n m (al n)))=true/\(ml rows w n m (al n)).length<=63 then some (Re.ok (.lst ((L7 (ml rows w n m (al n))).map λ p=>.tup [.int p.1,.int p.2])) .fresh)else none)=_;rw[d6 ⟨by rw[dv];exact kq du,by rw[←(W1 _).length_eq,dv];omega⟩,dv];rfl
end
section
def rL(rows:ge (ge Int)):DV:=.lst (rows.map λ r=>.lst (iD r))
noncomputable def col(rows:ge (ge Int))(j:Nat):ge Int:=rows.map λ r=>r.getD j 0
def flip(m:Nat)(rows:ge (ge Int)):ge (ge Int):=(List.range m).map (col rows)
noncomputable def sub(rows:ge (ge Int))(I J:ge Nat):ge (ge Int):=I.map λ i=>J.map λ j=>(rows.getD i []).getD j 0
theorem dz(R:Rect n m rows):Rect m n (flip m rows):=by
 unfold flip;refine⟨by rw[e7,p4],λ r a=>?_⟩;obtain⟨j,hj,rfl⟩:=k8.mp a;unfold col;rw[e7,R.1]
theorem dB{i:Nat}(h:i<rows.length):ixD (rL rows) (.int i)=some (.lst (iD (rows.getD i []))):=by
 have a:(i:Int)<((rows.map λ r=>DV.lst (iD r)).length:Int):=by rw[e7];exact_mod_cast h
 simp only[rL,ixD,atD,A9,d6 (y9 i),d6 a,Option.bind_some,z0,u4,j8 h,Option.map_some,u8,Option.getD_some]
theorem kO{c:Type}[BEq c][LawfulBEq c]{f:c->DV}(d:∀a b,deq (f a) (f b)=(a==b))(r:c):∀{l:ge c},r∈l->D8 (f r) (l.map f)=some (l.idxOf r)
 | a::l,g=>by
  rw[u0];unfold D8;rw[d,List.idxOf_cons];cases h:(a==r)with
  | true=>rfl
  | false=>
   have i:r∈l:=by
    rcases e8.mp g with e | e
    ·subst e;simp at h
    ·exact e
   rw[kO d r i];rfl
theorem xX(n:Nat)(rows:ge (ge Int)):DV.plains (n+1) (rows.map λ r=>.tup (iD r))=true:=G2 λ d a=>by
 obtain⟨r,_,rfl⟩:=k8.mp a;exact jY n r
theorem xY{rows:ge (ge Int)}(h:r∈rows)(a:rows.length<=1000):idxD (.tup (rows.map λ r=>.tup (iD r))) (.tup (iD r))=some (.int (rows.idxOf r:Nat)):=by
 unfold idxD;dsimp;rw[jY 59,xX 59,decide_eq_true (by rw[e7];exact g9 a (by decide)),kO xD r h];rfl
theorem xZ(e:evE G F a δ=some (.ok x cx))(hs:seqB x=true)(c:evE G F b δ=some (.ok y cy))(h:idxD x y=some d):evE G F (.idx a b) δ=some (.ok d .strong):=by
 show Re.thn _ _=_;rw[e,A4,d6 hs,c,A4,h];rfl
theorem kR{j:Nat}(b:rows.length<=1000)(w:q5 (evE G F (.var 1) [.val (.int (j:Int)),.val d])=some (.ok (rows.map h) .strong))(c:∀r∈rows,ixD (h r) (.int j)=some (.int (r.getD j 0))):evE G F (.comp (.ix (.var 0) (.var 1)) (.one 0) (.var 1) [none,some 0]) [.val (.int j),.val d]=some (.ok (.lst (iD (col rows j))) .fresh):=by
 rw[C2 w (by decide) (g9 b (by decide)) λ r a=>⟨[.val (h r),.val _],.strong,rfl,w5 (d5 rfl) (d5 rfl) (c r a),rfl⟩];unfold iD col;rw[List.map_map];rfl
theorem ya(rows:ge (ge Int))(m j:Nat)(b:∀r∈rows,r.length=m)(d:j<m)(c:rows.length<=1000):evE G F (.comp (.ix (.var 0) (.var 1)) (.one 0) (.var 1) [none,some 0]) [.val (.int j),.val (tT rows)]=some (.ok (.lst (iD (col rows j))) .fresh):=kR c rfl λ r a=>R0 (by rw[b r a];exact d)
theorem yb(rows:ge (ge Int))(m j:Nat)(hm:∀r∈rows,r.length=m)(hj:j<m)(a:rows.length<=1000):evE G F (.comp (.ix (.var 0) (.var 1)) (.one 0) (.var 1) [none,some 0]) [.val (.int j),.val (rL rows)]=some (.ok (.lst (iD (col rows j))) .fresh):=kR a rfl λ r hr=>jU (by grind)
theorem yc(rows:ge (ge Int))(n m:Nat)(R:Rect n m rows)(g:0<n)(d:n<=1000)(c:m<=1000):run G T fu (k+1) 0 [tT rows]=some (.v (tT (flip m rows)) false):=by
 rw[m7 rfl rfl];have e:0<rows.length:=by rw[R.1];exact g
 have f:=N0 (F:=run G T fu k) (δ:=j0 1 [tT rows]) (w5 (a:=.var 0) (d5 rfl) (g8) (N1 e));rw[show(iD _).length=m by unfold iD;rw[e7];exact R.2 _ (D3 e)]at f;have l:=C2 (tg:=.one 0) (fr:=[none,some 0]) (J0 f c) (by decide) (by rw[p4];exact g9 c (by decide)) λ j h=>
  ⟨[.val _,.val _],.strong,rfl,W8 (ya rows m j R.2 (k6.mp h) (by rw[R.1];exact d)),rfl⟩
 unfold ju;refine o4 (k7 (p8 (cl:=.strong) ((W8 l).trans ?_)));unfold tT flip;rw[List.map_map];rfl
theorem yd(rows:ge (ge Int))(n m:Nat)(R:Rect n m rows)(I J:ge Nat)(o:∀i∈I,i<n)(h:∀j∈J,j<m)(d:I.length<=1000)(b:J.length<=1000):run G T fu (k+1) 2 [tT rows,.lst (nD I),.lst (nD J)]=some (.v (tT (sub rows I J)) false):=by
 rw[m7 rfl rfl];have p:=C2 (F:=run G T fu k) (δ:=j0 3 [tT rows,.lst (nD I),.lst (nD J)]) (f:=λ i=>.tup (iD (J.map λ j=>(rows.getD i []).getD j 0))) (elt:=.bi .tuple [.comp (.ix (.ix (.var 1) (.var 2)) (.var 0)) (.one 0) (.var 1) [none,some 2,some 0]]) (tg:=.one 0) (it:=.var 1) (fr:=[none,some 2,some 0]) rfl (by decide) (g9 d (by decide)) λ i g=>by
  refine⟨[.val _,.val _,.val _],.strong,rfl,W8 (c:=.fresh) ?_,rfl⟩;have a:i<rows.length:=by rw[R.1];exact o i g
  rw[C2 rfl (by decide) (g9 b (by decide)) λ j e=>⟨[.val _,.val _,.val _],.strong,rfl,w5 (w5 (d5 rfl) (d5 rfl) (N1 a)) (d5 rfl) (R0 (by rw[R.2 _ (D3 a)];exact h j e)),rfl⟩];unfold iD;rw[List.map_map];rfl
 unfold jw;refine o4 (k7 (p8 (cl:=.strong) ((W8 p).trans ?_)));unfold tT sub;rw[List.map_map];rfl
noncomputable def kI(rows:ge (ge Int)):ge Int:=rows.map λ r=>((rows.idxOf r:Nat):Int)
theorem kU(rows:ge (ge Int))(a:rows.length<=1000):run G T fu (k+1) 3 [tT rows]=some (.v (.lst (iD (kI rows))) true):=by
 rw[m7 rfl rfl];unfold jx;have e:=C2 (F:=run G T fu k) (δ:=j0 1 [tT rows]) (elt:=.idx (.var 1) (.var 0)) (tg:=.one 0) (it:=.var 0) (fr:=[none,some 0]) rfl (by decide) (g9 a (by decide)) (λ r b=>⟨[.val _,.val _],.strong,rfl,xZ (d5 rfl) rfl (d5 rfl) (xY b a),rfl⟩);have c:(rows.map λ r=>DV.int ((rows.idxOf r:Nat):Int))=iD (kI rows):=by unfold iD kI;rw[List.map_map];rfl
 rw[c]at e;exact o4 (k7 (p8 e))
theorem dC:∀{l:ge Int},y∈insI x l↔y=x\/y∈l
 | []=>by simp[insI]
 | z::l=>by
  unfold insI;split
  ·simp
  ·rw[e8,dC,e8];constructor<;>(rintro(h | h | h)<;>simp[h])
theorem dD:∀{l:ge Int},y∈F6 l↔y∈l
 | []=>Iff.rfl
 | z::l=>by unfold F6;rw[dC,dD,e8]
theorem kW:∀{l a:ge Int},y∈l.foldl dk a↔y∈a\/y∈l
 | [],a=>by simp
 | z::l,a=>by
  rw[List.foldl_cons,kW,e8];unfold dk;split
  ·rename_i h;constructor
   ·rintro(q | q)
    ·exact .inl q
    ·exact .inr (.inr q)
   ·rintro(q | q | q)
    ·exact .inl q
    ·rw[q];exact .inl h
    ·exact .inr q
  ·rw[List.mem_append,v4,or_assoc]
theorem Z4:∀{l σ:ge Int},(l.foldl dk σ).length<=σ.length+l.length
 | [],σ=>by simp
 | z::l,σ=>by
  rw[List.foldl_cons,p9];have:=Z4 (l:=l) (σ:=dk σ z);have h2:(dk σ z).length<=σ.length+1:=by unfold dk;split<;>simp
  omega
theorem kX:∀r:ge Int,ints? (iD r)=some r
 | []=>rfl
 | x::r=>by show(ints? (iD r)).map _=_;rw[kX r];rfl
theorem kY(h:evE G F e δ=some (.ok (.lst (iD r)) c))(hl:r.length<=60):evE G F (.bi .sset [e]) δ=some (.ok (.lst (iD (F6 (r.foldl dk [])))) .fresh):=by
 show Rs.thn _ _=_;rw[e9 h j5];show(match ints? (iD r)with
  | some a=>if a.length<4000/\(a.foldl dk []).length<64 then some _ else none
  | none=>none)=_
 rw[kX];have:=Z4 (l:=r) (σ:=[]);rw[List.length_nil]at this;exact d6 ⟨by omega,by omega⟩
section
end
theorem kZ:∀{a b:ge Int},a.Pairwise (· < ·)->b.Pairwise (· < ·)->(∀x,x∈a↔x∈b)->a=b
 | [],[],_,_,_=>rfl
 | [],y::b,_,_,h=>absurd ((h y).mpr (i9 ..)) (by simp)
 | x::a,[],_,_,h=>absurd ((h x).mp (i9 ..)) (by simp)
 | x::a,y::b,d,c,h=>by
  rw[A3]at d c;have e:x=y:=by
   rcases e8.mp ((h x).mp (i9 ..))with z | z
   ·exact z
   ·rcases e8.mp ((h y).mpr (i9 ..))with w | w
    ·exact w.symm
    ·have h1:=d.1 y w;have h2:=c.1 x z;omega
  subst e;rw[kZ d.2 c.2 λ z=>?_];constructor
  ·intro q;rcases e8.mp ((h z).mp (i8 _ q))with w | w
   · exact absurd (d.1 _ q) (by omega)
   ·exact w
  ·intro q;rcases e8.mp ((h z).mpr (i8 _ q))with w | w
   · exact absurd (c.1 _ q) (by omega)
   ·exact w
theorem lg:∀{l:ge Int},l.Pairwise (· < ·)->x∉l->(insI x l).Pairwise (· < ·)
 | [],_,_=>by simp[insI]
 | y::l,h,b=>by
  rw[A3]at h;unfold insI;split
  ·rename_i q;rw[A3];refine⟨λ z a=>?_,A3.mpr h⟩;rcases e8.mp a with w | w
   ·rwa [w]
   ·have:=h.1 z w;omega
  ·rename_i q;rw[A3];refine⟨λ z a=>?_,lg h.2 λ w=>b (i8 _ w)⟩;rcases dC.mp a with w | w
   ·subst w;have:z≠y:=λ e=>b (by grind)
    omega
   ·exact h.1 z w
theorem lh:∀{l:ge Int},l.Nodup->(F6 l).Pairwise (· < ·)
 | [],_=>List.Pairwise.nil
 | x::l,h=>by
  rw[List.nodup_cons]at h;exact lg (lh h.2) λ z=>h.1 (dD.mp z)
theorem li:∀{l c:ge Int},c.Nodup->(l.foldl dk c).Nodup
 | [],_,h=>h
 | x::l,c,h=>by
  rw[List.foldl_cons];refine li ?_;unfold dk;split
  ·exact h
  ·rename_i q;rw[List.nodup_append];refine⟨h,by simp,λ a f b d e=>?_⟩;rw[v4]at d;subst d e;exact q f
theorem ye{l:ge Int}(a:t.Pairwise (· < ·))(h:∀x,x∈l↔x∈t):F6 (l.foldl dk [])=t:=
 kZ (lh (li List.nodup_nil)) a λ x=>by rw[dD,kW,←h];simp
noncomputable def nI(l:ge Nat):ge Int:=l.map λ (j:Nat)=>(j:Int)
theorem yf(l:ge Nat):iD (nI l)=nD l:=by unfold iD nI nD;rw[List.map_map];rfl
theorem yg(p:Nat->Bool)(n:Nat):(nI ((List.range n).filter p)).Pairwise (· < ·):=by
 unfold nI;rw[List.pairwise_map];refine List.Pairwise.filter _ (List.Pairwise.imp ?_ List.pairwise_lt_range);intro a b h;omega
theorem yh:x∈nI l↔∃j∈l,(j:Int)=x:=by unfold nI;rw[k8]
noncomputable def FI(rows:ge (ge Int)):ge Nat:=(List.range rows.length).filter λ r=>rows.idxOf (rows.getD r [])==r
theorem aN{rows:ge (ge Int)}(h:r∈rows):rows.idxOf r<rows.length:=List.idxOf_lt_length_of_mem h
theorem dF{rows:ge (ge Int)}(h:r∈rows):rows.getD (rows.idxOf r) []=r:=by
 have a:=aN h;rw[u8,j8 a,Option.getD_some];exact List.getElem_idxOf a
theorem yi(rows:ge (ge Int)):F6 ((kI rows).foldl dk [])=nI (FI rows):=by
 refine ye (yg _ _) λ x=>?_;rw[yh];unfold kI FI;rw[k8];constructor
 ·rintro⟨r,a,rfl⟩
  refine⟨rows.idxOf r,j6.mpr ⟨k6.mpr (aN a),?_⟩,rfl⟩;rw[dF a,f7]
 ·rintro⟨j,b,rfl⟩
  obtain⟨d,c⟩:=j6.mp b;exact⟨rows.getD j [],D3 (k6.mp d),by rw[f7.mp c]⟩
theorem dG(h:i∈FI rows):i<rows.length:=k6.mp (j6.mp h).1
theorem lj(rows:ge (ge Int)):(FI rows).length<=rows.length:=by
 unfold FI;have:=List.length_filter_le (λ r=>rows.idxOf (rows.getD r [])==r) (List.range rows.length)
 rwa [p4]at this
theorem yj(h:0<rows.length):0<(FI rows).length:=by
 refine List.length_pos_of_mem (j6.mpr ⟨k6.mpr h,?_⟩);cases rows with
 | nil=>cases h
 | cons r rs=>simp
theorem lm(rows:ge (ge Int)):(kI rows).length=rows.length:=by unfold kI;rw[e7]
theorem yk(rows:ge (ge Int))(n m:Nat)(R:Rect n m rows)(c:0<n)(b:n<=1000)(a:m<=1000):run G T fu (k+2) 4 [tT rows]=some (.v (.lst (iD (kI (flip m rows)))) true):=by
 rw[m7 rfl rfl];unfold jy;exact o4 (k7 (p8 (j1 (e9 (j1 (l:=[(tT rows,.strong)]) rfl rfl (yc rows n m R c b a)) j5) rfl (kU _ (by rw[(dz R).1];exact a)))))
theorem yl(rows:ge (ge Int))(n m:Nat)(R:Rect n m rows)(g:0<n)(a:n<=60)(b:m<=60):run G T fu (k+3) 5 [tT rows]=some (.v (tT (sub rows (FI rows) (FI (flip m rows)))) false):=by
 rw[m7 rfl rfl];unfold jz;have c:=dz R;have f:=kY (F:=run G T fu (k+2)) (δ:=[.val _]) (e:=.call 3 [.var 0]) (j1 rfl rfl (kU rows (by rw[R.1];omega))) (by rw[lm,R.1];exact a);have d:=kY (F:=run G T fu (k+2)) (δ:=[.val _]) (e:=.call 4 [.var 0]) (j1 rfl rfl (yk rows n m R g (by omega) (by omega))) (by rw[lm,c.1];exact b);rw[yi,yf]at f d;exact o4 (k7 (p8 (j1 (e9 (d5 rfl) (e9 f (e9 d j5))) rfl (yd rows n m R _ _ (λ i l=>by have:=dG l;rw[R.1]at this;exact this) (λ j h=>by have:=dG h;rw[c.1]at this;exact this) (by have:=lj rows;rw[R.1]at this;omega) (by have:=lj (flip m rows);rw[c.1]at this;omega)))))
theorem b_le(d:evE G F a δ=some (.ok (.int i) cx))(c:evE G F b δ=some (.ok (.int j) cy)):evE G F (.cmp .LtE a b) δ=some (.ok (.bl (decide (i<=j))) .strong):=C3 d c rfl
noncomputable def sm(a b:Nat):Bool:=decide (a<6)&&decide (b<6)
theorem ym(h:0<I.length):∃r a,sub rows I J=r::a/\r.length=J.length:=by
 cases I with
 | nil=>cases h
 | cons i I=>exact⟨_,_,rfl,by simp⟩
theorem yn(rows:ge (ge Int))(n m:Nat)(R:Rect n m rows)(o:0<n)(f:n<=60)(g:m<=60):run G T fu (k+4) 6 [tT rows]=some (.v (.bl (sm (FI rows).length (FI (flip m rows)).length)) false):=by
 rw[m7 rfl rfl];unfold jA;have v:=yl (fu:=fu) (k:=k) rows n m R o f g;obtain⟨r,a,hs,x⟩:=ym (rows:=rows) (J:=FI (flip m rows)) (yj (rows:=rows) (by rw[R.1];exact o));have p:(sub rows (FI rows) (FI (flip m rows))).length=(FI rows).length:=by unfold sub;rw[e7]
 rw[hs]at v p;have w:evE G (run G T fu (k+3)) (.bi .len [.var 1]) [.val (tT rows),.val (tT (r::a))]=some (.ok (.int (FI rows).length) .strong):=by have t:=N0 (F:=run G T fu (k+3)) (δ:=[.val (tT rows),.val (tT (r::a))]) (e:=.var 1) (c:=.strong) rfl;rw[e7,p]at t;exact t
 have u:∀h:ge Sv,evE G (run G T fu (k+3)) (.glb "SMALL_LINES") h=some (.ok (.int 5) .strong):=λ h=>rfl;refine o4 (f8 (j3 (d:=tT (r::a)) (cl:=.strong) (j1 (l:=[(tT rows,.strong)]) rfl rfl v) rfl) (k7 (p8 (cl:=.strong) ?_)));have b:=b_le w (u _);have j:=b_le ((by have t:=N0 (F:=run G T fu (k+3)) (δ:=[.val (tT rows),.val (tT (r::a))]) (w5 (d5 (n:=1) (d:=tT (r::a)) rfl) (g8 (i:=0)) (N1 (by simp)));rw[show(iD ((r::a).getD 0 [])).length=(FI (flip m rows)).length by unfold iD;rw[e7];exact x]at t;exact t)) (u _);have z:decide (((FI rows).length:Int)<=5)=decide ((FI rows).length<6):=by rw[decide_eq_decide];omega
 have y:decide (((FI (flip m rows)).length:Int)<=5)=decide ((FI (flip m rows)).length<6):=by rw[decide_eq_decide];omega
 rw[z]at b;rw[y]at j;unfold sm;cases q:decide ((FI rows).length<6)with
 | true=>rw[q]at b;exact N2 b (N3 j)
 | false=>rw[q]at b;exact aI b
end
section
section
end
end
section
theorem yo(ds:ge DV)(h:Nat):cutD ds (some (h:Int)) none=ds.drop h:=by
 unfold cutD slIx;dsimp only;rw[d9 (by omega),z0];by_cases q:h<=ds.length
 ·rw[Nat.min_eq_left q,List.take_of_length_le (by grind)]
 ·rw[Nat.min_eq_right (by omega),List.drop_length,List.take_nil,List.drop_of_length_le (by omega)]
theorem yp(ds:ge DV)(h:Nat):cutD ds none (some (h:Int))=ds.take h:=by
 unfold cutD slIx;dsimp only;rw[d9 (by omega),z0,List.drop_zero,Nat.sub_zero];by_cases q:h<=ds.length
 ·rw[Nat.min_eq_left q]
 ·rw[Nat.min_eq_right (by omega),List.take_length,List.take_of_length_le (by omega)]
theorem lq{h:Nat}(e:evE G F a δ=some (.ok (.lst ds) c))(d:evE G F b δ=some (.ok (.int (h:Int)) c1)):evE G F (.slf a b) δ=some (.ok (.lst (ds.drop h)) (Cl.anew c c)):=by
 unfold evE;rw[e,A4,d,A4,←yo];rfl
theorem lr{h:Nat}(e:evE G F a δ=some (.ok (.lst ds) c))(d:evE G F b δ=some (.ok (.int (h:Int)) c1)):evE G F (.slt a b) δ=some (.ok (.lst (ds.take h)) (Cl.anew c c)):=by
 unfold evE;rw[e,A4,d,A4,←yp];rfl
theorem R6(d:evE G F a δ=some (.ok (.lst x) cx))(c:evE G F b δ=some (.ok (.lst y) cy))(h:x.length+y.length<=1000):evE G F (.bin .Add a b) δ=some (.ok (.lst (x++y)) (Cl.anew cx cy)):=
 B5 d c (d6 (g9 h (by decide)))
end
section
section
theorem N4{fu:Nat}{F:Nat->ge DV->on Ou}{δ:ge Sv}{G:Gs}{m:MS}{r:ge MS}{c:Str}{δ':ge Sv}(h:evS G F fu m δ=some (.ex c δ')):evSs G F fu (m::r) δ=some (.ex c δ'):=by
 unfold evSs;rw[h]
theorem dH{fu:Nat}{F:Nat->ge DV->on Ou}{δ:ge Sv}{G:Gs}{r:ge MS}{c:Str}{δ':ge Sv}(h:evSs G F fu r δ=some (.ex c δ')):Ou.of (evSs G F fu r δ)=some (.x c):=by rw[h];rfl
theorem yq{fu:Nat}{F:Nat->ge DV->on Ou}{δ:ge Sv}{G:Gs}{c:ME}{a b r:ge MS}{x:Str}{δ':ge Sv}(hc:tstD (evE G F c δ)=some (.ok true))(h:evSs G F fu a δ=some (.ex x δ')):evSs G F fu (.iff c a b::r) δ=some (.ex x δ'):=N4 ((O6 hc).trans h)
theorem aO{F:Nat->ge DV->on Ou}{δ:ge Sv}{G:Gs}{f:Nat}{es:ge ME}{l:ge (DV×Cl)}{c:Str}(ha:evEs G F es δ=some (.ok l))(h:F f (l.map (·.1))=some (.x c)):evE G F (.call f es) δ=some (.ex c):=by
 show Rs.thn (evEs G F es δ) (λ l=>B4 F f l)=_;rw[ha];show B4 F f l=_;unfold B4;rw[h]
theorem dJ{fu:Nat}{F:Nat->ge DV->on Ou}{δ:ge Sv}{G:Gs}{e:ME}{c:Str}(h:evE G F e δ=some (.ex c)):evS G F fu (.exp e) δ=some (.ex c δ):=by
 show Re.thnS δ (evE G F e δ) (λ _ _=>some (.nx δ))=_;rw[h];rfl
theorem yt{fu:Nat}{F:Nat->ge DV->on Ou}{δ:ge Sv}{cl:Cl}{G:Gs}{c:Str}{e:ME}{d:DV}(hc:(G.cls.lookup c).isSome=true)(h:evE G F e δ=some (.ok d cl)):evS G F fu (.rse c e) δ=some (.ex c δ):=by
 show(if(G.cls.lookup c).isSome=true then Re.thnS δ (evE G F e δ) (λ _ _=>some (.ex c δ))else none)=_;rw[d6 hc,h];rfl
end
theorem ls(R:Rect n m rows)(a:0<n)(n8:n<=8)(m8:m<=8):run G T fu (k+5) 7 [tT rows]=(if sm (FI rows).length (FI (flip m rows)).length then some (.v .non false)else some (.x "TooGreat")):=by
 rw[m7 rfl rfl];unfold jB;have c:=J8 (j1 (G:=G) (δ:=j0 1 [tT rows]) (es:=[.var 0]) rfl rfl (yn (fu:=fu) (k:=k) rows n m R a (by omega) (by omega)));cases h:sm (FI rows).length (FI _).length with
 | true=>
  rw[h]at c;rw[d6 rfl];exact qg (p5 (i0 c) rfl)
 | false=>
  rw[h]at c;rw[d9 y8];exact dH (yq (i0 c) (N4 (yt rfl rfl)))
theorem yu(rows:ge (ge Int)):(FI rows).Pairwise (· < ·):=by
 unfold FI;exact(List.pairwise_lt_range).sublist List.filter_sublist
end
section
theorem yv(i:Nat)(rows:ge (ge Int))(n m:Nat)(R:Rect n m rows)(g:0<n)(f:n<=8)(a:m<=8)(d:δ[i]? = some (.val (rL rows))):evE G F (.comp (.comp (.ix (.var 0) (.var 1)) (.one 0) (.var 1) [none,some 0]) (.one 0) (.rng [.bi .len [.ix (.var i) (.int 0)]]) [none,some i]) δ=some (.ok (rL (flip m rows)) .fresh):=by
 have c:0<rows.length:=by rw[R.1];exact g
 have b:δ.getD i .no=.val (rL rows):=by rw[u8,d];rfl
 have e:=C2 (tg:=.one 0) (fr:=[none,some i]) ((by have t:=E8 (w5 (d5 d) (g8 (F:=F) (i:=0)) (show ixD _ _=some (.lst _)from dB c));rw[show(iD _).length=m by unfold iD;rw[e7];exact R.2 _ (D3 c)]at t;rw[L0 t (by omega),ka];rfl)) (by decide) (by rw[p4];exact g9 a (by decide)) λ j h=>by refine⟨[.val _,.val _],.fresh,?_,yb rows m j R.2 (k6.mp h) (by rw[R.1];omega),rfl⟩;show some _=_;unfold z7;simp only[u0,List.map_nil,b];rfl
 rw[e];unfold rL flip;rw[List.map_map];rfl
theorem lu{n:Nat}(h:evE G F e δ=some (.ok (.int (n:Int)) c))(a:n<=1000):q5 (evE G F (.rng [e]) δ)=some (.ok ((List.range n).map λ (j:Nat)=>DV.int (j:Int)) .fresh):=by
 rw[L0 h a,ka];rfl
theorem yw:(flip m rows).length=m:=by unfold flip;rw[e7,p4]
end
section
theorem add1{i:Nat}(h:evE G F e δ=some (.ok (.int (i:Int)) c)):evE G F (.bin .Add e (.int 1)) δ=some (.ok (.int ((i+1:Nat):Int)) .strong):=by
 rw[show(((i+1:Nat)):Int)=_+1 by push_cast;rfl];exact E3 h g8
end
section
section
end
end
section
variable {fu k:Nat} {F:Nat->ge DV->on Ou} {δ:ge Sv} {ds:ge DV} {cl:Cl} {n m:Nat} {f:Nat->Nat->Int} {d:DV} {rows:ge (ge Int)}
def Few(L:ge (ge Int)):Prop:=∃S:ge (ge Int),S.length<=5/\∀r∈L,r∈S
theorem lv{b:Type}[BEq b][LawfulBEq b]:∀{l S:ge b},l.Nodup->(∀x∈l,x∈S)->l.length<=S.length
 | [],_,_,_=>Nat.zero_le _
 | a::l,S,h,hs=>by
  obtain⟨g,f⟩:=List.nodup_cons.mp h;have c:=hs a (i9 ..);have q:=lv (S:=S.erase a) f λ x d=>(List.mem_erase_of_ne (λ e=>g (by grind))).mpr (hs x (i8 _ d))
  rw[List.length_erase_of_mem c]at q;have:=List.length_pos_of_mem c;rw[p9];omega
theorem lw(h:Few rows):(FI rows).length<=5:=by
 obtain⟨S,h1,k⟩:=h;have q:((FI rows).map λ r=>rows.getD r []).length<=S.length:=by
  refine lv ?_ λ x c=>?_
  ·rw[List.nodup_iff_pairwise_ne,List.pairwise_map];refine List.Pairwise.imp_of_mem (λ {a b} j g d=>?_) (yu rows);intro e;have l:=eq_of_beq (j6.mp j).2;have e2:=eq_of_beq (j6.mp g).2;rw[e]at l;omega
  ·obtain⟨i,f,rfl⟩:=k8.mp c;exact k _ (D3 (dG f))
 rw[e7]at q;omega
theorem lx(h:rows.length<=5):Few rows:=⟨rows,h,λ _ a=>a⟩
noncomputable def ins(a s:Nat)(l:ge Int):ge Int:=l.take a++[l.getD s 0]++l.drop a
theorem yx:(ins a s l).length=l.length+1:=by
 unfold ins;rw[v0,v0,List.length_take,List.length_drop,List.length_singleton];omega
noncomputable def src(a s j:Nat):Nat:=if j<a then j else if j=a then s else j - 1
theorem yy(ha:a<=l.length):(ins a s l).getD j 0=l.getD (src a s j) 0:=by
 unfold ins src;simp only[u8];have lt:(l.take a).length=a:=by rw[List.length_take];omega
 by_cases b:j<a
 ·rw[d6 b,List.getElem?_append_left (by rw[v0,lt,List.length_singleton];omega),List.getElem?_append_left (by rw[lt];exact b),List.getElem?_take_of_lt b]
 ·rw[d9 b];by_cases c:j=a
  ·rw[d6 c,List.getElem?_append_left (by rw[v0,lt,List.length_singleton];omega),List.getElem?_append_right (by rw[lt];omega),lt,c,Nat.sub_self];rfl
  ·rw[d9 c,List.getElem?_append_right (by rw[v0,lt,List.length_singleton];omega),v0,lt,List.length_singleton,List.getElem?_drop]
   congr 2
   omega
noncomputable def insR(a s:Nat)(rows:ge (ge Int)):ge (ge Int):=rows.take a++[rows.getD s []]++rows.drop a
structure Tb(n m:Nat)(rows:List (List Int)):Prop where
 n0:0<n
 n8:n<=8
 m0:0<m
 m8:m<=8
 R:Rect n m rows
 fr:Few rows
 fc:Few (flip m rows)
theorem Tb.sm(t:Tb n m rows):sm (FI rows).length (FI (flip m rows)).length=true:=by
 have h1:=lw t.fr;have h2:=lw t.fc;unfold k33.sm;rw[decide_eq_true (by omega),decide_eq_true (by omega)];rfl
theorem Tb.row(t:Tb n m rows)(hn:n<8)(ha:a<=n)(hs:s<n):Tb (n+1) m (insR a s rows):=by
 have c:∀r∈insR a s rows,r∈rows:=λ r b=>by
  unfold insR at b;rcases List.mem_append.mp b with q | q
  ·rcases List.mem_append.mp q with q | q
   ·exact List.mem_of_mem_take q
   ·rw[v4.mp q];exact D3 (by rwa [t.R.1])
  ·exact List.mem_of_mem_drop q
 refine⟨by omega,by omega,t.m0,t.m8,⟨?_,λ r b=>t.R.2 r (c r b)⟩,?_,?_⟩
 ·unfold insR;rw[v0,v0,List.length_take,List.length_drop,List.length_singleton,t.R.1];omega
 ·obtain⟨S,e,d⟩:=t.fr;exact⟨S,e,λ r b=>d r (c r b)⟩
 ·obtain⟨S,e,d⟩:=t.fc;refine⟨S.map (ins a s),by rwa [e7],λ r b=>?_⟩;obtain⟨j,f,rfl⟩:=k8.mp b;refine k8.mpr ⟨col rows j,d _ (k8.mpr ⟨j,f,rfl⟩),?_⟩;unfold col ins insR;rw[List.map_append,List.map_append,List.map_take,List.map_drop]
  congr 2
  rw[u8,u4,j8 (by rwa [t.R.1]),List.map_singleton,u8 (l:=rows),j8 (by rwa [t.R.1])];rfl
theorem Tb.colm(t:Tb n m rows)(hm:m<8)(ha:a<=m)(hs:s<m):Tb n (m+1) (rows.map (ins a s)):=by
 refine⟨t.n0,t.n8,by omega,by omega,⟨by rw[e7,t.R.1],λ r c=>?_⟩,?_,?_⟩
 ·obtain⟨d,b,rfl⟩:=k8.mp c;rw[yx,t.R.2 d b]
 ·obtain⟨S,g,f⟩:=t.fr;refine⟨S.map (ins a s),by rwa [e7],λ r c=>?_⟩;obtain⟨d,b,rfl⟩:=k8.mp c;exact k8.mpr ⟨d,f d b,rfl⟩
 ·obtain⟨S,g,f⟩:=t.fc;refine⟨S,g,λ r c=>?_⟩;obtain⟨j,i,rfl⟩:=k8.mp c;have h:=k6.mp i;have e:col (rows.map (ins a s)) j=col rows (src a s j):=by unfold col;rw[List.map_map];apply List.map_congr_left;intro r c;exact yy (by rwa [t.R.2 r c])
  rw[e];refine f _ (k8.mpr ⟨src a s j,k6.mpr ?_,rfl⟩);unfold src;split
  ·omega
  ·split<;>omega
theorem X1{elt eo ei:ME}{fi fo:ge (on Nat)}{g:Nat->Nat->Int}(hn:evE G F eo δ=some (.ok (.int (n:Int)) .strong))(n5:n<=8)(m5:m<=8)(ho:∀r,r<n->∃δ1,(Tg.one 0).bind (.int (r:Int)) (z7 fo δ)=some δ1/\evE G F ei δ1=some (.ok (.int (m:Int)) .strong)/\∀c,c<m->∃δ2,(Tg.one 0).bind (.int (c:Int)) (z7 fi δ1)=some δ2/\evE G F elt δ2=some (.ok (.int (g r c)) .strong)) :
  evE G F (.comp (.comp elt (.one 0) (.rng [ei]) fi) (.one 0) (.rng [eo]) fo) δ=some (.ok (rL ((List.range n).map λ r=>(List.range m).map (g r))) .fresh):=by
 have e:=C2 (l:=List.range n) (h:=λ (j:Nat)=>DV.int (j:Int)) (f:=λ r=>.lst (iD ((List.range m).map (g r)))) (elt:=.comp elt (.one 0) (.rng [ei]) fi) (tg:=.one 0) (fr:=fo) (lu hn (by omega)) (by decide) (by rw[p4];exact g9 n5 (by decide)) λ r hr=>by
  obtain⟨δ1,h1,h2,h3⟩:=ho r (k6.mp hr);refine⟨δ1,.fresh,h1,?_,rfl⟩;have q:=C2 (F:=F) (δ:=δ1) (l:=List.range m) (h:=λ (j:Nat)=>DV.int (j:Int)) (f:=λ c=>.int (g r c)) (elt:=elt) (tg:=.one 0) (fr:=fi) (lu h2 (by omega)) (by decide) (by rw[p4];exact g9 m5 (by decide)) λ c hc=>by obtain⟨δ2,h4,h5⟩:=h3 c (k6.mp hc);exact⟨δ2,.strong,h4,h5,rfl⟩
  rw[q];unfold iD;rw[List.map_map];rfl
 rw[e];unfold rL;rw[List.map_map];rfl
theorem X2(g:Nat->Nat->Int):Rect n m ((List.range n).map λ r=>(List.range m).map (g r)):=by
 refine⟨by rw[e7,p4],λ r a=>?_⟩;obtain⟨i,_,rfl⟩:=k8.mp a;rw[e7,p4]
theorem dL(h:evE G F e δ=some (.ok (.bl b) c)):evE G F (.bi .int [e]) δ=some (.ok (.int (if b then 1 else 0)) .strong):=by
 show Rs.thn _ _=_;rw[e9 h j5];rfl
theorem top4(x:Int):∃a:Int,0<a/\ixD (.lst [.int 2,.int 3,.int 10,.int 2]) (.int (x%4))=some (.int a):=by
 have:x%4=0\/x%4=1\/x%4=2\/x%4=3:=by omega
 rcases this with h | h | h | h<;>rw[h]
 ·exact⟨2,by decide,rfl⟩
 ·exact⟨3,by decide,rfl⟩
 ·exact⟨10,by decide,rfl⟩
 ·exact⟨2,by decide,rfl⟩
theorem yz(x:Int):∃a:Int,0<a/\a<=5/\ixD (.lst [.int 4,.int 4,.int 4,.int 4,.int 4,.int 4,.int 4,.int 5]) (.int (x%8))=some (.int a):=by
 have:x%8=0\/x%8=1\/x%8=2\/x%8=3\/x%8=4\/x%8=5\/x%8=6\/x%8=7:=by omega
 rcases this with h | h | h | h | h | h | h | h<;>rw[h]
 ·exact⟨4,by decide,by decide,rfl⟩
 ·exact⟨4,by decide,by decide,rfl⟩
 ·exact⟨4,by decide,by decide,rfl⟩
 ·exact⟨4,by decide,by decide,rfl⟩
 ·exact⟨4,by decide,by decide,rfl⟩
 ·exact⟨4,by decide,by decide,rfl⟩
 ·exact⟨4,by decide,by decide,rfl⟩
 ·exact⟨5,by decide,by decide,rfl⟩
end
section
variable {fu k:Nat} {F:Nat->ge DV->on Ou} {δ:ge Sv} {ds:ge DV} {cl:Cl} {n m:Nat} {f:Nat->Nat->Int} {d:DV} {rows:ge (ge Int)}
theorem N5{xs:ge Int}{i:Int}(c:0<=i)(h:i<xs.length):∃v,∀{F:Nat->ge DV->on Ou} {δ:ge Sv} {e:ME},evE G F e δ=some (.ok (.lst (xs.map DV.int)) .strong)->evE G F (.ix e (.int i)) δ=some (.ok (.int v) .strong):=by
 obtain⟨v,a⟩:=fB c h;exact⟨v,λ b=>w5 b g8 a⟩
abbrev Sc(ns xs:ge Int)(mo:Int)(n m:Nat)(tp:Int)(x y z:Sv):ge Sv:=[.val (.scr ns),.val (.int 2),.val (.lst (xs.map DV.int)),.val (.int mo),.val (.int n),.val (.int m),.val (.int tp),x,y,z]
theorem yA(l:ge Int)(hns:l.length<=63)(xs:ge Int)(y:xs.length=24):∃(n m:Nat) (h:ge (ge Int)),0<n/\n<=5/\0<m/\m<=5/\Rect n m h/\run G T fu (k+2) 22 [.scr l,.int 2,.lst (xs.map DV.int)]=some (.v (rL h) false):=by
 obtain⟨v1,c1⟩:=aG (fu:=fu) (k:=k) l 1;obtain⟨a0,h0⟩:=N5 (xs:=xs) (i:=0) (by omega) (by rw[y];omega);obtain⟨O,h1⟩:=N5 (xs:=xs) (i:=1) (by omega) (by rw[y];omega);obtain⟨N,h2⟩:=N5 (xs:=xs) (i:=2) (by omega) (by rw[y];omega);obtain⟨a3,M⟩:=N5 (xs:=xs) (i:=3) (by omega) (by rw[y];omega);obtain⟨A,h4⟩:=N5 (xs:=xs) (i:=4) (by omega) (by rw[y];omega);obtain⟨Y,h5⟩:=N5 (xs:=xs) (i:=5) (by omega) (by rw[y];omega);obtain⟨q,w,mo5,W⟩:=yz a0;obtain⟨p,J,K⟩:=top4 a3;have b1:=Int.emod_nonneg O (b:=q) (by omega);have b2:=Int.emod_lt_of_pos O (b:=q) w;have b3:=Int.emod_nonneg N (b:=q) (by omega);have b4:=Int.emod_lt_of_pos N (b:=q) w;obtain⟨n,hn⟩:∃n:Nat,1+O%q=(n:Int):=⟨(1+O%q).toNat,by omega⟩;obtain⟨m,hm⟩:∃m:Nat,1+N%q=(m:Int):=⟨(1+N%q).toNat,by omega⟩;have S:n<=5:=by omega
 have m5:m<=5:=by omega
 have nm:n*m<=25:=Nat.mul_le_mul S m5;obtain⟨v,E,Q⟩:=jS (fu:=fu) (k:=k) v1 (n*m) (by omega);have C:D7 (n:Int) (m:Int)=true:=by unfold D7;simp;omega
 have cm:=qr (G:=G) (F:=run G T fu (k+1)) (δ:=(Sc l xs q n m p .no .no .no)) (elt:=.bin .Mod (.var 0) (.var 1)) (tg:=.one 0) (fr:=[none,some 6]) (f:=λ d=>match d with | .int x=>.int (x%p) | d=>d) (ds:=v.map DV.int) (cl:=.fresh)
  (by
   rw[(j1 (G:=G) (F:=run G T fu (k+1)) (δ:=(Sc l xs q n m p .no .no .no)) (f:=21) (e9 (j1 (f:=20) (e9 (d5 (n:=0) (d:=.scr l) rfl) (e9 (g8 (i:=1)) j5)) rfl c1) (e9 (M0 (d5 (n:=4) (d:=.int n) rfl) (d5 (n:=5) (d:=.int m) rfl) C) j5)) rfl (by rw[show((n:Int)*(m:Int))=((n*m:Nat):Int) by push_cast;rfl];exact Q))];rfl) (by decide) (by rw[e7,E];exact g9 nm (by decide)) (λ d X=>by
   obtain⟨x,y,rfl⟩:=k8.mp X;exact⟨[.val (.int x),.val (.int p)],rfl,y6 (d5 rfl) (d5 rfl) J⟩)
 rw[List.map_map,show((λ d=>match d with | DV.int x=>DV.int (x%p) | d=>d) ∘ DV.int)=DV.int ∘ (λ x:Int=>x%p)from rfl,←List.map_map]at cm;obtain⟨b,hb,hb1,hb2⟩:∃b:Int,(if(l.length:Int) - 2<(n:Int)*m then(l.length:Int) - 2 else(n:Int)*m)=b/\b<=((n*m:Nat):Int)/\b<=(l.length:Int) - 2:=by refine⟨_,rfl,?_,?_⟩<;>split<;>omega
 obtain⟨δ1,l1,o,z,H,rfl⟩:=L9 (i:=8) (I:=λ _ Z=>∃(o:ge Int) (z:Sv),o.length=n*m/\Z=(Sc l xs q n m p (.own (.lst (o.map DV.int))) z .no))
  (body:=λ P=>evSs G (run G T fu (k+1)) fu [.seti 7 (.var 8) (.bin .Mod (.ix (.var 0) (.bin .Add (.var 1) (.var 8))) (.var 6))] P) b.toNat 0
  (λ j hj Z I=>by
   obtain⟨o,z,H,rfl⟩:=I;rw[show(0:Int)+(j:Int)=j by omega];have M:2+j<l.length:=by omega
   refine⟨_,f8 (qi (d:=.int (l[2+j]%p)) (cl:=.strong) (n:=j) (cx:=.strong) (j:=j) rfl (y6 (w5 (d5 rfl) (E3 (d5 rfl) (d5 rfl)) ((by rw[show(2:Int)+(j:Int)=((2+j:Nat):Int) by push_cast;rfl];show((A9 l.length ((2+j:Nat):Int)).bind λ j=>l[j]?).map DV.int=_;rw[jW M,Option.bind_some,j8 M];rfl))) (d5 rfl) J) (d5 rfl) rfl (jW (by rw[e7,H];omega))) rfl,o.set j (l[2+j]%p),.val (.int j),by rw[v5];exact H,?_⟩;rw[List.map_set];rfl) ⟨v.map λ x=>x%p,.no,by rw[e7];exact E,rfl⟩
 have rt:=xw (F:=run G T fu (k+1)) (δ:=(Sc l xs q n m p (.own (.lst (o.map DV.int))) z .no)) (elt:=.sl (.var 1) (.bin .Mult (.var 0) (.var 2)) (.bin .Add (.bin .Mult (.var 0) (.var 2)) (.var 2))) (tg:=.one 0) (it:=.rng [.var 4]) (fr:=[none,some 7,some 5]) (f:=λ d=>match d with | .int j=>.lst (iD ((o.drop (j.toNat*m)).take m)) | d=>d) (ds:=upTo 0 n) (cl:=.fresh)
  (L0 (d5 rfl) (by omega)) (by decide) (by unfold L2.upTo;rw[e7,p4];exact g9 S (by decide)) (λ d X=>by
   obtain⟨j,hj,rfl⟩:=fA X;rw[show(0:Int)+(j:Int)=j by omega];have B:D7 (j:Int) (m:Int)=true:=by unfold D7;simp;omega
   refine⟨[.val (.int j),.own (.lst (iD o)),.val (.int m)],.fresh,rfl,?_,rfl⟩;show _=some (Re.ok (.lst (iD ((o.drop ((j:Int).toNat*m)).take m))) .fresh);rw[z0,←xA H hj];exact xz (Z2 rfl) (M0 (d5 rfl) (d5 rfl) B) (E3 (M0 (d5 rfl) (d5 rfl) B) (d5 rfl)))
 have hf:(upTo 0 n).map (λ d=>match d with | .int j=>DV.lst (iD ((o.drop (j.toNat*m)).take m)) | d=>d)=(L3 n m o).map λ r=>.lst (iD r):=by unfold L2.upTo L3;rw[List.map_map,List.map_map];apply List.map_congr_left;intro j _;show DV.lst (iD ((o.drop (((0:Int)+(j:Int)).toNat*m)).take m))=_;rw[show((0:Int)+(j:Int)).toNat=j by omega];rfl
 rw[hf]at rt
 let D:DV->ge Sv:=λ r=>(Sc l xs q n m p (.own (.lst (o.map DV.int))) z (.val r))
 have g1:∀r,evE G (run G T fu (k+1)) (.comp (.comp (.bi .int [.cmp .Eq (.var 1) (.var 0)]) (.one 0) (.rng [.var 1]) [none,some 0]) (.one 0) (.rng [.var 4]) [none,some 5]) (D r)=some (.ok (rL ((List.range n).map λ (r:Nat)=>(List.range m).map λ (c:Nat)=>if((r:Int)==(c:Int))then(1:Int)else 0)) .fresh):=λ r=>
  X1 (n:=n) (m:=m) (d5 rfl) (by omega) (by omega) λ r hr=>⟨[.val (.int (r:Int)),.val (.int (m:Int))],rfl,d5 rfl,λ c hc=>⟨[.val (.int (c:Int)),.val (.int (r:Int))],rfl,dL (b_eq (d5 rfl) (d5 rfl))⟩⟩
 have g2:∀r,evE G (run G T fu (k+1)) (.comp (.comp (.bi .int [.cmp .Lt (.var 1) (.var 0)]) (.one 0) (.rng [.var 1]) [none,some 0]) (.one 0) (.rng [.var 4]) [none,some 5]) (D r)=some (.ok (rL ((List.range n).map λ (r:Nat)=>(List.range m).map λ (c:Nat)=>if decide ((r:Int)<(c:Int))then(1:Int)else 0)) .fresh):=λ r=>
  X1 (n:=n) (m:=m) (d5 rfl) (by omega) (by omega) λ r hr=>⟨[.val (.int (r:Int)),.val (.int (m:Int))],rfl,d5 rfl,λ c hc=>⟨[.val (.int (c:Int)),.val (.int (r:Int))],rfl,dL (b_lt (d5 rfl) (d5 rfl))⟩⟩
 have g3:∀r,evE G (run G T fu (k+1)) (.comp (.comp (.bin .Mod (.ix (.var 1) (.int 5)) (.int 10)) (.one 0) (.rng [.var 1]) [none,some 2]) (.one 0) (.rng [.var 4]) [none,some 5,some 2]) (D r)=some (.ok (rL ((List.range n).map λ (_:Nat)=>(List.range m).map λ (_:Nat)=>Y%10)) .fresh):=λ r=>
  X1 (n:=n) (m:=m) (g:=λ (r c:Nat)=>Y%10) (d5 rfl) (by omega) (by omega) λ r hr=>⟨[.val (.int (r:Int)),.val (.int (m:Int)),.val (.lst (xs.map DV.int))],rfl,d5 rfl,λ c hc=>⟨[.val (.int (c:Int)),.val (.lst (xs.map DV.int))],rfl,y6 (h5 (d5 rfl)) g8 (by decide)⟩⟩
 have u:∀(r:DV) (j:Int),evE G (run G T fu (k+1)) (.cmp .Eq (.bin .Mod (.ix (.var 2) (.int 4)) (.int 8)) (.int j)) (D r)=some (.ok (.bl (A%8==j)) .strong):=λ r j=>b_eq (y6 (h4 (d5 rfl)) g8 (by decide)) g8;obtain⟨h,Rr,tail⟩:∃h,Rect n m h/\evSs G (run G T fu (k+1)) fu (W7.body.drop 7) (D (rL (L3 n m o)))=some (.rt (rL h) false):=by
  unfold W7;simp only[List.drop_succ_cons,List.drop_zero];by_cases L:A%8=1
  ·refine⟨_,X2 (λ (r c:Nat)=>if((r:Int)==(c:Int))then 1 else 0),G8 (i0 (by rw[u,L];rfl)) (f8 (j3 (g1 _) rfl) rfl) (p5 (i0 (show _=some (Re.ok (.bl false) .strong)from by rw[show((D (rL (L3 n m o))).set 9 _)=D _ from rfl,u,L];rfl)) (p5 (i0 (show _=some (Re.ok (.bl false) .strong)from by rw[show((D (rL (L3 n m o))).set 9 _)=D _ from rfl,u,L];rfl)) (k7 rfl)))⟩
  ·have U:(A%8==1)=false:=u9.mpr L;by_cases R:A%8=2
   ·refine⟨_,X2 _,p5 (i0 (by rw[u,U])) (G8 (i0 (by rw[u,R];rfl)) (f8 (j3 (g2 _) rfl) rfl) (p5 (i0 (show _=some (Re.ok (.bl false) .strong)from by rw[show((D (rL (L3 n m o))).set 9 _)=D _ from rfl,u,R];rfl)) (k7 rfl)))⟩
   ·have n2:(A%8==2)=false:=u9.mpr R;by_cases q3:A%8=3
    ·refine⟨_,X2 (λ (r c:Nat)=>Y%10),p5 (i0 (by rw[u,U])) (p5 (i0 (by rw[u,n2])) (G8 (i0 (by rw[u,q3];rfl)) (f8 (j3 (g3 _) rfl) rfl) (k7 rfl)))⟩
    ·have n3:(A%8==3)=false:=u9.mpr q3;exact⟨_,xy H,p5 (i0 (by rw[u,U])) (p5 (i0 (by rw[u,n2])) (p5 (i0 (by rw[u,n3])) (k7 rfl)))⟩
 refine⟨n,m,h,by omega,S,by omega,m5,Rr,?_⟩;rw[m7 (fd:=W7) rfl rfl];unfold W7 at tail ⊢;simp only[List.drop_succ_cons,List.drop_zero]at tail;exact o4 (f8 (j3 (d:=.int q) (cl:=.strong) (w5 (cx:=.fresh) rfl (y6 (h0 (d5 rfl)) g8 (by decide)) W) rfl)
  (f8 (j3 (d:=.int n) (cl:=.strong) (by rw[←hn];exact E3 g8 (y6 (h1 (d5 rfl)) (d5 rfl) w)) rfl) (f8 (j3 (d:=.int m) (cl:=.strong) (by rw[←hm];exact E3 g8 (y6 (h2 (d5 rfl)) (d5 rfl) w)) rfl)
  (f8 (j3 (d:=.int p) (cl:=.strong) (w5 (cx:=.fresh) (x:=.lst [.int 2,.int 3,.int 10,.int 2]) rfl (y6 (M (d5 rfl)) g8 (by decide)) K) rfl)
  (f8 (O7 cm) (E2 (xx ((by rw[xC (e9 (M0 (d5 rfl) (d5 rfl) C) (e9 (O8 rfl (d5 rfl)) j5)),←hb];rfl)) (by omega) ((by rw[←hb];have:(0:Int)<=(n:Int)*m:=Int.mul_nonneg (y9 n) (y9 m);split<;>omega))) (.inr rfl) l1 (f8 (j3 rt rfl) tail)))))))
end
section
variable {fu k:Nat} {F:Nat->ge DV->on Ou} {δ:ge Sv} {ds:ge DV} {cl:Cl} {n m:Nat} {f:Nat->Nat->Int} {d:DV} {rows:ge (ge Int)}
theorem dM{xs:ge Int}{i:Int}(d:0<=i+j)(h:i+j<xs.length):∃v,∀{F:Nat->ge DV->on Ou} {δ:ge Sv},evE G F (.var 2) δ=some (.ok (.lst (xs.map DV.int)) .strong)->evE G F (.var 4) δ=some (.ok (.int (j:Int)) .strong)->evE G F (.ix (.var 2) (.bin .Add (.int i) (.var 4))) δ=some (.ok (.int v) .strong):=by
 obtain⟨v,a⟩:=fB d h;exact⟨v,λ c b=>w5 c (E3 g8 b) a⟩
theorem X3(x:Int)(hn:0<n):∃a:Nat,x%(n:Int)=(a:Int)/\a<n:=by
 have q1:=Int.emod_nonneg x (b:=(n:Int)) (by omega);have q2:=Int.emod_lt_of_pos x (b:=(n:Int)) (by omega);exact⟨(x%(n:Int)).toNat,by omega,by omega⟩
theorem yB(R:Rect n m rows)(hn:0<n)(h:evE G F (.var 3) δ=some (.ok (rL rows) .strong)):evE G F (.bi .len [.ix (.var 3) (.int 0)]) δ=some (.ok (.int (m:Int)) .strong):=by
 have a:0<rows.length:=by rwa [R.1]
 have t:=E8 (w5 h (g8) (dB a));rw[show(iD _).length=m by unfold iD;rw[e7];exact R.2 _ (D3 a)]at t;exact t
theorem yC(R:Rect n m rows)(h:evE G F (.var 3) δ=some (.ok (rL rows) .strong)):evE G F (.bi .len [.var 3]) δ=some (.ok (.int (n:Int)) .strong):=by
 have q:=E8 h;rw[e7,R.1]at q;exact q
abbrev S7(s p:DV)(xs:ge Int)(rows:ge (ge Int))(j:Nat)(y z:Sv):ge Sv:=[.val s,.val p,.val (.lst (xs.map DV.int)),.val (rL rows),.val (.int (j:Int)),y,z]
noncomputable def ly:ge MS:=[.iff (.and [.cmp .Lt (.bi .len [.var 3]) (.int 8),.cmp .Eq (.bin .Mod (.ix (.var 2) (.bin .Add (.int 7) (.var 4))) (.int 2)) (.int 0)]) [.set 5 false (.bin .Mod (.ix (.var 2) (.bin .Add (.int 12) (.var 4))) (.bin .Add (.bi .len [.var 3]) (.int 1))),.set 3 false (.bin .Add (.bin .Add (.slt (.var 3) (.var 5)) (.lst [.ix (.var 3) (.bin .Mod (.ix (.var 2) (.bin .Add (.int 17) (.var 4))) (.bi .len [.var 3]))])) (.slf (.var 3) (.var 5)))] [.iff (.cmp .Lt (.bi .len [.ix (.var 3) (.int 0)]) (.int 8)) [.set 5 false (.bin .Mod (.ix (.var 2) (.bin .Add (.int 12) (.var 4))) (.bin .Add (.bi .len [.ix (.var 3) (.int 0)]) (.int 1))),.set 6 false (.bin .Mod (.ix (.var 2) (.bin .Add (.int 17) (.var 4))) (.bi .len [.ix (.var 3) (.int 0)])),.set 3 false (.comp (.bin .Add (.bin .Add (.slt (.var 0) (.var 1)) (.lst [.ix (.var 0) (.var 2)])) (.slf (.var 0) (.var 1))) (.one 0) (.var 3) [none,some 5,some 6])] []]]
theorem lst1(h:evE G F e δ=some (.ok d c))(hs:stro d c=true):evE G F (.lst [e]) δ=some (.ok (.lst [d]) .fresh):=G1 (e9 h j5) (show 1<=k9 by decide) (by unfold stros;simp[hs])
theorem yD(I:xs.length=24)(hj:j<5)(t:Tb n m rows):∃R S d C B,Tb R S d/\R+S<=n+m+1/\evSs G F fu ly (S7 s p xs rows j z5 z6)=some (.nx [.val s,.val p,.val (.lst (xs.map DV.int)),.val (rL d),.val (.int (j:Int)),C,B]):=by
 obtain⟨Q,Y⟩:=dM (xs:=xs) (i:=7) (j:=j) (by omega) (by rw[I];omega);obtain⟨k,x⟩:=dM (xs:=xs) (i:=12) (j:=j) (by omega) (by rw[I];omega);obtain⟨g,w⟩:=dM (xs:=xs) (i:=17) (j:=j) (by omega) (by rw[I];omega);have E:∀z5 z6,evE G F (.bi .len [.var 3]) (S7 s p xs rows j z5 z6)=some (.ok (.int (n:Int)) .strong):=λ z5 z6=>yC t.R (d5 rfl)
 have H:∀z5 z6,evE G F (.bi .len [.ix (.var 3) (.int 0)]) (S7 s p xs rows j z5 z6)=some (.ok (.int (m:Int)) .strong):=λ z5 z6=>yB t.R t.n0 (d5 rfl);have A:=b_lt (E z5 z6) (g8 (i:=8));have W:=b_eq (y6 (Y (F:=F) (δ:=(S7 s p xs rows j z5 z6)) (d5 rfl) (d5 rfl)) (g8 (i:=2)) (by decide)) (g8 (i:=0));have z:=b_lt (H z5 z6) (g8 (i:=8));unfold ly;have o:tstD (evE G F (.and [.cmp .Lt (.bi .len [.var 3]) (.int 8),.cmp .Eq (.bin .Mod (.ix (.var 2) (.bin .Add (.int 7) (.var 4))) (.int 2)) (.int 0)]) (S7 s p xs rows j z5 z6))=some (.ok (decide ((n:Int)<8)&&(Q%2==0))):=by
  cases U:decide ((n:Int)<8)with
  | false=>rw[U]at A;exact i0 (aI A)
  | true=>rw[U]at A;exact i0 (N2 A (N3 W))
 cases N:decide ((n:Int)<8)&&(Q%2==0)with
 | true=>
  rw[N]at o;rw[d8,decide_eq_true_iff]at N;obtain⟨a,L,K⟩:=X3 k (n:=n+1) (by omega);obtain⟨b,J,e⟩:=X3 g t.n0;have O:evE G F (.bin .Mod (.ix (.var 2) (.bin .Add (.int 12) (.var 4))) (.bin .Add (.bi .len [.var 3]) (.int 1))) (S7 s p xs rows j z5 z6)=some (.ok (.int (a:Int)) .strong):=by rw[←L];exact y6 (x (d5 rfl) (d5 rfl)) (add1 (E z5 z6)) (by omega)
  have P:evE G F (.bin .Add (.bin .Add (.slt (.var 3) (.var 5)) (.lst [.ix (.var 3) (.bin .Mod (.ix (.var 2) (.bin .Add (.int 17) (.var 4))) (.bi .len [.var 3]))])) (.slf (.var 3) (.var 5))) (S7 s p xs rows j (.val (.int (a:Int))) z6)=some (.ok (rL (insR a b rows)) .fresh):=(by have Z:evE G F (.ix (.var 3) (.bin .Mod (.ix (.var 2) (.bin .Add (.int 17) (.var 4))) (.bi .len [.var 3]))) (S7 s p xs rows j (.val (.int (a:Int))) z6)=some (.ok (.lst (iD (rows.getD b []))) .strong):=(by refine w5 (cx:=.strong) (y:=.int (b:Int)) (cy:=.strong) (d5 rfl) ?_ (dB (by rw[t.R.1];exact e));rw[←J];exact y6 (w (d5 rfl) (d5 rfl)) (E _ z6) (by omega));have q:=R6 (R6 (lr (F:=F) (δ:=(S7 s p xs rows j (.val (.int (a:Int))) z6)) (a:=.var 3) (b:=.var 5) (c:=.strong) (c1:=.strong) (ds:=rows.map λ r=>.lst (iD r)) (h:=a) (d5 rfl) (d5 rfl)) (lst1 Z rfl) (by rw[List.length_take,e7,t.R.1];simp;have:=t.n8;omega)) (lq (F:=F) (δ:=(S7 s p xs rows j (.val (.int (a:Int))) z6)) (a:=.var 3) (b:=.var 5) (c:=.strong) (c1:=.strong) (ds:=rows.map λ r=>.lst (iD r)) (h:=a) (d5 rfl) (d5 rfl)) (by rw[v0,List.length_take,List.length_drop,e7,t.R.1];simp;have:=t.n8;omega);rw[q];unfold rL insR;rw[List.map_append,List.map_append,List.map_take,List.map_drop];rfl);exact⟨_,_,_,_,_,t.row (a:=a) (s:=b) (by omega) (by omega) e,by omega,G8 o (f8 (j3 O rfl) (f8 (j3 P rfl) rfl)) rfl⟩
 | false=>
  rw[N]at o;cases M:decide ((m:Int)<8)with
  | false=>
   rw[M]at z;exact⟨n,m,rows,z5,z6,t,by omega,bB o (p5 (i0 z) rfl) rfl⟩
  | true=>
   rw[M]at z;rw[decide_eq_true_iff]at M;obtain⟨a,L,K⟩:=X3 k (n:=m+1) (by omega);obtain⟨b,J,e⟩:=X3 g t.m0;have O:evE G F (.bin .Mod (.ix (.var 2) (.bin .Add (.int 12) (.var 4))) (.bin .Add (.bi .len [.ix (.var 3) (.int 0)]) (.int 1))) (S7 s p xs rows j z5 z6)=some (.ok (.int (a:Int)) .strong):=by rw[←L];exact y6 (x (d5 rfl) (d5 rfl)) (add1 (H z5 z6)) (by omega)
   have e6:evE G F (.bin .Mod (.ix (.var 2) (.bin .Add (.int 17) (.var 4))) (.bi .len [.ix (.var 3) (.int 0)])) (S7 s p xs rows j (.val (.int (a:Int))) z6)=some (.ok (.int (b:Int)) .strong):=(by rw[←J];exact y6 (w (d5 rfl) (d5 rfl)) (H _ z6) (by omega));have P:evE G F (.comp (.bin .Add (.bin .Add (.slt (.var 0) (.var 1)) (.lst [.ix (.var 0) (.var 2)])) (.slf (.var 0) (.var 1))) (.one 0) (.var 3) [none,some 5,some 6]) (S7 s p xs rows j (.val (.int (a:Int))) (.val (.int (b:Int))))=some (.ok (rL (rows.map (ins a b))) .fresh):=by
    have q:=C2 (F:=F) (δ:=(S7 s p xs rows j (.val (.int (a:Int))) (.val (.int (b:Int))))) (l:=rows) (h:=λ r=>.lst (iD r)) (f:=λ r=>.lst (iD (ins a b r))) (elt:=.bin .Add (.bin .Add (.slt (.var 0) (.var 1)) (.lst [.ix (.var 0) (.var 2)])) (.slf (.var 0) (.var 1))) (tg:=.one 0) (it:=.var 3) (fr:=[none,some 5,some 6]) (cl:=.strong) rfl (by decide) (by rw[t.R.1];exact g9 t.n8 (by decide)) λ r X=>by
     refine⟨[.val (.lst (iD r)),.val (.int (a:Int)),.val (.int (b:Int))],.fresh,rfl,?_,rfl⟩;have v:=t.R.2 r X;have u:(iD r).length=m:=by unfold iD;rw[e7,v]
     have q:=R6 (R6 (lr (F:=F) (δ:=[.val (.lst (iD r)),.val (.int (a:Int)),.val (.int (b:Int))]) (a:=.var 0) (b:=.var 1) (c:=.strong) (c1:=.strong) (ds:=iD r) (h:=a) (d5 rfl) (d5 rfl)) (lst1 (w5 (a:=.var 0) (b:=.var 2) (cx:=.strong) (d5 rfl) (d5 rfl) (jU (r:=r) (j:=b) (by rw[v];exact e))) rfl) (by rw[List.length_take,u];simp;omega)) (lq (F:=F) (δ:=[.val (.lst (iD r)),.val (.int (a:Int)),.val (.int (b:Int))]) (a:=.var 0) (b:=.var 1) (c:=.strong) (c1:=.strong) (ds:=iD r) (h:=a) (d5 rfl) (d5 rfl)) (by rw[v0,List.length_take,List.length_drop,u];simp;omega);rw[q];unfold ins iD;rw[List.map_append,List.map_append,List.map_take,List.map_drop];rfl
    rw[q];unfold rL;rw[List.map_map];rfl
   exact⟨_,_,_,_,_,t.colm (a:=a) (s:=b) (by omega) (by omega) e,by omega,bB o (G8 (i0 z) (f8 (j3 O rfl) (f8 (j3 e6 rfl) (f8 (j3 P rfl) rfl))) rfl) rfl⟩
theorem dN(a:rows.length<=8)(h:q5 (evE G F e δ)=some (.ok (rows.map λ r=>.lst (iD r)) .strong)):evE G F (.bi .tuple [.comp (.bi .tuple [.var 0]) (.one 0) e [none]]) δ=some (.ok (tT rows) .strong):=
 W8 (C2 h (by decide) (g9 a (by decide)) λ r hr=>⟨[.val _],.strong,rfl,rfl,rfl⟩)
theorem yE(c:ge Int)(x:c.length<=63):∃(n m:Nat) (a:ge (ge Int)),Tb n m a/\n+m<=14/\run G T fu (k+3) 23 [.scr c,.int 2]=some (.v (tT a) false):=by
 obtain⟨C,Q⟩:=aG (fu:=fu) (k:=k+1) c 0;obtain⟨h,A,st⟩:=jS (fu:=fu) (k:=k+1) C 24 (by decide);obtain⟨n,m,a,K,J,M,L,R,co⟩:=yA (fu:=fu) (k:=k) c x h A;obtain⟨S,P⟩:=N5 (xs:=h) (i:=6) (by omega) (by omega);obtain⟨z,v,O⟩:=X3 S (n:=5) (by decide);obtain⟨B,N,r,u,b,q,g,f,d,H,rfl⟩:=L9 (i:=4) (I:=λ i y=>∃n m a q g f,Tb n m a/\n+m<=10+i/\y=[.val (.scr c),.val (.int 2),.val (.lst (h.map DV.int)),.val (rL a),q,g,f])
  z 0
  (λ j hj y I=>by
   obtain⟨n,m,a,q,g,f,t,H,rfl⟩:=I;rw[show(0:Int)+(j:Int)=j by omega];obtain⟨r,u,b,o,l,d,E,e⟩:=yD (F:=run G T fu (k+2)) (fu:=fu) A (j:=j) (by omega) (s:=.scr c) (p:=.int 2) (z5:=g) (z6:=f) t;exact⟨_,e,r,u,b,_,o,l,d,by omega,rfl⟩) ⟨n,m,a,.no,.no,.no,(⟨K,by omega,M,by omega,R,lx (by rw[R.1];exact J),lx (by rw[yw];exact L)⟩),by omega,rfl⟩
 refine⟨r,u,b,d,by omega,?_⟩;rw[m7 rfl rfl];unfold jJ;have w:evE G (run G T fu (k+2)) (.bin .Mod (.ix (.var 2) (.int 6)) (.int 5)) [.val (.scr c),.val (.int 2),.val (.lst (h.map DV.int)),.val (rL a),.no,.no,.no]=some (.ok (.int (z:Int)) .strong):=by rw[←v];exact y6 (P (d5 rfl)) g8 (by decide)
 exact o4 (f8 (j3 (j1 (fr:=true) (e9 (j1 (fr:=false) (e9 (d5 rfl) (e9 g8 j5)) rfl Q) (e9 g8 j5)) rfl st) rfl)
  (f8 (j3 (j1 (fr:=false) (e9 (d5 rfl) (e9 (d5 rfl) (e9 (d5 rfl) j5))) rfl co) rfl) (E2 (L0 w (by omega)) (.inr rfl) N (k7 (p8 (dN (by rw[d.R.1];exact d.n8) rfl))))))
end
section
variable {fu k:Nat} {F:Nat->ge DV->on Ou} {δ:ge Sv} {ds:ge DV} {cl:Cl} {n m:Nat} {f:Nat->Nat->Int} {d:DV} {rows:ge (ge Int)}
theorem X4(e:evE G F a δ=some (.ok (.int i) cx))(d:evE G F b δ=some (.ok (.int j) cy))(c:0<=j):evE G F (.bin .RShift a b) δ=some (.ok (.int (i/2^j.toNat)) .strong):=
 B5 e d (d6 c)
noncomputable def shl(n:Nat):ge (ge Int):=(List.range n).map λ (r:Nat)=>(List.range 3).map λ (c:Nat)=>(r:Int)/2^(c:Int).toNat%2
noncomputable def idn(n:Nat):ge (ge Int):=(List.range n).map λ (r:Nat)=>(List.range n).map λ (c:Nat)=>if((r:Int)==(c:Int))then(1:Int)else 0
theorem yF:∀N∈[6,7,8],(sm (FI (shl N)).length (FI (flip 3 (shl N))).length=false/\sm (FI (idn N)).length (FI (flip N (idn N))).length=false)/\(sm (FI (flip 3 (shl N))).length (FI (flip N (flip 3 (shl N)))).length=false/\sm (FI (flip N (idn N))).length (FI (flip N (flip N (idn N)))).length=false):=by decide +kernel
theorem yG(c:Int):∃(n m:Nat) (a:ge (ge Int)),3<=n/\n<=8/\3<=m/\m<=8/\Rect n m a/\sm (FI a).length (FI (flip m a)).length=false/\run G T fu (k+1) 29 [.int c]=some (.v (tT a) false):=by
 obtain⟨N,K,J,i⟩:∃N:Nat,6+c%3=(N:Int)/\6<=N/\N<=8:=⟨(6+c%3).toNat,by omega,by omega,by omega⟩;have x:=yF N (by grind);have z:evE G (run G T fu k) (.comp (.comp (.bin .Mod (.bin .RShift (.var 1) (.var 0)) (.int 2)) (.one 0) (.rng [.int 3]) [none,some 0]) (.one 0) (.rng [.var 1]) [none]) [.val (.int c),.val (.int (N:Int)),.no]=some (.ok (rL (shl N)) .fresh):=
  X1 (n:=N) (m:=3) (d5 rfl) i (by decide) λ r H=>⟨[.val _],rfl,rfl,λ c I=>⟨[.val _,.val _],rfl,y6 (X4 (d5 rfl) (d5 rfl) (y9 c)) g8 (by decide)⟩⟩
 have F:∀v,evE G (run G T fu k) (.comp (.comp (.bi .int [.cmp .Eq (.var 1) (.var 0)]) (.one 0) (.rng [.var 1]) [none,some 0]) (.one 0) (.rng [.var 1]) [none,some 1]) [.val (.int c),.val (.int (N:Int)),.val v]=some (.ok (rL (idn N)) .fresh):=λ v=>
  X1 (n:=N) (m:=N) (d5 rfl) i i λ r H=>⟨[.val _,.val _],rfl,d5 rfl,λ c I=>⟨[.val _,.val (.int (r:Int))],rfl,dL (b_eq (d5 rfl) (d5 rfl))⟩⟩
 have E:∀v,evE G (run G T fu k) (.cmp .Eq (.bin .Mod (.bin .FloorDiv (.var 0) (.int 3)) (.int 2)) (.int 0)) [.val (.int c),.val (.int (N:Int)),.val v]=some (.ok (.bl (c/3%2==0)) .strong):=λ v=>b_eq (y6 (U1 (d5 rfl) g8 (by decide)) g8 (by decide)) g8;have C:∀v,evE G (run G T fu k) (.cmp .Eq (.bin .Mod (.bin .FloorDiv (.var 0) (.int 6)) (.int 2)) (.int 1)) [.val (.int c),.val (.int (N:Int)),.val v]=some (.ok (.bl (c/6%2==1)) .strong):=λ v=>b_eq (y6 (U1 (d5 rfl) g8 (by decide)) g8 (by decide)) g8;have A:evE G (run G T fu k) (.bin .Add (.int 6) (.bin .Mod (.var 0) (.int 3))) (j0 3 [.int c])=some (.ok (.int (N:Int)) .strong):=by rw[←K];exact E3 g8 (y6 (d5 rfl) g8 (by decide))
 have g:∀(n m:Nat) (a:ge (ge Int)),3<=n->n<=8->3<=m->m<=8->Rect n m a->sm (FI a).length (FI (flip m a)).length=false->sm (FI (flip m a)).length (FI (flip n (flip m a))).length=false ->
   ∃(y w:Nat) (f:ge (ge Int)),3<=y/\y<=8/\3<=w/\w<=8/\Rect y w f/\sm (FI f).length (FI (flip w f)).length=false/\evSs G (run G T fu k) fu (Q9.body.drop 3) _=some (.rt (tT f) false):=λ n m a u l p j R M L=>by
  unfold Q9;simp only[List.drop_succ_cons,List.drop_zero];have q:=C (rL a);cases h:c/6%2==1 with
  | true=>
   rw[h]at q;have B:=dz R;exact⟨m,n,flip m a,p,j,u,l,B,L,G8 (i0 q) (f8 (j3 (yv 2 a n m R (by omega) l j rfl) rfl) rfl) (k7 (p8 (dN (by rw[B.1];exact j) rfl)))⟩
  | false=>
   rw[h]at q;exact⟨n,m,a,u,l,p,j,R,M,p5 (i0 q) (k7 (p8 (dN (by rw[R.1];exact l) rfl)))⟩
 unfold Q9 at g;simp only[List.drop_succ_cons,List.drop_zero]at g;have q:=E (rL (shl N));cases h:c/3%2==0 with
 | true=>
  rw[h]at q;obtain⟨n,m,a,u,l,p,j,R,b,e⟩:=g N N (idn N) (by omega) i (by omega) i (X2 _) x.1.2 x.2.2;refine⟨n,m,a,u,l,p,j,R,b,?_⟩;rw[m7 rfl rfl];unfold Q9;exact o4 (f8 (j3 A rfl) (f8 (j3 z rfl) (G8 (i0 q) (f8 (j3 (F _) rfl) rfl) e)))
 | false=>
  rw[h]at q;obtain⟨n,m,a,u,l,p,j,R,b,e⟩:=g N 3 (shl N) (by omega) i (by omega) (by omega) (X2 _) x.1.1 x.2.1;refine⟨n,m,a,u,l,p,j,R,b,?_⟩;rw[m7 rfl rfl];unfold Q9;exact o4 (f8 (j3 A rfl) (f8 (j3 z rfl) (p5 (i0 q) e)))
end
section
end
noncomputable def qD(p:Nat×Nat):DV:=.tup [.int (p.1:Int),.int (p.2:Int)]
noncomputable def hs(b e:Nat×Nat):Bool:=b.1.testBit e.1&&b.2.testBit e.2
theorem lz(o i:Nat):(o:Int)/2^((i:Int).toNat)=((o/2^i:Nat):Int):=by
   rfl
theorem yH(x y r c:Nat):(Builtin.bitAnd (Builtin.bitAnd ((x:Int)/2^((r:Int).toNat)) ((y:Int)/2^((c:Int).toNat))) 1==1)=(x.testBit r&&y.testBit c):=by
 rw[lz,lz,dl];have:Builtin.bitAnd ((x/2^r &&& y/2^c:Nat):Int) 1=_:=dl _ 1;rw[this,Nat.and_one_is_mod];have h:=Nat.testBit_zero (x/2^r &&& y/2^c);rw[Nat.testBit_and,Nat.testBit_div_two_pow,Nat.testBit_div_two_pow,Nat.zero_add,Nat.zero_add]at h;rw[h];rcases Nat.mod_two_eq_zero_or_one _ with z | z<;>rw[z]<;>rfl
theorem lA(b e:Nat×Nat):run G T fu (k+1) 15 [qD b,qD e]=some (.v (.bl (hs b e)) false):=by
 rw[m7 rfl rfl];unfold jF;have q:=b_eq (B5 (op:=.BitAnd) (B5 (op:=.BitAnd) (X4 (a:=.ix (.var 0) (.int 0)) (b:=.ix (.var 1) (.int 0)) rfl rfl (y9 _)) (X4 (F:=run G T fu k) (δ:=j0 2 [qD b,qD e]) (a:=.ix (.var 0) (.int 1)) (b:=.ix (.var 1) (.int 1)) rfl rfl (y9 _)) rfl) (g8 (i:=1)) rfl) (g8 (i:=1));rw[yH]at q;exact o4 (k7 (p8 q))
theorem dO(bl:ge (Nat×Nat))(e:Nat×Nat)(a:bl.length<=1000):run G T fu (k+2) 14 [.lst (bl.map qD),qD e]=some (.v (.lst ((cv.wi hs bl e).map qD)) true):=by
 rw[m7 rfl rfl];unfold jE;exact o4 (k7 (p8 (C5 rfl (by decide) (g9 a (by decide)) λ b _=>⟨[.val (qD b),.val (qD e)],rfl,i0 (j1 rfl rfl (lA b e)),.strong,rfl,rfl⟩)))
theorem lC(es:ge (Nat×Nat))(b:Nat×Nat)(a:es.length<=1000):run G T fu (k+2) 16 [.lst (es.map qD),qD b]=some (.v (.lst ((cv.lf hs es b).map qD)) true):=by
 rw[m7 rfl rfl];unfold jG;exact o4 (k7 (p8 (C5 rfl (by decide) (g9 a (by decide)) λ e _=>⟨[.val (qD e),.val (qD b)],rfl,i0 (J8 (j1 rfl rfl (lA b e))),.strong,rfl,rfl⟩)))
def cO:on (ge (Nat×Nat))->Ou
 | some c=>.v (.lst (c.map qD)) true
 | none=>.v .non false
noncomputable def cB:ge MS:=[.set 4 false (.call 17 [.call 16 [.var 0,.var 3],.var 1,.bin .Sub (.var 2) (.int 1)]),.iff (.cmp .IsNot (.var 4) (.non)) [.ret (.bin .Add (.lst [.var 3]) (.var 4))] []]
def S5(es bl:ge (Nat×Nat))(m:Nat)(z3 z4:Sv):ge Sv:=[.val (.lst (es.map qD)),.val (.lst (bl.map qD)),.val (.int (m:Int)),z3,z4]
theorem dP(es:ge (Nat×Nat))(b:Nat×Nat):(cv.lf hs es b).length<=es.length:=List.length_filter_le ..
theorem lD{fu k:Nat}{es bl:ge (Nat×Nat)}{m:Nat}(he:es.length<=1000){g:Nat×Nat->on (ge (Nat×Nat))}(hg:∀b c,g b=some c->c.length<=999):∀(bs:ge (Nat×Nat)) (z3 z4:Sv),
  (∀b∈bs,run G T fu (k+2) 17 [.lst ((cv.lf hs es b).map qD),.lst (bl.map qD),.int (m:Int)]=some (cO (g b))) ->
  match cv.fst1 g bs with
  | some c=>u7 (.one 3) (λ δ'=>evSs G (run G T fu (k+2)) fu cB δ') (bs.map qD) (S5 es bl (m+1) z3 z4)=some (.rt (.lst (c.map qD)) true)
  | none=>∃z3' z4',u7 (.one 3) (λ δ'=>evSs G (run G T fu (k+2)) fu cB δ') (bs.map qD) (S5 es bl (m+1) z3 z4)=some (.nx (S5 es bl (m+1) z3' z4'))
 | [],z3,z4,_=>⟨z3,z4,rfl⟩
 | b::bs,z3,z4,h=>by
  have hb:=h b (i9 ..);have ih:=lD (fu:=fu) (k:=k) (bl:=bl) (m:=m) he hg bs;have l:=j1 (G:=G) (F:=run G T fu (k+2)) (δ:=S5 es bl (m+1) (.val (qD b)) z4) (f:=16) (es:=[.var 0,.var 3]) (l:=[(.lst (es.map qD),.strong),(qD b,.strong)]) rfl rfl (lC es b he);have m1:=O8 (d5 (G:=G) (F:=run G T fu (k+2)) (δ:=S5 es bl (m+1) (.val (qD b)) z4) (n:=2) (d:=.int ((m+1:Nat):Int)) rfl) (g8 (i:=1));rw[show((m+1:Nat):Int) - 1=(m:Int) by omega]at m1;unfold cv.fst1;cases q:g b with
  | some c=>
   rw[q]at hb;have cc:=j1 (f:=17) (e9 l (e9 (d5 (n:=1) (d:=.lst (bl.map qD)) rfl) (e9 m1 j5))) rfl hb;refine xF (δ1:=S5 es bl (m+1) (.val (qD b)) z4) rfl (f8 (j3 cc rfl) (L8 (i0 (x:=true) (cl:=.strong) rfl) (k7 (p8 (R6 (lst1 (d5 (n:=3) rfl) rfl) (d5 (n:=4) rfl) ?_)))));rw[e7];have:=hg b c q;show 1+c.length<=1000;omega
  | none=>
   rw[q]at hb;have cc:=j1 (f:=17) (e9 l (e9 (d5 (n:=1) (d:=.lst (bl.map qD)) rfl) (e9 m1 j5))) rfl hb;have st:∀δ2,u7 (.one 3) (λ δ'=>evSs G (run G T fu (k+2)) fu cB δ') (bs.map qD) (S5 es bl (m+1) (.val (qD b)) (.val .non))=δ2->u7 (.one 3) (λ δ'=>evSs G (run G T fu (k+2)) fu cB δ') ((b::bs).map qD) (S5 es bl (m+1) z3 z4)=δ2:=λ δ2 e=>by rw[←e];exact R4 (δ1:=S5 es bl (m+1) (.val (qD b)) z4) rfl (f8 (j3 cc rfl) (p5 (i0 (x:=false) (cl:=.strong) rfl) rfl))
   have:=ih (.val (qD b)) (.val .non) λ b' hb'=>h b' (i8 _ hb');dsimp only;cases e':cv.fst1 g bs with
   | some c'=>rw[e']at this;exact st _ this
   | none=>
    rw[e']at this;obtain⟨z3',z4',e⟩:=this;exact⟨z3',z4',st _ e⟩
theorem ix0:ixD (.lst (d::ds)) (.int 0)=some d:=by
 show atD _ 0=some d;unfold atD A9;rw[d6 (by decide),d6 (by grind)];rfl
theorem dQ(l:ge (Nat×Nat)):DV.plains 59 (l.map qD)=true:=G2 λ d a=>by
 obtain⟨p,_,rfl⟩:=k8.mp a;rfl
theorem lE:∀(m:Nat) (es bl:ge (Nat×Nat)),es.length<=1000->bl.length<=1000->m<=900->run G T fu (k+m+3) 17 [.lst (es.map qD),.lst (bl.map qD),.int (m:Int)]=some (cO (cv.cov hs m es bl))
 | m,[],bl,_,_,_=>by
  rw[m7 rfl rfl];unfold aE;have:cv.cov hs m [] bl=some []:=by cases m<;>rfl
  rw[this];exact o4 (L8 (i0 (x:=true) (cl:=.strong) rfl) (k7 (p8 (G1 j5 (by decide) rfl))))
 | 0,e::es,bl,_,_,_=>by rw[m7 rfl rfl];unfold aE;have q:evE G (run G T fu (k+0+2)) (.cmp .Eq (.var 0) (.lst [])) (j0 5 [.lst ((e::es).map qD),.lst (bl.map qD),.int ((0:Nat):Int)])=some (.ok (.bl false) .strong):=C3 (d5 rfl) (G1 j5 (by decide) rfl) (aM (dQ (e::es))).1;exact o4 (p5 (i0 q) (L8 (i0 (x:=true) (cl:=.strong) rfl) (k7 (p8 (d:=.non) (cl:=.strong) rfl))))
 | m+1,e::es,bl,j,o,hm=>by
  rw[show k+(m+1)+3=(k+m+3)+1 by omega,m7 rfl rfl];unfold aE;have q:evE G (run G T fu (k+m+3)) (.cmp .Eq (.var 0) (.lst [])) (j0 5 [.lst ((e::es).map qD),.lst (bl.map qD),.int ((m+1:Nat):Int)])=some (.ok (.bl false) .strong):=C3 (d5 rfl) (G1 j5 (by decide) rfl) (aM (dQ (e::es))).1;have h:evE G (run G T fu (k+m+3)) (.cmp .Eq (.var 2) (.int 0)) (j0 5 [.lst ((e::es).map qD),.lst (bl.map qD),.int ((m+1:Nat):Int)])=some (.ok (.bl false) .strong):=by have:=b_eq (d5 (G:=G) (F:=run G T fu (k+m+3)) (δ:=j0 5 [.lst ((e::es).map qD),.lst (bl.map qD),.int ((m+1:Nat):Int)]) (n:=2) (d:=.int ((m+1:Nat):Int)) rfl) (g8 (i:=0));rw[this,u9.mpr (by omega)]
  have w:q5 (evE G (run G T fu (k+m+3)) (.call 14 [.var 1,.ix (.var 0) (.int 0)]) (j0 5 [.lst ((e::es).map qD),.lst (bl.map qD),.int ((m+1:Nat):Int)]))=some (.ok ((cv.wi hs bl e).map qD) .fresh):=(by rw[j1 (f:=14) (e9 (d5 rfl) (e9 (w5 (cx:=.strong) (d5 (n:=0) (d:=.lst (qD e::es.map qD)) rfl) (g8 (i:=0)) ix0) j5)) rfl (dO (fu:=fu) (k:=k+m+1) bl e o)];rfl);have a:=lD (fu:=fu) (k:=k+m+1) (es:=e::es) (bl:=bl) (m:=m) j (λ b c r=>g9 (cv.cov_ok hs r).2.2 (by omega)) (cv.wi hs bl e) .no .no λ b _=>lE m _ bl (g9 (dP ..) j) o (by omega);show _=some (cO (cv.fst1 (λ b=>cv.cov hs m (cv.lf hs (e::es) b) bl) (cv.wi hs bl e)));cases p:cv.fst1 _ (cv.wi hs bl e)with
  | some c=>
   rw[p]at a;exact o4 (p5 (i0 q) (p5 (i0 h) (xG w (.inr rfl) a)))
  | none=>
   rw[p]at a;obtain⟨z3,z4,a⟩:=a;exact o4 (p5 (i0 q) (p5 (i0 h) (E2 w (.inr rfl) a (k7 (p8 (d:=.non) (cl:=.strong) rfl)))))
theorem aP(f:evE G F x δ=some (.ok (.int a) c1))(d:evE G F y δ=some (.ok (.int b) c2))(c:evE G F z δ=some (.ok (.lst ds) .fresh)):evS G F fu (.rt3 [x,y,z]) δ=some (.rtt (c3 (a,b,ds))):=by
 have e:evS G F fu (.rt3 [x,y,z]) δ=Rs.thnS δ (evEs G F [x,y,z] δ) (λ l=>rt3D l):=by rw[evS]
 rw[e,e9 f (e9 d (e9 c j5))];rfl
theorem R7(h:evS G F fu m δ=some (.rtt d)):evSs G F fu (m::r) δ=some (.rtt d):=by
 show(match evS G F fu m δ with | some (.nx δ')=>evSs G F fu r δ' | o=>o)=_;rw[h]
theorem yI(e:tstD (evE G F c δ)=some (.ok true))(h:evSs G F fu a δ=some (.rtt d)):evSs G F fu (.iff c a b::r) δ=some (.rtt d):=R7 ((O6 e).trans h)
theorem X5(h:evSs G F fu r δ=some (.rtt d)):Ou.of (evSs G F fu r δ)=some (.t d):=by rw[h];rfl
theorem X6{es:ge ME}(a:evEs G F es δ=some (.ok l))(hs:(l.all λ p=>p.2 == .strong||p.2 == .fresh)=true)(h:F f (l.map (·.1))=some (.t (c3 c))):evE G F (.call f es) δ=some (.ok (c3 c) .ft):=by
 have e:evE G F (.call f es) δ=Rs.thn (evEs G F es δ) (λ l=>B4 F f l):=by rw[evE]
 rw[e,a];show B4 F f l=_;unfold B4;rw[h];dsimp[c3];rw[d6 hs]
def csL(bl:ge (Nat×Nat)):Nat->Nat×Nat->ge (Nat×Nat)->ge DV
 | 0,_,_=>[]
 | m+1,e,es=>(cv.wi hs bl e).map λ b=>match cv.lf hs (e::es) b with
  | []=>.non
  | e'::es'=>c3 ((e'.1:Int),(e'.2:Int),csL bl m e' es')
def csD(bl:ge (Nat×Nat))(m:Nat)(e:Nat×Nat)(es:ge (Nat×Nat)):DV:=c3 ((e.1:Int),(e.2:Int),csL bl m e es)
theorem lF{fu k:Nat}:∀(m:Nat) (e:Nat×Nat) (es bl:ge (Nat×Nat)),(e::es).length<=1000->bl.length<=1000->cv.cov hs m (e::es) bl=none->run G T fu (k+m+3) 18 [.lst ((e::es).map qD),.lst (bl.map qD),.int (m:Int)]=some (.t (csD bl m e es))
 | 0,e,es,bl,he,hb,hn=>by rw[m7 (fd:=W6) rfl rfl];unfold W6;exact X5 (f8 (j3 (d:=qD e) (cl:=.strong) (w5 (cx:=.strong) (d5 (n:=0) (d:=.lst (qD e::es.map qD)) rfl) (g8 (i:=0)) ix0) rfl) (yI (i0 (x:=true) (cl:=.strong) rfl) (R7 (aP (c1:=.strong) (c2:=.strong) rfl rfl (G1 j5 (by decide) rfl)))))
 | m+1,e,es,bl,he,hb,hn=>by
  rw[show k+(m+1)+3=(k+m+3)+1 by omega,m7 (fd:=W6) rfl rfl];unfold W6;have s1:=j3 (fu:=fu) (i:=3) (d:=qD e) (cl:=.strong) (w5 (cx:=.strong) (d5 (G:=G) (F:=run G T fu (k+m+3)) (δ:=j0 5 [.lst ((e::es).map qD),.lst (bl.map qD),.int ((m+1:Nat):Int)]) (n:=0) (d:=.lst (qD e::es.map qD)) rfl) (g8 (i:=0)) ix0) rfl;have q2:evE G (run G T fu (k+m+3)) (.cmp .Eq (.var 2) (.int 0)) [.val (.lst ((e::es).map qD)),.val (.lst (bl.map qD)),.val (.int ((m+1:Nat):Int)),.val (qD e),.no]=some (.ok (.bl false) .strong):=by have:=b_eq (d5 (G:=G) (F:=run G T fu (k+m+3)) (δ:=[.val (.lst ((e::es).map qD)),.val (.lst (bl.map qD)),.val (.int ((m+1:Nat):Int)),.val (qD e),.no]) (n:=2) (d:=.int ((m+1:Nat):Int)) rfl) (g8 (i:=0));rw[this,u9.mpr (by omega)]
  have w:=j3 (fu:=fu) (i:=4) (j1 (G:=G) (F:=run G T fu (k+m+3)) (δ:=[.val (.lst ((e::es).map qD)),.val (.lst (bl.map qD)),.val (.int ((m+1:Nat):Int)),.val (qD e),.no]) (f:=14) (es:=[.var 1,.var 3]) (l:=[(.lst (bl.map qD),.strong),(qD e,.strong)]) rfl rfl (dO (fu:=fu) (k:=k+m+1) bl e hb)) rfl;refine X5 (f8 s1 (p5 (i0 q2) (f8 w (R7 (aP (c1:=.strong) (c2:=.strong) (a:=(e.1:Int)) (b:=(e.2:Int)) rfl rfl ?_)))));refine C2 (l:=cv.wi hs bl e) (h:=qD) (cl:=.strong) rfl (by decide) (g9 (List.length_filter_le ..) (g9 hb (by decide))) λ b hbm=>⟨[.val (qD b),.val (.lst ((e::es).map qD)),.val (.lst (bl.map qD)),.val (.int ((m+1:Nat):Int))],.ft,rfl,?_⟩;have hl:=cv.cas_left hs hn hbm;have ll:=dP (e::es) b;have hi:=λ e' es' (z:cv.lf hs (e::es) b=e'::es')=>lF (fu:=fu) (k:=k) m e' es' bl (by rw[←z];omega) hb (by rw[←z];exact hl);have lc:=j1 (G:=G) (F:=run G T fu (k+m+3)) (δ:=[.val (qD b),.val (.lst ((e::es).map qD)),.val (.lst (bl.map qD)),.val (.int ((m+1:Nat):Int))]) (f:=16) (es:=[.var 1,.var 0]) (l:=[(.lst ((e::es).map qD),.strong),(qD b,.strong)]) rfl rfl (lC (fu:=fu) (k:=k+m+1) (e::es) b he);have m1:=O8 (d5 (G:=G) (F:=run G T fu (k+m+3)) (δ:=[.val (qD b),.val (.lst ((e::es).map qD)),.val (.lst (bl.map qD)),.val (.int ((m+1:Nat):Int))]) (n:=3) (d:=.int ((m+1:Nat):Int)) rfl) (g8 (i:=1));rw[show((m+1:Nat):Int) - 1=(m:Int) by omega]at m1;cases z:cv.lf hs (e::es) b with
  | nil=>rw[z]at hl;exact absurd rfl (cv.cas_ne hs hl)
  | cons e' es'=>
   rw[z]at lc;exact⟨X6 (e9 lc (e9 (d5 (n:=2) (d:=.lst (bl.map qD)) rfl) (e9 m1 j5))) rfl (hi e' es' z),rfl⟩
def gC(bl:ge (Nat×Nat))(m:Nat)(e:Nat×Nat)(es:ge (Nat×Nat))(b:Nat×Nat):DV:=match cv.lf hs (e::es) b with
 | []=>.non
 | e'::es'=>c3 ((e'.1:Int),(e'.2:Int),csL bl m e' es')
theorem aQ{es:ge (Nat×Nat)}:csL bl (m+1) e es=(cv.wi hs bl e).map (gC bl m e es):=rfl
theorem aR{es:ge (Nat×Nat)}(f:cv.cov hs (m+1) (e::es) bl=none)(g:b∈cv.wi hs bl e):∃c a,cv.lf hs (e::es) b=c::a/\gC bl m e es b=csD bl m c a/\cv.cov hs m (c::a) bl=none:=by
 have d:=cv.cas_left hs f g;cases z:cv.lf hs _ b with
 | nil=>rw[z]at d;exact absurd rfl (cv.cas_ne hs d)
 | cons c a=>
  rw[z]at d;refine⟨c,a,rfl,?_,d⟩;unfold gC;rw[z];rfl
theorem lG(i:bl.length<=1000):∀(m:Nat) (e:Nat×Nat) (es:ge (Nat×Nat)),cv.cov hs m (e::es) bl=none->run G T fu (k+m+1) 35 [csD bl m e es]=some (.t (csD bl m e es))
 | 0,e,es,g=>by rw[m7 rfl rfl];unfold dg;exact X5 (R7 (aP rfl rfl (C2 (l:=([]:ge DV)) (h:=id) (f:=id) rfl (by decide) (by decide) λ a n=>by cases n)))
 | m+1,e,es,g=>by rw[show k+(m+1)+1=(k+m+1)+1 by omega,m7 rfl rfl];unfold dg;refine X5 (R7 (aP rfl rfl (C2 (f:=gC bl m e es) rfl (by decide) (g9 (List.length_filter_le ..) (g9 i (by decide))) λ b c=>⟨[.val (gC bl m e es b)],.ft,rfl,?_⟩)));obtain⟨o,d,_,q,j⟩:=aR g c;rw[q];exact⟨X6 rfl rfl (lG i m o d j),rfl⟩
theorem lH:∀(m:Nat) (e:Nat×Nat) (es:ge (Nat×Nat)),(∀c∈e::es,∃b∈bl,hs b c=true)->cv.cov hs m (e::es) bl=none->caL m (csL bl m e es)=true
 | 0,_,_,_,_=>rfl
 | m+1,e,es,g,h=>by
  unfold caL;rw[aQ,d8];refine⟨?_,?_⟩
  ·obtain⟨b,p,q⟩:=g e (i9 ..);have:b∈cv.wi hs bl e:=j6.mpr ⟨p,q⟩;cases z:cv.wi hs bl e with
   | nil=>rw[z]at this;cases this
   | cons _ _=>rfl
  ·rw[w6];intro d j;obtain⟨b,k,rfl⟩:=k8.mp j;obtain⟨c,a,z,q,i⟩:=aR h k;rw[q];exact lH m c a (λ x f=>g x (by rw[←z]at f;exact(j6.mp f).1)) i
theorem dR(b e:Nat×Nat)(r:ge DV):run G T fu (k+1) 31 [qD b,.tup (.int (e.1:Int) :: .int (e.2:Int)::r)]=some (.v (.bl (hs b e)) false):=by
 rw[m7 rfl rfl];unfold jP;have d:∀{x y:DV},atD (x::y::r) 0=some x/\atD (x::y::r) 1=some y:=λ {x y}=>by
  unfold atD A9;constructor
  ·rw[d6 (by decide),d6 (by grind)];rfl
  ·rw[d6 (by decide),d6 (by grind)];rfl
 have g:=d5 (G:=G) (F:=run G T fu k) (δ:=j0 2 [qD b,.tup (.int (e.1:Int) :: .int (e.2:Int)::r)]) (n:=1) rfl;have c:=b_eq (B5 (op:=.BitAnd) (X4 (F:=run G T fu k) (a:=.ix (.var 0) (.int 0)) (i:=(b.1:Int)) (cx:=.strong) rfl (w5 g (g8 (i:=0)) d.1) (y9 _)) (g8 (i:=1)) rfl) (g8 (i:=1));have f:=b_eq (B5 (op:=.BitAnd) (X4 (F:=run G T fu k) (a:=.ix (.var 0) (.int 1)) (i:=(b.2:Int)) (cx:=.strong) rfl (w5 g (g8 (i:=1)) d.2) (y9 _)) (g8 (i:=1)) rfl) (g8 (i:=1));rw[dm]at c f;have j:∀t:Bool,((if t=true then(1:Int)else 0)==1)=t:=by decide
 rw[j]at c f;unfold hs;cases h:b.1.testBit e.1 with
 | false=>rw[h]at c;exact o4 (k7 (p8 (aI c)))
 | true=>rw[h]at c;exact o4 (k7 (p8 (N2 c (N3 f))))
theorem lI(p:Nat×Nat):deq (qD p) (qD p)=true:=by
 show deq (.tup _) (.tup _)=true;simp[deq,deqs]
theorem yJ(l:ge (Nat×Nat)):DV.plains 60 (l.map qD)=true:=G2 λ d a=>by
 obtain⟨p,_,rfl⟩:=k8.mp a;rfl
theorem lJ{l:ge (Nat×Nat)}(h:p∈l):cmpD .NotIn (qD p) (.lst (l.map qD))=some false:=by
 show(if _=true then some _ else none)=_;rw[yJ,show DV.plain 60 (qD p)=true from rfl];have:((l.map qD).any λ d=>deq d (qD p))=true:=List.any_eq_true.mpr ⟨qD p,k8.mpr ⟨p,h,rfl⟩,lI p⟩;rw[this];rfl
theorem yK(es bl:ge (Nat×Nat))(a:es.length<=1000)(c:bl.length<=1000):run G T fu (k+2) 32 [.lst (es.map qD),.lst (bl.map qD)]=some (.v (.lst ((es.filter λ e=>(cv.wi hs bl e).length==0).map qD)) true):=by
 rw[m7 rfl rfl];unfold jQ;refine o4 (k7 (p8 (C5 rfl (by decide) (g9 a (by decide)) λ e _=>⟨[.val (qD e),.val _],rfl,?_,.strong,rfl,rfl⟩)));have q:=b_eq (E8 (C5 (F:=run G T fu (k+1)) (δ:=[.val (qD e),.val (.lst (bl.map qD))]) (elt:=.var 0) (it:=.var 1) (cd:=.call 31 [.var 0,.var 1]) (tg:=.one 0) (fr:=[none,some 0]) rfl (by decide) (g9 c (by decide)) λ b _=>⟨[.val (qD b),.val (qD e)],rfl,i0 (j1 rfl rfl (dR b e [])),.strong,rfl,rfl⟩)) (g8 (i:=0));rw[e7]at q;have z:((((bl.filter λ b=>hs b e).length:Nat):Int)==0)=((cv.wi hs bl e).length==0):=by
  show((((cv.wi hs bl e).length:Nat):Int)==0)=_;cases(cv.wi hs bl e).length with
  | zero=>rfl
  | succ n=>rw[u9.mpr (by omega)];rfl
 rw[z]at q;exact i0 q
noncomputable def vB:ge MS:=[.iff (.or [.not (.isi (.var 3) ["tuple"]),.cmp .NotEq (.bi .len [.var 3]) (.int 2),.cmp .NotIn (.var 3) (.var 1)]) [.ret (.bl false)] [],.iff (.or [.not (.call 19 [.ix (.var 3) (.int 0)]),.not (.call 19 [.ix (.var 3) (.int 1)])]) [.ret (.bl false)] []]
theorem lK{bl:ge (Nat×Nat)}:∀(c:ge (Nat×Nat)) (z:Sv),(∀b∈c,b∈bl)->∃d,u7 (.one 3) (λ a=>evSs G (run G T fu (k+1)) fu vB a) (c.map qD) [.val x,.val (.lst (bl.map qD)),.val y,z]=some (.nx [.val x,.val (.lst (bl.map qD)),.val y,d])
 | [],z,_=>⟨z,rfl⟩
 | b::c,z,h=>by
  obtain⟨d,e⟩:=lK c _ λ g f=>h g (i8 _ f)
  refine⟨d,?_⟩;rw[←e];refine R4 rfl (p5 (i0 (or_f rfl (or_f rfl (or_1 (C3 (d5 rfl) (d5 rfl) (lJ (h b (i9 ..)))))))) (p5 (i0 (or_f rfl (or_1 rfl))) rfl))
theorem yL{c bl es:ge (Nat×Nat)}(g:∀b∈c,b∈bl)(h:∀e∈es,∃b∈c,hs b e=true)(j:c.length<=1000)(i:es.length<=1000):run G T fu (k+3) 33 [.lst (c.map qD),.lst (bl.map qD),.lst (es.map qD)]=some (.v (.bl true) false):=by
 rw[m7 rfl rfl];unfold jR;obtain⟨z,w⟩:=lK c .no g;refine o4 (p5 (i0 rfl) (E2 rfl (.inl rfl) w (k7 (p8 (cl:=.strong) ?_))));have nil:(es.filter λ e=>(cv.wi hs c e).length==0)=[]:=by
  rw[List.filter_eq_nil_iff];intro e d z;obtain⟨b,p,q⟩:=h e d;have:b∈cv.wi hs c e:=j6.mpr ⟨p,q⟩;have z:(cv.wi hs c e).length=0:=by simpa using z
  rw[List.length_eq_zero_iff.mp z]at this;cases this
 have a:=yK (fu:=fu) (k:=k) es c i j;rw[nil]at a;exact C3 (j1 rfl rfl a) (G1 j5 (by decide) rfl) rfl
theorem lL:∀l:ge (Nat×Nat),zpD (l.map f) (l.map g)=l.map λ b=>.tup [f b,g b]
 | []=>rfl
 | a::r=>by show DV.tup _::zpD _ _=_;rw[lL r];rfl
noncomputable def lB:ge MS:=[.iff (.not (.call 34 [.var 6,.var 1,.compi (.var 0) (.one 0) (.var 2) (.not (.call 31 [.var 1,.var 0])) [none,some 5],.bin .Sub (.var 3) (.int 1)])) [.ret (.bl false)] []]
theorem lM{bl:ge (Nat×Nat)}{m:Nat}{g:Nat×Nat->DV}(v:left.length<=1000):∀(c:ge (Nat×Nat)) (p o:Sv),(∀b∈c,run G T fu (k+2) 34 [g b,.lst (bl.map qD),.lst ((cv.lf hs left b).map qD),.int (m:Int)]=some (.v (.bl true) false)) ->
  ∃j a,u7 (.many [5,6]) (λ q=>evSs G (run G T fu (k+2)) fu lB q) (c.map λ b=>.tup [qD b,g b]) [.val x,.val (.lst (bl.map qD)),.val (.lst (left.map qD)),.val (.int ((m+1:Nat):Int)),.val w,p,o]=some (.nx [.val x,.val (.lst (bl.map qD)),.val (.lst (left.map qD)),.val (.int ((m+1:Nat):Int)),.val w,j,a])
 | [],p,o,_=>⟨p,o,rfl⟩
 | b::c,p,o,h=>by
  obtain⟨j,a,e⟩:=lM (x:=x) (w:=w) v c (.val (qD b)) (.val (g b)) λ z r=>h z (i8 _ r)
  refine⟨j,a,?_⟩;rw[←e];have r:=h b (i9 ..);have u:=O8 (d5 (G:=G) (F:=run G T fu (k+2)) (δ:=[.val x,.val (.lst (bl.map qD)),.val (.lst (left.map qD)),.val (.int ((m+1:Nat):Int)),.val w,.val (qD b),.val (g b)]) (n:=3) rfl) (g8 (i:=1));rw[show(_:Int) - 1=(m:Int) by omega]at u;exact R4 rfl (p5 (i0 (J8 (j1 (e9 (d5 rfl) (e9 (d5 rfl) (e9 (C5 rfl (by decide) (g9 v (by decide)) λ e _=>⟨[.val (qD e),.val (qD b)],rfl,i0 (J8 (j1 rfl rfl (dR b e []))),.strong,rfl,rfl⟩) (e9 u j5)))) rfl r))) rfl)
theorem lN{fu k:Nat}{bl:ge (Nat×Nat)}(hb:bl.length<=1000):∀(m:Nat) (e:Nat×Nat) (es left:ge (Nat×Nat)),left.length<=1000->(∀x∈e::es,x∈left)->cv.cov hs m (e::es) bl=none ->
  run G T fu (k+m+3) 34 [csD bl m e es,.lst (bl.map qD),.lst (left.map qD),.int (m:Int)]=some (.v (.bl true) false)
 | m,e,es,left,hl,hs',hn=>by
  rw[m7 (fd:=df) rfl rfl];unfold df;obtain⟨δ0,hδ⟩:∃δ0,δ0=j0 7 [csD bl m e es,.lst (bl.map qD),.lst (left.map qD),.int (m:Int)]:=⟨_,rfl⟩;have q2:=C3 (op:=.NotIn) (t:=false) (G:=G) (F:=run G T fu (k+m+2)) (δ:=j0 7 [csD bl m e es,.lst (bl.map qD),.lst (left.map qD),.int (m:Int)]) (a:=.slt (.var 0) (.int 2)) (b:=.var 2) (x:=qD e) (y:=.lst (left.map qD)) (cx:=.strong) (cy:=.strong) rfl rfl (lJ (hs' e (i9 ..)));refine o4 (p5 (i0 (x:=false) (cl:=.strong) (or_f (cx:=.strong) rfl (or_f (cx:=.strong) rfl (or_1 rfl)))) (p5 (i0 (x:=false) (cl:=.strong) (or_f (cx:=.strong) rfl (or_f (cx:=.strong) rfl (or_1 q2)))) ?_));cases m with
  | zero=>exact L8 (i0 (x:=true) (cl:=.strong) rfl) (k7 (p8 (cl:=.strong) rfl))
  | succ m=>
   have q3:evE G (run G T fu (k+(m+1)+2)) (.cmp .Eq (.var 3) (.int 0)) (j0 7 [csD bl (m+1) e es,.lst (bl.map qD),.lst (left.map qD),.int ((m+1:Nat):Int)])=some (.ok (.bl false) .strong):=(by have:=b_eq (d5 (G:=G) (F:=run G T fu (k+(m+1)+2)) (δ:=j0 7 [csD bl (m+1) e es,.lst (bl.map qD),.lst (left.map qD),.int ((m+1:Nat):Int)]) (n:=3) (d:=.int ((m+1:Nat):Int)) rfl) (g8 (i:=0));rw[this,u9.mpr (by omega)]);have c4:=C5 (F:=run G T fu (k+(m+1)+2)) (δ:=j0 7 [csD bl (m+1) e es,.lst (bl.map qD),.lst (left.map qD),.int ((m+1:Nat):Int)]) (l:=bl) (h:=qD) (f:=qD) (elt:=.var 0) (it:=.var 1) (cd:=.call 31 [.var 0,.var 1]) (tg:=.one 0) (fr:=[none,some 0]) (p:=λ b=>hs b e) (cl:=.strong) rfl (by decide) (g9 hb (by decide)) λ b _=>⟨[.val (qD b),.val (csD bl (m+1) e es)],rfl,i0 (j1 (fr:=false) (l:=[(qD b,.strong),(csD bl (m+1) e es,.strong)]) rfl rfl (dR b e [.lst (csL bl (m+1) e es)])),.strong,rfl,rfl⟩;refine p5 (i0 q3) (f8 (j3 c4 rfl) ?_);have ln:=C3 (op:=.NotEq) (t:=false) (E8 (F:=run G T fu (k+(m+1)+2)) (δ:=[.val (csD bl (m+1) e es),.val (.lst (bl.map qD)),.val (.lst (left.map qD)),.val (.int ((m+1:Nat):Int)),.val (.lst ((cv.wi hs bl e).map qD)),.no,.no]) (e:=.ix (.var 0) (.int 2)) (ds:=csL bl (m+1) e es) (c:=.strong) rfl) (E8 (e:=.var 4) (ds:=(cv.wi hs bl e).map qD) (c:=.strong) rfl) (by rw[aQ,e7,e7,aH,beq_self_eq_true];rfl);obtain⟨z5,z6,w⟩:=lM (fu:=fu) (k:=k+(m+1)) (x:=csD bl (m+1) e es) (w:=.lst ((cv.wi hs bl e).map qD)) (bl:=bl) (left:=left) (m:=m) (g:=gC bl m e es) hl (cv.wi hs bl e) .no .no λ b hbm=>by
    obtain⟨e',es',z,q,hl'⟩:=aR hn hbm;rw[q];have:=lN (fu:=fu) (k:=k) hb m e' es' (cv.lf hs left b) (g9 (dP ..) hl) (λ x hx=>by
     rw[←z]at hx;obtain⟨p1,p2⟩:=j6.mp hx;exact j6.mpr ⟨hs' x p1,p2⟩) hl'
    rw[show k+m+3=k+(m+1)+2 by omega]at this;exact this
   refine p5 (i0 ln) (E2 (cl:=.strong) (ds:=(cv.wi hs bl e).map λ b=>.tup [qD b,gC bl m e es b]) ?_ (.inl rfl) w (k7 (p8 (cl:=.strong) rfl)));rw[←lL];rfl
section
variable {rows:ge (ge Int)} {w:Int} {n m:Nat}
def rE(rows:ge (ge Int))(w:Int)(m r:Nat):ge (Nat×Nat):=((List.range m).filter λ c=>ax rows r c==w).map λ c=>(r,c)
def eE(rows:ge (ge Int))(w:Int)(m:Nat)(l:ge Nat):ge (Nat×Nat):=l.flatMap (rE rows w m)
theorem dU(r:Nat):(rE rows w m r).length<=m:=by
 unfold rE;rw[e7];refine g9 (List.length_filter_le ..) ?_;rw[p4];exact i7 _
theorem yM(l:ge Nat):(eE rows w m l).length<=l.length*m:=by
 induction l with
 | nil=>exact Nat.zero_le _
 | cons r l ih=>
  have h:=dU (rows:=rows) (w:=w) (m:=m) r;show(rE rows w m r++eE rows w m l).length<=_;rw[v0,p9,Nat.succ_mul];omega
theorem rE_D(r:Nat):(rE rows w m r).map qD=((List.range m).filter λ c=>ax rows r c==w).map λ (c:Nat)=>DV.tup [.int (r:Int),.int (c:Int)]:=by
 unfold rE;rw[List.map_map];rfl
noncomputable def nB:ge MS:=[.set 2 false (.bin .Add (.var 2) (.compi (.tup [.var 1,.var 0]) (.one 0) (.rng [.bi .len [.ix (.var 0) (.int 0)]]) (.cmp .Eq (.ix (.ix (.var 2) (.var 1)) (.var 0)) (.var 3)) [none,some 3,some 0,some 1]))]
theorem lO(R:Rect n m rows)(b:0<n)(k:m<=8):∀(l:ge Nat) (a:ge (Nat×Nat)) (z:Sv),(∀r∈l,r<n)->a.length+l.length*8<=900 ->
  ∃i,u7 (.one 3) (λ g=>evSs G F fu nB g) (l.map λ (j:Nat)=>DV.int (j:Int)) [.val (tT rows),.val (.int w),.val (.lst (a.map qD)),z]=some (.nx [.val (tT rows),.val (.int w),.val (.lst ((a++eE rows w m l).map qD)),i])
 | [],a,z,_,_=>⟨z,by unfold eE;rw[List.flatMap_nil,List.append_nil];rfl⟩
 | r::l,a,z,h,v=>by
  have rl:=dU (rows:=rows) (w:=w) (m:=m) r;rw[p9]at v;obtain⟨i,e⟩:=lO R b k l (a++rE rows w m r) _ (λ x u=>h x (i8 _ u)) (by grind);refine⟨i,?_⟩;rw[show a++eE rows w m (r::l)=a++rE rows w m r++eE rows w m l by rw[List.append_assoc];rfl,←e];have c:=C5 (F:=F) (δ:=[.val (tT rows),.val (.int w),.val (.lst (a.map qD)),.val (.int (r:Int))]) (f:=λ (c:Nat)=>DV.tup [.int (r:Int),.int (c:Int)]) (elt:=.tup [.var 1,.var 0]) (tg:=.one 0) (it:=.rng [.bi .len [.ix (.var 0) (.int 0)]])
   (fr:=[none,some 3,some 0,some 1]) (J0 (dt R b (d5 rfl)) (by omega)) (by decide) (by rw[p4];exact g9 k (by decide)) (λ c y=>by
    refine⟨[.val (.int c),.val (.int r),.val _,.val (.int w)],rfl,?_,.strong,rfl,rfl⟩;obtain⟨c4,q⟩:=aL (F:=F) (δ:=[.val (.int c),.val (.int r),.val (tT rows),.val (.int w)]) R (h r (i9 ..)) (k6.mp y) (d5 (n:=2) rfl) (d5 (n:=1) rfl) (d5 (n:=0) rfl);exact i0 (b_eq q (d5 (n:=3) rfl)))
  rw[←rE_D]at c;have o:=R6 (d5 (G:=G) (F:=F) (δ:=[.val (tT rows),.val (.int w),.val (.lst (a.map qD)),.val (.int (r:Int))]) (n:=2) (d:=.lst (a.map qD)) rfl) c (by grind);rw[←List.map_append]at o;exact R4 rfl (f8 (j3 o rfl) rfl)
theorem yN(R:Rect n m rows)(a:0<n)(hn:n<=8)(c:m<=8):run G T fu (k+1) 28 [tT rows,.int w]=some (.v (.lst ((eE rows w m (List.range n)).map qD)) false):=by
 rw[m7 rfl rfl];unfold jN;obtain⟨z,e⟩:=lO R a c _ [] .no (λ r b=>k6.mp b) (by grind);exact o4 (f8 (j3 (G1 j5 (by decide) rfl) rfl) (E2 (J0 (R5 R (d5 rfl)) (by omega)) (.inr rfl) e (k7 (p8 (d5 rfl)))))
theorem lP:p∈eE rows w m l↔p.1∈l/\p.2<m/\ax rows p.1 p.2=w:=by
 unfold eE rE;rw[List.mem_flatMap];constructor
 ·rintro⟨r,d,h⟩
  obtain⟨c,e,rfl⟩:=k8.mp h;obtain⟨b,a⟩:=j6.mp e;exact⟨d,k6.mp b,by simpa using a⟩
 ·rintro⟨b,a,f⟩
  exact⟨p.1,b,k8.mpr ⟨p.2,j6.mpr ⟨k6.mpr a,by simpa using f⟩,rfl⟩⟩
end
theorem yO(c:δ[i]? = some (.own (.lst ds)))(h:evE G F e δ=some (.ok (.lst a) .fresh))(b:ds.length+a.length<=1000):evS G F fu (.ext i e) δ=some (.nx (δ.set i (.own (.lst (ds++a))))):=by
 unfold evS;rw[c];rw[h];show(if Cl.fresh=.strong\/Cl.fresh=.fresh then(if ds.length+a.length<=k9 then some _ else none)else none)=_;rw[d6 (.inr rfl),d6 (g9 b (by decide))]
theorem yP{cs:ge DV}(b:args.length=m.np/\args.length+cs.length=m.N.length/\DV.nolams args=true/\DV.nolams cs=true)(h:evE G (run G T fu k) m.body ((args++cs).map Sv.val)=some (.ok d .strong))(a:d.nolam=true):run G T fu (k+1) z8 (.lam m cs::args)=some (.v d false):=by
 have c:run G T fu (k+1) z8 (.lam m cs::args)=lamR _ (.lam m cs::args):=rfl;rw[c];show(if args.length=m.np/\args.length+cs.length=m.N.length/\DV.nolams args=true/\DV.nolams cs=true then(match evE G _ m.body _ with
  | some (.ok d .strong)=>if d.nolam then some _ else none
  | _=>none)else none)=_
 rw[d6 b,h];exact d6 a
theorem nl_q:∀l:ge (Nat×Nat),DV.nolams (l.map qD)=true
 | []=>rfl
 | p::l=>by show((qD p).nolam&&DV.nolams _)=true;rw[nl_q l];rfl
section
theorem lQ:∀(l:ge (ge Int)) (j:Nat),enuD j (l.map λ r=>.tup (iD r))=(List.range l.length).map λ (i:Nat)=>DV.tup [.int ((j+i:Nat):Int),.tup (iD (l.getD i []))]
 | [],_=>rfl
 | r::l,j=>by
  show DV.tup _::enuD _ _=_;rw[lQ l _,p9,List.range_succ_eq_map,u0,List.map_map]
  congr 1
  apply List.map_congr_left;intro i _;show DV.tup _=DV.tup [.int _,.tup (iD (l.getD i []))];rw[show j+1+i=j+(i+1) by omega]
noncomputable def xB:ge MS:=[.ext 3 (.compi (.tup [.var 1,.var 0]) (.one 0) (.rng [.bi .len [.var 5]]) (.cmp .Eq (.ix (.var 2) (.var 0)) (.var 3)) [none,some 4,some 5,some 1])]
theorem lR(R:Rect n m rows)(u:m<=8):∀(l:ge Nat) (a:ge (Nat×Nat)) (k g:Sv),(∀r∈l,r<n)->a.length+l.length*8<=900 ->
  ∃d b,u7 (.many [4,5]) (λ o=>evSs G F fu xB o) (l.map λ (j:Nat)=>DV.tup [.int (j:Int),.tup (iD (rows.getD j []))]) [.val (tT rows),.val (.int w),.val x,.own (.lst (a.map qD)),k,g]=some (.nx [.val (tT rows),.val (.int w),.val x,.own (.lst ((a++eE rows w m l).map qD)),d,b])
 | [],a,k,g,_,_=>⟨k,g,by unfold eE;rw[List.flatMap_nil,List.append_nil];rfl⟩
 | r::l,a,k,g,h,y=>by
  have rl:=dU (rows:=rows) (w:=w) (m:=m) r;rw[p9]at y;obtain⟨d,b,e⟩:=lR (x:=x) R u l (a++rE rows w m r) _ _ (λ x v=>h x (i8 _ v)) (by grind);refine⟨d,b,?_⟩;rw[show a++eE rows w m (r::l)=a++rE rows w m r++eE rows w m l by rw[List.append_assoc];rfl,←e];have B:(rows.getD r []).length=m:=R.2 _ (D3 (by rw[R.1];exact h r (i9 ..)));have q:=N0 (F:=F) (δ:=[.val (tT rows),.val (.int w),.val x,.own (.lst (a.map qD)),.val (.int (r:Int)),.val (.tup (iD (rows.getD r [])))]) (e:=.var 5) rfl;rw[show(iD (rows.getD r [])).length=m by unfold iD;rw[e7];exact B]at q;have c:=C5 (F:=F) (f:=λ (c:Nat)=>DV.tup [.int (r:Int),.int (c:Int)]) (p:=λ c=>ax rows r c==w) (elt:=.tup [.var 1,.var 0]) (tg:=.one 0)
   (fr:=[none,some 4,some 5,some 1]) (J0 q (by omega)) (by decide) (by rw[p4];exact g9 u (by decide)) (λ c A=>by
    have z:=k6.mp A;refine⟨[.val (.int c),.val (.int r),.val _,.val (.int w)],rfl,?_,.strong,rfl,rfl⟩;exact i0 (b_eq (w5 (d5 (n:=2) rfl) (d5 (n:=0) rfl) (R0 (by omega))) (d5 (n:=3) rfl)))
  rw[←rE_D]at c;have ex:=yO (fu:=fu) (i:=3) rfl c (by grind);rw[←List.map_append]at ex;exact R4 rfl (f8 ex rfl)
theorem lS(h:∀p,F z8 [mm,qD p]=some (.v (.int (g p)) false)):∀l:ge (Nat×Nat),G7 F mm (l.map qD)=some (l.map g)
 | []=>rfl
 | p::l=>by
  show(match F z8 _ with
   | some (.v (.int k) false)=>(G7 F mm _).map _
   | _=>none)=_
  rw[h p,lS h l];rfl
theorem yQ(h:∀i∈a,i<l.length):putIx DV.non a (l.map qD)=(putIx (0,0) a l).map qD:=by
 unfold putIx;rw[List.map_map];apply List.map_congr_left;intro i b;have:=h i b;simp[u8,u4,j8 this]
theorem lT{fu k:Nat}{rows:ge (ge Int)}{w:Int}{n m:Nat}(R:Rect n m rows)(hn0:0<n)(hn:n<=8)(hm:m<=8){bl:ge (Nat×Nat)}(hb:bl.length<=1000)(h64:(eE rows w m (List.range n)).length<64):∃es':ge (Nat×Nat),es'.Perm (eE rows w m (List.range n))/\run G T fu (k+4) 13 [tT rows,.int w,.lst (bl.map qD)]=some (.v (.lst (es'.map qD)) true):=by
 obtain⟨z4,z5,e⟩:=lR (F:=run G T fu (k+3)) (fu:=fu) (w:=w) (x:=.lst (bl.map qD)) R hm (List.range n) [] .no .no (λ r hr=>k6.mp hr) (by rw[p4];show 0+n*8<=900;omega);rw[List.nil_append]at e;obtain⟨es,hes⟩:∃es,es=eE rows w m (List.range n):=⟨_,rfl⟩;rw[←hes]at e h64 ⊢;obtain⟨ix,i1,i2⟩:=ry (es.map λ p=>((cv.wi hs bl p).length:Int));rw[e7]at i2;refine⟨putIx (0,0) ix es,bL i2,?_⟩;rw[m7 (fd:=db) rfl rfl];unfold db;have hk:=lS (F:=run G T fu (k+3)) (mm:=.lam ⟨["entry","blocks"],1,.bi .len [.call 14 [.var 1,.var 0]],G.fnl,G.bll,G.cll⟩ [.lst (bl.map qD)]) (g:=λ p=>((cv.wi hs bl p).length:Int)) (λ p=>by
  refine yP (k:=k+2) (args:=[qD p]) ⟨rfl,rfl,rfl,?_⟩ ?_ rfl
  ·show(DV.nolams (bl.map qD)&&true)=true;rw[nl_q];rfl
  ·have:=E8 (j1 (G:=G) (F:=run G T fu (k+2)) (δ:=[.val (qD p),.val (.lst (bl.map qD))]) (f:=14) (es:=[.var 1,.var 0]) (l:=[(.lst (bl.map qD),.strong),(qD p,.strong)]) rfl rfl (dO bl p hb));rw[e7]at this;exact this) es
 have sr:evE G (run G T fu (k+3)) (.srtk (.var 3) ["entry","blocks"] 1 (.bi .len [.call 14 [.var 1,.var 0]]) [2]) [.val (tT rows),.val (.int w),.val (.lst (bl.map qD)),.own (.lst (es.map qD)),z4,z5]=some (.ok (.lst ((putIx (0,0) ix es).map qD)) .fresh):=by
  unfold evE;have cp:capD [.val (tT rows),.val (.int w),.val (.lst (bl.map qD)),.own (.lst (es.map qD)),z4,z5] [2]=some [.lst (bl.map qD)]:=by show(if(DV.lst (bl.map qD)).nolam then some [DV.lst (bl.map qD)]else none)=_;rw[show(DV.lst (bl.map qD)).nolam=DV.nolams (bl.map qD)from rfl,nl_q];rfl
  rw[cp];dsimp only;rw[d9 (by intro z;cases z),Z2 (d:=.lst (es.map qD)) rfl];show(if(true=true)/\(es.map qD).length<64 then(G7 _ _ (es.map qD)).bind λ ks=>(F7 ks).map λ ix=>Re.ok (.lst (putIx .non ix (es.map qD))) .fresh else none)=_;rw[d6 ⟨rfl,by rw[e7];exact h64⟩,hk,Option.bind_some,i1,Option.map_some,yQ λ i hi=>k6.mp (i2.mem_iff.mp hi)]
 refine o4 (f8 (O7 (G1 j5 (by decide) rfl)) (E2 (cl:=.strong) ?_ (.inl rfl) e (k7 (p8 sr))));show some (Ri.ok (enuD 0 (rows.map λ r=>.tup (iD r))) _)=_;rw[lQ,R.1];simp only[Nat.zero_add];rfl
end
section
variable {rows:ge (ge Int)} {w:Int} {n m:Nat}
def wN(rows:ge (ge Int))(w:Int)(n m:Nat):ge (Nat×Nat):=((al n).filter (good rows w n m)).map λ S=>(S,bs (JL rows w m S))
theorem dW:pD (wl rows w n m)=(wN rows w n m).map qD:=by
 unfold pD wl wN;rw[List.map_map,List.map_map];rfl
theorem lU(a:n<=8):(wN rows w n m).length<=1000:=by
 unfold wN;rw[e7];refine g9 (List.length_filter_le ..) ?_;unfold al;rw[e7,p4];have:2^n<=2^8:=Nat.pow_le_pow_right (by decide) a;omega
def rb(rows:ge (ge Int))(w:Int)(n m i:Nat):Nat×Nat:=(bs (RL rows w n (JL rows w m (2^i))),bs (JL rows w m (2^i)))
theorem yR(h:r∈cs (2^i)):i=r:=by
 have a:=(j6.mp h).2;rw[Nat.testBit_two_pow]at a;exact of_decide_eq_true a
theorem lV(b:j<m)(h:ax rows i j=w):j∈JL rows w m (2^i):=by
 refine j6.mpr ⟨k6.mpr b,w6.mpr λ r a=>?_⟩;rw[←yR a,h];exact beq_self_eq_true _
theorem lW(c:i<n)(b:j<m)(h:ax rows i j=w):rb rows w n m i∈wN rows w n m:=by
 have d:JL rows w m _≠[]:=λ q=>by have:=lV b h;rw[q]at this;cases this
 obtain⟨k,g,f,e,a⟩:=kg (Nat.pow_pos (by decide)) (Nat.pow_lt_pow_right (by decide) c) d;refine k8.mpr ⟨k,j6.mpr ⟨X0.mpr ⟨g,f⟩,aK.mpr ⟨by rwa [a],by rwa [a]⟩⟩,?_⟩;unfold rb;rw[a,e]
theorem lX(b:i<n)(a:j<m)(h:ax rows i j=w):hs (rb rows w n m i) (i,j)=true:=by
 unfold hs rb;rw[d8];constructor
 ·show(bs _).testBit i=true;unfold RL;rw[(bs_f _ n).2,decide_eq_true b,Bool.true_and];refine w6.mpr λ c d=>?_
  have h2:0<2^i:=Nat.pow_pos (by decide);exact w6.mp (j6.mp d).2 i (j6.mpr ⟨k6.mpr (by simp_all),by rw[Nat.testBit_two_pow];exact decide_eq_true rfl⟩)
 ·show(bs _).testBit j=true;unfold JL;rw[(bs_f _ m).2,decide_eq_true a,Bool.true_and];exact(j6.mp (lV a h)).2
theorem yS{es:ge (Nat×Nat)}(e:∀p∈es,p∈eE rows w m (List.range n)):∀p∈es,∃b∈wN rows w n m,hs b p=true:=λ p h=>by
 obtain⟨d,c,a⟩:=lP.mp (e p h);exact⟨_,lW (k6.mp d) c a,lX (k6.mp d) c a⟩
theorem lY{es:ge (Nat×Nat)}(f:∀p∈es,p∈eE rows w m (List.range n)):cv.cov hs n es (wN rows w n m)≠none:=by
 refine cv.cov_all hs (c:=((List.range n).filter λ i=>(List.range m).any λ j=>ax rows i j==w).map (rb rows w n m)) (λ b l=>?_) (λ p h=>?_) ?_
 ·obtain⟨i,k,rfl⟩:=k8.mp l;obtain⟨d,a⟩:=j6.mp k;obtain⟨j,g,q⟩:=List.any_eq_true.mp a;exact lW (k6.mp d) (k6.mp g) (by simpa using q)
 ·obtain⟨d,a,e⟩:=lP.mp (f p h);exact⟨_,k8.mpr ⟨p.1,j6.mpr ⟨d,List.any_eq_true.mpr ⟨p.2,k6.mpr a,by simpa using e⟩⟩,rfl⟩,lX (k6.mp d) a e⟩
 ·rw[e7];refine g9 (List.length_filter_le ..) ?_;rw[p4];exact i7 _
end
theorem lZ(h:evE G F e δ=some (.ok .non .strong)):evS G F fu (.set i true e) δ=some (.nx (δ.set i (.val .non))):=by
 have a:evS G F fu (.set i true e) δ=Re.thnS δ (evE G F e δ) (λ d c=>if true then J7 i δ d c else(if stro d c then some (.nx (δ.set i (.val d)))else none)):=by rw[evS]
 rw[a,h];rfl
theorem yT(f:δ[i]? = some (.val (.int a)))(h:evE G F e δ=some (.ok (.int b) c)):evS G F fu (.aug i e) δ=some (.nx (δ.set i (.val (.int (a+b))))):=by
 have g:evS G F fu (.aug i e) δ=(asIv δ[i]?).bind λ a=>Re.thnS δ (evE G F e δ) λ d _=>augD i a δ d:=by rw[evS]
 rw[g,f,h];rfl
def sv:on (ge (Nat×Nat))->Sv
 | some c=>.own (.lst (c.map qD))
 | none=>.val .non
noncomputable def cE:ME:=.call 17 [.var 3,.var 2,.var 4]
def wB':ge MS:=[.aug 4 (.int 1),.set 5 true cE]
def S6(x:DV)(w:Int)(bl es:ge (Nat×Nat))(j:Nat)(z:Sv):ge Sv:=[.val x,.val (.int w),.val (.lst (bl.map qD)),.val (.lst (es.map qD)),.val (.int (j:Int)),z]
theorem ma{es:ge (Nat×Nat)}(hj:j<=8)(a:es.length<=1000)(b:bl.length<=1000):evS G (run G T fu (k+11)) fu (.set 5 true cE) (S6 x w bl es j z)=some (.nx (S6 x w bl es j (sv (cv.cov hs j es bl)))):=by
 have q:=lE (fu:=fu) (k:=k+(8 - j)) j es bl a b (by omega);rw[show k+_+j+3=k+11 by omega]at q;cases z:cv.cov hs j es bl with
 | some c=>
  rw[z]at q;exact O7 (j1 (l:=[(.lst _,.strong),(.lst _,.strong),(.int _,.strong)]) rfl rfl q)
 | none=>
  rw[z]at q;exact lZ (j1 (l:=[(.lst _,.strong),(.lst _,.strong),(.int _,.strong)]) rfl rfl q)
theorem md{es:ge (Nat×Nat)}(o:n<=8)(h:es.length<=1000)(m:bl.length<=1000)(l:cv.cov hs n es bl≠none):∀(d j f:Nat),j+d=n->d<f->(∀i<j,cv.cov hs i es bl=none) ->
  ∃t c,t<=n/\cv.cov hs t es bl=some c/\(∀i<t,cv.cov hs i es bl=none)/\D6 (λ b=>tstD (evE G (run G T fu (k+11)) (.cmp .Is (.var 5) (.non)) b)) (λ b=>evSs G (run G T fu (k+11)) fu wB' b) f (S6 x w bl es j (sv (cv.cov hs j es bl)))=some (.nx (S6 x w bl es t (sv (some c))))
 | d,j,0,_,g,_=>by cases g
 | d,j,f+1,hd,g,e=>by
  cases z:cv.cov hs j es bl with
  | some c=>
   refine⟨j,c,by omega,z,e,?_⟩;have t:tstD (evE G (run G T fu (k+11)) (.cmp .Is (.var 5) (.non)) (S6 x w bl es j (sv (some c))))=some (.ok false):=i0 (cl:=.strong) rfl;exact qj t
  | none=>
   cases d with
   | zero=>
    have:j=n:=by omega
    subst this;exact absurd z l
   | succ d=>
    obtain⟨t,c,y,v,u,r⟩:=md o h m l d (j+1) f (by omega) (by omega) (λ i p=>by
     rcases Nat.lt_or_eq_of_le (Nat.le_of_lt_succ p)with q | q
     ·exact e i q
     ·rw[q];exact z)
    refine⟨t,c,y,v,u,?_⟩;have B:=yT (F:=run G T fu (k+11)) (fu:=fu) (δ:=S6 x w bl es j (sv none)) (i:=4) (a:=(j:Int)) rfl (g8 (i:=1));have A:evSs G (run G T fu (k+11)) fu wB' (S6 x w bl es j (sv none))=some (.nx (S6 x w bl es (j+1) (sv (cv.cov hs (j+1) es bl)))):=f8 B (f8 (ma (j:=j+1) (z:=sv none) (by omega) h m) rfl);exact qm (i0 rfl) A r
theorem me{es:ge (Nat×Nat)}(h:∀p∈es,p∈a)(q:cv.cov hs m es bl=none):cv.cov hs m a bl=none:=by
 cases z:cv.cov hs m a bl with
 | none=>rfl
 | some c=>
  obtain⟨f,e,d⟩:=cv.cov_ok hs z;exact absurd q (cv.cov_all hs f (λ p b=>e p (h p b)) d)
section
theorem yU(R:Rect n m rows)(b:0<n)(e:n<=8)(g:m<=8)(hs:sm (FI rows).length (FI (flip m rows)).length=true)(o:(eE rows w m (List.range n)).length<64)(hf:100<=fu):∃(a c:ge (Nat×Nat)) (t:Nat),a.Perm (eE rows w m (List.range n))/\cv.cov k33.hs t a (wN rows w n m)=some c/\(∀i<t,cv.cov k33.hs i a (wN rows w n m)=none)/\t<=n/\run G T fu (k+12) 11 [tT rows,.int w]=some (.v (.lst (c.map qD)) true):=by
 have h:=lU (rows:=rows) (w:=w) (m:=m) e;obtain⟨a,p,I⟩:=lT (fu:=fu) (k:=k+7) (w:=w) R b e g h o;have u:a.length<=1000:=by rw[p.length_eq];omega
 obtain⟨t,c,E,C,B,A⟩:=md (fu:=fu) (k:=k) (x:=tT rows) (w:=w) e u h (lY λ q v=>p.mem_iff.mp v) n 0 fu (by omega) (by omega) (λ i y=>by cases y);refine⟨a,c,t,p,C,B,E,?_⟩;have r:=kF (fu:=fu) (k:=k+8) (w:=w) R b e g;rw[dW]at r;have ck:=ls (fu:=fu) (k:=k+6) R b e g;rw[d6 hs]at ck;rw[m7 rfl rfl];unfold da;have H:evS G (run G T fu (k+11)) fu (.exp (.call 7 [.var 0])) (j0 6 [tT rows,.int w])=some (.nx (j0 6 [tT rows,.int w])):=by
  have F:evS G (run G T fu (k+11)) fu (.exp (.call 7 [.var 0])) (j0 6 [tT rows,.int w])=Re.thnS (j0 6 [tT rows,.int w]) (evE G (run G T fu (k+11)) (.call 7 [.var 0]) (j0 6 [tT rows,.int w])) λ _ _=>some (.nx (j0 6 [tT rows,.int w])):=by rw[evS]
  rw[F,j1 (f:=7) rfl rfl ck];rfl
 refine o4 (f8 H (f8 (j3 (j1 (f:=8) (l:=[(tT rows,.strong),(.int w,.strong)]) rfl rfl r) rfl) (f8 (j3 (j1 (f:=13) (l:=[(tT rows,.strong),(.int w,.strong),(.lst ((wN rows w n m).map qD),.strong)]) rfl rfl I) rfl) (f8 (j3 (d:=.int 0) (cl:=.strong) rfl rfl) (f8 (ma (k:=k) (j:=0) (by omega) u h) (qo A (k7 (p8 (Z2 rfl)))))))))
end
def Lst(E bl:ge (Nat×Nat))(t:Nat):Prop:=cv.cov hs t E bl≠none/\∀i<t,cv.cov hs i E bl=none
theorem Lst.uniq(h:Lst E bl t)(g:Lst E bl u):t=u:=by
 rcases Nat.lt_trichotomy t u with z | z | z
 ·exact absurd (g.2 t z) h.1
 ·exact z
 ·exact absurd (h.2 u z) g.1
theorem Lst.perm(h:Lst E bl t)(p:E.Perm b):Lst b bl t:=
 ⟨λ z=>h.1 (me (λ q a=>p.mem_iff.mpr a) z),λ i c=>me (λ q a=>p.mem_iff.mp a) (h.2 i c)⟩
section
theorem dX(R:Rect n m rows)(f:0<n)(r:n<=8)(v:m<=8)(d:sm (FI rows).length (FI (flip m rows)).length=true)(g:(eE rows w m (List.range n)).length<64)(x:100<=fu)(q:Lst (eE rows w m (List.range n)) (wN rows w n m) t) :
  ∃c:ge (Nat×Nat),c.length=t/\(∀b∈c,b∈wN rows w n m)/\(∀e∈eE rows w m (List.range n),∃b∈c,hs b e=true)/\run G T fu (k+12) 11 [tT rows,.int w]=some (.v (.lst (c.map qD)) true):=by
 obtain⟨h,c,u,p,a,i,_,A⟩:=yU R f r v d g x;have o:Lst h _ u:=⟨(λ z=>by rw[z]at a;cases a),i⟩;have:=(o.perm p).uniq q;subst this;obtain⟨l,j,_⟩:=cv.cov_ok hs a;exact⟨c,cv.cov_least hs a i,l,λ e y=>j e (p.mem_iff.mpr y),A⟩
theorem yV(hn:n<=8):∃t,t<=n/\Lst (eE rows w m (List.range n)) (wN rows w n m) t:=by
 have g:∀d j,j+d=n->(∀i<j,cv.cov hs i (eE rows w m (List.range n)) (wN rows w n m)=none)->∃t,t<=n/\Lst (eE rows w m (List.range n)) (wN rows w n m) t:=by
  intro d
  induction d with
  | zero=>
   intro j f a;have:j=n:=by omega
   subst this;exact⟨j,i7 _,(lY λ _ h=>h),a⟩
  | succ d e=>
   intro j f a;cases z:cv.cov hs j _ _ with
   | some c=>exact⟨j,by omega,(λ q=>by rw[z]at q;cases q),a⟩
   | none=>
    refine e (j+1) (by omega) λ i b=>?_;rcases Nat.lt_or_eq_of_le (Nat.le_of_lt_succ b)with q | q
    ·exact a i q
    ·rw[q];exact z
 exact g n 0 (by omega) λ i b=>by cases b
theorem yW(R:Rect n m rows)(b:0<n)(h:n<=8)(i:m<=8)(a:sm (FI rows).length (FI (flip m rows)).length=true)(d:(eE rows w m (List.range n)).length<64)(j:100<=fu)(g:Lst (eE rows w m (List.range n)) (wN rows w n m) 0) :
  run G T fu (k+13) 12 [tT rows,.int w]=some (.v .non false):=by
 obtain⟨c,f,_,_,e⟩:=dX R b h i a d j g;rw[List.length_eq_zero_iff.mp f]at e;rw[m7 rfl rfl];unfold aD;exact o4 (f8 (j3 (E8 (j1 rfl rfl e)) rfl) (L8 (i0 rfl) (k7 (p8 rfl))))
theorem yX(R:Rect n m rows)(a:0<n)(g:n<=8)(j:m<=8)(h:sm (FI rows).length (FI (flip m rows)).length=true)(b:(eE rows w m (List.range n)).length<64)(B:100<=fu)(t8:t+1<=8)(v:Lst (eE rows w m (List.range n)) (wN rows w n m) (t+1)) :
  ∃(e:Nat×Nat) (es:ge (Nat×Nat)),(e::es).Perm (eE rows w m (List.range n))/\cv.cov hs t (e::es) (wN rows w n m)=none/\run G T fu (k+13) 12 [tT rows,.int w]=some (.t (csD (wN rows w n m) t e es)):=by
 have x:=lU (rows:=rows) (w:=w) (m:=m) g;obtain⟨c,A,_,_,y⟩:=dX (k:=k) R a g j h b B v;obtain⟨q,p,E⟩:=lT (fu:=fu) (k:=k+8) (w:=w) R a g j x b;have o:=(v.perm p.symm).2 t (Nat.lt_succ_self t);cases q with
 | nil=>exact absurd rfl (cv.cas_ne hs o)
 | cons e es=>
  refine⟨e,es,p,o,?_⟩;have C:(e::es).length<=1000:=by rw[p.length_eq];omega
  have cs:=lF (fu:=fu) (k:=k+(9 - t)) t e es _ C x o;rw[show k+(9 - t)+t+3=k+12 by omega]at cs;have r:=kF (fu:=fu) (k:=k+9) (w:=w) R a g j;rw[dW]at r;rw[m7 rfl rfl];unfold aD;have l:=E8 (j1 (G:=G) (F:=run G T fu (k+12)) (δ:=j0 4 [tT rows,.int w]) (f:=11) (es:=[.var 0,.var 1]) (l:=[(tT rows,.strong),(.int w,.strong)]) rfl rfl y);rw[e7,A]at l;have z:evE G (run G T fu (k+12)) (.cmp .Eq (.var 2) (.int 0)) [.val (tT rows),.val (.int w),.val (.int ((t+1:Nat):Int)),.no]=some (.ok (.bl false) .strong):=(by have:=b_eq (d5 (G:=G) (F:=run G T fu (k+12)) (δ:=[.val (tT rows),.val (.int w),.val (.int ((t+1:Nat):Int)),.no]) (n:=2) (d:=.int ((t+1:Nat):Int)) rfl) (g8 (i:=0));rw[this,u9.mpr (by omega)]);have u:=O8 (d5 (G:=G) (F:=run G T fu (k+12)) (δ:=[.val (tT rows),.val (.int w),.val (.int ((t+1:Nat):Int)),.val (.lst ((wN rows w n m).map qD))]) (n:=2) (d:=.int ((t+1:Nat):Int)) rfl) (g8 (i:=1));rw[show((t+1:Nat):Int) - 1=(t:Int) by omega]at u;exact X5 (f8 (j3 l rfl) (p5 (i0 z) (f8 (j3 (j1 rfl rfl r) rfl) (R7 (qh (X6 (e9 (j1 rfl rfl E) (e9 (d5 (n:=3) (d:=.lst ((wN rows w n m).map qD)) rfl) (e9 u j5))) rfl cs))))))
end
theorem yY(h:evE G F e δ=some (.ok d .ft))(a:noOt i δ=true):evS G F fu (.set i true e) δ=some (.nx (δ.set i (.ot d))):=by
 have b:evS G F fu (.set i true e) δ=Re.thnS δ (evE G F e δ) (λ d c=>if true then J7 i δ d c else(if stro d c then some (.nx (δ.set i (.val d)))else none)):=by rw[evS]
 rw[b,h];show(if noOt i δ=true then some _ else none)=_;rw[d6 a]
theorem yZ(g:δ[i]? = some (.ot (c3 (a,b,ds))))(h:evE G F e δ=some (.ok (.int x) c))(f:ds.length<=900)(d:noOt i δ=true):evS G F fu (.app2 i e) δ=some (.nx (δ.set i .no)):=by
 unfold evS;rw[g,h];show(if stro _ c=true/\ds.length<k9/\noOt i δ=true then some _ else none)=_;rw[d6 ⟨by cases c<;>rfl,Nat.lt_of_le_of_lt f (by decide),d⟩]
theorem za{fu:Nat}{F:Nat->ge DV->on Ou}{δ:ge Sv}{h i f m:Nat}{e:ME}{c c':Int×Int×ge DV}{gs:ge DV}(h0:δ[i]? = some (.ot (c3 c)))(h1:evE G F e δ=some (.ok (.lst gs) .fresh))(h2:F f [c3 c]=some (.t (c3 c')))(hm:m<30)(c1:caL m c.2.2=true)(c2:caL m c'.2.2=true):evS G F fu (.hld h i f e) δ=some (.nx (δ.set h (.val (.lst [.lst gs,c3 c'])))):=by
 have e1:evS G F fu (.hld h i f e) δ=((asOt δ[i]?).bind asC3).bind λ c=>(asFr (evE G F e δ)).bind λ gs=>((asT (F f [c3 c])).bind asC3).bind λ c'=>((List.range 30).find? λ m=>caL m c.2.2&&caL m c'.2.2).map λ _=>.nx (δ.set h (.val (.lst [.lst gs,c3 c']))):=by rw[evS]
 rw[e1,h0,h1];show(((asT (F f [c3 c])).bind asC3).bind λ c'=>((List.range 30).find? λ m=>caL m c.2.2&&caL m c'.2.2).map λ _=>Out.nx (δ.set h (.val (.lst [.lst gs,c3 c']))))=_;rw[h2];show(((List.range 30).find? λ m=>caL m c.2.2&&caL m c'.2.2).map λ _=>Out.nx (δ.set h (.val (.lst [.lst gs,c3 c']))))=_;cases z:(List.range 30).find? λ m=>caL m c.2.2&&caL m c'.2.2 with
 | some _=>rfl
 | none=>
  have:=List.find?_eq_none.mp z m (k6.mpr hm);rw[c1,c2]at this;exact absurd rfl this
theorem mf{es:ge ME}(a:evEs G F es δ=some (.ok l))(h:F f (l.map (·.1))=some (.v (.bl x) false)):∃c,evE G F (.call f es) δ=some (.ok (.bl x) c):=by
 have e:evE G F (.call f es) δ=Rs.thn (evEs G F es δ) (λ l=>B4 F f l):=by rw[evE]
 rw[e,a];show ∃c,B4 F f l=some _;unfold B4;rw[h];exact⟨_,rfl⟩
theorem mh:∀(m:Nat) (e:Nat×Nat) (es:ge (Nat×Nat)) (N:Nat),2*m+3<=N->cv.cov hs m (e::es) bl=none->DV.plain N (csD bl m e es)=true/\deq (csD bl m e es) (csD bl m e es)=true
 | m,e,es,N,hN,j=>by
  obtain⟨N,rfl⟩:∃M,N=M+2:=⟨N - 2,by omega⟩;have h:DV.plains N (csL bl m e es)=true/\deqs (csL bl m e es) (csL bl m e es)=true:=by
   cases m with
   | zero=>exact⟨G2 (λ d a=>by cases a),rfl⟩
   | succ m=>
    rw[aQ];have c:∀d∈(cv.wi hs bl e).map (gC bl m e es),DV.plain N d=true/\deq d d=true:=λ d a=>by obtain⟨b,n,rfl⟩:=k8.mp a;obtain⟨o,f,_,q,k⟩:=aR j n;rw[q];exact mh m o f N (by omega) k
    refine⟨G2 λ d a=>(c d a).1,?_⟩;generalize (cv.wi hs bl e).map (gC bl m e es)=l at c
    induction l with
    | nil=>rfl
    | cons d l i=>
     show(deq d d&&deqs l l)=true;rw[(c d (i9 ..)).2,i λ p a=>c p (i8 _ a)];rfl
  constructor
  ·show DV.plains (N+1) _=true;refine G2 λ d a=>?_
   simp only[e8,List.not_mem_nil,or_false]at a;rcases a with rfl | rfl | rfl
   ·exact di _ _
   ·exact di _ _
   ·exact h.1
  ·show deqs _ _=true;have g:=h.2;simp only[deqs,deq,beq_self_eq_true,Bool.true_and,Bool.and_true];exact g
section
theorem zb(a:n<=8):(wN rows w n m).length<=900:=by
 unfold wN;rw[e7];refine g9 (List.length_filter_le ..) ?_;unfold al;rw[e7,p4];have:2^n<=2^8:=Nat.pow_le_pow_right (by decide) a;omega
theorem zc(a:bl.length<=900)(t:Nat)(e:Nat×Nat)(es:ge (Nat×Nat)):(csL bl t e es).length<=900:=by
 cases t with
 | zero=>exact Nat.zero_le _
 | succ t=>rw[aQ,e7];exact g9 (List.length_filter_le ..) a
theorem mi:∀l:ge (Nat×Nat),deqs (l.map qD) (l.map qD)=true
 | []=>rfl
 | p::l=>by show(deq (qD p) (qD p)&&deqs _ _)=true;rw[lI,mi l];rfl
theorem zd{l:ge (Nat×Nat)}(h:DV.plain 59 d=true/\deq d d=true):cmpD .Eq (.lst [.lst (l.map qD),d]) (.lst [.lst (l.map qD),d])=some true:=by
 have p:DV.plain 60 (.lst [.lst (l.map qD),d])=true:=by
  show DV.plains 59 _=true;refine G2 λ x a=>?_
  simp[e8,List.not_mem_nil,or_false]at a;rcases a with rfl | rfl
  ·show DV.plains 58 _=true;exact G2 λ x a=>by obtain⟨q,_,rfl⟩:=k8.mp a;rfl
  ·exact h.1
 have e:deq (.lst [.lst _,d]) (.lst [.lst (l.map qD),d])=true:=(by show(deqs _ _&&(deq d d&&true))=true;rw[mi,h.2];rfl);show(if(DV.plain 60 _&&DV.plain 60 _)=true then some (deq _ _)else none)=_;rw[p,e];rfl
theorem mj:∀(F L:ge Nat),L.Nodup->(∀a∈L,∀b∈L,(∀i∈F,a.testBit i=b.testBit i)->a=b)->L.length<=2^F.length
 | [],L,h,q=>by
  match L,h,q with
  | [],_,_=>exact Nat.zero_le _
  | [_],_,_=>exact i7 _
  | a::b::L,h,q=>
   have:=q a (i9 ..) b (i8 _ (i9 ..)) λ i c=>by cases c
   rw[this]at h;exact absurd (i9 ..) (List.nodup_cons.mp h).1
 | f::F,L,h,q=>by
  have e:∀l:ge Nat,l.length=(l.filter λ a=>a.testBit f).length+(l.filter λ a=>!a.testBit f).length:=λ l=>by
   induction l with
   | nil=>rfl
   | cons a l ih=>cases z:a.testBit f<;>simp[z]<;>omega
  have g:∀v:Bool,(L.filter λ a=>a.testBit f==v).length<=2^F.length:=λ v=>mj F _ (h.sublist (List.filter_sublist ..)) λ a j b d z=>by
   obtain⟨r,p⟩:=j6.mp j;obtain⟨o,n⟩:=j6.mp d;exact q a r b o λ i c=>by
    rcases e8.mp c with rfl | c
    ·rw[f7.mp p,f7.mp n]
    ·exact z i c
  have m:=g true;have k:=g false;simp[beq_true,beq_false]at m k;rw[e L,p9,Nat.pow_succ];omega
theorem ze(R:Rect n m rows)(o:(FI rows).length<=5):(wl rows w n m).length<=63:=by
 unfold wl;rw[e7];refine g9 (mj _ _ (List.Nodup.sublist (List.filter_sublist ..) ?_) ?_) (g9 (Nat.pow_le_pow_right (by decide) o) (by decide))
 ·unfold al;exact List.pairwise_map.mpr (List.nodup_range.imp λ h e=>h (by omega))
 ·intro a l b k z;have c:∀S∈(al n).filter (good rows w n m),∀i,S.testBit i=(decide (i<n)&&rp rows w _ i):=λ S j i=>by have:=(aK.mp (j6.mp j).2).2;rw[←(bs_f _ n).2 i];unfold RL at this;rw[this]
  have d:∀S∈(al n).filter _,∀i,i<n->S.testBit i=S.testBit (rows.idxOf _):=λ S j i g=>by have f:=D3 (by rwa [R.1]);rw[c S j,c S j,decide_eq_true g,decide_eq_true (by rw[←R.1];exact aN f)];unfold rp ax;rw[dF f]
  refine Nat.eq_of_testBit_eq λ i=>?_;by_cases g:i<n
  ·have f:=D3 (by rwa [R.1]);rw[d a l i g,d b k i g];exact z _ (j6.mpr ⟨k6.mpr (aN f),by rw[dF f];exact beq_self_eq_true _⟩)
  ·rw[c a l,c b k,decide_eq_false g];rfl
theorem zf{fu k:Nat}{rows:ge (ge Int)}{w:Int}{n m:Nat}(R:Rect n m rows)(hn0:0<n)(hn:n<=8)(hm:m<=8)(sm1:sm (FI rows).length (FI (flip m rows)).length=true)(h64:(eE rows w m (List.range n)).length<64)(hf:100<=fu):run G T fu (k+14) 36 [tT rows,.int w]=some (.v (.bl true) false):=by
 have hb:=zb (rows:=rows) (w:=w) (m:=m) hn;have hb':(wN rows w n m).length<=1000:=g9 hb (by decide);obtain⟨t,t8,ht⟩:=yV (rows:=rows) (w:=w) (n:=n) (m:=m) hn;obtain⟨c,q1,q2,q3,q4⟩:=dX (fu:=fu) (k:=k+1) R hn0 hn hm sm1 h64 hf ht;have wd:=xW (fu:=fu) (k:=k+10) (w:=w) R hn0 hn hm (ze R (by unfold sm at sm1;simp at sm1;omega));rw[dW]at wd;have en:=yN (fu:=fu) (k:=k+12) (w:=w) R hn0 hn hm;obtain⟨E,hE⟩:∃E,E=eE rows w m (List.range n):=⟨_,rfl⟩;obtain⟨B,hB⟩:∃B,B=wN rows w n m:=⟨_,rfl⟩;have eh:=yS (rows:=rows) (w:=w) (n:=n) (m:=m) (es:=E) (λ p h=>by rw[←hE];exact h);rw[m7 (fd:=dh) rfl rfl];unfold dh;have s1:=j3 (fu:=fu) (i:=2) (j1 (G:=G) (F:=run G T fu (k+13)) (δ:=j0 7 [tT rows,.int w]) (f:=27) (es:=[.var 0,.var 1]) (l:=[(tT rows,.strong),(.int w,.strong)]) rfl rfl wd) rfl;have s2:=j3 (fu:=fu) (i:=3) (j1 (G:=G) (F:=run G T fu (k+13)) (δ:=[.val (tT rows),.val (.int w),.val (.lst ((wN rows w n m).map qD)),.no,.no,.no,.no]) (f:=28) (es:=[.var 0,.var 1]) (l:=[(tT rows,.strong),(.int w,.strong)]) rfl rfl en) rfl;rw[←hE]at s2 q3 ht h64;rw[←hB]at s1 s2 q2 ht eh hb hb';have s3:=O7 (fu:=fu) (i:=4) (j1 (G:=G) (F:=run G T fu (k+13)) (δ:=[.val (tT rows),.val (.int w),.val (.lst (B.map qD)),.val (.lst (E.map qD)),.no,.no,.no]) (f:=11) (es:=[.var 0,.var 1]) (l:=[(tT rows,.strong),(.int w,.strong)]) rfl rfl q4);cases t with
 | zero=>
  have pp:=yW (fu:=fu) (k:=k) R hn0 hn hm sm1 (by rw[←hE];exact h64) hf (by rw[←hE,←hB];exact ht);have c0:=List.length_eq_zero_iff.mp q1;subst c0;have E0:E=[]:=by
   cases z:E with
   | nil=>rfl
   | cons a l=>rw[z]at ht;exact absurd rfl ht.1
  subst E0;have s4:=lZ (fu:=fu) (i:=5) (j1 (G:=G) (F:=run G T fu (k+13)) (δ:=[.val (tT rows),.val (.int w),.val (.lst (B.map qD)),.val (.lst []),.own (.lst []),.no,.no]) (f:=12) (es:=[.var 0,.var 1]) (l:=[(tT rows,.strong),(.int w,.strong)]) rfl rfl pp);exact o4 (f8 s1 (f8 s2 (f8 s3 (f8 s4 (L8 (i0 (x:=true) (cl:=.strong) rfl) (k7 (p8 (cl:=.strong) (N2 (cx:=.strong) rfl (N3 rfl)))))))))
 | succ t=>
  obtain⟨e,es,p,hc,pp⟩:=yX (fu:=fu) (k:=k) R hn0 hn hm sm1 (by rw[←hE];exact h64) hf (t:=t) (by omega) (by rw[←hE,←hB];exact ht);rw[←hE]at p;rw[←hB]at hc pp;have E1:E.isEmpty=false:=by
   cases z:E with
   | nil=>rw[z]at p;exact absurd p.length_eq (by simp)
   | cons _ _=>rfl
  have s4:=yY (fu:=fu) (i:=5) (X6 (F:=run G T fu (k+13)) (δ:=[.val (tT rows),.val (.int w),.val (.lst (B.map qD)),.val (.lst (E.map qD)),.own (.lst (c.map qD)),.no,.no]) (f:=12) (es:=[.var 0,.var 1]) (l:=[(tT rows,.strong),(.int w,.strong)]) rfl rfl pp) rfl;obtain⟨δ5,h5⟩:∃δ5,δ5=[Sv.val (tT rows),.val (.int w),.val (.lst (B.map qD)),.val (.lst (E.map qD)),.own (.lst (c.map qD)),.ot (csD B t e es),.no]:=⟨_,rfl⟩;have n5:evE G (run G T fu (k+13)) (.cmp .Eq (.var 3) (.lst [])) [.val (tT rows),.val (.int w),.val (.lst (B.map qD)),.val (.lst (E.map qD)),.own (.lst (c.map qD)),.ot (csD B t e es),.no]=some (.ok (.bl false) .strong):=(by have:=C3 (d5 (G:=G) (F:=run G T fu (k+13)) (δ:=[.val (tT rows),.val (.int w),.val (.lst (B.map qD)),.val (.lst (E.map qD)),.own (.lst (c.map qD)),.ot (csD B t e es),.no]) (n:=3) (d:=.lst (E.map qD)) rfl) (G1 j5 (by decide) rfl) (aM (dQ E)).1;rw[List.isEmpty_map,E1]at this;exact this);obtain⟨ca,a1⟩:=mf (F:=run G T fu (k+13)) (δ:=[.val (tT rows),.val (.int w),.val (.lst (B.map qD)),.val (.lst (E.map qD)),.own (.lst (c.map qD)),.ot (csD B t e es),.no]) (f:=33) (es:=[.var 4,.var 2,.var 3]) (l:=[(.lst (c.map qD),.top),(.lst (B.map qD),.strong),(.lst (E.map qD),.strong)]) rfl (yL (fu:=fu) (k:=k+10) q2 q3 (by omega) (by omega));have m1:=O8 (E8 (Z2 (G:=G) (F:=run G T fu (k+13)) (δ:=[.val (tT rows),.val (.int w),.val (.lst (B.map qD)),.val (.lst (E.map qD)),.own (.lst (c.map qD)),.ot (csD B t e es),.no]) (n:=4) (d:=.lst (c.map qD)) rfl)) (g8 (i:=1));rw[e7,q1,show((t+1:Nat):Int) - 1=(t:Int) by omega]at m1;have lc:=lN (fu:=fu) (k:=k+(10 - t)) hb' t e es E (by omega) (λ x hx=>p.mem_iff.mp hx) hc;rw[show k+(10 - t)+t+3=k+13 by omega]at lc;obtain⟨cb,a2⟩:=mf (f:=34) (es:=[.var 5,.var 2,.var 3,.bin .Sub (.bi .len [.var 4]) (.int 1)]) (l:=[(csD B t e es,.weak),(.lst (B.map qD),.strong),(.lst (E.map qD),.strong),(.int (t:Int),.strong)]) (e9 (a:=.var 5) (x:=csD B t e es) (cx:=.weak) rfl (e9 (d5 (n:=2) rfl) (e9 (d5 (n:=3) rfl) (e9 m1 j5)))) lc;have dp:=lH t e es (λ x hx=>eh x (p.mem_iff.mp hx)) hc;have cy:=lG (fu:=fu) (k:=k+(12 - t)) hb' t e es hc;rw[show k+(12 - t)+t+1=k+13 by omega]at cy;have hd:=za (fu:=fu) (F:=run G T fu (k+13)) (δ:=[.val (tT rows),.val (.int w),.val (.lst (B.map qD)),.val (.lst (E.map qD)),.own (.lst (c.map qD)),.ot (csD B t e es),.no]) (h:=6) (i:=5) (f:=35) (m:=t) (e:=.bi .list [.var 4]) (gs:=c.map qD) (c:=((e.1:Int),(e.2:Int),csL B t e es)) (c':=((e.1:Int),(e.2:Int),csL B t e es)) rfl rfl cy (by omega) dp dp;have ap:=bC (fu:=fu) (G:=G) (F:=run G T fu (k+13)) (δ:=[.val (tT rows),.val (.int w),.val (.lst (B.map qD)),.val (.lst (E.map qD)),.own (.lst (c.map qD)),.ot (csD B t e es),.val (.lst [.lst (c.map qD),csD B t e es])]) (i:=4) (ds:=c.map qD) rfl (g8 (i:=0)) rfl (by rw[e7,q1];exact Nat.lt_of_le_of_lt (show t+1<=8 by omega) (by decide));have a3:=yZ (fu:=fu) (F:=run G T fu (k+13)) (δ:=[.val (tT rows),.val (.int w),.val (.lst (B.map qD)),.val (.lst (E.map qD)),.own (.lst (c.map qD++[.int 0])),.ot (csD B t e es),.val (.lst [.lst (c.map qD),csD B t e es])]) (i:=5) (ds:=csL B t e es) rfl (g8 (i:=0)) (zc hb t e es) rfl;have c11:=j1 (G:=G) (F:=run G T fu (k+13)) (δ:=[.val (tT rows),.val (.int w),.val (.lst (B.map qD)),.val (.lst (E.map qD)),.own (.lst (c.map qD++[.int 0])),.no,.val (.lst [.lst (c.map qD),csD B t e es])]) (f:=11) (es:=[.var 0,.var 1]) (l:=[(tT rows,.strong),(.int w,.strong)]) rfl rfl q4;have c12:=X6 (F:=run G T fu (k+13)) (δ:=[.val (tT rows),.val (.int w),.val (.lst (B.map qD)),.val (.lst (E.map qD)),.own (.lst (c.map qD++[.int 0])),.no,.val (.lst [.lst (c.map qD),csD B t e es])]) (f:=12) (es:=[.var 0,.var 1]) (l:=[(tT rows,.strong),(.int w,.strong)]) rfl rfl pp;have fin:=C3 (G1 (e9 c11 (e9 c12 j5)) (show 2<=k9 by decide) rfl) (d5 (n:=6) (d:=.lst [.lst (c.map qD),csD B t e es]) rfl) (zd (mh t e es 59 (by omega) hc));exact o4 (f8 s1 (f8 s2 (f8 s3 (f8 s4 (p5 (i0 n5) (p5 (i0 (or_f (J8 a1) (or_1 (J8 a2)))) (f8 hd (f8 ap (f8 a3 (k7 (p8 fin)))))))))))
end
section
theorem mn(R:Rect n m rows)(b:0<n)(c:n<=8)(d:m<=8)(a:sm (FI rows).length (FI (flip m rows)).length=false):run G T fu (k+6) 11 [tT rows,.int w]=some (.x "TooGreat"):=by
 have ck:=ls (fu:=fu) (k:=k) R b c d;rw[a,d9 nofun]at ck;rw[m7 rfl rfl];unfold da;exact dH (N4 (dJ (aO (e9 (d5 rfl) j5) ck)))
theorem zg(R:Rect n m rows)(b:0<n)(e:n<=8)(g:m<=8)(a:sm (FI rows).length (FI (flip m rows)).length=false):run G T fu (k+7) 12 [tT rows,.int w]=some (.x "TooGreat"):=by
 have c:=aO (G:=G) (F:=run G T fu (k+6)) (δ:=j0 4 [tT rows,.int w]) (es:=[.var 0,.var 1]) (e9 (d5 rfl) (e9 (d5 rfl) j5)) (mn (w:=w) R b e g a);rw[m7 rfl rfl];unfold aD;have l:evEs G (run G T fu (k+6)) [.call 11 [.var 0,.var 1]] (j0 4 [tT rows,.int w])=some (.ex "TooGreat"):=(by unfold evEs;rw[c]);have j:evE G (run G T fu (k+6)) (.bi .len [.call 11 [.var 0,.var 1]]) (j0 4 [tT rows,.int w])=some (.ex "TooGreat"):=(by unfold evE;rw[l];rfl);have i:evS G (run G T fu (k+6)) fu (.set 2 false (.bi .len [.call 11 [.var 0,.var 1]])) (j0 4 [tT rows,.int w])=some (.ex "TooGreat" (j0 4 [tT rows,.int w])):=by
  have h:evS G (run G T fu (k+6)) fu (.set 2 false (.bi .len [.call 11 [.var 0,.var 1]])) (j0 4 [tT rows,.int w])=Re.thnS (j0 4 [tT rows,.int w]) (evE G (run G T fu (k+6)) (.bi .len [.call 11 [.var 0,.var 1]]) (j0 4 [tT rows,.int w])) (λ d c=>if false then J7 2 (j0 4 [tT rows,.int w]) d c else(if stro d c then some (.nx ((j0 4 [tT rows,.int w]).set 2 (.val d)))else none)):=by rw[evS]
  rw[h,j];rfl
 exact dH (N4 i)
theorem zh(b:run G T fu k 11 [t,w]=some (.x "TooGreat"))(a:run G T fu k 12 [t,w]=some (.x "TooGreat")):run G T fu (k+1) 30 [t,w,.bl p]=some (.v (.bl true) false):=by
 rw[m7 rfl rfl];unfold jO;have e:evSs G (run G T fu k) fu [.iff (.var 2) [.exp (.call 12 [.var 0,.var 1])] [.exp (.call 11 [.var 0,.var 1])]] [.val t,.val w,.val (.bl p),.val .non,.no]=some (.ex "TooGreat" [.val t,.val w,.val (.bl p),.val .non,.no]):=by
  refine N4 ?_;rw[O6 (i0 rfl)];cases p with
  | true=>exact N4 (dJ (aO (e9 (d5 rfl) (e9 (d5 rfl) j5)) a))
  | false=>exact N4 (dJ (aO (e9 (d5 rfl) (e9 (d5 rfl) j5)) b))
 have c:evS G (run G T fu k) fu (.tryc [.iff (.var 2) [.exp (.call 12 [.var 0,.var 1])] [.exp (.call 11 [.var 0,.var 1])]] "TalkError" 4 3) [.val t,.val w,.val (.bl p),.val .non,.no]=some _:=(by show tryD G "TalkError" 4 3 _=_;rw[e];rfl);exact o4 (f8 (j3 (d:=.non) (cl:=.strong) rfl rfl) (f8 c (p5 (i0 (x:=false) (cl:=.strong) rfl) (k7 rfl))))
end
theorem ixm(x:Int)(hn:0<n):∃i:Nat,i<n/\x%(n:Int)=(i:Int):=by
 have h1:=Int.emod_nonneg x (show(n:Int)≠0 by omega);have h2:=Int.emod_lt_of_pos x (show(0:Int)<n by omega);exact⟨(x%(n:Int)).toNat,by omega,by omega⟩
theorem zi(h:n+m<=14)(hn:n<=8)(hm:m<=8):n*m<64:=by
 have:∀a<9,∀b<9,a+b<=14->a*b<64:=by decide
 exact this n (by omega) m (by omega) h
theorem zj:∀g:ge Int,g.length<=63->run G T 100 60 37 [.scr g]=some (.v (.bl true) false):=by
 intro g v;rw[m7 (fd:=aF) rfl rfl];obtain⟨n,m,a,t,M,ft⟩:=yE (fu:=100) (k:=56) g v;obtain⟨J,W⟩:=aG (fu:=100) (k:=58) g 0;obtain⟨y,E⟩:=aG (fu:=100) (k:=58) g 1;obtain⟨i,B,U⟩:=ixm (J/7) t.n0;obtain⟨j,P,S⟩:=ixm (y/7) t.m0;obtain⟨b,o⟩:∃q,a.getD i []=q:=⟨_,rfl⟩;have R:=t.R;have u:b.length=m:=by rw[←o];exact R.2 _ (D3 (by rw[R.1];exact B))
 obtain⟨w,O⟩:∃w,ax a i j=w:=⟨_,rfl⟩;have x:=λ w=>zf (fu:=100) (k:=45) (w:=w) R t.n0 t.n8 t.m8 t.sm (by
  have C:=yM (rows:=a) (w:=w) (m:=m) (List.range n);rw[p4]at C;exact Nat.lt_of_le_of_lt C (zi M t.n8 t.m8)) (by decide)
 obtain⟨n2,m2,h,a1,I,a3,H,R2,r,Q⟩:=yG (fu:=100) (k:=58) y;have z:=λ w p=>zh (fu:=100) (k:=58) (t:=tT h) (w:=.int w) (p:=p) (mn (k:=52) R2 (by omega) I H r) (zg (k:=51) R2 (by omega) I H r)
 unfold aF;refine o4 (f8 (j3 (d:=tT a) (cl:=.strong) (j1 (f:=23) (e9 (d5 (n:=0) (d:=.scr g) rfl) (e9 (g8 (i:=2)) j5)) rfl ft) rfl) ?_);refine f8 (j3 (d:=.tup (iD b)) (cl:=.strong) (w5 (d5 (n:=1) (d:=tT a) rfl) (y6 (U1 (j1 (f:=20) (e9 (d5 (n:=0) (d:=.scr g) rfl) (e9 (g8 (i:=0)) j5)) rfl W) g8 (by decide)) (R5 R (d5 rfl)) (by have:=t.n0;omega)) (by rw[U,←o];exact N1 (by rw[R.1];exact B))) rfl) ?_;have A:=N0 (F:=run G T 100 59) (δ:=[.val (.scr g),.val (tT a),.val (.tup (iD b)),.no,.no]) (e:=.var 2) (ds:=iD b) (c:=.strong) rfl;rw[show(iD b).length=m by unfold iD;rw[e7];exact u]at A;refine f8 (j3 (d:=.int w) (cl:=.strong) (w5 (d5 (n:=2) (d:=.tup (iD b)) rfl) (y6 (U1 (j1 (f:=20) (e9 (d5 (n:=0) (d:=.scr g) rfl) (e9 (g8 (i:=1)) j5)) rfl E) g8 (by decide)) A (by have:=t.m0;omega)) (by
  rw[S,←O];unfold ax;rw[o];exact R0 (by rw[u];exact P))) rfl) ?_
 have L:=j1 (G:=G) (F:=run G T 100 59) (δ:=[.val (.scr g),.val (tT a),.val (.tup (iD b)),.val (.int w),.no]) (f:=36) (es:=[.var 1,.var 3]) (l:=[(tT a,.strong),(.int w,.strong)]) rfl rfl (x w);have N:=y6 (E3 (d5 (G:=G) (F:=run G T 100 59) (δ:=[.val (.scr g),.val (tT a),.val (.tup (iD b)),.val (.int w),.no]) (n:=3) (d:=.int w) rfl) (g8 (i:=1))) (g8 (i:=10)) (by decide);have K:=j1 (f:=36) (e9 (d5 (n:=1) (d:=tT a) rfl) (e9 N j5)) rfl (x _);refine p5 (i0 (or_f (J8 L) (or_1 (J8 K)))) ?_;refine f8 (j3 (d:=tT h) (cl:=.strong) (j1 (f:=29) (e9 (j1 (f:=20) (e9 (d5 (n:=0) (d:=.scr g) rfl) (e9 (g8 (i:=1)) j5)) rfl E) j5) rfl Q) rfl) ?_;exact k7 (p8 (N2 (j1 rfl rfl (z 1 false)) (N3 (j1 rfl rfl (z 7 true)))))
open PySem.W PySem.Spec PyProof.Rows
theorem lnS(h:b.length=n+1):∃a r,b=a::r/\r.length=n:=by cases b with | nil=>cases h | cons a r=>exact⟨a,r,rfl,Nat.succ.inj h⟩
theorem ln0(h:a.length=0):a=[]:=List.length_eq_zero_iff.mp h
theorem ln1{α:Type}{us:ge α}(h:us.length=1):∃a0,us=[a0]:=by obtain⟨_,_,rfl,h0⟩:=lnS h;obtain rfl:=ln0 h0;exact⟨_,rfl⟩
theorem ln2{α:Type}{us:ge α}(h:us.length=2):∃a0 a1,us=[a0,a1]:=by obtain⟨_,_,rfl,h0⟩:=lnS h;obtain⟨_,_,rfl,h1⟩:=lnS h0;obtain rfl:=ln0 h1;exact⟨_,_,rfl⟩
theorem ln3{α:Type}{us:ge α}(h:us.length=3):∃a0 a1 a2,us=[a0,a1,a2]:=by obtain⟨_,_,rfl,h0⟩:=lnS h;obtain⟨_,_,rfl,h1⟩:=lnS h0;obtain⟨_,_,rfl,h2⟩:=lnS h1;obtain rfl:=ln0 h2;exact⟨_,_,_,rfl⟩
theorem ln4{α:Type}{us:ge α}(h:us.length=4):∃a0 a1 a2 a3,us=[a0,a1,a2,a3]:=by obtain⟨_,_,rfl,h0⟩:=lnS h;obtain⟨_,_,rfl,h1⟩:=lnS h0;obtain⟨_,_,rfl,h2⟩:=lnS h1;obtain⟨_,_,rfl,h3⟩:=lnS h2;obtain rfl:=ln0 h3;exact⟨_,_,_,_,rfl⟩
def fn:ge Str:=fnl
def bl:ge Str:=bll
def cl:ge Str:=cll
theorem ok37:okD fn bl cl aF ["_law_script","_law_table_here","_law_row","_law_word_here","_law_great_here"] ["_law_script"] (top 47)=true:=by decide +kernel
abbrev ck(P:Params)(x:Str)(f:zn)(i:Nat)(dV pm:zk)(cd:zn):Prop:=(nsIn (kK P) mainGlobals x,(kK P).lookup f,codeIn (kK P) (.ref cd) x,keepIn (kK P) (.ref f))=(some (some (.ref f)),some (fo x i dV pm cd),true,true)
theorem ck4{P:Params}{x:Str}{f:zn}{i:Nat}{dV pm:zk}{cd:zn}(q:ck P x f i dV pm cd):nsIn (kK P) mainGlobals x=some (some (.ref f))/\(kK P).lookup f=some (fo x i dV pm cd)/\codeIn (kK P) (.ref cd) x=true/\keepIn (kK P) (.ref f)=true:=by
 obtain⟨a,b⟩:=Prod.mk.inj q;obtain⟨b,c⟩:=Prod.mk.inj b;exact⟨a,b,Prod.mk.inj c⟩
theorem kN(P:Params):((kK P).map (·.1)).Nodup:=by rw[show(kK P).map (·.1)=kA by kernel_rfl];decide +kernel
theorem kM(P:Params):((u6 (kK P)).map (·.1)).Nodup:=by rw[show(u6 (kK P)).map (·.1)=[65,70,75,80,85,92,99,106,113,120,125,130,137,144,149,154,161,166,173,178,185,192,199,204,209,216,221,228,233,238,243,250,257,262,269,274,279,286] by kernel_rfl];decide +kernel
theorem zz(P:Params):bl.map (nsIn (kK P) mainGlobals)=bl.map λ _=>some none:=by kernel_rfl
abbrev p0:zk:=(.str "talkleast.tables" 255)
abbrev p1:zk:=(.str "talkleast.blocks" 312)
abbrev p2:zk:=(.str "talkleast.covers" 337)
abbrev p3:zk:=(.str "law_talkleast_k33_covers_and_cases" 404)
theorem sk{w:zt}{h:zo}{mg:Str->on zk}{x:Str}(f:zn)(i:Nat){d:FD}(pm:zk)(N ps:ge Str)(X:(kK w.params).In h)(Ns:h.Ns mainGlobals mg)(ok:okD fn bl cl d N ps (top i)=true:=by decide +kernel)(q:ck w.params x f i .none pm (f - 1):=by kernel_rfl)(hb:∀(kV doc pm:zk) (an:on zn) (cdv ct:zk) (us:ge zk),us.length=ps.length->bindArgs (fnOf x x (F4 (top i)) (D4 (top i)) (y0 (top i)) .none kV doc pm an cdv ct) ⟨us,[]⟩=pure (ps.zip us):=by(intro _ _ _ _ _ _ us hl;first | (obtain⟨_,rfl⟩:=ln1 hl;rfl) | (obtain⟨_,_,rfl⟩:=ln2 hl;rfl) | (obtain⟨_,_,_,rfl⟩:=ln3 hl;rfl) | (obtain⟨_,_,_,_,rfl⟩:=ln4 hl;rfl))):Stands (kK w.params) mg fn bl cl d x f (fnOf x x (F4 (top i)) (D4 (top i)) (y0 (top i)) .none .none .none pm none (.ref (f - 1)) .none) ps:=by
 obtain⟨a,l,c,k⟩:=ck4 q;exact jr X Ns ok a l c k hb
open PySem.W
theorem all_mk{l:OpenLaw}{w:zt}{h:zo}{mg:Str->on zk}{fa:zn}(X:(kK w.params).In h)(Ns:h.Ns mainGlobals mg)(hfa:mg "law" = some (.ref fa)):∃fd:zy,(∀(s:zm) (v:zk),BindsTo s fd ⟨[v],[]⟩ [("_law_script",v)])/\∀base:zo,(kK w.params).In base->base.Ns mainGlobals mg->FnOk l.prog w (kK w.params) mg base CX0 60 fa fd ["_law_script"] (spS (kK w.params)):=by
 obtain⟨a37,l37,c37,k37⟩:=ck4 (P:=w.params) (x:="law") (f:=291) (i:=47) (dV:=.none) (pm:=(.str "law_talkleast_k33_covers_and_cases" 404)) (cd:=290) (by kernel_rfl);have S37:=jr X Ns ok37 a37 l37 c37 k37 λ _ _ _ _ _ _ us hl=>by obtain⟨_,rfl⟩:=ln1 hl;rfl
 have e:=hfa.symm.trans (mg_of X Ns a37);cases e;have HX:XFacts (kK w.params) mg G cl:=by
  have xa0:nsIn (kK w.params) mainGlobals "TalkError" = some (some (.ref 24)):=by kernel_rfl
  have xa1:nsIn (kK w.params) mainGlobals "NoTable" = some (some (.ref 37)):=by kernel_rfl
  have xa2:nsIn (kK w.params) mainGlobals "NoCard" = some (some (.ref 49)):=by kernel_rfl
  have xa3:nsIn (kK w.params) mainGlobals "TooGreat" = some (some (.ref 61)):=by kernel_rfl
  refine⟨aA ⟨24,mg_of X Ns xa0,by constructor<;>kernel_rfl,⟨_,_,_,[.type "ValueError",.type "Exception",.type "BaseException",.type "object"],PySem.F.excBase_ValueError,by kernel_rfl⟩,(B9 (t:="TalkError") (Ct:=24) (mg_of X Ns xa0) ⟨by kernel_rfl,by kernel_rfl⟩ (B9 (t:="NoTable") (Ct:=37) (mg_of X Ns xa1) ⟨by kernel_rfl,by kernel_rfl⟩ (B9 (t:="NoCard") (Ct:=49) (mg_of X Ns xa2) ⟨by kernel_rfl,by kernel_rfl⟩ (B9 (t:="TooGreat") (Ct:=61) (mg_of X Ns xa3) ⟨by kernel_rfl,by kernel_rfl⟩ aB)))),by kernel_rfl⟩ (aA ⟨37,mg_of X Ns xa1,by constructor<;>kernel_rfl,⟨_,_,_,[.type "ValueError",.type "Exception",.type "BaseException",.type "object"],PySem.F.excBase_ValueError,by kernel_rfl⟩,(B9 (t:="TalkError") (Ct:=24) (mg_of X Ns xa0) ⟨by kernel_rfl,by kernel_rfl⟩ (B9 (t:="NoTable") (Ct:=37) (mg_of X Ns xa1) ⟨by kernel_rfl,by kernel_rfl⟩ (B9 (t:="NoCard") (Ct:=49) (mg_of X Ns xa2) ⟨by kernel_rfl,by kernel_rfl⟩ (B9 (t:="TooGreat") (Ct:=61) (mg_of X Ns xa3) ⟨by kernel_rfl,by kernel_rfl⟩ aB)))),by kernel_rfl⟩ (aA ⟨49,mg_of X Ns xa2,by constructor<;>kernel_rfl,⟨_,_,_,[.type "ValueError",.type "Exception",.type "BaseException",.type "object"],PySem.F.excBase_ValueError,by kernel_rfl⟩,(B9 (t:="TalkError") (Ct:=24) (mg_of X Ns xa0) ⟨by kernel_rfl,by kernel_rfl⟩ (B9 (t:="NoTable") (Ct:=37) (mg_of X Ns xa1) ⟨by kernel_rfl,by kernel_rfl⟩ (B9 (t:="NoCard") (Ct:=49) (mg_of X Ns xa2) ⟨by kernel_rfl,by kernel_rfl⟩ (B9 (t:="TooGreat") (Ct:=61) (mg_of X Ns xa3) ⟨by kernel_rfl,by kernel_rfl⟩ aB)))),by kernel_rfl⟩ (aA ⟨61,mg_of X Ns xa3,by constructor<;>kernel_rfl,⟨_,_,_,[.type "ValueError",.type "Exception",.type "BaseException",.type "object"],PySem.F.excBase_ValueError,by kernel_rfl⟩,(B9 (t:="TalkError") (Ct:=24) (mg_of X Ns xa0) ⟨by kernel_rfl,by kernel_rfl⟩ (B9 (t:="NoTable") (Ct:=37) (mg_of X Ns xa1) ⟨by kernel_rfl,by kernel_rfl⟩ (B9 (t:="NoCard") (Ct:=49) (mg_of X Ns xa2) ⟨by kernel_rfl,by kernel_rfl⟩ (B9 (t:="TooGreat") (Ct:=61) (mg_of X Ns xa3) ⟨by kernel_rfl,by kernel_rfl⟩ aB)))),by kernel_rfl⟩ (xl)))),all_cons ⟨_,mg_of X Ns xa0⟩ (all_cons ⟨_,mg_of X Ns xa1⟩ (all_cons ⟨_,mg_of X Ns xa2⟩ (all_cons ⟨_,mg_of X Ns xa3⟩ (xm))))⟩
 have HC:∀x d,G.con.lookup x=some d->∃u v,mg x=some u/\RelV v u/\∀H,Rep ⟨kK w.params,mg⟩ H d v:=by
  intro x d h;have g0:nsIn (kK w.params) mainGlobals "SMALL_LINES" = some (some (.int 5 257)):=by kernel_rfl
  exact xk ⟨_,.int _,mg_of X Ns g0,⟨_,rfl⟩,λ H=>v7.mpr rfl⟩ (xj) x d h
 have HSS:HS (kK w.params) mg fn bl cl T fn:=(o9 (sk 68 7 p0 ["table"] ["table"] X Ns) (o9 (sk 73 8 p0 ["cards"] ["cards"] X Ns) (o9 (sk 78 9 p0 ["table","rows","columns"] ["table","rows","columns"] X Ns) (o9 (sk 83 10 p0 ["table"] ["table"] X Ns) (o9 (sk 90 11 p0 ["table"] ["table"] X Ns) (o9 (sk 97 12 p0 ["table"] ["table"] X Ns) (o9 (sk 104 13 p0 ["table","rest"] ["table"] X Ns) (o9 (sk 111 14 p0 ["table"] ["table"] X Ns) (o9 (sk 118 16 p1 ["table","word","found","rows","columns"] ["table","word"] X Ns) (o9 (sk 123 17 p1 ["table","rows","word","inside"] ["table","rows","word"] X Ns) (o9 (sk 128 18 p1 ["table","columns","word","inside"] ["table","columns","word"] X Ns) (o9 (sk 135 20 p2 ["table","word","blocks","bare","most","cover"] ["table","word"] X Ns) (o9 (sk 142 21 p2 ["table","word","fewest","blocks"] ["table","word"] X Ns) (o9 (sk 147 22 p2 ["table","word","blocks","entries","row","words"] ["table","word","blocks"] X Ns) (o9 (sk 152 23 p2 ["blocks","entry"] ["blocks","entry"] X Ns) (o9 (sk 159 24 p2 ["block","entry"] ["block","entry"] X Ns) (o9 (sk 164 25 p2 ["bare","block"] ["bare","block"] X Ns) (o9 (sk 171 26 p2 ["bare","blocks","most","block","others"] ["bare","blocks","most"] X Ns) (o9 (sk 176 27 p2 ["bare","blocks","most","entry","chosen"] ["bare","blocks","most"] X Ns) (o9 (sk 183 29 p3 ["_law_found"] ["_law_found"] X Ns) (o9 (sk 190 30 p3 ["_law_script","_law_k"] ["_law_script","_law_k"] X Ns) (o9 (sk 197 31 p3 ["_law_cell","_law_many","_law_found","_law_number","_law_k"] ["_law_cell","_law_many"] X Ns) (o9 (sk 202 32 p3 ["_law_script","_law_start","_law_xs","_law_most","_law_many","_law_wide","_law_top","_law_words","_law_k","_law_rows"] ["_law_script","_law_start","_law_xs"] X Ns) (o9 (sk 207 33 p3 ["_law_script","_law_start","_law_xs","_law_rows","_law_k","_law_at","_law_there"] ["_law_script","_law_start"] X Ns) (o9 (sk 214 34 p3 ["_law_many","_law_found","_law_k"] ["_law_many"] X Ns) (o9 (sk 219 35 p3 ["_law_some"] ["_law_some"] X Ns) (o9 (sk 226 36 p3 ["_law_cards_here","_law_some","_law_card"] ["_law_cards_here"] X Ns) (o9 (sk 231 37 p3 ["_law_table_here","_law_word_here","_law_met","_law_rows","_law_some","_law_columns","_law_every"] ["_law_table_here","_law_word_here"] X Ns) (o9 (sk 236 38 p3 ["_law_table_here","_law_word_here","_law_found","_law_r"] ["_law_table_here","_law_word_here"] X Ns) (o9 (sk 241 39 p3 ["_law_cell","_law_many","_law_rows"] ["_law_cell"] X Ns) (o9 (sk 248 40 p3 ["_law_table_here","_law_word_here","_law_paper","_law_caught","error"] ["_law_table_here","_law_word_here","_law_paper"] X Ns) (o9 (sk 255 41 p3 ["_law_block","_law_entry"] ["_law_block","_law_entry"] X Ns) (o9 (sk 260 42 p3 ["_law_entries_here","_law_blocks"] ["_law_entries_here","_law_blocks"] X Ns) (o9 (sk 267 43 p3 ["_law_found","_law_blocks","_law_entries_here","_law_block"] ["_law_found","_law_blocks","_law_entries_here"] X Ns) (o9 (sk 272 44 p3 ["_law_case_here","_law_blocks","_law_left","_law_many","_law_some","_law_block","_law_inner"] ["_law_case_here","_law_blocks","_law_left","_law_many"] X Ns) (o9 (sk 277 45 p3 ["_law_case_here"] ["_law_case_here"] X Ns) (o9 (sk 284 46 p3 ["_law_table_here","_law_word_here","_law_blocks","_law_entries_here","_law_found","_law_paper","_law_held"] ["_law_table_here","_law_word_here"] X Ns) (o9 S37 xh))))))))))))))))))))))))))))))))))))));refine⟨_,λ s v=>.of_eq rfl,λ base _ _=>xn (T:=T) (G:=G) (fu:=100) rfl HSS (λ x hx=>mg_none_of X Ns (List.map_inj_left.mp (zz _) x hx)) HX HC (i:=37) rfl rfl S37 (λ _=>⟨⟨rfl,rfl,rfl⟩,by decide,λ i d x qual st fa fd _ _ F=>xp (K:=kK w.params) (by kernel_rfl) F⟩) zj⟩
end k33
open PySem PySem.W PyProof.Rows
set_option maxRecDepth 100000 in
set_option maxHeartbeats 0 in
theorem PySem.Challenge.cw_talkleast_k33_covers_and_cases_holds : PySem.Challenge.rw_talkleast_k33_covers_and_cases.Holds := by
 refine holds_law (by kernel_rfl) λ said => ?_
 refine holds_open (q := k33.kQ) (loose := k33.kL) (Xt := λ s => xlAt k33.kQ [] s && recOk (RowW.records (OpenRow.toRowW (OpenLaw.row PySem.Challenge.rw_talkleast_k33_covers_and_cases))) s) (XP := XL k33.kQ []) (Yf := (kHook k33.kAll k33.kB k33.kE).obs) (Ya := (kHook k33.kAll k33.kB k33.kE).val) (YP := (kHook k33.kAll k33.kB k33.kE).says) (N := 4064) k33.kLeft (kHook k33.kAll k33.kB k33.kE).of (kHook k33.kAll k33.kB k33.kE).keeps (λ s e => xl_of s (Bool.and_eq_true_iff.mp e).1) XL.keeps (by rfl) (by rfl) (by rfl) (λ s e => recFacts_of (Bool.and_eq_true_iff.mp e).2) (by rfl) said (by decide +kernel) ⟨rfl, rfl, rfl, rfl, rfl, by decide +kernel⟩ ?hw ?hc
 case hw => w_witness2
 exact L2.walkE (l := PySem.Challenge.rw_talkleast_k33_covers_and_cases) (k := 60) (p := "_law_script") rfl rfl ⟨rfl, by decide, by decide⟩ (λ w h Y => (L2.in_app (kIn_of Y) (by kernel_rfl)).1) (λ w h Y => ⟨L2.htb_of (T := k33.kT) (L2.in_app (kIn_of Y) (by kernel_rfl)).1 (L2.in_app (kIn_of Y) (by kernel_rfl)).2 (k33.kN _) (by kernel_rfl), k33.kM _⟩) λ w mg fa h KX G hmg => k33.all_mk KX G hmg
end

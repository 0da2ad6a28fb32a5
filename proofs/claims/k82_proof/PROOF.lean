import PyProof.Rows.All
import Wide.All
import OpenK.AllK
import Wide.FinOn
import Lean
import PyProof.EqAt
import PyProof.EqKinds
import PyProof.TupleCall
import PyProof.ExcAttrAll.ValueError
import PyProof.ZipIter
import PyProof.TupleIter
import PyProof.P3In
import PyProof.Rows.SeqMore2
import PyProof.FactsAll.tuple_3
import PyProof.FactsAll.list_3
import PyProof.Rows.Range3
import KE.KRevIter
import PyProof.Rows.FactsT2
import PySem.Builtin.Int.W1All
import PyProof.SetScanFacts
import PyProof.SetKind
import PyProof.DictKinds
import PyProof.DictStraight
import PyProof.Rows.SetFrom
import PyProof.CollectWalk
import PyProof.Seq
import PyProof.DictIter
import PyProof.Rows.Tup
import PyProof.FactsAll.set_1
import PyProof.FactsAll.set_2
import PyProof.Rows.SortWalk
import PyProof.ConsumeWalk
import PyProof.Rows.SumAny
import PySem.Syntax
import PySem.Eval
import KE.KLam
import PyProof.StrWalks
import PyProof.StrOps
import PyProof.StrCalls2
import PyProof.StrLawsTight
import PyProof.StrLawsFirst
import PyProof.StrLawsChain
import PyProof.StrLawsIn
import PyProof.Rows.StrJoin2
import PyProof.Rows.StrItems
import PyProof.CallStr
import KE.KIntText
import PyProof.SliceStr2
import PyProof.StrLaws
import PyProof.StrLawsIdx
import PyProof.DictTable
import PyProof.ListRange
import PyProof.EnumMake
import PyProof.DictItems
import PyProof.DictItemsLoops
import PyProof.MeetsDict
import PyProof.DictWalks
import PyProof.RulesTry
import KE.KPairComp
import PySem.Challenge.RW_talkleast_k82_what_is_no_text_of_a_table
set_option Elab.async false
set_option linter.all false
set_option bootstrap.genMatcherCode false
set_option genSizeOfSpec false
set_option compiler.extract_closed false
set_option maxRecDepth 100000
set_option maxHeartbeats 4000000
section
open PySem PySem.Spec PyProof.Rows
abbrev b8:=@Bool.and_eq_true
abbrev b0:=@wpAny_bind
abbrev d8:=@List.getElem?_set_ne
abbrev f9:=@List.mem_cons_of_mem
abbrev i5:=@List.mem_cons_self
abbrev j5:=@Heap.get?_push_of_some
abbrev j8:=@Option.map_eq_some_iff
abbrev g9:=@List.length_map
abbrev d5:=@beq_iff_eq
abbrev d9:=@List.mem_cons
abbrev d4:=@if_pos
abbrev u9:=@List.getElem?_eq_some_iff
abbrev i7:=@Heap.lt_size
abbrev f8:=@wpAny_pure
abbrev m6:=@decide_eq_false
abbrev p5:=@Nat.lt_of_lt_of_le
abbrev x9:=@List.getElem?_eq_getElem
abbrev o7:=@List.all_eq_true
abbrev p6:=@Bool.not_eq_true'
abbrev j1:=@Nat.le_refl
abbrev j9:=@List.mem_map
abbrev d6:=@if_neg
abbrev m7:=@Nat.le_trans
abbrev v9:=@Heap.get?_push_size
abbrev y0:=@List.mem_append_left
abbrev u5:=@List.size_toArray
abbrev A8:=@List.mem_append_right
abbrev y8:=@beq_eq_false_iff_ne
abbrev r9:=@decide_eq_true
abbrev C7:=@List.getElem?_set_self
abbrev A7:=@List.length_append
abbrev n6:=@wpAny_mono
abbrev x4:=@Option.some.inj
abbrev y9:=@List.length_cons
abbrev B1:=@decide_eq_true_iff
abbrev z9:=@List.append_nil
abbrev A0:=@List.length_set
abbrev D0:=@PySem.mem_of_lookup
abbrev B5:=@List.getElem?_map
abbrev E8:=@List.contains_iff_mem
abbrev w6:=@Nat.ne_of_lt
abbrev G4:=@Option.isSome_iff_exists
abbrev B2:=@Bool.or_eq_true
abbrev D1:=@List.lookup_cons
abbrev C8:=@List.mem_append
abbrev E9:=@List.mem_singleton
abbrev F5:=@Array.length_toList
abbrev y6:=@wpAny_field
abbrev B6:=@wpAny_holding
abbrev B7:=@List.map_cons
abbrev G5:=@Bool.false_ne_true
abbrev B8:=@List.map_map
abbrev G6:=@List.mem_filterMap
abbrev F0:=@List.mem_range
abbrev O8:=@List.getElem?_append_left
abbrev G7:=@List.length_take
abbrev T9:=@List.getElem?_append_right
abbrev U0:=@List.getD_eq_getElem?_getD
abbrev G8:=@List.mem_filter
abbrev M7:=@PySem.W.hideAll_get
abbrev K6:=@List.length_range
abbrev J9:=@Bool.eq_iff_iff
abbrev O9:=@List.mem_of_getElem?
abbrev K7:=@List.not_mem_nil
abbrev U1:=@Heap.get?_update_other
abbrev M8:=@Int.toNat_natCast
abbrev K0:=@Nat.lt_irrefl
abbrev K8:=@Heap.size_push
abbrev X4:=@List.getElem?_replicate
abbrev X5:=@List.length_eq_zero_iff
abbrev P0:=@wpAny_pyIter_list
abbrev M9:=@List.nodup_cons
abbrev U2:=@List.replicate_succ
abbrev G9:=@Nat.zero_le
abbrev P1:=@Option.bind_some
abbrev X6:=@Heap.get?_update_self
abbrev X7:=@Bool.or_eq_false_iff
abbrev P2:=@PySem.W.kia_one
abbrev U3:=@wpAny_newObj_type
abbrev U4:=@List.append_assoc
abbrev U5:=@decide_eq_true_eq
abbrev N0:=@List.all_cons
abbrev N1:=@List.any_cons
abbrev w1v:=@wpAny_callSpecial?_slot
abbrev X8:=@Array.toList_append
abbrev P3:=@Bool.false_and
abbrev U6:=@List.length_drop
abbrev P4:=@wpAny_seqItems
abbrev X9:=@wpAny_Call_Name_kw
abbrev Y0:=@wpAny_setField_rec
abbrev U7:=@wpAny_passesOwn
abbrev w1D:=@List.length_singleton
abbrev P5:=@wpAny_standAt
abbrev w1F:=@F.slot_tuple_iterator_next
abbrev P6:=@Bool.true_and
abbrev w1H:=@PySem.F.excBase_ValueError
abbrev Y1:=@List.flatten_cons
abbrev w1J:=@Calls.evalArgs_plain
abbrev w1K:=@List.drop_eq_getElem_cons
abbrev Y2:=@List.cons_append
abbrev Y3:=@List.getElem_mem
abbrev w1N:=@StrLaws.sliceIdx_none_hi
abbrev w1O:=@Option.bind_eq_some_iff
abbrev Y4:=@wpAny_execs_nil
abbrev w1Q:=@wpAny_pyIter_tuple
abbrev N2:=@bne_iff_ne
abbrev w1S:=@PySem.W.cellsFrom_some
abbrev w1T:=@Calls.callWith_builtin
abbrev w1U:=@wpAny_truthy_bool
abbrev U8:=@codeAny_mono
abbrev Y5:=@wpAny_setField
abbrev w1X:=@Array.getElem?_toList
abbrev H9:=@Iff.rfl
abbrev w1Z:=@PyProof.Rows.callWith_type1
abbrev w10:=@Heap.get?_none_of_le
abbrev w11:=@wpAny_call_entry
abbrev K9:=@or_false
abbrev w13:=@Nat.le_add_right
abbrev w14:=@List.map_congr_left
abbrev w15:=@Option.map_some
abbrev w16:=@List.getElem?_zip_eq_some
abbrev w17:=@PySem.W.of_hideAll
abbrev w18:=@Int.natCast_nonneg
abbrev w19:=@Calls.spliced_cons
abbrev w2a:=@Obj.data_mapFields
abbrev U9:=@typeIs_str
abbrev w2c:=@decide_eq_false_iff_not
abbrev w2d:=@Calls.spliced_nil
abbrev w2e:=@wpAny_loadPart_at
abbrev w2f:=@PySem.W.kitx_dict
abbrev w2g:=@Nat.lt_of_succ_lt_succ
abbrev w2h:=@wpAny_attempt
abbrev w2i:=@beq_self_eq_true
abbrev w2j:=@decide_eq_decide
abbrev w2k:=@List.length_replicate
abbrev w2l:=@Obj.isFreed_of_fields
abbrev w2m:=@List.getElem?_eq_none
abbrev w2n:=@PyProof.Rows.slot_tuple_getitem
abbrev w2o:=@Nat.le_of_lt
abbrev w2p:=@List.of_mem_zip
abbrev Y6:=@call_meets
abbrev w2r:=@List.nil_append
abbrev w2s:=@wpAny_updateSeq_pair
abbrev w2t:=@F.slot_zip_next
abbrev w2u:=@List.map_append
abbrev w2v:=@Int.zero_add
abbrev w2w:=@List.filterMap_cons
abbrev w2x:=@List.getElem_of_mem
abbrev w2y:=@ne_true_of_eq_false
abbrev w2z:=@F.args_tuple_iterator_next_1
abbrev w2A:=@PySem.W.callWith_K
abbrev w2B:=@F.entry_tuple_iterator_next
abbrev w2C:=@Bool.false_eq_true
abbrev w2D:=@F.args_str_split_2
abbrev w2E:=@Int.emod_lt_of_pos
abbrev w2F:=@Calls.Name_function_global
abbrev w2G:=@Int.fdiv_eq_ediv_of_nonneg
abbrev w2H:=@wpAny_onRaise
abbrev w2I:=@strLen_append
abbrev w2J:=@F.entry_str_split
abbrev w2K:=@of_decide_eq_true
abbrev w2L:=@wpAny_rule
abbrev w2M:=@Option.isNone_iff_eq_none
abbrev w2N:=@wpAny_execs_cons
abbrev w2O:=@Nat.ne_of_gt
abbrev w2P:=@List.getElem?_take_of_lt
abbrev w2Q:=@PySem.F.args_tuple_add_2
abbrev w2R:=@wpAny_comp_letGo
abbrev w2S:=@PySem.F.slot_tuple_index
abbrev w2T:=@List.any_eq_true
abbrev w2U:=@F.slot_str_split
abbrev w2V:=@StrLaws.sliceIdx_none_lo
abbrev w2W:=@List.drop_length
abbrev w2X:=@PySem.F.entry_tuple_add
abbrev w2Y:=@PySem.F.slot_list_index
abbrev w2Z:=@PySem.F.plainAttrs_list
abbrev w20:=@Nat.add_sub_cancel_left
abbrev w21:=@wpAny_loadPart'
abbrev w22:=@List.forIn_cons
abbrev w23:=@pushCells_keeps
abbrev w24:=@wpAny_looks_onW
abbrev w25:=@codeAny_builtin
abbrev w26:=@boot_isinstance
abbrev w27:=@Int.emod_nonneg
abbrev w28:=@wpAny_pyNext_list_item
abbrev w29:=@PySem.F.slot_tuple_add
abbrev w3a:=@subscriptTail_builtinR
abbrev w3b:=@wpAny_Call_method_late
abbrev w3c:=@PySem.W.funFrames_hide
abbrev w3d:=@Nat.log2_lt
abbrev w3e:=@List.take_of_length_le
abbrev w3f:=@wpAny_pyNext_list_end
abbrev w3g:=@codeAny_handlers_test
abbrev w3h:=@Bool.and_false
abbrev w3i:=@List.drop_zero
abbrev w3j:=@eq_of_beq
abbrev w3k:=@wpAny_landsW
abbrev w3l:=@Sem.wp_throw
end
noncomputable section
namespace L2
open PySem
section
def F6(s:Stmt):Arguments:=match s with
 | .FunctionDef _ a _ _ _ _ _ _ _ _=>a
 | _=>{posonlyargs:=[],args:=[],vararg:=none,kwonlyargs:=[],kw_defaults:=[],kwarg:=none,defaults:=[]}
def B9(s:Stmt):List Stmt:=match s with
 | .FunctionDef _ _ b _ _ _ _ _ _ _=>b
 | _=>[]
def n9(s:Stmt):Scope:=match s with
 | .FunctionDef _ _ _ _ _ _ sc _ _ _=>sc
 | _=>{kind:=.function,names:=[],isGenerator:=false,isCoroutine:=false}
end
end L2
namespace k82
open PySem PySem.W L2 PySem.Spec PyProof.Rows
section
def top(i:Nat):Stmt:=PySem.Challenge.pw_talkleast_k82_what_is_no_text_of_a_table.main.body.getD i (.Pass ⟨0,0,0,0⟩)
def fo(n:Str)(i:Nat)(dV pm:Value)(cd:Addr):Obj:=⟨.type "function",none,.func (fnOf n n (F6 (top i)) (B9 (top i)) (n9 (top i)) dV .none .none pm none (.ref cd) .none),#[]⟩
def en(P:Params)(s:Str)(t:Nat)(v:Value):DictEntry:=⟨PyData.keyHash P s,.str s t,v⟩
def co(n:Str)(t:Nat)(ln na fl:Int)(a b c d e:Value)(q:Int)(r:Nat):Obj:=⟨.type "code",none,.fields #[.str n t,.str n (t+1),.str "/claim/cut.py" (t+2),.int ln 0,.int na 0,.int 0 0,.int 0 0,.int fl 0,a,.bool true,.int 181 0,b,.none,c,d,e,.int q 0,.int ln 0,.str "/claim/cut.py" r],#[]⟩
def kK(P:Params):Frag:=[(2,⟨.none,none,.dict #[] 0,#[]⟩),
 (3,⟨.type "dict",none,.dict #[en P "__name__" 165 (.str "law_talkleast_k82_what_is_no_text_of_a_table" 380),en P "__doc__" 166 .none,en P "__package__" 167 .none,en P "__loader__" 168 (.builtin "__main__.__loader__#opaque"),en P "__spec__" 169 .none,en P "__annotations__" 170 (.ref 6),en P "__builtins__" 171 (.ref 4),en P "__file__" 173 (.str "/claim/cut.py" 172),en P "__cached__" 174 .none,en P "TalkError" 206 (.ref 24),en P "NoTable" 222 (.ref 37),en P "NoPlan" 238 (.ref 49),en P "NoText" 254 (.ref 61),en P "is_int" 265 (.ref 70),en P "MOST_LINES" 269 (.int 8 268),en P "GREATEST_WORD" 271 (.int 9 270),en P "made_table" 277 (.ref 75),en P "is_line" 284 (.ref 82),en P "is_row" 290 (.ref 87),en P "cards_in" 296 (.ref 92),en P "GREATEST_MODULUS" 300 (.int 10 299),en P "MOST_BITS" 302 (.int 3 301),en P "alike" 309 (.ref 99),en P "less" 317 (.ref 106),en P "sums" 328 (.ref 114),en P "shared" 335 (.ref 121),en P "pick" 342 (.ref 128),en P "check_number" 351 (.ref 135),en P "ruled" 357 (.ref 140),en P "DIGITS" 361 (.str "0123456789" 360),en P "read_table" 367 (.ref 145),en P "table_named" 373 (.ref 150),en P "read_number" 379 (.ref 155),en P "_law_int" 388 (.ref 162),en P "_law_cell_at" 396 (.ref 169),en P "_law_stream" 407 (.ref 176),en P "_law_is_table" 413 (.ref 181),en P "_law_both" 422 (.ref 188),en P "_law_ruled" 428 (.ref 193),en P "_law_number" 436 (.ref 200),en P "_law_named" 442 (.ref 205),en P "_law_due" 448 (.ref 210),en P "_law_odd" 456 (.ref 217),en P "_law_spoiled" 466 (.ref 224),en P "_law_answered" 477 (.ref 231),en P "_law_text" 483 (.ref 236),en P "law" 492 (.ref 243)] 47,#[]⟩),
 (23,⟨.type "dict",none,.dict #[en P "__module__" 196 (.str "talkleast.errors" 187),en P "__firstlineno__" 200 (.int 2 199),en P "__static_attributes__" 201 (.ref 22),en P "__weakref__" 203 (.ref 25),en P "__doc__" 204 .none] 3,#[]⟩),
 (24,⟨.type "type",none,.cls ⟨"TalkError",[.type "ValueError"],[.ref 24,.type "ValueError",.type "Exception",.type "BaseException",.type "object"],23,"TalkError",true,[],[.ref 37,.ref 49,.ref 61],false,none,false⟩,#[some (.ref 15),none,some (.str "TalkError" 189),some (.str "TalkError" 197),some (.builtin "ValueError.__new__"),some (.bool true)]⟩),
 (25,⟨.type "getset_descriptor",none,.fields #[.str "__weakref__" 202,.ref 24,.builtin "ExceptionGroup.__weakref__",.none],#[]⟩),
 (36,⟨.type "dict",none,.dict #[en P "__module__" 214 (.str "talkleast.errors" 187),en P "__firstlineno__" 218 (.int 4 217),en P "__static_attributes__" 219 (.ref 35),en P "__doc__" 220 .none] 2,#[]⟩),
 (37,⟨.type "type",none,.cls ⟨"NoTable",[.ref 24],[.ref 37,.ref 24,.type "ValueError",.type "Exception",.type "BaseException",.type "object"],36,"NoTable",true,[],[],false,none,false⟩,#[some (.ref 28),none,some (.str "NoTable" 207),some (.str "NoTable" 215),some (.builtin "ValueError.__new__"),some (.bool true)]⟩),
 (48,⟨.type "dict",none,.dict #[en P "__module__" 230 (.str "talkleast.errors" 187),en P "__firstlineno__" 234 (.int 6 233),en P "__static_attributes__" 235 (.ref 47),en P "__doc__" 236 .none] 2,#[]⟩),
 (49,⟨.type "type",none,.cls ⟨"NoPlan",[.ref 24],[.ref 49,.ref 24,.type "ValueError",.type "Exception",.type "BaseException",.type "object"],48,"NoPlan",true,[],[],false,none,false⟩,#[some (.ref 40),none,some (.str "NoPlan" 223),some (.str "NoPlan" 231),some (.builtin "ValueError.__new__"),some (.bool true)]⟩),
 (60,⟨.type "dict",none,.dict #[en P "__module__" 246 (.str "talkleast.errors" 187),en P "__firstlineno__" 250 (.int 8 249),en P "__static_attributes__" 251 (.ref 59),en P "__doc__" 252 .none] 2,#[]⟩),
 (61,⟨.type "type",none,.cls ⟨"NoText",[.ref 24],[.ref 61,.ref 24,.type "ValueError",.type "Exception",.type "BaseException",.type "object"],60,"NoText",true,[],[],false,none,false⟩,#[some (.ref 52),none,some (.str "NoText" 239),some (.str "NoText" 247),some (.builtin "ValueError.__new__"),some (.bool true)]⟩),
 (69,co "is_int" 257 11 3 3 (.ref 64) (.ref 65) (.ref 66) (.ref 67) (.ref 68) 263 264),
 (70,fo "is_int" 6 .none (.str "talkleast.checks" 255) 69),
 (74,co "made_table" 272 16 1 3 (.ref 71) (.ref 72) .none .none (.ref 73) 275 276),
 (75,fo "made_table" 10 .none (.str "talkleast.tables" 266) 74),
 (81,co "is_line" 278 22 1 3 (.ref 76) (.ref 77) (.ref 78) (.ref 79) (.ref 80) 282 283),
 (82,fo "is_line" 11 .none (.str "talkleast.tables" 266) 81),
 (86,co "is_row" 285 24 1 3 (.ref 83) (.ref 84) .none .none (.ref 85) 288 289),
 (87,fo "is_row" 12 .none (.str "talkleast.tables" 266) 86),
 (91,co "cards_in" 291 26 1 3 (.ref 88) (.ref 89) .none .none (.ref 90) 294 295),
 (92,fo "cards_in" 13 .none (.str "talkleast.tables" 266) 91),
 (98,co "alike" 303 31 1 3 (.ref 93) (.ref 94) (.ref 95) (.ref 96) (.ref 97) 307 308),
 (99,fo "alike" 17 .none (.str "talkleast.named" 297) 98),
 (105,co "less" 310 34 2 3 (.ref 100) (.ref 101) (.ref 102) (.ref 103) (.ref 104) 315 316),
 (106,fo "less" 18 .none (.str "talkleast.named" 297) 105),
 (107,⟨.type "tuple",none,.seq #[.int 2 318] 0,#[]⟩),
 (113,co "sums" 319 38 3 3 (.ref 108) (.ref 109) (.ref 110) (.ref 111) (.ref 112) 326 327),
 (114,fo "sums" 19 (.ref 107) (.str "talkleast.named" 297) 113),
 (120,co "shared" 329 43 1 3 (.ref 115) (.ref 116) (.ref 117) (.ref 118) (.ref 119) 333 334),
 (121,fo "shared" 20 .none (.str "talkleast.named" 297) 120),
 (127,co "pick" 336 46 1 3 (.ref 122) (.ref 123) (.ref 124) (.ref 125) (.ref 126) 340 341),
 (128,fo "pick" 21 .none (.str "talkleast.named" 297) 127),
 (134,co "check_number" 343 49 3 3 (.ref 129) (.ref 130) (.ref 131) (.ref 132) (.ref 133) 349 350),
 (135,fo "check_number" 22 .none (.str "talkleast.named" 297) 134),
 (139,co "ruled" 352 52 3 3 (.ref 136) (.ref 137) .none .none (.ref 138) 355 356),
 (140,fo "ruled" 23 .none (.str "talkleast.named" 297) 139),
 (144,co "read_table" 362 56 1 3 (.ref 141) (.ref 142) .none .none (.ref 143) 365 366),
 (145,fo "read_table" 26 .none (.str "talkleast.texts" 358) 144),
 (149,co "table_named" 368 65 1 3 (.ref 146) (.ref 147) .none .none (.ref 148) 371 372),
 (150,fo "table_named" 27 .none (.str "talkleast.texts" 358) 149),
 (154,co "read_number" 374 79 1 3 (.ref 151) (.ref 152) .none .none (.ref 153) 377 378),
 (155,fo "read_number" 28 .none (.str "talkleast.texts" 358) 154),
 (161,co "_law_int" 382 84 1 3 (.ref 156) (.ref 157) (.ref 158) (.ref 159) (.ref 160) 386 387),
 (162,fo "_law_int" 30 .none (.str "law_talkleast_k82_what_is_no_text_of_a_table" 380) 161),
 (168,co "_law_cell_at" 389 86 2 3 (.ref 163) (.ref 164) (.ref 165) (.ref 166) (.ref 167) 394 395),
 (169,fo "_law_cell_at" 31 .none (.str "law_talkleast_k82_what_is_no_text_of_a_table" 380) 168),
 (175,co "_law_stream" 397 90 2 3 (.ref 170) (.ref 171) (.ref 172) (.ref 173) (.ref 174) 405 406),
 (176,fo "_law_stream" 32 .none (.str "law_talkleast_k82_what_is_no_text_of_a_table" 380) 175),
 (180,co "_law_is_table" 408 97 2 3 (.ref 177) (.ref 178) .none .none (.ref 179) 411 412),
 (181,fo "_law_is_table" 33 .none (.str "law_talkleast_k82_what_is_no_text_of_a_table" 380) 180),
 (187,co "_law_both" 414 106 2 3 (.ref 182) (.ref 183) (.ref 184) (.ref 185) (.ref 186) 420 421),
 (188,fo "_law_both" 34 .none (.str "law_talkleast_k82_what_is_no_text_of_a_table" 380) 187),
 (192,co "_law_ruled" 423 113 2 3 (.ref 189) (.ref 190) .none .none (.ref 191) 426 427),
 (193,fo "_law_ruled" 35 .none (.str "law_talkleast_k82_what_is_no_text_of_a_table" 380) 192),
 (199,co "_law_number" 429 131 1 3 (.ref 194) (.ref 195) (.ref 196) (.ref 197) (.ref 198) 434 435),
 (200,fo "_law_number" 36 .none (.str "law_talkleast_k82_what_is_no_text_of_a_table" 380) 199),
 (204,co "_law_named" 437 138 1 3 (.ref 201) (.ref 202) .none .none (.ref 203) 440 441),
 (205,fo "_law_named" 37 .none (.str "law_talkleast_k82_what_is_no_text_of_a_table" 380) 204),
 (209,co "_law_due" 443 148 1 3 (.ref 206) (.ref 207) .none .none (.ref 208) 446 447),
 (210,fo "_law_due" 38 .none (.str "law_talkleast_k82_what_is_no_text_of_a_table" 380) 209),
 (216,co "_law_odd" 449 161 1 3 (.ref 211) (.ref 212) (.ref 213) (.ref 214) (.ref 215) 454 455),
 (217,fo "_law_odd" 39 .none (.str "law_talkleast_k82_what_is_no_text_of_a_table" 380) 216),
 (223,co "_law_spoiled" 457 167 2 3 (.ref 218) (.ref 219) (.ref 220) (.ref 221) (.ref 222) 464 465),
 (224,fo "_law_spoiled" 40 .none (.str "law_talkleast_k82_what_is_no_text_of_a_table" 380) 223),
 (230,co "_law_answered" 467 177 1 3 (.ref 225) (.ref 226) (.ref 227) (.ref 228) (.ref 229) 475 476),
 (231,fo "_law_answered" 41 .none (.str "law_talkleast_k82_what_is_no_text_of_a_table" 380) 230),
 (235,co "_law_text" 478 190 1 3 (.ref 232) (.ref 233) .none .none (.ref 234) 481 482),
 (236,fo "_law_text" 42 .none (.str "law_talkleast_k82_what_is_no_text_of_a_table" 380) 235),
 (242,co "law" 484 204 1 3 (.ref 237) (.ref 238) (.ref 239) (.ref 240) (.ref 241) 490 491),
 (243,fo "law" 43 .none (.str "law_talkleast_k82_what_is_no_text_of_a_table" 380) 242)]
def kA:List Addr:=[2,3,23,24,25,36,37,48,49,60,61,69,70,74,75,81,82,86,87,91,92,98,99,105,106,107,113,114,120,121,127,128,134,135,139,140,144,145,149,150,154,155,161,162,168,169,175,176,180,181,187,188,192,193,199,200,204,205,209,210,216,217,223,224,230,231,235,236,242,243]
def kT:Frag:=[(65,⟨.none,none,.fields #[],#[]⟩),(72,⟨.none,none,.fields #[],#[]⟩),(77,⟨.none,none,.fields #[],#[]⟩),(84,⟨.none,none,.fields #[],#[]⟩),(89,⟨.none,none,.fields #[],#[]⟩),(94,⟨.none,none,.fields #[],#[]⟩),(101,⟨.none,none,.fields #[],#[]⟩),(109,⟨.none,none,.fields #[],#[]⟩),(116,⟨.none,none,.fields #[],#[]⟩),(123,⟨.none,none,.fields #[],#[]⟩),(130,⟨.none,none,.fields #[],#[]⟩),(137,⟨.none,none,.fields #[],#[]⟩),(142,⟨.none,none,.fields #[],#[]⟩),(147,⟨.none,none,.fields #[],#[]⟩),(152,⟨.none,none,.fields #[],#[]⟩),(157,⟨.none,none,.fields #[],#[]⟩),(164,⟨.none,none,.fields #[],#[]⟩),(171,⟨.none,none,.fields #[],#[]⟩),(178,⟨.none,none,.fields #[],#[]⟩),(183,⟨.none,none,.fields #[],#[]⟩),(190,⟨.none,none,.fields #[],#[]⟩),(195,⟨.none,none,.fields #[],#[]⟩),(202,⟨.none,none,.fields #[],#[]⟩),(207,⟨.none,none,.fields #[],#[]⟩),(212,⟨.none,none,.fields #[],#[]⟩),(219,⟨.none,none,.fields #[],#[]⟩),(226,⟨.none,none,.fields #[],#[]⟩),(233,⟨.none,none,.fields #[],#[]⟩),(238,⟨.none,none,.fields #[],#[]⟩)]
def kAll(P:Params):Frag:=kT++kK P
def kB:List Addr:=[65,72,77,84,89,94,101,109,116,123,130,137,142,147,152,157,164,171,178,183,190,195,202,207,212,219,226,233,238,2,3,23,24,25,36,37,48,49,60,61,69,70,74,75,81,82,86,87,91,92,98,99,105,106,107,113,114,120,121,127,128,134,135,139,140,144,145,149,150,154,155,161,162,168,169,175,176,180,181,187,188,192,193,199,200,204,205,209,210,216,217,223,224,230,231,235,236,242,243]
theorem kE:∀P,kB=(kAll P).map (·.1):=λ_=>by kernel_rfl
def kQ:Program:=view PySem.Challenge.pw_talkleast_k82_what_is_no_text_of_a_table [1,2,3,4,6,8,9,10,11,12,13,15,16,17,18,20,21,22,23,25,26,27,28,30,31,32,33,34,35,36,37,38,39,40,41,42,43]
def kL:List Str:=[("sums" : Str)]
set_option maxHeartbeats 0 in
theorem kLeft:LeftO PySem.Challenge.pw_talkleast_k82_what_is_no_text_of_a_table kQ kL (λs=>xlAt kQ [] s&&recOk (RowW.records (OpenRow.toRowW (OpenLaw.row PySem.Challenge.rw_talkleast_k82_what_is_no_text_of_a_table))) s) (kHook kAll kB kE).obs (kHook kAll kB kE).val 3640:=by
 intro w
 kernel_rfl
end
end k82
end
noncomputable section
namespace L2
open PySem PySem.Spec PyProof.Rows
section
abbrev Key:=Sum Int Str
def z9a:Key->Value->Bool
 | .inl k,v=>Value.isInt k v
 | .inr x,v=>Value.isStrOf x v
def keyH(w:World):Key->Int
 | .inl k=>hashInt k
 | .inr x=>hashStr w x
theorem N3:∀{k:Key} {v:Value},z9a k v=true->(∃i t,k=Sum.inl i/\v=Value.int i t)\/(∃x t,k=Sum.inr x/\v=Value.str x t)
 | .inl i,v,h=>by obtain⟨t,e⟩:=Value.isInt_shape (k:=i) (v:=v) h;exact .inl ⟨i,t,rfl,e⟩
 | .inr x,v,h=>by obtain⟨t,e⟩:=Value.isStrOf_shape (x:=x) (v:=v) h;exact .inr ⟨x,t,rfl,e⟩
theorem z9A(a b:Int):decide ((Sum.inl a:Key)=Sum.inl b)=(a==b):=by
 by_cases e:a=b
 ·subst e;simp
 ·have h:¬(Sum.inl a:Key)=Sum.inl b:=λq=>e (Sum.inl.inj q);rw[m6 h];exact(y8.mpr e).symm
theorem z7U(a b:Str):decide ((Sum.inr a:Key)=Sum.inr b)=decide (a=b):=by
 by_cases e:a=b
 ·subst e;simp
 ·have h:¬(Sum.inr a:Key)=Sum.inr b:=λq=>e (Sum.inr.inj q);rw[m6 h,m6 e]
theorem z8R(a:Int)(b:Str):decide ((Sum.inl a:Key)=Sum.inr b)=false:=m6 (λq=>nomatch q)
theorem z7C(a:Str)(b:Int):decide ((Sum.inr a:Key)=Sum.inl b)=false:=m6 (λq=>nomatch q)
def q8z(prog:Program)(w:World):PySem.KeyKind prog w Key where
 is:=z9a
 hash:=keyH w
 inj:=λv a b ha hb=>by
  rcases N3 ha with⟨i,t,rfl,rfl⟩ | ⟨x,t,rfl,rfl⟩
  ·rcases N3 hb with⟨j,u,rfl,e⟩ | ⟨y,u,rfl,e⟩
   ·injection e with e1 _;rw[e1]
   ·exact nomatch e
  ·rcases N3 hb with⟨j,u,rfl,e⟩ | ⟨y,u,rfl,e⟩
   ·exact nomatch e
   ·injection e with e1 _;rw[e1]
 byValue:=λk v h=>by rcases N3 h with⟨i,t,rfl,rfl⟩ | ⟨x,t,rfl,rfl⟩<;>rfl
 pyHash:=λhv h=>by
  rcases N3 hv with⟨i,t,rfl,rfl⟩ | ⟨x,t,rfl,rfl⟩
  ·exact wpAny_pyHash_int h
  ·exact wpAny_pyHash_str h
 eqBool:=λhu hv h=>by
  rcases N3 hu with⟨i,t,rfl,rfl⟩ | ⟨x,t,rfl,rfl⟩
  ·rcases N3 hv with⟨j,u,rfl,rfl⟩ | ⟨y,u,rfl,rfl⟩
   ·rw[z9A]at h;exact wpAny_eqBool_int h
   ·rw[z8R]at h;exact SeqAt.EqAt.int_str i t y u _ _ _ _ h
  ·rcases N3 hv with⟨j,u,rfl,rfl⟩ | ⟨y,u,rfl,rfl⟩
   ·rw[z7C]at h;exact SeqAt.EqAt.str_int x t j u _ _ _ _ h
   ·rw[z7U]at h;exact wpAny_eqBool_str h
 «strs»:=λk x t v h=>by
  rcases N3 h with⟨i,u,rfl,e⟩ | ⟨y,u,rfl,e⟩
  ·exact nomatch e
  ·injection e with e1 _
   subst e1;cases v<;>rfl
end
section
inductive V where
 | non | bl (b:Bool) | int (i:Int) | str (x:Str) | byt (b:Array UInt8) | flt (b:UInt64) | ref (a:Addr) | ty (n:String)
 deriving DecidableEq
def RelV:V->Value->Prop
 | .non,u=>u=Value.none
 | .bl b,u=>u=Value.bool b
 | .int i,u=>∃t,u=Value.int i t
 | .str x,u=>∃t,u=Value.str x t
 | .byt b,u=>∃t,u=Value.bytes b t
 | .flt b,u=>∃t,u=Value.float b t
 | .ref a,u=>u=Value.ref a
 | .ty n,u=>u=Value.type n
abbrev Vals:List V->List Value->Prop:=Paired RelV
theorem Vals.length(r:Vals xs us):xs.length=us.length:=Paired.length r
theorem Vals.get:∀{xs:List V} {us:List Value} {i:Nat} {x:V},Vals xs us->xs[i]? = some x->∃u,us[i]? = some u/\RelV x u
 | _,_,_,_,.nil,e=>by simp at e
 | _,_,0,_,.cons r _,e=>by simp at e;subst e;exact⟨_,rfl,r⟩
 | _,_,i+1,x,.cons _ t,e=>by obtain⟨u,h1,h2⟩:=Vals.get (i:=i) (x:=x) t (by simpa using e);exact⟨u,by simpa using h1,h2⟩
theorem Vals.append:∀{xs ys:List V} {us ws:List Value},Vals xs us->Vals ys ws->Vals (xs++ys) (us++ws)
 | _,_,_,_,.nil,s=>s
 | _,_,_,_,.cons r t,s=>.cons r (Vals.append t s)
theorem Vals.take:∀{xs:List V} {us:List Value} (n:Nat),Vals xs us->Vals (xs.take n) (us.take n)
 | _,_,0,_=>.nil
 | _,_,_+1,.nil=>.nil
 | _,_,n+1,.cons r t=>.cons r (Vals.take n t)
theorem Vals.drop:∀{xs:List V} {us:List Value} (n:Nat),Vals xs us->Vals (xs.drop n) (us.drop n)
 | _,_,0,r=>r
 | _,_,_+1,.nil=>.nil
 | _,_,n+1,.cons _ t=>Vals.drop n t
def RelO:Option V->Option Value->Prop
 | some v,some u=>RelV v u
 | none,none=>True
 | _,_=>False
def KV{κ:Type}:List (κ×V)->List (κ×Value)->Prop:=Paired λ(p:κ×V) (q:κ×Value)=>p.1=q.1/\RelV p.2 q.2
def kV:Key->V
 | .inl i=>.int i
 | .inr x=>.str x
inductive HO where
 | lst (xs:List V)
 | tup (xs:List V)
 | dK (kvs:List (Key×V)) | dT (kvs:List (List Key×V))
 | set (S:Int->Bool) (n:Nat)
 | ins (C dx:Addr) (fs:List (Str×V))
 | own (x:Addr)
 | xd (fs:List (Str×V))
 | met (f x:Addr)
 | rng (lo hi:Int)
 | frz (o:Obj) (u:HO)
 | tbl (q:Str)
 | ext (φ:Heap->Prop)
abbrev Hp:=Addr->Option HO
def upd(H:Hp)(a:Addr)(o:HO):Hp:=λb=>if b=a then some o else H b
theorem E2:upd H a o a=some o:=by unfold upd;rw[d4 rfl]
theorem j6(h:b≠a):upd H a o b=H b:=by unfold upd;rw[d6 h]
theorem B3{H:Hp}{a b:Addr}{o:HO}(h:H a=some o)(h':H b=none):a≠b:=by
 intro e;subst e;rw[h]at h';cases h'
def L0(h:Heap)(a:Addr)(items:Array Value):Prop:=∃o,h.get? a=some o/\(o.cls=.type "tuple" /\ o.dict=none)/\∃n,o.data=.seq items n
theorem L0.tup{a items}(x:L0 h a items):IsTup h a items:=let ⟨o,ho,hc,r⟩:=x;⟨o,ho,hc.1,r⟩
theorem L0.lt{h:Heap}{a items}(x:L0 h a items):a<h.objs.size:=let ⟨_,ho,_⟩:=x;i7 ho
theorem L0.new(h:Heap)(items:Array Value):L0 (h.push {cls:=.type "tuple",data:=.seq items}) h.objs.size items:=⟨_,v9 _ rfl,⟨rfl,rfl⟩,_,rfl⟩
section
variable (P:Program) (w:World)
def x5(H:Hp)(h:Heap)(a:Addr):HO->Prop
 | .lst xs=>xs.length<=sizeLine/\∃(its:List Value) (n:Nat),Vals xs its/\h.get? a=some {cls:=.type "list",data:=.seq its.toArray n}
 | .tup xs=>xs.length<=sizeLine/\∃its:List Value,Vals xs its/\L0 h a its.toArray
 | .dK kvs=>kvs.length<=sizeLine/\(a==sysModules)=false/\∃vs,KV kvs vs/\h.DictOf (q8z P w) a vs
 | .dT kvs=>kvs.length<=sizeLine/\(a==sysModules)=false/\∃xs:List (List Key×Addr×Value),
   Paired (λ(p:List Key×V) (q:List Key×Addr×Value)=>p.1=q.1/\H q.2.1=some (.tup (p.1.map kV))/\RelV p.2 q.2.2) kvs xs /\
   ∃o es ep,h.get? a=some o/\o.ExactDict/\o.data=.dict es ep/\es.toList=xs.map (entryOfKey (tupleKind (q8z P w)))/\(xs.map (·.1)).Nodup
 | .set S n=>h.SetOf (intKind P w) a S n
 | .ins C dx fs=>H dx=some (.own a)/\fs.length<=1000/\dx≠a/\h.get? a=some (PySem.W.instObj C dx) /\
   ∃mA,h.Ns1 dx mA/\(∀f,RelO (fs.lookup f) (mA f))/\PySem.Within mA (fs.map (·.1))
 | .own _=>∃o,h.get? a=some o
 | .xd fs=>∃mA,h.Ns1 a mA/\∀f,RelO (fs.lookup f) (mA f)
 | .rng lo hi=>∃t u v,h.get? a=some {cls:=.type "range",data:=.fields #[.int lo t,.int hi u,.int 1 v]}
 | .frz o u=>h.get? a=some o/\x5 H h a u
 | .tbl q=>∃ps:Array Value,h.get? a=some {cls:=.none,data:=.fields ps} /\ TriplesOk ps.toList/\∀pos cv,codeAmong pos ps.toList=some cv->∃c oc u vs t,cv=.ref c/\H c=some (.frz oc u)/\oc.data=.fields vs/\vs[1]? = some (.str q t)
 | .met f x=>h.get? a=some (PySem.W.methodObj (.ref f) (.ref x))
 | .ext φ=>φ h/\(∃o,h.get? a=some o)/\∀h1 h2:Heap,φ h1->(∀o,h1.get? a=some o->h2.get? a=some o)->φ h2
def HOk(H:Hp)(h:Heap):Prop:=∀a o,H a=some o->x5 P w H h a o
end
section
variable {P:Program} {w:World} {H H':Hp} {h h':Heap} {a:Addr} {o:HO}
theorem x5.lt(x:x5 P w H h a o):a<h.objs.size:=by
 cases o with
 | lst xs=>obtain⟨_,_,_,_,e⟩:=x;exact i7 e
 | tup xs=>obtain⟨_,_,_,p⟩:=x;exact p.lt
 | dK kvs=>obtain⟨_,_,_,_,o,_,_,e,_⟩:=x;exact i7 e
 | dT kvs=>obtain⟨_,_,_,_,o,_,_,e,_⟩:=x;exact i7 e
 | set S n=>obtain⟨o,_,_,_,e,_⟩:=x;exact i7 e
 | ins C dx fs=>obtain⟨_,_,_,e,_⟩:=x;exact i7 e
 | own y=>obtain⟨_,e⟩:=x;exact i7 e
 | xd fs=>obtain⟨_,⟨_,_,_,e,_⟩,_⟩:=x;exact i7 e
 | rng lo hi=>obtain⟨_,_,_,e⟩:=x;exact i7 e
 | frz ob u=>obtain⟨e,_⟩:=x;exact i7 e
 | tbl q=>obtain⟨_,e,_⟩:=x;exact i7 e
 | met f y=>exact i7 (show h.get? a=some _ from x)
 | ext φ=>obtain⟨_,⟨_,e⟩,_⟩:=x;exact i7 e
theorem Paired.mapP:∀{l₁:List α} {l₂:List β},Paired F l₁ l₂->(∀a b,F a b->G a b)->Paired G l₁ l₂
 | _,_,.nil,_=>.nil
 | _,_,.cons r t,f=>.cons (f _ _ r) (Paired.mapP t f)
theorem x5.stay(x:x5 P w H h a o)(k:∀b u,(b=a\/H b=some (.own a))->h.get? b=some u->h'.get? b=some u)
  (ho:∀b,H b=some (.own a)->H' b=some (.own a)) (ht:∀b xs,H b=some (.tup xs)->H' b=some (.tup xs)) (hz:∀b o u vs,o.data=.fields vs->H b=some (.frz o u)->H' b=some (.frz o u)):x5 P w H' h' a o:=by
 induction o with
 | lst xs=>obtain⟨z,its,n,r,e⟩:=x;exact⟨z,its,n,r,k _ _ (.inl rfl) e⟩
 | tup xs=>obtain⟨z,its,r,ob,e,c⟩:=x;exact⟨z,its,r,ob,k _ _ (.inl rfl) e,c⟩
 | dK kvs=>obtain⟨z,y,vs,r,ob,es,ep,e,c⟩:=x;exact⟨z,y,vs,r,ob,es,ep,k _ _ (.inl rfl) e,c⟩
 | dT kvs=>
  obtain⟨z,y,xs,r,ob,es,ep,e,c⟩:=x;exact⟨z,y,xs,Paired.mapP r λp q z=>⟨z.1,ht _ _ z.2.1,z.2.2⟩,ob,es,ep,k _ _ (.inl rfl) e,c⟩
 | set S n=>obtain⟨ob,es,ep,t,e,c⟩:=x;exact⟨ob,es,ep,t,k _ _ (.inl rfl) e,c⟩
 | ins C dx fs=>
  obtain⟨d,z,ne,e,mA,⟨od,es,ep,e2,c⟩,r⟩:=x;exact⟨ho _ d,z,ne,k _ _ (.inl rfl) e,mA,⟨od,es,ep,k _ _ (.inr d) e2,c⟩,r⟩
 | own y=>obtain⟨ob,e⟩:=x;exact⟨ob,k _ _ (.inl rfl) e⟩
 | xd fs=>obtain⟨mA,⟨od,es,ep,e,c⟩,r⟩:=x;exact⟨mA,⟨od,es,ep,k _ _ (.inl rfl) e,c⟩,r⟩
 | rng lo hi=>obtain⟨t,u,v,e⟩:=x;exact⟨t,u,v,k _ _ (.inl rfl) e⟩
 | frz ob u ih=>obtain⟨e,q⟩:=x;exact⟨k _ _ (.inl rfl) e,ih q⟩
 | tbl q=>
  obtain⟨ps,e,t,f⟩:=x;refine⟨ps,k a _ (.inl rfl) e,t,λpos cv z=>?_⟩;obtain⟨c,oc,u,vs,t',e1,e2,e3,e4⟩:=f pos cv z;exact⟨c,oc,u,vs,t',e1,hz _ _ _ _ e3 e2,e3,e4⟩
 | met f y=>
  have e:h.get? a=some (PySem.W.methodObj (.ref f) (.ref y)):=x;show h'.get? a=some (PySem.W.methodObj (.ref f) (.ref y));exact k a _ (.inl rfl) e
 | ext φ=>obtain⟨p,⟨o,e⟩,st⟩:=x;exact⟨st _ _ p λo q=>k _ _ (.inl rfl) q,⟨o,k _ _ (.inl rfl) e⟩,st⟩
theorem HOk.lt(x:HOk P w H h)(e:H a=some o):a<h.objs.size:=(x a o e).lt
theorem HOk.fresh(x:HOk P w H h)(e:h.objs.size<=a):H a=none:=by
 cases q:H a with
 | none=>rfl
 | some u=>exact absurd (p5 (x.lt q) e) (K0 _)
theorem HOk.kept(x:HOk P w H h)(k:∀b u,h.get? b=some u->h'.get? b=some u):HOk P w H h':=λa o e=>
 (x a o e).stay (λb u _ q=>k b u q) (λ_ q=>q) (λ_ _ q=>q) λ_ _ _ _ _ q=>q
theorem HOk.laid(x:HOk P w H h)(k:∀b u,h.get? b=some u->h'.get? b=some u)(hp:h.objs.size<=a)(new:x5 P w (upd H a o) h' a o):HOk P w (upd H a o) h':=λb u e=>by
 have hn:=x.fresh hp;by_cases hb:b=a
 ·subst hb;rw[E2]at e;cases e;exact new
 ·rw[j6 hb]at e;exact(x b u e).stay (λc v _ q=>k c v q) (λc q=>by rw[j6 (B3 q hn)];exact q) (λc xs q=>by rw[j6 (B3 q hn)];exact q) λc _ _ _ _ q=>by rw[j6 (B3 q hn)];exact q
end
def Rd(H:Hp)(a:Addr)(u:HO):Prop:=H a=some u\/∃o,H a=some (.frz o u)
theorem Rd.ok(r:Rd H a u)(x:HOk P w H h):x5 P w H h a u:=by
 rcases r with r | ⟨o,r⟩
 ·exact x a u r
 ·obtain⟨_,q⟩:=x a _ r;exact q
def Mut:Option HO->Prop
 | some (.lst _)=>True
 | some (.dK _)=>True
 | some (.dT _)=>True
 | some (.set _ _)=>True
 | some (.ins _ _ _)=>True
 | some (.ext _)=>True
 | _=>False
section
variable {P:Program} {w:World} {H:Hp} {h h':Heap} {x e:Addr} {o':HO}
theorem HOk.write(ok:HOk P w H h)(mu:Mut (H x))(he:e=x\/H e=some (.own x))(k:∀b u,b≠e->h.get? b=some u->h'.get? b=some u)(heo:∃u,h'.get? e=some u)
  (new:x5 P w (upd H x o') h' x o'):HOk P w (upd H x o') h':=λb u q=>by
 have nown:∀c y,H c=some (.own y)->c≠x:=λc y r z=>by subst z;rw[r]at mu;exact mu
 have ntup:∀c xs,H c=some (.tup xs)->c≠x:=λc xs r z=>by subst z;rw[r]at mu;exact mu
 by_cases hb:b=x
 ·subst hb;rw[E2]at q;cases q;exact new
 ·rw[j6 hb]at q;by_cases hbe:b=e
  ·have q':H b=some (.own x):=by
    rcases he with z | z
    ·exact absurd (hbe.trans z) hb
    ·rw[hbe];exact z
   rw[q]at q';cases q';obtain⟨v,hv⟩:=heo;exact⟨v,by rw[hbe];exact hv⟩
  ·refine(ok b u q).stay (λc v hc r=>k c v ?_ r) (λc r=>by rw[j6 (nown c b r)];exact r) (λc xs r=>by rw[j6 (ntup c xs r)];exact r) λc o v _ _ r=>by rw[j6 λz=>by subst z;rw[r]at mu;exact mu];exact r
   rcases hc with rfl | hc
   ·exact hbe
   ·rintro rfl
    rcases he with z | z
    ·exact nown c b hc z
    ·rw[hc]at z;cases z;exact hb rfl
end
structure Un(fs ex:List Addr)(H H':Hp)(h h':Heap):Prop where
 keep:∀b o,h.get? b=some o->H b=none->b∉fs->b∉ex->h'.get? b=some o
 slot:∀b o,h.get? b=some o->H b=none->b∈fs->b∉ex->∃sl,h'.get? b=some {o with slots:=sl}
 free:∀b o,h.get? b=some o->H b=none->b∉ex->H' b=none
 there:∀b o,h.get? b=some o->b∉ex->∃o',h'.get? b=some o'
 tups:∀b xs,H b=some (.tup xs)->H' b=some (.tup xs)
 frzs:∀b o u,H b=some (.frz o u)->H' b=some (.frz o u)
 tbls:∀b q,H b=some (.tbl q)->H' b=some (.tbl q)
section
variable {fs fs' ex ex':List Addr} {H H1 H2:Hp} {h h1 h2 h':Heap} {a x e:Addr} {o:HO}
theorem Un.any(u:Un fs ex H H1 h h1)(q:h.get? b=some ob)(n:H b=none)(hx:b∉ex):∃sl,h1.get? b=some {ob with slots:=sl}:=by
 by_cases hb:b∈fs
 ·exact u.slot b ob q n hb hx
 ·exact⟨ob.slots,u.keep b ob q n hb hx⟩
theorem Un.kept(k:∀b u,h.get? b=some u->h'.get? b=some u):Un fs ex H H h h':=
 ⟨λb ob q _ _ _=>k b ob q,λb ob q _ _ _=>⟨ob.slots,k b ob q⟩,λ_ _ _ n _=>n,λb ob q _=>⟨ob,k b ob q⟩,λ_ _ q=>q,λ_ _ _ q=>q,λ_ _ q=>q⟩
theorem Un.refl:Un fs ex H H h h:=Un.kept λ_ _ q=>q
theorem Un.laid(k:∀b u,h.get? b=some u->h'.get? b=some u)(hp:h.objs.size<=a)(hn:H a=none):Un fs ex H (upd H a o) h h' where
 keep:=λb u q _ _ _=>k b u q
 slot:=λb u q _ _ _=>⟨u.slots,k b u q⟩
 free:=λb u q n _=>by rw[j6 (w6 (p5 (i7 q) hp))];exact n
 there:=λb u q _=>⟨u,k b u q⟩
 tups:=λb xs q=>by rw[j6 (B3 q hn)];exact q
 frzs:=λb u xs q=>by rw[j6 (B3 q hn)];exact q
 tbls:=λb ps q=>by rw[j6 (B3 q hn)];exact q
theorem Un.write(mu:Mut (H x))(he:e=x\/H e=some (.own x))(k:∀b u,b≠e->h.get? b=some u->h'.get? b=some u)(heo:∃u,h'.get? e=some u):Un fs ex H (upd H x o) h h':=by
 have hx:∀b,H b=none->b≠x:=λb n z=>by subst z;rw[n]at mu;exact mu
 have hb:∀b,H b=none->b≠e:=λb n z=>by
  subst z;rcases he with r | r
  ·exact hx b n r
  ·rw[n]at r;cases r
 have hm:∀b u,H b=some u->¬Mut (some u)->b≠x:=λb u q nm z=>by subst z;rw[q]at mu;exact nm mu
 refine⟨λb u q n _ _=>k b u (hb b n) q,λb u q n _ _=>⟨u.slots,k b u (hb b n) q⟩,λb u q n _=>by rw[j6 (hx b n)];exact n,λb u q _=>?_,
  λb xs q=>by rw[j6 (hm b _ q λz=>z)];exact q,λb u xs q=>by rw[j6 (hm b _ q λz=>z)];exact q,λb ps q=>by rw[j6 (hm b _ q λz=>z)];exact q⟩
 by_cases hbe:b=e
 ·subst hbe;exact heo
 ·exact⟨u,k b u hbe q⟩
end
def trk(h:Heap)(H:Hp):List Addr:=(List.range h.objs.size).filter λa=>(H a).isSome
def hidT(h:Heap)(H:Hp):Heap:=PySem.W.hideAll h (trk h H)
theorem z2o(h:Heap)(H:Hp):(hidT h H).objs.size=h.objs.size:=PySem.W.hideAll_size _ _
theorem z3K(e:h.get? b=some o)(n:H b=none):(hidT h H).get? b=some o:=
 M7 _ e λhm=>by have q:(H b).isSome=true:=(G8.mp hm).2;rw[n]at q;simp at q
theorem z5L(e:(hidT h H).get? b=some o):h.get? b=some o/\H b=none:=by
 have e':h.get? b=some o:=w17 (trk h H) e;refine⟨e',?_⟩;cases q:H b with
 | none=>rfl
 | some x=>
  have hm:b∈trk h H:=G8.mpr ⟨F0.mpr (i7 e'),by simp[q]⟩;have z:(hidT h H).get? b=none:=PySem.W.hideAll_none (trk h H) hm;rw[z]at e;cases e
def z6T(g h:Heap)(L:Addr):List (Addr×Obj):=(List.range h.objs.size).filterMap λa=>if a=L\/(g.get? a).isSome=true then none else(h.get? a).map λo=>(a,o)
def rest(g h:Heap)(L d:Addr):List (Addr×Obj):=(z6T g h L).filter λp=>decide (p.1≠d)
end
section
structure Mod(K:PySem.W.Frag)(mg:Str->Option Value)(base:Heap):Prop where
 kin:K.In base
 glob:base.Ns mainGlobals mg
 blt:∃mb,base.Ns builtinsNs mb/\∀x:Str,x ≠ "__name__" -> mb x=bootBuiltins x
 nolimit:base.NoLimit
 bmod:∃bm ob,mg "__builtins__" = some (.ref bm)/\bm≠builtinsNs/\base.get? bm=some ob/\ob.cls=.type "module" /\ ob.dict=some builtinsNs/\ob.data=.plain
structure Cx where
 prog:Program
 w:World
 K:PySem.W.Frag
 mg:Str->Option Value
 base:Heap
 A:Around
 N:List Str
 s₀:Shared
 H₀:Hp
 env:Env
 outer:List Env
 stack:List Env
 ex:List Addr
 fn:Str->Bool
 calm:Bool
 pn:List (Addr×Obj)
 xe:Value->Shared->Prop
def u0(K:PySem.W.Frag):List (Addr×Str):=K.filterMap λp=>match p.2.cls,p.2.data with
 | .type "code",.fields vs=>(match(vs[11]?:Option Value),(vs[1]?:Option Value)with
  | some (.ref P),some (.str q _)=>if(K.lookup P).isNone then some (P,q ++ ".<locals>." ++ "<lambda>")else none
  | _,_=>none)
 | _,_=>none
def q6I(K:PySem.W.Frag)(H:Hp):Prop:=∀p∈u0 K,H p.1=some (.tbl p.2)
def frs(l:List Env):List Addr:=l.filterMap (·.frame)
abbrev Cx.fs(X:Cx):List Addr:=frs X.outer
def Vis(sc:Scope)(x:Str):Prop:=sc.names.lookup x=some .local\/sc.names.lookup x=some .cell\/sc.names.lookup x=some .free
def Loc(sc:Scope)(x:Str):Prop:=sc.names.lookup x=some .local\/sc.names.lookup x=some .cell
def Look(env:Env)(h:Heap)(m:Str->Option Value)(x:Str)(u:Value):Prop:=
 (env.kindOf x=some .local/\m x=some u)\/((env.kindOf x=some .cell\/env.kindOf x=some .free)/\∃c,env.cells.lookup x=some c/\h.IsCell c (some u))
structure Cx.Ok(X:Cx):Prop where
 mod:Mod X.K X.mg X.base
 kind:X.env.scope.kind=.function
 glob:X.env.globals=mainGlobals
 blt:X.env.builtins=builtinsNs
 above:X.s₀.heap.objs.size<=X.env.locals
 inj:∀x y c,X.env.cells.lookup x=some c->X.env.cells.lookup y=some c->x=y
 has:∀x,(X.env.kindOf x=some .cell\/X.env.kindOf x=some .free)->∃c,X.env.cells.lookup x=some c
 cab:∀x c,X.fn x=true->X.env.cells.lookup x=some c->X.s₀.heap.objs.size<=c
 hd:X.calm=true->X.A.handled=none
 frames:X.A.frames=some X.stack
 stk:X.stack=X.outer\/(X.stack=X.env::X.outer/\X.env.frame=some X.env.locals)
 exf:∀b∈X.ex,b≠X.env.locals/\∀x c,X.env.cells.lookup x=some c->c≠b
 bs:∀b o,X.base.get? b=some o->X.s₀.heap.get? b=some o/\X.H₀ b=none
 bsz:X.base.objs.size<=X.s₀.heap.objs.size
 noex:∀b o,X.base.get? b=some o->b∉X.ex
 exfs:∀b∈X.ex,b∉X.fs
 funs:X.s₀.heap.FunFrames X.base X.outer
 frf:(∀b∈X.fs,X.H₀ b=none)/\q6I X.K X.H₀
structure Inv(X:Cx)(pins:List (Addr×Obj))(σ:List (Option V))(H:Hp)(s:Shared):Prop where
 ok:X.Ok
 os:s.os=X.s₀.os
 bare:AllBare s.gens
 base:Un X.fs X.ex X.H₀ H X.s₀.heap s.heap
 loc:∃m,s.heap.Ns X.env.locals m/\∀(i:Nat) (x:Str) (v:V),X.N[i]? = some x->σ[i]? = some (some v)->Vis X.env.scope x->∃u,RelV v u/\Look X.env s.heap m x u
 cell:∀x c,X.env.cells.lookup x=some c->∃v,s.heap.IsCell c v
 free:H X.env.locals=none
 freeC:∀x c,X.env.cells.lookup x=some c->H c=none
 pin:∀p∈X.pn++pins,s.heap.get? p.1=some p.2/\H p.1=none/\p.1≠X.env.locals/\p.1∉X.fs/\∀v,p.2.data ≠ .cell v
 hok:HOk X.prog X.w H s.heap
 len:σ.length=X.N.length
section
variable {X:Cx} {pins:List (Addr×Obj)} {σ:List (Option V)} {H H':Hp} {s:Shared} {h':Heap}
theorem Cx.Ok.nofr(ok:X.Ok)(e:X.base.get? b=some o):b∉X.fs:=λhb=>by
 have:=(ok.funs.mem hb).1;rw[e]at this;cases this
theorem Inv.bs(I:Inv X pins σ H s):∀b o,X.base.get? b=some o->s.heap.get? b=some o/\H b=none:=λb o e=>
 ⟨I.base.keep b o (I.ok.bs b o e).1 (I.ok.bs b o e).2 (I.ok.nofr e) (I.ok.noex b o e),I.base.free b o (I.ok.bs b o e).1 (I.ok.bs b o e).2 (I.ok.noex b o e)⟩
theorem Inv.bk(I:Inv X pins σ H s):∀b o,X.base.get? b=some o->s.heap.get? b=some o:=λb o e=>(I.bs b o e).1
theorem Inv.mod(I:Inv X pins σ H s):Mod X.K X.mg X.base:=I.ok.mod
theorem Inv.tabs(I:Inv X pins σ H s):q6I X.K H:=λp hp=>I.base.tbls p.1 p.2 (I.ok.frf.2 p hp)
theorem Inv.kIn(I:Inv X pins σ H s):X.K.In s.heap:=I.ok.mod.kin.keeps I.bk
theorem Inv.lt(I:Inv X pins σ H s):X.env.locals<s.heap.objs.size:=let ⟨_,hn,_⟩:=I.loc;hn.lt
theorem Inv.sz(I:Inv X pins σ H s):X.s₀.heap.objs.size<=s.heap.objs.size:=m7 I.ok.above (w2o I.lt)
theorem Inv.nofs(I:Inv X pins σ H s)(h:s.heap.objs.size<=a):a∉X.fs:=λhb=>by
 obtain⟨_,o,ho,_⟩:=I.ok.funs.mem hb
 exact absurd (p5 (i7 ho) (m7 I.sz h)) (K0 _)
theorem Inv.cne(I:Inv X pins σ H s):∀x c,X.env.cells.lookup x=some c->c≠X.env.locals:=λx c e z=>by
 obtain⟨v,o,ho,hd⟩:=I.cell x c e;obtain⟨m,⟨o',es,ep,ho',hd',_⟩,_⟩:=I.loc;rw[z,ho']at ho;cases ho;rw[hd']at hd;cases hd
theorem Inv.funs(I:Inv X pins σ H s):s.heap.FunFrames X.base X.outer:=by
 have all:∀(l:List Env),(∀b∈frs l,b∈X.fs)->X.s₀.heap.FunFrames X.base l->s.heap.FunFrames X.base l:=by
  intro l
  induction l with
  | nil=>intro _ _;trivial
  | cons env r ih=>
   intro hs hl;obtain⟨hk,⟨L,o,hf,hn,ho,hd⟩,hr⟩:=hl;have hL:L∈X.fs:=hs L (by unfold frs;rw[w2w,hf];exact i5);obtain⟨sl,e⟩:=I.base.slot L o ho (I.ok.frf.1 L hL) hL λz=>I.ok.exfs L z hL
   exact⟨hk,⟨L,_,hf,hn,e,hd⟩,ih (λb hb=>hs b (by unfold frs;rw[w2w,hf];exact f9 _ hb)) hr⟩
 exact all X.outer (λ_ hb=>hb) I.ok.funs
theorem Inv.stack(I:Inv X pins σ H s):s.heap.FunFrames X.base X.stack:=by
 rcases I.ok.stk with e | ⟨e,hf⟩
 ·rw[e];exact I.funs
 ·rw[e];obtain⟨m,hn,_⟩:=I.loc;refine .cons (by rw[I.ok.kind];decide) hf hn ?_ I.funs
  exact w10 (m7 I.ok.bsz I.ok.above)
theorem Inv.stkSub(I:Inv X pins σ H s):∀b∈frs X.stack,b∈X.env.locals::X.fs:=λb hb=>by
 rcases I.ok.stk with e | ⟨e,hf⟩
 ·rw[e]at hb;exact f9 _ hb
 ·rw[e]at hb;unfold frs at hb;rw[w2w,hf]at hb;exact hb
theorem Inv.stkFree(I:Inv X pins σ H s):∀b∈frs X.stack,H b=none:=λb hb=>by
 rcases d9.mp (I.stkSub b hb)with e | hb
 ·rw[e];exact I.free
 ·obtain⟨_,o,ho,_⟩:=I.ok.funs.mem hb
  exact I.base.free b o ho (I.ok.frf.1 b hb) λz=>I.ok.exfs b z hb
theorem Inv.step{g':Array GenState}{t':Nat}{d':Drawn}{ch:List Addr}(I:Inv X pins σ H s)
  (hch:∀b∈ch,(b∈X.ex\/X.s₀.heap.objs.size<=b)/\b≠X.env.locals/\(∀x c,X.env.cells.lookup x=some c->c≠b)/\∀p∈X.pn++pins,p.1≠b)
  (keep:∀b o,b≠X.env.locals->b∉X.fs->b∉ch->s.heap.get? b=some o->H b=none->h'.get? b=some o)
  (slot:∀b o,b≠X.env.locals->b∈X.fs->b∉ch->s.heap.get? b=some o->H b=none->∃sl,h'.get? b=some {o with slots:=sl}) (free:∀b o,b∉ch->s.heap.get? b=some o->H b=none->H' b=none)
  (there:∀b o,b∉ch->s.heap.get? b=some o->∃o',h'.get? b=some o')
  (tups:∀b xs,H b=some (.tup xs)->H' b=some (.tup xs)) (frzs:∀b o u,H b=some (.frz o u)->H' b=some (.frz o u)) (tbls:∀b q,H b=some (.tbl q)->H' b=some (.tbl q))
  (ns:∀m,s.heap.Ns X.env.locals m->h'.Ns X.env.locals m) (hok:HOk X.prog X.w H' h') (hg:AllBare g') :
  Inv X pins σ H' {s with heap:=h',gens:=g',drawn:=d',toks:=t'}:=by
 have neL:∀b o,X.s₀.heap.get? b=some o->b≠X.env.locals:=λb o e=>w6 (p5 (i7 e) I.ok.above);have neC:∀b o,X.s₀.heap.get? b=some o->b∉X.ex->b∉ch:=λb o e hx hb=>by
  rcases(hch b hb).1 with z | z
  ·exact hx z
  ·exact absurd (p5 (i7 e) z) (K0 _)
 have cellK:∀x c,X.env.cells.lookup x=some c->∀v,s.heap.IsCell c v->h'.IsCell c v:=λx c e v ⟨o,ho,hd⟩=>by
  have nch:c∉ch:=λz=>(hch c z).2.2.1 x c e rfl;by_cases hc:c∈X.fs
  ·obtain⟨sl,q⟩:=slot c o (I.cne x c e) hc nch ho (I.freeC x c e);exact⟨_,q,hd⟩
  ·exact⟨o,keep c o (I.cne x c e) hc nch ho (I.freeC x c e),hd⟩
 refine⟨I.ok,I.os,hg,⟨λb o e n hb hx=>?_,λb o e n hb hx=>?_,λb o e n hx=>?_,λb o e hx=>?_,λb xs e=>tups b xs (I.base.tups b xs e),λb o xs e=>frzs b o xs (I.base.frzs b o xs e),λb ps e=>?_⟩,?_,λx c e=>?_,?_,λx c e=>?_,λp hp=>?_,hok,I.len⟩
 ·exact keep b o (neL b o e) hb (neC b o e hx) (I.base.keep b o e n hb hx) (I.base.free b o e n hx)
 ·obtain⟨sl,e1⟩:=I.base.slot b o e n hb hx;obtain⟨sl',e2⟩:=slot b _ (neL b o e) hb (neC b o e hx) e1 (I.base.free b o e n hx);exact⟨sl',e2⟩
 ·obtain⟨o',e1⟩:=I.base.there b o e hx;exact free b o' (neC b o e hx) e1 (I.base.free b o e n hx)
 ·obtain⟨o',e1⟩:=I.base.there b o e hx;exact there b o' (neC b o e hx) e1
 ·exact tbls b ps (I.base.tbls b ps e)
 ·obtain⟨m,hn,hl⟩:=I.loc;refine⟨m,ns m hn,λi x v e1 e2 e3=>?_⟩;obtain⟨u,r,l⟩:=hl i x v e1 e2 e3;refine⟨u,r,?_⟩;rcases l with l | ⟨k,c,e,z⟩
  ·exact .inl l
  ·exact .inr ⟨k,c,e,cellK x c e _ z⟩
 ·obtain⟨v,z⟩:=I.cell x c e;exact⟨v,cellK x c e v z⟩
 ·obtain⟨m,⟨o,_,_,ho,_⟩,_⟩:=I.loc;exact free _ o (λz=>(hch _ z).2.1 rfl) ho I.free
 ·obtain⟨v,o,ho,hd⟩:=I.cell x c e;exact free c o (λz=>(hch c z).2.2.1 x c e rfl) ho (I.freeC x c e)
 ·obtain⟨e,n,ne,nf,d⟩:=I.pin p hp;have nch:p.1∉ch:=λz=>(hch p.1 z).2.2.2 p hp rfl
  exact⟨keep p.1 p.2 ne nf nch e n,free p.1 p.2 nch e n,ne,nf,d⟩
theorem Inv.un(I:Inv X pins σ H s)(u:Un X.fs [] H H' s.heap h')(hok:HOk X.prog X.w H' h'):Inv X pins σ H' {s with heap:=h',toks:=t'}:=by
 obtain⟨m,⟨o,es,ep,ho,r⟩,_⟩:=id I.loc;obtain⟨sl,hL⟩:=u.any ho I.free (by simp);exact I.step (g':=s.gens) (d':=s.drawn) (ch:=[]) (λ_ z=>nomatch z) (λb o _ hb _ e n=>u.keep b o e n hb (by simp)) (λb o _ hb _ e n=>u.slot b o e n hb (by simp)) (λb o _ e n=>u.free b o e n (by simp)) (λb o _ e=>u.there b o e (by simp)) u.tups u.frzs u.tbls (λm' hm=>by
  obtain⟨o',es',ep',ho',r'⟩:=hm;rw[ho]at ho';cases ho';exact⟨_,es',ep',hL,r'⟩) hok I.bare
theorem Inv.call(I:Inv X pins σ H s)(u:Un (frs X.stack) ch H H' s.heap h')(hok:HOk X.prog X.w H' h')(hg:AllBare g')
  (hch:∀b∈ch,(b∈X.ex\/X.s₀.heap.objs.size<=b)/\b≠X.env.locals/\(∀x c,X.env.cells.lookup x=some c->c≠b)/\∀p∈X.pn++pins,p.1≠b) :
  Inv X pins σ H' {s with heap:=h',gens:=g',drawn:=d',toks:=t'}:=by
 obtain⟨m,⟨o,es,ep,ho,r⟩,_⟩:=id I.loc;obtain⟨sl,hL⟩:=u.any ho I.free λz=>(hch _ z).2.1 rfl
 exact I.step (ch:=ch) hch (λb o hL hb hc e n=>u.keep b o e n (λz=>(d9.mp (I.stkSub b z)).elim hL hb) hc) (λb o _ _ hc e n=>u.any e n hc) (λb o hc e n=>u.free b o e n hc) (λb o hc e=>u.there b o e hc) u.tups u.frzs u.tbls (λm' hm=>by
  obtain⟨o',es',ep',ho',r'⟩:=hm;rw[ho]at ho';cases ho';exact⟨_,es',ep',hL,r'⟩) hok hg
theorem Inv.turned(I:Inv X pins σ H s)(k:∀b o,b≠it->s.heap.get? b=some o->h'.get? b=some o)(hn:H it=none)(hL:it≠X.env.locals)
  (h1:it∈X.ex\/X.s₀.heap.objs.size<=it) (h2:∀x c,X.env.cells.lookup x=some c->c≠it) (h3:∀p∈X.pn++pins,p.1≠it):Inv X pins σ H {s with heap:=h',toks:=t'}:=by
 have nit:∀b u,H b=some u->b≠it:=λb u e z=>by rw[z,hn]at e;cases e
 refine I.step (g':=s.gens) (d':=s.drawn) (ch:=[it]) (λb hb=>?_) (λb o _ _ hc e _=>k b o (λz=>hc (by simp[z])) e) (λb o _ _ hc e _=>⟨o.slots,k b o (λz=>hc (by simp[z])) e⟩) (λ_ _ _ _ n=>n)
  (λb o hc e=>⟨o,k b o (λz=>hc (by simp[z])) e⟩) (λ_ _ e=>e) (λ_ _ _ e=>e) (λ_ _ e=>e) (λm hm=>?_) (λb u e=>?_) I.bare
 ·have e:b=it:=by simpa using hb
  subst e;exact⟨h1,hL,h2,h3⟩
 ·obtain⟨o,es,ep,ho,r⟩:=hm;exact⟨o,es,ep,k _ o (Ne.symm hL) ho,r⟩
 ·refine(I.hok b u e).stay (λc v hc q=>k c v ?_ q) (λ_ q=>q) (λ_ _ q=>q) λ_ _ _ _ _ q=>q;rcases hc with z | z
  ·rw[z];exact nit b u e
  ·exact nit c _ z
theorem Inv.tok(I:Inv X pins σ H s)(t:Nat):Inv X pins σ H {s with toks:=t}:=I.un (h':=s.heap) (t':=t) Un.refl I.hok
theorem Inv.kept(I:Inv X pins σ H s)(k:∀b u,s.heap.get? b=some u->h'.get? b=some u):Inv X pins σ H {s with heap:=h',toks:=t'}:=I.un (Un.kept k) (I.hok.kept k)
theorem Inv.laid(I:Inv X pins σ H s)(k:∀b u,s.heap.get? b=some u->h'.get? b=some u)(hp:s.heap.objs.size<=a)(new:x5 X.prog X.w (upd H a o) h' a o) :
  Inv X pins σ (upd H a o) {s with heap:=h',toks:=t'}:=I.un (Un.laid k hp (I.hok.fresh hp)) (I.hok.laid k hp new)
theorem Inv.write(I:Inv X pins σ H s)(mu:Mut (H x))(he:e=x\/H e=some (.own x))(k:∀b u,b≠e->s.heap.get? b=some u->h'.get? b=some u)(heo:∃u,h'.get? e=some u)
  (new:x5 X.prog X.w (upd H x o) h' x o):Inv X pins σ (upd H x o) {s with heap:=h',toks:=t'}:=I.un (Un.write mu he k heo) (I.hok.write mu he k heo new)
theorem Inv.pins_of(I:Inv X pins σ H s)(h:∀p∈pins',s.heap.get? p.1=some p.2/\H p.1=none/\p.1≠X.env.locals/\p.1∉X.fs/\∀v,p.2.data ≠ .cell v):Inv X pins' σ H s:=
 ⟨I.ok,I.os,I.bare,I.base,I.loc,I.cell,I.free,I.freeC,λp hp=>(C8.mp hp).elim (λz=>I.pin p (y0 _ z)) (h p),I.hok,I.len⟩
theorem q4s{N:List Str}(hN:N.Nodup){i j:Nat}{x:Str}(a:N[i]? = some x)(b:N[j]? = some x):i=j:=by
 obtain⟨h1,e1⟩:=u9.mp a;obtain⟨h2,e2⟩:=u9.mp b;exact(List.getElem_inj hN).mp (e1.trans e2.symm)
theorem q6Z(I:Inv X pins σ H s)(hN:X.N.Nodup)(hi:X.N[i]? = some x)(hx:Loc X.env.scope x)(r:RelV v u)
  (h:∀s',Inv X pins (σ.set i (some v)) H s'->(∃a,Heap.SameBut a s.heap s'.heap/\(a=X.env.locals\/X.env.cells.lookup x=some a))->Q () s') (hf:X.fn x=true\/X.env.scope.names.lookup x=some .local:=by first | exact .inl rfl | exact .inr rfl | assumption):wpAny M A (storeName X.env x u) Q E s:=by
 obtain⟨m,hn,hl⟩:=id I.loc;have hcls:(X.env.scope.kind == .class||(X.env.scope.kind == .module&&X.env.locals != X.env.globals))=false:=by rw[I.ok.kind];rfl
 have hiσ:i<σ.length:=by rw[I.len];exact(u9.mp hi).1
 have cne:=I.cne;have tracked:∀{a:Addr} {h':Heap},(∃o,s.heap.get? a=some o/\H a=none)->Heap.SameBut a s.heap h'->HOk X.prog X.w H h':=λ{a h'} ha hs b ob e=>by
  obtain⟨_,_,hfree⟩:=ha;refine(I.hok b ob e).stay (λc w' hc q=>(hs.2 c ?_).trans q) (λ_ q=>q) (λ_ _ q=>q) λ_ _ _ _ _ q=>q
  rintro rfl
  rcases hc with rfl | hc
  ·rw[hfree]at e;cases e
  ·rw[hfree]at hc;cases hc
 rcases hx with hk | hk
 ·refine wpAny_storeName_local hk hn (λh' hn' hs=>?_) hcls;obtain⟨oL,_,_,hoL,_⟩:=id hn;refine h _ ⟨I.ok,I.os,I.bare,⟨λb o e n hb hx=>?_,λb o e n hb hx=>?_,I.base.free,λb o e hx=>?_,I.base.tups,I.base.frzs,I.base.tbls⟩,⟨_,hn',λj y v' e1 e2 e3=>?_⟩,λy c e=>?_,I.free,I.freeC,λp hp=>?_,tracked ⟨oL,hoL,I.free⟩ hs,by simpa using I.len⟩ ⟨_,hs,.inl rfl⟩
  ·exact(hs.2 b (w6 (p5 (i7 e) I.ok.above))).trans (I.base.keep b o e n hb hx)
  ·obtain⟨sl,e1⟩:=I.base.slot b o e n hb hx;exact⟨sl,(hs.2 b (w6 (p5 (i7 e) I.ok.above))).trans e1⟩
  ·obtain⟨o',e1⟩:=I.base.there b o e hx;exact⟨o',(hs.2 b (w6 (p5 (i7 e) I.ok.above))).trans e1⟩
  ·by_cases hj:j=i
   ·subst hj;rw[hi]at e1;cases e1;rw[C7 hiσ]at e2;cases e2;exact⟨u,r,.inl ⟨hk,by simp⟩⟩
   ·rw[d8 (Ne.symm hj)]at e2;obtain⟨u',r',q⟩:=hl j y v' e1 e2 e3;refine⟨u',r',?_⟩;rcases q with⟨k,e⟩ | ⟨k,c,e,z⟩
    ·refine .inl ⟨k,?_⟩;have:y≠x:=λe=>hj (q4s hN e1 (e▸hi));simp[this,e]
    ·exact .inr ⟨k,c,e,z.sameBut hs (cne y c e)⟩
  ·obtain⟨w',z⟩:=I.cell y c e;exact⟨w',z.sameBut hs (cne y c e)⟩
  ·obtain⟨e,n,ne,nf,d⟩:=I.pin p hp;exact⟨(hs.2 p.1 ne).trans e,n,ne,nf,d⟩
 ·have hfn:X.fn x=true:=by
   rcases hf with z | z
   ·exact z
   ·rw[z]at hk;cases hk
  obtain⟨c,hc⟩:=I.ok.has x (.inl hk);obtain⟨w',z⟩:=I.cell x c hc;refine wpAny_storeName_cell I.ok.kind hk hc z (λh' hc' hs=>?_);obtain⟨oc,hoc,hocd⟩:=id z;refine h {s with heap:=h'} ⟨I.ok,I.os,I.bare,⟨λb o e n hb hx=>?_,λb o e n hb hx=>?_,I.base.free,λb o e hx=>?_,I.base.tups,I.base.frzs,I.base.tbls⟩,⟨m,hn.sameBut hs (Ne.symm (cne x c hc)),λj y v' e1 e2 e3=>?_⟩,λy c' e=>?_,I.free,I.freeC,λp hp=>?_,tracked ⟨oc,hoc,I.freeC x c hc⟩ hs,by simpa using I.len⟩ ⟨c,hs,.inr hc⟩
  ·exact(hs.2 b (w6 (p5 (i7 e) (I.ok.cab x c hfn hc)))).trans (I.base.keep b o e n hb hx)
  ·obtain⟨sl,e1⟩:=I.base.slot b o e n hb hx;exact⟨sl,(hs.2 b (w6 (p5 (i7 e) (I.ok.cab x c hfn hc)))).trans e1⟩
  ·obtain⟨o',e1⟩:=I.base.there b o e hx;exact⟨o',(hs.2 b (w6 (p5 (i7 e) (I.ok.cab x c hfn hc)))).trans e1⟩
  ·by_cases hj:j=i
   ·subst hj;rw[hi]at e1;cases e1;rw[C7 hiσ]at e2;cases e2;exact⟨u,r,.inr ⟨.inl hk,c,hc,hc'⟩⟩
   ·rw[d8 (Ne.symm hj)]at e2;obtain⟨u',r',q⟩:=hl j y v' e1 e2 e3;refine⟨u',r',?_⟩;rcases q with q | ⟨k,c',e,z'⟩
    ·exact .inl q
    ·refine .inr ⟨k,c',e,z'.sameBut hs ?_⟩
     rintro rfl
     exact hj (q4s hN e1 (I.ok.inj _ _ _ e hc▸hi))
  ·by_cases hcc:c'=c
   ·subst hcc;exact⟨_,hc'⟩
   ·obtain⟨w2,z2⟩:=I.cell y c' e;exact⟨w2,z2.sameBut hs hcc⟩
  ·obtain⟨e,n,ne,nf,d⟩:=I.pin p hp;refine⟨(hs.2 p.1 ?_).trans e,n,ne,nf,d⟩;intro q;rw[q,hoc]at e;have q':oc=p.2:=x4 e;exact d w' (by rw[←q'];exact hocd)
theorem q6s(I:Inv X pins σ H s)(hN:X.N.Nodup)(hi:X.N[i]? = some x)(hx:Loc X.env.scope x)(r:RelV v u)
  (h:∀s',Inv X pins (σ.set i (some v)) H s'->Q () s') (hf:X.fn x=true\/X.env.scope.names.lookup x=some .local:=by first | exact .inl rfl | exact .inr rfl | assumption):wpAny M A (storeName X.env x u) Q E s:=
 q6Z I hN hi hx r (λs' I' _=>h s' I') hf
theorem Inv.call'(I:Inv X pins σ H s)(ho:s'.os=s.os)(u:Un (frs X.stack) ch H H' s.heap s'.heap)(hok:HOk X.prog X.w H' s'.heap)(hg:AllBare s'.gens)
  (hch:∀b∈ch,(b∈X.ex\/X.s₀.heap.objs.size<=b)/\b≠X.env.locals/\(∀x c,X.env.cells.lookup x=some c->c≠b)/\∀p∈X.pn++pins,p.1≠b):Inv X pins σ H' s':=by
 obtain⟨h',g',d',t',o'⟩:=s';have e:o'=s.os:=ho;subst e;exact I.call (g':=g') (t':=t') (d':=d') u hok hg hch
end
abbrev XK:=Value->Option Addr->Hp->Prop
abbrev St:=List (Option V)
abbrev VK:=V->Hp->Prop
abbrev TE:=St->Hp->VK->Prop
abbrev TT:=St->Hp->(Bool->Hp->Prop)->Prop
abbrev TA:=St->Hp->(List V->Hp->Prop)->Prop
structure Ends where
 nx:St->Hp->Prop
 rt:VK
 bk:St->Hp->Prop:=λ_ _=>False
 ct:St->Hp->Prop:=λ_ _=>False
abbrev TS:=Ends->St->Hp->Prop
def EP(X:Cx)(pins:List (Addr×Obj))(σ:St)(Q:VK)(u:Value)(s':Shared):Prop:=∃v H',Inv X pins σ H' s'/\RelV v u/\Q v H'
def TP(X:Cx)(pins:List (Addr×Obj))(σ:St)(Q:Bool->Hp->Prop)(b:Bool)(s':Shared):Prop:=∃H',Inv X pins σ H' s'/\Q b H'
def AP(X:Cx)(pins:List (Addr×Obj))(σ:St)(Q:List V->Hp->Prop)(us:List Value)(s':Shared):Prop:=∃vs H',Inv X pins σ H' s'/\Vals vs us/\Q vs H'
def SP(X:Cx)(pins:List (Addr×Obj))(D:Ends)(f:Flow)(s':Shared):Prop:=
 match f with
 | .next=>∃σ' H',Inv X pins σ' H' s'/\D.nx σ' H'
 | .brk=>∃σ' H',Inv X pins σ' H' s'/\D.bk σ' H'
 | .cont=>∃σ' H',Inv X pins σ' H' s'/\D.ct σ' H'
 | .ret u=>∃v σ' H',Inv X pins σ' H' s'/\RelV v u/\D.rt v H'
def PE(X:Cx)(e:Expr)(t:TE):Prop:=
 ∀(pins:List (Addr×Obj)) (s:Shared) (σ:St) (H:Hp) (Q:VK),Inv X pins σ H s->t σ H Q->wpAny (model X.prog X.w) X.A (eval e X.env) (EP X pins σ Q) X.xe s
def PT(X:Cx)(e:Expr)(t:TT):Prop:=
 ∀(pins:List (Addr×Obj)) (s:Shared) (σ:St) (H:Hp) (Q:Bool->Hp->Prop),Inv X pins σ H s->t σ H Q->wpAny (model X.prog X.w) X.A (isTrue e X.env (eval e X.env)) (TP X pins σ Q) X.xe s
def PW(X:Cx)(e:Expr)(t:TT):Prop:=
 ∀(whole:Sem Value) (pins:List (Addr×Obj)) (s:Shared) (σ:St) (H:Hp) (Q:Bool->Hp->Prop),Inv X pins σ H s->t σ H Q->wpAny (model X.prog X.w) X.A (isTrue e X.env whole) (TP X pins σ Q) X.xe s
theorem PW.pt(h:PW X e t):PT X e t:=h _
def PA(X:Cx)(es:List Expr)(t:TA):Prop:=
 ∀(pos:Pos) (pins:List (Addr×Obj)) (s:Shared) (σ:St) (H:Hp) (Q:List V->Hp->Prop),Inv X pins σ H s->t σ H Q->wpAny (model X.prog X.w) X.A (spliced (backTo pos (starEach es X.env))) (AP X pins σ Q) X.xe s
def PS(X:Cx)(st:Stmt)(t:TS):Prop:=
 ∀(pins:List (Addr×Obj)) (s:Shared) (σ:St) (H:Hp) (D:Ends),Inv X pins σ H s->t D σ H->wpAny (model X.prog X.w) X.A (exec st X.env) (SP X pins D) X.xe s
def PSs(X:Cx)(st:List Stmt)(t:TS):Prop:=
 ∀(pins:List (Addr×Obj)) (s:Shared) (σ:St) (H:Hp) (D:Ends),Inv X pins σ H s->t D σ H->wpAny (model X.prog X.w) X.A (execs st X.env) (SP X pins D) X.xe s
theorem thn(h:wpAny M A t Q E s)(hQ:∀a s,Q a s->Q' a s):wpAny M A t Q' E s:=n6 h hQ λ_ _ x=>x
end
section
section
variable {X:Cx}
theorem bin{a b:Expr}{ta tb:TE}(ha:PE X a ta)(hb:PE X b tb){pins:List (Addr×Obj)}{s:Shared}{σ:St}{H:Hp}{R:V->V->Hp->Prop}(I:Inv X pins σ H s)(h:ta σ H λx H1=>tb σ H1 λy H2=>R x y H2)
  {α:Type} {Q:α->Shared->Prop} {f:Value->Value->Sem α}
  (hf:∀v u s2 x y H2,Inv X pins σ H2 s2->RelV x v->RelV y u->R x y H2->wpAny (model X.prog X.w) X.A (f v u) Q X.xe s2) :
  wpAny (model X.prog X.w) X.A (eval a X.env) (λv s₁=>wpAny (model X.prog X.w) X.A (eval b X.env) (λu s₂=>wpAny (model X.prog X.w) X.A (f v u) Q X.xe s₂) X.xe s₁) X.xe s:=by
 refine thn (ha pins s σ H _ I h) λv s1 ⟨x,H1,I1,r1,q1⟩=>?_;refine thn (hb pins s1 σ H1 _ I1 q1) λu s2 ⟨y,H2,I2,r2,q2⟩=>?_;exact hf v u s2 x y H2 I2 r1 r2 q2
def tVar(i:Nat):TE:=λσ H Q=>∃v,σ[i]? = some (some v)/\Q v H
def tC(v:V):TE:=λ_ H Q=>Q v H
theorem Y7(hN:X.N[i]? = some x)(hv:Vis X.env.scope x)(hd:(x==("__debug__" : Str))=false:=by decide)(hcd:(x==("__classdict__" : Str))=false:=by decide):PE X (.Name x pos) (tVar i):=by
 intro pins s σ H Q I h;obtain⟨v,e,h⟩:=h;obtain⟨m,hn,hl⟩:=I.loc;obtain⟨u,r,l⟩:=hl i x v hN e hv;have fin:EP X pins σ Q u s:=⟨v,H,I,r,h⟩;rcases l with⟨hk,hm⟩ | ⟨hk,c,hc,hcell⟩
 ·exact wpAny_Name (wpAny_loadName_local I.ok.kind hk hn hm fin) hd
 ·rcases hk with hk | hk
  ·exact wpAny_Name (wpAny_loadName_cell I.ok.kind hk hc hcell fin) hd
  ·exact wpAny_Name (wpAny_loadName_free I.ok.kind hk hc hcell fin hcd) hd
theorem z9p{i j pos}:PE X (.Constant (.int i) j pos) (tC (.int i)):=λ_ _ _ H _ I h=>wpAny_Constant_int ⟨.int i,H,I.tok _,⟨_,rfl⟩,h⟩
theorem y1D{b j pos}:PE X (.Constant (.bool b) j pos) (tC (.bl b)):=λ_ _ _ H _ I h=>Constant_bool ⟨.bl b,H,I,rfl,h⟩
theorem z9F{j pos}:PE X (.Constant .none j pos) (tC .non):=λ_ _ _ H _ I h=>Constant_none ⟨.non,H,I,rfl,h⟩
theorem z9W{x j pos}:PE X (.Constant (.str x) j pos) (tC (.str x)):=λ_ _ _ H _ I h=>Calls.Constant_str ⟨.str x,H,I.tok _,⟨_,rfl⟩,h⟩
def Gl(X:Cx)(x:Str):Prop:=X.env.kindOf x=some .globalImplicit
theorem V0(I:Inv X pins σ H s)(hg:Gl X x)(hm:X.mg x=some u)(h:Q u s)
  (hd:(x==("__debug__" : Str))=false:=by decide):wpAny (model X.prog X.w) X.A (eval (.Name x pos) X.env) Q E s:=
 w2F I.ok.kind hg (Calls.loadGlobal_global (by rw[I.ok.glob];exact I.mod.glob.keeps I.bk) hm h) hd
theorem q6V(I:Inv X pins σ H s)(hg:Gl X x)(hm:X.mg x=none)(hv:bootBuiltins x=some u)(h:Q u s)
  (hn:x ≠ "__name__":=by decide) (hd:(x==("__debug__" : Str))=false:=by decide):wpAny (model X.prog X.w) X.A (eval (.Name x pos) X.env) Q E s:=by
 obtain⟨mb,h1,h2⟩:=I.mod.blt;exact w2F I.ok.kind hg (Calls.loadGlobal_builtin (by rw[I.ok.glob];exact I.mod.glob.keeps I.bk) hm (by rw[I.ok.blt];exact h1.keeps I.bk) ((h2 x hn).trans hv) h) hd
theorem z0t(hg:Gl X x)(hm:X.mg x=some u)(r:RelV v u)(hd:(x==("__debug__" : Str))=false:=by decide):PE X (.Name x pos) (tC v):=
 λ_ _ _ H _ I h=>V0 I hg hm ⟨v,H,I,r,h⟩ hd
theorem q6p(hg:Gl X x)(hm:X.mg x=none)(hv:bootBuiltins x=some u)(r:RelV v u)(hn:x ≠ "__name__":=by decide)(hd:(x==("__debug__" : Str))=false:=by decide):PE X (.Name x pos) (tC v):=
 λ_ _ _ H _ I h=>q6V I hg hm hv ⟨v,H,I,r,h⟩ hn hd
variable {a b:Expr} {ta tb:TE} {pos:Pos}
variable {tA tB':TT} {rest:List Expr}
def tAnd(t u:TT):TT:=λσ H Q=>t σ H λc H1=>if c=true then u σ H1 Q else Q false H1
def tOr(t u:TT):TT:=λσ H Q=>t σ H λc H1=>if c=true then Q true H1 else u σ H1 Q
def tNot(t:TT):TT:=λσ H Q=>t σ H λc H1=>Q (!c) H1
theorem z6M(ha:PT X a tA):PW X (.BoolOp .And [a] pos) tA:=by
 intro wh pins s σ H Q I h;refine isTrue_and (thn (ha pins s σ H Q I h) λc s1 e=>?_);cases c with
 | true=>exact isTrue_and_nil e
 | false=>exact e
theorem z7F(ha:PT X a tA):PW X (.BoolOp .Or [a] pos) tA:=by
 intro wh pins s σ H Q I h;refine isTrue_or (thn (ha pins s σ H Q I h) λc s1 e=>?_);cases c with
 | false=>exact isTrue_or_nil e
 | true=>exact e
theorem z2f(ha:PT X a tA)(hb:PW X (.BoolOp .And (b::rest) pos) tB'):PW X (.BoolOp .And (a::b::rest) pos) (tAnd tA tB'):=by
 intro wh pins s σ H Q I h;refine isTrue_and (thn (ha pins s σ H _ I h) λc s1 ⟨H1,I1,q1⟩=>?_);cases c with
 | true=>exact hb wh pins s1 σ H1 Q I1 q1
 | false=>exact⟨H1,I1,q1⟩
theorem z7d(ha:PT X a tA)(hb:PW X (.BoolOp .Or (b::rest) pos) tB'):PW X (.BoolOp .Or (a::b::rest) pos) (tOr tA tB'):=by
 intro wh pins s σ H Q I h;refine isTrue_or (thn (ha pins s σ H _ I h) λc s1 ⟨H1,I1,q1⟩=>?_);cases c with
 | true=>exact⟨H1,I1,q1⟩
 | false=>exact hb wh pins s1 σ H1 Q I1 q1
theorem z4u(ha:PT X a tA):PT X (.UnaryOp .Not a pos) (tNot tA):=by
 intro pins s σ H Q I h;exact isTrue_not (ha pins s σ H (λc H1=>Q (!c) H1) I h)
theorem z4D{op}(h:PE X a t):PE X (.BoolOp op [a] pos) t:=λpins s σ H Q I hw=>BoolOp_one (h pins s σ H Q I hw)
def tIf(t:TT)(ta tb:TE):TE:=λσ H Q=>t σ H λc H1=>if c=true then ta σ H1 Q else tb σ H1 Q
theorem q6m(hc:PT X c tA)(ha:PE X a ta)(hb:PE X b tb):PE X (.IfExp c a b pos) (tIf tA ta tb):=by
 intro pins s σ H Q I h;refine wpAny_IfExp (thn (hc pins s σ H _ I h) λd s1 ⟨H1,I1,q1⟩=>?_);cases d with
 | true=>exact ha pins s1 σ H1 Q I1 q1
 | false=>exact hb pins s1 σ H1 Q I1 q1
end
end
section
def SqL(K:PySem.W.Frag)(H:Hp)(a:Addr)(xs:List V):Prop:=
 Rd H a (.lst xs) \/
  ∃(o:Obj) (its:Array Value) (n:Nat),K.lookup a=some o/\o.cls=.type "list" /\ o.dict=none/\o.data=.seq its n/\its.size<=sizeLine/\Vals xs its.toList
def SqT(K:PySem.W.Frag)(H:Hp)(a:Addr)(xs:List V):Prop:=
 Rd H a (.tup xs) \/
  ∃(o:Obj) (its:Array Value) (n:Nat),K.lookup a=some o/\(o.cls=.type "tuple" /\ o.dict=none)/\o.data=.seq its n/\its.size<=sizeLine/\Vals xs its.toList
def absV:Value->Option V
 | .none=>some .non
 | .bool b=>some (.bl b)
 | .int i _=>some (.int i)
 | .str x _=>some (.str x)
 | .bytes b _=>some (.byt b)
 | .float b _=>some (.flt b)
 | .ref a=>some (.ref a)
 | .type n=>some (.ty n)
 | _=>none
theorem RelV.abs(r:RelV x u):absV u=some x:=by
 cases x with
 | non=>cases r;rfl
 | bl _=>cases r;rfl
 | int _=>obtain⟨t,rfl⟩:=r;rfl
 | str _=>obtain⟨t,rfl⟩:=r;rfl
 | byt _=>obtain⟨t,rfl⟩:=r;rfl
 | flt _=>obtain⟨t,rfl⟩:=r;rfl
 | ref _=>cases r;rfl
 | ty _=>cases r;rfl
theorem RelV.inj(r:RelV x u)(q:RelV y u):x=y:=x4 (r.abs.symm.trans q.abs)
theorem Vals.inj(h:Vals xs us):Vals ys us->xs=ys:=by
 induction h generalizing ys with
 | nil=>intro t;cases t;rfl
 | cons r _ ih=>intro t;cases t with | cons r' t'=>rw[r.inj r',ih t']
section
variable {X:Cx} {pins:List (Addr×Obj)} {σ:St} {H:Hp} {s:Shared} {a:Addr} {xs ys:List V}
theorem SqL.of{K:PySem.W.Frag}(h:H a=some (.lst xs)):SqL K H a xs:=.inl (.inl h)
theorem SqT.of{K:PySem.W.Frag}(h:H a=some (.tup xs)):SqT K H a xs:=.inl (.inl h)
theorem Inv.list(I:Inv X pins σ H s)(h:SqL X.K H a xs):∃its:List Value,Vals xs its/\PlainL s.heap a its.toArray/\xs.length<=sizeLine:=by
 rcases h with h | ⟨o,its,n,hk,hc,hd,hs,hz,r⟩
 ·obtain⟨z,its,n,r,e⟩:=h.ok I.hok;exact⟨its,r,⟨_,n,e,rfl,rfl,rfl⟩,z⟩
 ·refine⟨its.toList,r,⟨o,n,I.kIn a o hk,hc,hd,by simpa using hs⟩,?_⟩;have e:=r.length;simp only[F5]at e;omega
theorem Inv.tuple(I:Inv X pins σ H s)(h:SqT X.K H a xs):∃its:List Value,Vals xs its/\IsTup s.heap a its.toArray/\xs.length<=sizeLine:=by
 rcases h with h | ⟨o,its,n,hk,hc,hs,hz,r⟩
 ·obtain⟨z,its,r,p⟩:=h.ok I.hok;exact⟨its,r,p.tup,z⟩
 ·refine⟨its.toList,r,⟨o,I.kIn a o hk,hc.1,n,by simpa using hs⟩,?_⟩;have e:=r.length;simp only[F5]at e;omega
theorem Inv.tupleN(I:Inv X pins σ H s)(h:SqT X.K H a xs):∃o,s.heap.get? a=some o/\o.cls=.type "tuple" /\ o.dict=none:=by
 rcases h with h | ⟨o,its,n,hk,hc,hs,hz,r⟩
 ·obtain⟨z,its,r,o,e,c,_⟩:=h.ok I.hok;exact⟨o,e,c.1,c.2⟩
 ·exact⟨o,I.kIn a o hk,hc.1,hc.2⟩
theorem Inv.list_inj(I:Inv X pins σ H s)(h:SqL X.K H a xs)(h':SqL X.K H a ys):xs=ys:=by
 obtain⟨its,r,⟨o,n,e,_,_,d⟩,_⟩:=I.list h;obtain⟨its',r',⟨o',n',e',_,_,d'⟩,_⟩:=I.list h';rw[e]at e';cases e';rw[d]at d';injection d' with d1 _
 have:its=its':=by simpa using congrArg Array.toList d1
 subst this;exact r.inj r'
theorem Inv.tuple_inj(I:Inv X pins σ H s)(h:SqT X.K H a xs)(h':SqT X.K H a ys):xs=ys:=by
 obtain⟨its,r,⟨o,e,_,n,d⟩,_⟩:=I.tuple h;obtain⟨its',r',⟨o',e',_,n',d'⟩,_⟩:=I.tuple h';rw[e]at e';cases e';rw[d]at d';injection d' with d1 _
 have:its=its':=by simpa using congrArg Array.toList d1
 subst this;exact r.inj r'
end
section
variable {X:Cx} {pins:List (Addr×Obj)} {σ:St} {H:Hp} {s:Shared} {E:Value->Shared->Prop}
end
section
variable {X:Cx} {st:Stmt} {rest:List Stmt} {t u:TS} {e:Expr} {te:TE} {pos:Pos}
def y0G:TS:=λD σ H=>D.nx σ H
def tSeq(t u:TS):TS:=λD σ H=>t {D with nx:=u D} σ H
theorem z6s:PSs X [] y0G:=λ_ _ σ H _ I h=>Y4 ⟨σ,H,I,h⟩
theorem q4z(h1:PS X st t)(h2:PSs X rest u):PSs X (st::rest) (tSeq t u):=by
 intro pins s σ H D I h;refine w2N (thn (h1 pins s σ H {D with nx:=u D} I h) λf s1 q=>?_);cases f with
 | next=>
  obtain⟨σ',H',I',q⟩:=q;exact h2 pins s1 σ' H' D I' q
 | ret v=>exact q
 | brk=>exact q
 | cont=>exact q
theorem z7o(h1:PS X st t):PSs X [st] t:=by
 intro pins s σ H D I h;refine w2N (thn (h1 pins s σ H D I h) λf s1 q=>?_);cases f with
 | next=>exact Y4 q
 | ret v=>exact q
 | brk=>exact q
 | cont=>exact q
theorem Inv.quiet(I:Inv X pins σ H s):interactive X.env=false:=by simp[interactive,I.ok.kind]
def y1E(te:TE):TS:=λD σ H=>te σ H λ_ H1=>D.nx σ H1
theorem q7W(he:PE X e te)(hs:swapsWith e none pos.line X.env=pure false:=by rfl):PS X (.Expr e pos) (y1E te):=by
 intro pins s σ H D I h;exact wpAny_Expr_any (thn (he pins s σ H _ I h) λv s1 ⟨x,H1,I1,r1,q1⟩=>⟨σ,H1,I1,q1⟩) I.quiet hs
def tRet(te:TE):TS:=λD σ H=>te σ H D.rt
theorem z0w(he:PE X e te):PS X (.Return (some e) pos) (tRet te):=by
 intro pins s σ H D I h;exact wpAny_Return_some (thn (he pins s σ H _ I h) λv s1 ⟨x,H1,I1,r1,q1⟩=>⟨x,σ,H1,I1,r1,q1⟩)
def tIfS(c:TT)(t u:TS):TS:=λD σ H=>c σ H λb H1=>if b=true then t D σ H1 else u D σ H1
theorem z5K(hc:PT X c tc)(ha:PSs X a t)(hb:PSs X b u):PS X (.If c a b pos) (tIfS tc t u):=by
 intro pins s σ H D I h;refine wpAny_If (thn (hc pins s σ H _ I h) λd s1 ⟨H1,I1,q1⟩=>?_);cases d with
 | true=>exact ha pins s1 σ H1 D I1 q1
 | false=>exact hb pins s1 σ H1 D I1 q1
def z9J:TS:=λ_ _ _=>False
theorem V1:PSs X sts z9J:=λ_ _ _ _ _ _ h=>h.elim
end
abbrev TG:=V->St->Hp->(St->Hp->Prop)->Prop
abbrev TGs:=List V->St->Hp->(St->Hp->Prop)->Prop
def PG(X:Cx)(target:Expr)(t:TG):Prop:=
 ∀(pins:List (Addr×Obj)) (s:Shared) (σ:St) (H:Hp) (v:V) (u:Value) (Q:St->Hp->Prop),Inv X pins σ H s->RelV v u->t v σ H Q ->
  wpAny (model X.prog X.w) X.A (assign target X.env u) (λ_ s'=>∃σ' H',Inv X pins σ' H' s'/\Q σ' H') X.xe s
def PGs(X:Cx)(ts:List Expr)(t:TGs):Prop:=
 ∀(pins:List (Addr×Obj)) (s:Shared) (σ:St) (H:Hp) (vs:List V) (us:List Value) (Q:St->Hp->Prop),Inv X pins σ H s->Vals vs us->t vs σ H Q ->
  wpAny (model X.prog X.w) X.A (assignInOrder ((assignEach ts X.env).map (·.2)) us) (λ_ s'=>∃σ' H',Inv X pins σ' H' s'/\Q σ' H') X.xe s
section
variable {X:Cx} {pos:Pos}
def Y8(i:Nat):TG:=λv σ H Q=>Q (σ.set i (some v)) H
theorem z0M(hN:X.N.Nodup)(hi:X.N[i]? = some x)(hx:Loc X.env.scope x)(hf:X.fn x=true\/X.env.scope.names.lookup x=some .local:=by first | exact .inl rfl | exact .inr rfl | assumption):PG X (.Name x pos) (Y8 i):=by
 intro pins s σ H v u Q I r h;exact wpAny_assign_Name (q6s I hN hi hx r (λs' I'=>⟨_,H,I',h⟩) hf)
def gNil:TGs:=λvs σ H Q=>vs=[]/\Q σ H
def z8c(t:TG)(u:TGs):TGs:=λvs σ H Q=>∃v r,vs=v::r/\t v σ H λσ' H'=>u r σ' H' Q
theorem z6I:PGs X [] gNil:=by
 intro pins s σ H vs us Q I r h;obtain⟨e,h⟩:=h;subst e;cases r;exact assignInOrder_nil ⟨σ,H,I,h⟩
theorem z2D(h1:PG X e t)(h2:PGs X es u)
  (hs:(assignEach (e::es) X.env).map (·.2)=assign e X.env::(assignEach es X.env).map (·.2):=by rfl):PGs X (e::es) (z8c t u):=by
 intro pins s σ H vs us Q I r h;obtain⟨v,vr,e1,h⟩:=h;subst e1;cases r with
 | cons r rr=>
  rw[hs];refine assignInOrder_cons (thn (h1 pins s σ H _ _ _ I r h) λ_ s1 ⟨σ1,H1,I1,q1⟩=>?_);exact h2 pins s1 σ1 H1 _ _ Q I1 rr q1
def gTup(K:PySem.W.Frag)(n:Nat)(t:TGs):TG:=λv σ H Q=>∃a xs,v=.ref a/\SqT K H a xs/\xs.length=n/\t xs σ H Q
theorem z4m(hc:X.calm=true)(h:PGs X es t)
  (hn:(assignEach es X.env).length=n:=by rfl) (hst:(assignEach es X.env).findIdx? (·.1)=none:=by rfl):PG X (.Tuple es k pos) (gTup X.K n t):=by
 intro pins s σ H v u Q I r hw;obtain⟨a,xs,e1,hq,hl,hw⟩:=hw;subst e1;cases r;obtain⟨its,rv,ht,hz⟩:=I.tuple hq;refine assign_Tuple_tuple (I.ok.hd hc) ht (by simp[hn,←hl,rv.length]) hst λh' hx=>?_
 have I1:Inv X pins σ H {s with heap:=h'}:=I.kept (t':=s.toks) λb o e=>hx b o (w6 (i7 e)) e;exact h pins _ σ H xs _ Q I1 (by simpa using rv) hw
def tAsg(te:TE)(g:TG):TS:=λD σ H=>te σ H λx H1=>g x σ H1 D.nx
theorem z8G(he:PE X e te)(hg:PG X tg g)(hs:swapsWithSole [tg] e pos.line X.env=pure false:=by rfl)(hw:swappedStores [tg] e X.env=pure none:=by rfl)
  (h1:(assignEach [tg] X.env).map (·.2)=[assign tg X.env]:=by rfl):PS X (.Assign [tg] e pos) (tAsg te g):=by
 intro pins s σ H D I h;refine wpAny_Assign_stores (thn (he pins s σ H _ I h) λv s1 ⟨x,H1,I1,r1,q1⟩=>?_) hs hw;rw[h1];exact thn (hg pins s1 σ H1 x v _ I1 r1 q1) λ_ s2 q=>q
theorem z0q(hN:X.N.Nodup)(hi:X.N[i]? = some x)(hx:Loc X.env.scope x)(he:PE X e te)(hs:swapsWith e (some (.Name x pos')) pos.line X.env=pure false:=by rfl)(hf:X.fn x=true\/X.env.scope.names.lookup x=some .local:=by first | exact .inl rfl | exact .inr rfl | assumption) :
  PS X (.Assign [.Name x pos'] e pos) (tAsg te (Y8 i)):=by
 intro pins s σ H D I h;refine wpAny_Assign_Name (thn (he pins s σ H _ I h) λv s1 ⟨y,H1,I1,r1,q1⟩=>?_) hs;exact q6s I1 hN hi hx r1 (λs2 I2=>⟨_,H1,I2,q1⟩) hf
end
section
variable {X:Cx} {pos:Pos}
def z9G(c:TT)(tb:TS):TS:=λD σ H=>∃W:Nat->St->Hp->Prop,(∃m,W m σ H)/\∀m σ H,W m σ H ->
 c σ H λb H1=>if b=true then ∃N:St->Hp->Prop,(∀σ' H',N σ' H'->∃m',m'<m/\W m' σ' H')/\tb {D with nx:=N,ct:=N,bk:=D.nx} σ H1 else D.nx σ H1
theorem z3L(hp:PassesOwn (model X.prog X.w) X.A X.env X.xe)(hc:PT X c tc)(hb:PSs X body tb):PS X (.While c body [] pos) (z9G tc tb):=by
 intro pins s σ H D I h;obtain⟨W,⟨m0,w0⟩,turn⟩:=h;refine wpAny_While (codeAny_whileLoop (λn s'=>∃σ' H',Inv X pins σ' H' s'/\W n σ' H') ?_ m0 ⟨σ,H,I,w0⟩)
 rintro n s1 ⟨σ1,H1,I1,w1⟩
 refine U7 hp (thn (hc pins s1 σ1 H1 _ I1 (turn n σ1 H1 w1)) λb s2 ⟨H2,I2,q2⟩=>?_);cases b with
 | true=>
  obtain⟨N,hN,q2⟩:=q2;rw[d4 rfl];refine U7 hp (thn (hb pins s2 σ1 H2 _ I2 q2) λf s3 q3=>?_);cases f with
  | next=>
   obtain⟨σ3,H3,I3,n3⟩:=q3;obtain⟨m',hm,w3⟩:=hN σ3 H3 n3;exact⟨m',hm,σ3,H3,I3,w3⟩
  | cont=>
   obtain⟨σ3,H3,I3,n3⟩:=q3;obtain⟨m',hm,w3⟩:=hN σ3 H3 n3;exact⟨m',hm,σ3,H3,I3,w3⟩
  | brk=>exact q3
  | ret v=>exact q3
 | false=>
  rw[d6 G5];exact Y4 ⟨σ1,H2,I2,q2⟩
end
structure It where
 go:Nat->Hp->Prop
 yld:Nat->Hp->V->Hp->Prop
 stop:Nat->Hp->Prop
def FpOk(X:Cx)(pins:List (Addr×Obj))(H:Hp)(b:Addr):Prop:=
 H b=none/\b≠X.env.locals/\b∉X.fs/\(b∈X.ex\/X.s₀.heap.objs.size<=b)/\(∀x c,X.env.cells.lookup x=some c->c≠b)/\∀p∈X.pn++pins,p.1≠b
theorem Inv.fpOk(I:Inv X pins σ H s)(hb:s.heap.objs.size<=b)(hn:H' b=none):FpOk X pins H' b:=by
 refine⟨hn,w2O (p5 I.lt hb),I.nofs hb,.inr (m7 I.sz hb),λx c e z=>?_,λp hp z=>?_⟩
 ·obtain⟨v,q⟩:=I.cell x c e;exact absurd (p5 q.lt (by rw[z];exact hb)) (K0 _)
 ·exact absurd (p5 (i7 (I.pin p hp).1) (by rw[z];exact hb)) (K0 _)
structure Turn(P:Program)(w:World)(K:PySem.W.Frag)(tg:Expr)(J:It)(fp:List Addr)(it:Addr)(tn:Nat->Heap->Prop):Prop where
 mem:it∈fp
 obj:∀i h,tn i h->∀b∈fp,∃o,h.get? b=some o/\∀v,o.data ≠ .cell v
 keep:∀i h h',tn i h->(∀b∈fp,∀o,h.get? b=some o->h'.get? b=some o)->tn i h'
 item:∀(X:Cx),X.prog=P->X.w=w->X.K=K->X.calm=true->∀(i:Nat) (pins:List (Addr×Obj)) (s:Shared) (σ:St) (H:Hp) (E:Value->Shared->Prop),Inv X pins σ H s->(∀b∈fp,FpOk X pins H b)->tn i s.heap->J.go i H ->
  wpAny (model P w) X.A (pyNext (.ref it)) (λr s1=>∃u,r=some u /\
   wpAny (model P w) X.A (letOwnedTupleGo tg (.ref it) u) (λ_ s2=>∃x H',Inv X pins σ H' s2/\RelV x u/\J.yld i H x H'/\tn (i+1) s2.heap/\∀b∈fp,H' b=none) E s1) E s
 done:∀(X:Cx),X.prog=P->X.w=w->X.K=K->X.calm=true->∀(i:Nat) (pins:List (Addr×Obj)) (s:Shared) (σ:St) (H:Hp) (E:Value->Shared->Prop),Inv X pins σ H s->(∀b∈fp,FpOk X pins H b)->tn i s.heap->J.stop i H ->
  wpAny (model P w) X.A (pyNext (.ref it)) (λr s1=>r=none/\Inv X pins σ H s1) E s
 self:∀(A:Around) (i:Nat) (s:Shared) (Q:Value->Shared->Prop) (E:Value->Shared->Prop),tn i s.heap->Q (.ref it) s->wpAny (model P w) A (pyIter (.ref it)) Q E s
abbrev TI:=St->Hp->(It->Hp->Prop)->Prop
def PIE(X:Cx)(pins:List (Addr×Obj))(σ:St)(tg:Expr)(R:It->Hp->Prop)(itv:Value)(s2:Shared):Prop:=
 ∃(it:Addr) (fp:List Addr) (tn:Nat->Heap->Prop) (J:It) (H':Hp),itv=.ref it/\Inv X pins σ H' s2/\Turn X.prog X.w X.K tg J fp it tn/\tn 0 s2.heap/\(∀b∈fp,FpOk X pins H' b)/\R J H'
def PI(X:Cx)(tg iter:Expr)(wi:TI):Prop:=
 ∀(pins:List (Addr×Obj)) (s:Shared) (σ:St) (H:Hp) (R:It->Hp->Prop),Inv X pins σ H s->wi σ H R ->
  wpAny (model X.prog X.w) X.A (eval iter X.env) (λv s1=>wpAny (model X.prog X.w) X.A (pyIter v) (PIE X pins σ tg R) X.xe s1) X.xe s
theorem z0o(ho:s.heap.get? it=some o)(hc:o.cls=.type n)(hd:o.data=.fields vs)
    (hn : ["enumerate","zip","dict_itemiterator","dict_reverseitemiterator","odict_iterator","itertools.zip_longest","itertools.pairwise"].contains n=false) (hQ:Q () s):wpAny M A (letOwnedTupleGo tg (.ref it) u) Q E s:=by
  unfold letOwnedTupleGo;cases tg<;>first
    | exact f8 hQ
    | (cases u<;>first
        | exact f8 hQ
        | (refine b0 (wpAny_load ho ?_)
           rw[hc,hd];show wpAny M A (if(["enumerate","zip","dict_itemiterator","dict_reverseitemiterator","odict_iterator","itertools.zip_longest","itertools.pairwise"].contains n&&vs[0]? == some (rawInt _))=true then _ else _) Q E s;rw[d6 (by intro h;rw[hn,P3]at h;cases h)];exact f8 hQ))
def Itl(K:PySem.W.Frag)(a:Addr):It:=
 ⟨λi H=>∃xs x,SqL K H a xs/\xs[i]? = some x,λi H x H'=>H'=H/\∀xs,SqL K H a xs->xs[i]? = some x,λi H=>∃xs,SqL K H a xs/\xs.length<=i⟩
def Itt(K:PySem.W.Frag)(a:Addr):It:=
 ⟨λi H=>∃xs x,SqT K H a xs/\xs[i]? = some x,λi H x H'=>H'=H/\∀xs,SqT K H a xs->xs[i]? = some x,λi H=>∃xs,SqT K H a xs/\xs.length<=i⟩
def Itr(lo:Int)(n:Nat):It:=⟨λi _=>i<n,λi H x H'=>H'=H/\x=.int (lo+i),λi _=>n<=i⟩
theorem z1X{P:Program}{w:World}{K:PySem.W.Frag}{tg:Expr}(a it:Addr):Turn P w K tg (Itl K a) [it] it (λi h=>h.IsListIter it a i) where
 mem:=by simp
 obj:=λi h st b hb=>by
  have e:b=it:=by simpa using hb
  subst e;obtain⟨o,e,c,d⟩:=st;exact⟨o,e,λv z=>by rw[d]at z;cases z⟩
 keep:=λi h h' st k=>st.at λo e=>k it (by simp) o e
 item:=by
  intro X hP hw hK hc i pins s σ H E I hf st hg;subst hP hw hK;obtain⟨xs,x,hq,hx⟩:=hg;obtain⟨its,rv,p,hz⟩:=I.list hq;obtain⟨u,hu,ru⟩:=rv.get hx;obtain⟨f0,f1,f2,f3,f4,f5⟩:=hf it (by simp);refine w28 st p.isList (x:=u) (by simpa using hu) λh' st' sb=>?_
  have I1:Inv X pins σ H {s with heap:=h'}:=I.turned (t':=s.toks) (λb o hb e=>(sb.2 b hb).trans e) f0 f1 f3 f4 f5;obtain⟨o,e,c,d⟩:=id st';exact⟨u,rfl,z0o (s:={s with heap:=h'}) e c d (by decide) ⟨x,H,I1,ru,⟨rfl,λys hy=>by rw[I.list_inj hy hq];exact hx⟩,st',λb hb=>(hf b hb).1⟩⟩
 done:=by
  intro X hP hw hK hc i pins s σ H E I hf st hg;subst hP hw hK;obtain⟨xs,hq,hx⟩:=hg;obtain⟨its,rv,p,hz⟩:=I.list hq;obtain⟨f0,f1,f2,f3,f4,f5⟩:=hf it (by simp);have hl:=rv.length;exact w3f (I.ok.hd hc) st p.isList (by simp;omega) λh' eb=>⟨rfl,I.turned (t':=s.toks) (λb o hb e=>eb b o hb e) f0 f1 f3 f4 f5⟩
 self:=λ_ _ _ _ _ st h=>wpAny_pyIter_listiter st h
theorem q9L{P:Program}{w:World}{K:PySem.W.Frag}{tg:Expr}(a it:Addr):Turn P w K tg (Itt K a) [it] it (λi h=>h.IsTupleIter it a i) where
 mem:=by simp
 obj:=λi h st b hb=>by
  have e:b=it:=by simpa using hb
  subst e;obtain⟨o,e,c,d⟩:=st;exact⟨o,e,λv z=>by rw[d]at z;cases z⟩
 keep:=λi h h' st k=>st.at λo e=>k it (by simp) o e
 item:=by
  intro X hP hw hK hc i pins s σ H E I hf st hg;subst hP hw hK;obtain⟨xs,x,hq,hx⟩:=hg;obtain⟨its,rv,p,hz⟩:=I.tuple hq;obtain⟨u,hu,ru⟩:=rv.get hx;obtain⟨f0,f1,f2,f3,f4,f5⟩:=hf it (by simp);refine wpAny_pyNext_tuple_item st (show s.heap.IsTuple a its.toArray from p) (x:=u) (by simpa using hu) λh' st' sb=>?_
  have I1:Inv X pins σ H {s with heap:=h'}:=I.turned (t':=s.toks) (λb o hb e=>(sb.2 b hb).trans e) f0 f1 f3 f4 f5;obtain⟨o,e,c,d⟩:=id st';exact⟨u,rfl,z0o (s:={s with heap:=h'}) e c d (by decide) ⟨x,H,I1,ru,⟨rfl,λys hy=>by rw[I.tuple_inj hy hq];exact hx⟩,st',λb hb=>(hf b hb).1⟩⟩
 done:=by
  intro X hP hw hK hc i pins s σ H E I hf st hg;subst hP hw hK;obtain⟨xs,hq,hx⟩:=hg;obtain⟨its,rv,p,hz⟩:=I.tuple hq;obtain⟨f0,f1,f2,f3,f4,f5⟩:=hf it (by simp);have hl:=rv.length;exact wpAny_pyNext_tuple_end (I.ok.hd hc) st (show s.heap.IsTuple a its.toArray from p) (by simp;omega) λh' eb=>⟨rfl,I.turned (t':=s.toks) (λb o hb e=>eb b o hb e) f0 f1 f3 f4 f5⟩
 self:=λ_ _ _ _ _ st h=>wpAny_pyIter_tupleiter st h
theorem q9x{P:Program}{w:World}{K:PySem.W.Frag}{tg:Expr}(it:Addr)(lo:Int)(n:Nat):Turn P w K tg (Itr lo n) [it] it (λi h=>IsRangeIter h it (lo+(i:Nat)*1) ((n:Int) - (i:Nat)) 1) where
 mem:=by simp
 obj:=λi h st b hb=>by
  have e:b=it:=by simpa using hb
  subst e;exact⟨_,st,λv z=>by
   have z':Data.fields _=Data.cell v:=z;cases z'⟩
 keep:=λi h h' st k=>k it (by simp) _ st
 item:=by
  intro X hP hw hK hc i pins s σ H E I hf st hg;subst hP hw hK;obtain⟨f0,f1,f2,f3,f4,f5⟩:=hf it (by simp);have W:=Walks.range (prog:=X.prog) (w:=X.w) (I.ok.hd hc) it lo 1 n;refine W.item i s _ _ hg st λv h' tk hv st' kk=>?_
  obtain⟨t,rfl⟩:=hv;have I1:Inv X pins σ H {s with heap:=h',toks:=tk}:=I.turned (λb o hb e=>kk b o (by simpa using hb) e) f0 f1 f3 f4 f5;refine⟨_,rfl,z0o (s:={s with heap:=h',toks:=tk}) (n:="range_iterator") st' rfl rfl (by decide) ⟨.int (lo+i),H,I1,⟨t,?_⟩,⟨rfl,rfl⟩,st',λb hb=>(hf b hb).1⟩⟩;rw[Int.mul_one]
 done:=by
  intro X hP hw hK hc i pins s σ H E I hf st hg;subst hP hw hK;obtain⟨f0,f1,f2,f3,f4,f5⟩:=hf it (by simp);exact wpAny_pyNext_range_end (I.ok.hd hc) st (by have:n<=i:=hg;omega) λh' eb=>⟨rfl,I.turned (t':=s.toks) (λb o hb e=>eb b o hb e) f0 f1 f3 f4 f5⟩
 self:=λ_ _ _ _ _ st h=>wpAny_pyIter_rangeiter st h
end
section
section
variable {X:Cx} {tg:Expr}
def y0z(K:PySem.W.Frag)(tl:TE):TI:=λσ H R=>tl σ H λx H1=>∃a,x=.ref a/\(∃xs,SqL K H1 a xs)/\R (Itl K a) H1
def iTup(K:PySem.W.Frag)(tl:TE):TI:=λσ H R=>tl σ H λx H1=>∃a,x=.ref a/\(∃xs,SqT K H1 a xs)/\R (Itt K a) H1
theorem q8j(hl:PE X l tl):PI X tg l (y0z X.K tl):=by
 intro pins s σ H R I h;refine thn (hl pins s σ H _ I h) λv s1 ⟨x,H1,I1,r1,q1⟩=>?_
 obtain⟨a,e,⟨xs,hq⟩,q⟩:=q1;subst e;cases r1;obtain⟨its,rv,p,hz⟩:=I1.list hq;refine P0 p.isList ?_;refine⟨s1.heap.objs.size,[s1.heap.objs.size],_,_,H1,rfl,I1.kept (t':=s1.toks) λb o e=>j5 _ e,z1X a _,⟨_,v9 _ rfl,rfl,rfl⟩,λb hb=>?_,q⟩;have e:b=s1.heap.objs.size:=by simpa using hb
 subst e;exact I1.fpOk (j1 _) (I1.hok.fresh (j1 _))
theorem z9q(hl:PE X l tl):PI X tg l (iTup X.K tl):=by
 intro pins s σ H R I h;refine thn (hl pins s σ H _ I h) λv s1 ⟨x,H1,I1,r1,q1⟩=>?_
 obtain⟨a,e,⟨xs,hq⟩,q⟩:=q1;subst e;cases r1;obtain⟨its,rv,p,hz⟩:=I1.tuple hq;refine w1Q (show s1.heap.IsTuple a its.toArray from p) ?_;refine⟨s1.heap.objs.size,[s1.heap.objs.size],_,_,H1,rfl,I1.kept (t':=s1.toks) λb o e=>j5 _ e,q9L a _,⟨_,v9 _ rfl,rfl,rfl⟩,λb hb=>?_,q⟩;have e:b=s1.heap.objs.size:=by simpa using hb
 subst e;exact I1.fpOk (j1 _) (I1.hok.fresh (j1 _))
theorem z3p{pins:List (Addr×Obj)}{σ:St}{H:Hp}{s:Shared}{R:It->Hp->Prop}{E:Value->Shared->Prop}{lo hi:Int}{t u v:Tok}{tk:Nat}(I:Inv X pins σ H s)(h1 : -(2^62)<=lo)(h2:lo<2^62)(h3 : -(2^62)<=hi)(h4:hi<2^62)
  (q:R (Itr lo (hi - lo).toNat) H):wpAny (model X.prog X.w) X.A (pyIter (.ref s.heap.objs.size)) (PIE X pins σ tg R) E {s with heap:=s.heap.push {cls:=.type "range",data:=.fields #[.int lo t,.int hi u,.int 1 v]},toks:=tk}:=by
 refine wpAny_pyIter_range (IsRange.new ..) (small_one h1 h2 h3 h4) ?_;have I1:Inv X pins σ H {s with heap:=s.heap.push {cls:=.type "range",data:=.fields #[.int lo t,.int hi u,.int 1 v]},toks:=tk}:=I.kept λb o e=>j5 _ e;refine⟨(s.heap.push {cls:=.type "range",data:=.fields #[.int lo t,.int hi u,.int 1 v]}).objs.size,[(s.heap.push {cls:=.type "range",data:=.fields #[.int lo t,.int hi u,.int 1 v]}).objs.size],_,_,H,rfl,
  I1.kept (t':=tk) λb o e=>j5 _ e,q9x _ lo (hi - lo).toNat,?_,λb hb=>?_,q⟩
 ·have e1:lo+((0:Nat):Int)*1=lo:=by simp
  have e2:(((hi - lo).toNat:Nat):Int) - ((0:Nat):Int)=Builtin.Range.rangeSize lo hi 1:=by rw[rangeSize_one];split<;>omega
  show IsRangeIter _ _ (lo+((0:Nat):Int)*1) ((((hi - lo).toNat:Nat):Int) - ((0:Nat):Int)) 1;rw[e1,e2];exact v9 _ rfl
 ·have e:b=(s.heap.push {cls:=.type "range",data:=.fields #[.int lo t,.int hi u,.int 1 v]}).objs.size:=by simpa using hb
  subst e;exact I1.fpOk (j1 _) (I1.hok.fresh (j1 _))
def y0O(ta:TA):TI:=λσ H R=>ta σ H λvs H1=>∃j:Int,vs=[.int j] /\ -(2^62)<=j/\j<2^62/\R (Itr 0 j.toNat) H1
theorem z1v(hg:Gl X "range")(hm:X.mg "range" = none)(ha:PA X [a] ta)(hs:starEach [a] X.env=[(false,eval a X.env)]:=by rfl):PI X tg (.Call (.Name "range" p) [a] [] pos) (y0O ta):=by
 intro pins s σ H R I h;refine Call_ (q6V I hg hm boot_range (w1Z (thn (ha pos pins s σ H _ I h) λus s1 ⟨vs,H1,I1,r1,q1⟩=>?_) hs rfl));obtain⟨j,e,q1,q2,q⟩:=q1;subst e;cases r1 with
 | cons r rr=>
  cases rr;obtain⟨t,rfl⟩:=r;exact call_range_1 (z3p I1 (by omega) (by omega) q1 q2 (by simpa using q))
def tFor(wi:TI)(g:TG)(tb:TS):TS:=λD σ H=>wi σ H λJ H1=>∃W:Nat->Nat->St->Hp->Prop,(∃m,W 0 m σ H1)/\∀i m σ H,W i m σ H ->
 (J.stop i H/\D.nx σ H)\/(J.go i H/\∃N:St->Hp->Prop,(∀σ' H',N σ' H'->∃m',m'<m/\W (i+1) m' σ' H')/\∀x H',J.yld i H x H'->g x σ H' λσ2 H2=>tb {D with nx:=N,ct:=N,bk:=D.nx} σ2 H2)
def q7m(fp:List Addr)(h:Heap):List (Addr×Obj):=fp.filterMap λb=>(h.get? b).map λo=>(b,o)
theorem q2X(hb:b∈fp)(e:h.get? b=some o):(b,o)∈q7m fp h:=G6.mpr ⟨b,hb,by rw[e];rfl⟩
theorem z1h(hp:p∈q7m fp h):p.1∈fp/\h.get? p.1=some p.2:=by
 obtain⟨b,hb,e⟩:=G6.mp hp;cases q:h.get? b with
 | none=>rw[q]at e;cases e
 | some o=>
  rw[q]at e;have e':(b,o)=p:=x4 e;subst e';exact⟨hb,q⟩
theorem Inv.pinned(I:Inv X pins σ H s)(hf:∀b∈fp,FpOk X pins H b)(ho:∀b∈fp,∃o,s.heap.get? b=some o/\∀v,o.data ≠ .cell v):Inv X (pins++q7m fp s.heap) σ H s:=
 I.pins_of λp hp=>(C8.mp hp).elim (λz=>I.pin p (A8 _ z)) λz=>by obtain⟨hb,e⟩:=z1h z;obtain⟨f0,f1,f2,_⟩:=hf p.1 hb;obtain⟨o,e',d⟩:=ho p.1 hb;rw[e]at e';cases e';exact⟨e,f0,f1,f2,d⟩
theorem Inv.unpinned(I:Inv X (pins++pl) σ H s):Inv X pins σ H s:=I.pins_of λp hp=>I.pin p (A8 _ (y0 _ hp))
theorem z4f(hp:PassesOwn (model X.prog X.w) X.A X.env X.xe)(hc:X.calm=true)(hi:PI X tg iter wi)(hg:PG X tg g)(hb:PSs X body tb)
  (hs:∀x,foldedSetIterable iter X.env x=pure x:=by intro _;rfl):PS X (.For tg iter body [] pos) (tFor wi g tb):=by
 intro pins s σ H D I h;refine wpAny_For (thn (hi pins s σ H _ I h) λv s1 h1=>thn h1 λitv s2 h2=>?_) hs;obtain⟨it,fp,tn,J,H2,e,I2,T,st2,f2,W,⟨m0,w0⟩,turn⟩:=h2;subst e;have stat:∀{H':Hp},(∀b∈fp,H' b=none)->∀b∈fp,FpOk X pins H' b:=λhn b hb=>⟨hn b hb,(f2 b hb).2⟩
 refine codeAny_forLoop_any (λn s'=>∃i σ' H',Inv X pins σ' H' s'/\tn i s'.heap/\(∀b∈fp,H' b=none)/\W i n σ' H') ?_ m0 ⟨0,σ,H2,I2,st2,λb hb=>(f2 b hb).1,w0⟩
 rintro n s3 ⟨i,σ3,H3,I3,st3,fr3,w3⟩
 rcases turn i n σ3 H3 w3 with⟨stop,qn⟩ | ⟨go,N,hN,step⟩
 ·refine U7 hp (thn (T.done X rfl rfl rfl hc i pins s3 σ3 H3 X.xe I3 (stat fr3) st3 stop) λr s4 ⟨hr,I4⟩=>?_);subst hr;exact Y4 ⟨σ3,H3,I4,qn⟩
 ·refine U7 hp (thn (T.item X rfl rfl rfl hc i pins s3 σ3 H3 X.xe I3 (stat fr3) st3 go) λr s4 ⟨u,hr,h4⟩=>?_);subst hr;refine U7 hp (thn h4 λ_ s5 ⟨x,H5,I5,r5,y5,st5,fr5⟩=>?_);have I5':=I5.pinned (stat fr5) (T.obj _ _ st5);refine U7 hp (thn (hg _ s5 σ3 H5 x u _ I5' r5 (step x H5 y5)) λ_ s6 ⟨σ6,H6,I6,q6⟩=>?_);refine U7 hp (thn (hb _ s6 σ6 H6 _ I6 q6) λf s7 q7=>?_);have again:∀{σ7:St} {H7:Hp},Inv X (pins++q7m fp s5.heap) σ7 H7 s7->N σ7 H7->∃m,m<n/\∃i σ' H',Inv X pins σ' H' s7/\tn i s7.heap/\(∀b∈fp,H' b=none)/\W i m σ' H':=λ{σ7 H7} I7 n7=>by
   obtain⟨m',hm,w7⟩:=hN σ7 H7 n7;refine⟨m',hm,i+1,σ7,H7,I7.unpinned,T.keep _ _ _ st5 λb hb o e=>(I7.pin (b,o) (A8 _ (A8 _ (q2X hb e)))).1,λb hb=>?_,w7⟩;obtain⟨o,e,d⟩:=T.obj _ _ st5 b hb;exact(I7.pin (b,o) (A8 _ (A8 _ (q2X hb e)))).2.1
  cases f with
  | next=>obtain⟨σ7,H7,I7,n7⟩:=q7;exact again I7 n7
  | cont=>obtain⟨σ7,H7,I7,n7⟩:=q7;exact again I7 n7
  | brk=>obtain⟨σ7,H7,I7,q7⟩:=q7;exact⟨σ7,H7,I7.unpinned,q7⟩
  | ret v=>obtain⟨x7,σ7,H7,I7,r7,q7⟩:=q7;exact⟨x7,σ7,H7,I7.unpinned,r7,q7⟩
end
end
section
abbrev R2:=V->V->Hp->VK->Prop
def OpR(X:Cx)(f:Value->Value->Sem Value)(r:R2):Prop:=
 ∀(pins:List (Addr×Obj)) (s:Shared) (σ:St) (H:Hp) (x y:V) (v u:Value) (Q:VK),Inv X pins σ H s->RelV x v->RelV y u->r x y H Q ->
  wpAny (model X.prog X.w) X.A (f v u) (EP X pins σ Q) X.xe s
def UnR(X:Cx)(f:Value->Sem Value)(r:V->Hp->VK->Prop):Prop:=
 ∀(pins:List (Addr×Obj)) (s:Shared) (σ:St) (H:Hp) (x:V) (v:Value) (Q:VK),Inv X pins σ H s->RelV x v->r x H Q ->
  wpAny (model X.prog X.w) X.A (f v) (EP X pins σ Q) X.xe s
def w9(X:Cx)(f:Value)(r:List V->Hp->VK->Prop):Prop:=
 ∀(pins:List (Addr×Obj)) (s:Shared) (σ:St) (H:Hp) (xs:List V) (us:List Value) (Q:VK),Inv X pins σ H s->Vals xs us->r xs H Q ->
  wpAny (model X.prog X.w) X.A (call f us) (EP X pins σ Q) X.xe s
def TruR(X:Cx)(r:V->Hp->(Bool->Hp->Prop)->Prop):Prop:=
 ∀(pins:List (Addr×Obj)) (s:Shared) (σ:St) (H:Hp) (x:V) (v:Value) (Q:Bool->Hp->Prop),Inv X pins σ H s->RelV x v->r x H Q ->
  wpAny (model X.prog X.w) X.A (truthy v) (TP X pins σ Q) X.xe s
def tOp(r:R2)(ta tb:TE):TE:=λσ H Q=>ta σ H λx H1=>tb σ H1 λy H2=>r x y H2 Q
def tUn(r:V->Hp->VK->Prop)(ta:TE):TE:=λσ H Q=>ta σ H λx H1=>r x H1 Q
def rI(C:Int->Int->Prop)(g:Int->Int->V):R2:=λx y H Q=>∃i j,x=.int i/\y=.int j/\C i j/\Q (g i j) H
def rI0(g:Int->Int->V):R2:=λx y H Q=>∃i j,x=.int i/\y=.int j/\Q (g i j) H
def rU(g:Int->V):V->Hp->VK->Prop:=λx H Q=>∃i,x=.int i/\Q (g i) H
section
variable {X:Cx} {a b c:Expr} {ta tb tc:TE} {pos:Pos}
theorem binT(ha:PE X a ta)(hb:PE X b tb){pins:List (Addr×Obj)}{s:Shared}{σ:St}{H:Hp}{R:V->V->Hp->Prop}(I:Inv X pins σ H s)
  (h:ta σ H λx H1=>tb σ H1 λy H2=>R x y H2) {Q:Value->Shared->Prop} {f:Value->Value->Sem Value}
  (hf:∀v u s2 x y H2,Inv X pins σ H2 s2->RelV x v->RelV y u->R x y H2->wpAny (model X.prog X.w) X.A (f v u) Q X.xe s2) :
  wpAny (model X.prog X.w) X.A (eval a X.env) (λv s₁=>wpAny (model X.prog X.w) X.A (eval b X.env) (λu s₂=>wpAny (model X.prog X.w) X.A (f v u) Q X.xe s₂) X.xe s₁) X.xe s:=by
 refine thn (ha pins s σ H _ I h) λv s1 ⟨x,H1,I1,r1,q1⟩=>?_;refine thn (hb pins s1 σ H1 _ I1 q1) λu s2 ⟨y,H2,I2,r2,q2⟩=>?_;exact hf v u s2 x y H2 I2 r1 r2 q2
theorem z9O(ho:OpR X (binaryOp op) r)(ha:PE X a ta)(hb:PE X b tb):PE X (.BinOp a op b pos) (tOp r ta tb):=by
 intro pins s σ H Q I h;exact wpAny_BinOp (binT ha hb I h λv u s2 x y H2 I2 rx ry q=>ho pins s2 σ H2 x y v u Q I2 rx ry q)
theorem y0B(ho:UnR X (unaryOp op) r)(ha:PE X a ta):PE X (.UnaryOp op a pos) (tUn r ta):=by
 intro pins s σ H Q I h;exact UnaryOp_ (thn (ha pins s σ H _ I h) λv s1 ⟨x,H1,I1,r1,q1⟩=>ho pins s1 σ H1 x v Q I1 r1 q1)
theorem opI{f:Value->Value->Sem Value}{C:Int->Int->Prop}{g:Int->Int->Int}
  (rule:∀(i j:Int) (t u:Tok) (s:Shared) (Q:Value->Shared->Prop) (E:Value->Shared->Prop),C i j->Q (.int (g i j) s.toks) {s with toks:=s.toks+1} -> wpAny (model X.prog X.w) X.A (f (.int i t) (.int j u)) Q E s) :
  OpR X f (rI C λi j=>.int (g i j)):=by
 intro pins s σ H x y v u Q I rx ry h;obtain⟨i,j,rfl,rfl,hc,q⟩:=h;obtain⟨t,rfl⟩:=rx;obtain⟨t',rfl⟩:=ry;exact rule i j t t' s _ _ hc ⟨.int (g i j),H,I.tok _,⟨_,rfl⟩,q⟩
theorem opI0{f:Value->Value->Sem Value}{g:Int->Int->Int}
  (rule:∀(i j:Int) (t u:Tok) (s:Shared) (Q:Value->Shared->Prop) (E:Value->Shared->Prop),Q (.int (g i j) s.toks) {s with toks:=s.toks+1} -> wpAny (model X.prog X.w) X.A (f (.int i t) (.int j u)) Q E s) :
  OpR X f (rI0 λi j=>.int (g i j)):=by
 intro pins s σ H x y v u Q I rx ry h;obtain⟨i,j,rfl,rfl,q⟩:=h;obtain⟨t,rfl⟩:=rx;obtain⟨t',rfl⟩:=ry;exact rule i j t t' s _ _ ⟨.int (g i j),H,I.tok _,⟨_,rfl⟩,q⟩
theorem opB0{f:Value->Value->Sem Value}{g:Int->Int->Bool}
  (rule:∀(i j:Int) (t u:Tok) (s:Shared) (Q:Value->Shared->Prop) (E:Value->Shared->Prop),Q (.bool (g i j)) s->wpAny (model X.prog X.w) X.A (f (.int i t) (.int j u)) Q E s) :
  OpR X f (rI0 λi j=>.bl (g i j)):=by
 intro pins s σ H x y v u Q I rx ry h;obtain⟨i,j,rfl,rfl,q⟩:=h;obtain⟨t,rfl⟩:=rx;obtain⟨t',rfl⟩:=ry;exact rule i j t t' s _ _ ⟨.bl (g i j),H,I,rfl,q⟩
def CPow(i j:Int):Prop:=0<=j/\j<=1000000/\i.natAbs<2^64
def CMul(i j:Int):Prop:=(-(2^64)<i/\i<2^64)\/(-(2^64)<j/\j<2^64)
theorem CMul.ok(h:CMul i j):IntMulOk i j:=by
 rcases h with⟨h1,h2⟩ | ⟨h1,h2⟩
 ·exact .of_left (intBits_le_64 h1 h2)
 ·exact .of_right (intBits_le_64 h1 h2)
theorem q9J(k:Nat):(0:Int)<=2^k:=by
 rw[two_pow_cast];exact w18 _
theorem z8D:OpR X (binaryOp .Add) (rI0 λi j=>.int (i+j)):=opI0 λ_ _ _ _ _ _ _ q=>add_int q
theorem z7B:OpR X (binaryOp .Sub) (rI0 λi j=>.int (i - j)):=opI0 λ_ _ _ _ _ _ _ q=>sub_int q
theorem z8F:OpR X (binaryOp .Mod) (rI (λ_ j=>0<j) λi j=>.int (i%j)):=opI λi j _ _ _ _ _ hc q=>by
 have h1:(0:Int)<j:=hc;exact mod_int' (by omega) (by rw[Int.fmod_eq_emod_of_nonneg i (by omega)];exact q)
theorem z6b:OpR X (binaryOp .Mod) (rI (λ_ j=>j≠0) λi j=>.int (i.fmod j)):=opI λ_ _ _ _ _ _ _ hc q=>mod_int' hc q
theorem z7D:OpR X (binaryOp .LShift) (rI CPow λi j=>.int (i*2^j.toNat)):=opI λ_ _ _ _ _ _ _ hc q=>lshift_int_small hc.1 hc.2.1 hc.2.2 q
theorem z9s:OpR X (binaryOp .RShift) (rI (λ_ j=>0<=j) λi j=>.int (i/2^j.toNat)):=opI λi j _ _ _ _ _ hc q=>
 rshift_int hc (by rw[w2G i (q9J _)];exact q)
theorem z7K:OpR X (binaryOp .BitAnd) (rI0 λi j=>.int (Builtin.bitAnd i j)):=opI0 λ_ _ _ _ _ _ _ q=>and_int q
theorem unI{f:Value->Sem Value}{g:Int->Int}
  (rule:∀(i:Int) (t:Tok) (s:Shared) (Q:Value->Shared->Prop) (E:Value->Shared->Prop),Q (.int (g i) s.toks) {s with toks:=s.toks+1} -> wpAny (model X.prog X.w) X.A (f (.int i t)) Q E s) :
  UnR X f (rU λi=>.int (g i)):=by
 intro pins s σ H x v Q I rx h;obtain⟨i,rfl,q⟩:=h;obtain⟨t,rfl⟩:=rx;exact rule i t s _ _ ⟨.int (g i),H,I.tok _,⟨_,rfl⟩,q⟩
theorem z8Z:UnR X (unaryOp .USub) (rU λi=>.int (-i)):=unI λ_ _ _ _ _ q=>neg_int q
end
section
variable {X:Cx} {a b c:Expr} {ta tb tc:TE} {pos:Pos}
theorem z4q(I:Inv X pins σ H s)(q:Q (.bl k) H)(e:k=k'):EP X pins σ Q (.bool k') s:=by
 subst e;exact⟨.bl k,H,I,rfl,q⟩
theorem y1t:OpR X (compareOp .Lt) (rI0 λi j=>.bl (decide (i<j))):=opB0 λ_ _ _ _ _ _ _ q=>lt_int q
theorem y1e:OpR X (compareOp .LtE) (rI0 λi j=>.bl (decide (i<=j))):=opB0 λ_ _ _ _ _ _ _ q=>le_int q
theorem y1k:OpR X (compareOp .Gt) (rI0 λi j=>.bl (decide (j<i))):=opB0 λ_ _ _ _ _ _ _ q=>gt_int q
theorem z7I:OpR X (compareOp .Is) (λx y H Q=>y=.non/\Q (.bl (decide (x=.non))) H):=by
 intro pins s σ H x y v u Q I rx ry h;obtain⟨rfl,q⟩:=h;cases ry;refine is_none_gen (z4q I q ?_);cases x<;>first
  | (cases rx;rfl)
  | (obtain⟨t,rfl⟩:=rx;rfl)
theorem z6Z:OpR X (compareOp .IsNot) (λx y H Q=>y=.non/\Q (.bl (!decide (x=.non))) H):=by
 intro pins s σ H x y v u Q I rx ry h;obtain⟨rfl,q⟩:=h;cases ry;refine isnot_none_gen (z4q I q ?_);cases x<;>first
  | (cases rx;rfl)
  | (obtain⟨t,rfl⟩:=rx;rfl)
theorem OpR.or(h:OpR X f r)(h':OpR X f r'):OpR X f (λx y H Q=>r x y H Q\/r' x y H Q):=by
 intro pins s σ H x y v u Q I rx ry q;rcases q with q | q
 ·exact h pins s σ H x y v u Q I rx ry q
 ·exact h' pins s σ H x y v u Q I rx ry q
theorem z7s(ho:OpR X (compareOp op) r)(ha:PE X a ta)(hb:PE X b tb)(hm:behindInMarks op b=false):PE X (.Compare a [op] [b] pos) (tOp r ta tb):=by
 intro pins s σ H Q I h;exact wpAny_Compare1 (binT ha hb I h λv u s2 x y H2 I2 rx ry q=>ho pins s2 σ H2 x y v u Q I2 rx ry q) hm
def z7W(t:TE):TT:=λσ H Q=>t σ H λx H'=>∃k,x=.bl k/\Q k H'
theorem z5V(ho:OpR X (compareOp op) r)(ha:PE X a ta)(hb:PE X b tb)(hm:behindInMarks op b=false):PT X (.Compare a [op] [b] pos) (z7W (tOp r ta tb)):=by
 intro pins s σ H Q I h;refine wpAny_isTrue_Compare1 (thn (ha pins s σ H _ I h) λv s1 ⟨x,H1,I1,r1,q1⟩=>thn (hb pins s1 σ H1 _ I1 q1) λu s2 ⟨y,H2,I2,r2,q2⟩=>
  thn (ho pins s2 σ H2 x y v u _ I2 r1 r2 q2) λc s3 ⟨z,H3,I3,r3,k,e,q3⟩=>?_) hm
 subst e;cases r3;exact w1U ⟨H3,I3,q3⟩
def z0e(r r':R2)(ta tb tc:TE):TE:=λσ H Q=>ta σ H λx H1=>tb σ H1 λy H2=>r x y H2 λz H3=>∃k,z=.bl k /\
 (if k=true then tc σ H3 λw' H4=>r' y w' H4 Q else Q (.bl false) H3)
theorem z2S(ho:OpR X (compareOp op) r)(ho':OpR X (compareOp op') r')(ha:PE X a ta)(hb:PE X b tb)(hc:PE X c tc)
  (hm:lastMarks [op,op'] [b,c]=false:=by with_unfolding_all rfl):PE X (.Compare a [op,op'] [b,c] pos) (z0e r r' ta tb tc):=by
 intro pins s σ H Q I h;refine Compare_chain (thn (ha pins s σ H _ I h) λv s1 ⟨x,H1,I1,r1,q1⟩=>chain_link (thn (hb pins s1 σ H1 _ I1 q1) λu s2 ⟨y,H2,I2,r2,q2⟩=>
  thn (ho pins s2 σ H2 x y v u _ I2 r1 r2 q2) λd s3 ⟨z,H3,I3,r3,k,e,q3⟩=>?_)) hm
 subst e;cases r3;refine w1U ?_;cases k with
 | false=>exact ite_ff ⟨.bl false,H3,I3,rfl,q3⟩
 | true=>exact ite_tt (chain_last (thn (hc pins s3 σ H3 _ I3 q3) λw' s4 ⟨z',H4,I4,r4,q4⟩=>ho' pins s4 σ H4 y z' u w' Q I4 r2 r4 q4))
theorem z3l(ho:OpR X (compareOp op) r)(ho':OpR X (compareOp op') r')(ha:PE X a ta)(hb:PE X b tb)(hc:PE X c tc)
  (hm:lastMarks [op,op'] [b,c]=false:=by with_unfolding_all rfl):PT X (.Compare a [op,op'] [b,c] pos) (z7W (z0e r r' ta tb tc)):=by
 intro pins s σ H Q I h;refine isTrue_chain (thn (ha pins s σ H _ I h) λv s1 ⟨x,H1,I1,r1,q1⟩=>test_link (thn (hb pins s1 σ H1 _ I1 q1) λu s2 ⟨y,H2,I2,r2,q2⟩=>
  thn (ho pins s2 σ H2 x y v u _ I2 r1 r2 q2) λd s3 ⟨z,H3,I3,r3,k,e,q3⟩=>?_)) hm
 subst e;cases r3;refine w1U ?_;cases k with
 | false=>
  obtain⟨k',e',q'⟩:=q3;cases e';exact ite_ff ⟨H3,I3,q'⟩
 | true=>
  refine ite_tt (test_last (thn (hc pins s3 σ H3 _ I3 q3) λw' s4 ⟨z',H4,I4,r4,q4⟩=>thn (ho' pins s4 σ H4 y z' u w' _ I4 r2 r4 q4) λd' s5 ⟨z2,H5,I5,r5,k2,e2,q5⟩=>?_));subst e2;cases r5;exact w1U ⟨H5,I5,q5⟩
def TruV(K:PySem.W.Frag)(x:V)(H:Hp)(k:Bool):Prop:=
 match x with
 | .non=>k=false
 | .bl b=>k=b
 | .int i=>k=(i != 0)
 | .str y=>y.length<=sizeLine/\k=((y.length:Int) != 0)
 | .byt y=>y.size<=sizeLine/\k=((y.size:Int) != 0)
 | .ref p=>(∃xs,SqL K H p xs/\k = !xs.isEmpty)\/(∃xs,SqT K H p xs/\k = !xs.isEmpty)\/∃kvs,H p=some (.dK kvs)/\k = !kvs.isEmpty
 | _=>False
theorem q9W(r:KV kvs vs):(!vs.isEmpty) = !kvs.isEmpty:=by
 cases r<;>rfl
theorem q5K(r:Vals xs its):(!its.toArray.isEmpty) = !xs.isEmpty:=by
 cases r<;>simp
theorem Y9:(sizeLine:Nat)<2^63:=by rw[sizeLine_eq];decide
theorem q8Z:TruR X (λx H Q=>∃k,TruV X.K x H k/\Q k H):=by
 intro pins s σ H x v Q I rx h;obtain⟨k,e,q⟩:=h;have hl:=Y9;have hs:sizeLine=16777216:=sizeLine_eq;cases x with
 | non=>
  cases rx;have e':k=false:=e;subst e';exact truthy_none ⟨H,I,q⟩
 | bl b=>
  cases rx;have e':k=b:=e;subst e';exact w1U ⟨H,I,q⟩
 | int i=>
  obtain⟨t,rfl⟩:=rx;have e':k=(i != 0):=e;subst e';exact PySem.P.truthy_int ⟨H,I,q⟩
 | str y=>
  obtain⟨t,rfl⟩:=rx;obtain⟨hy,e'⟩:y.length<=sizeLine/\k=((y.length:Int) != 0):=e;subst e';exact PySem.P.truthy_str (by omega) ⟨H,I.tok _,q⟩
 | byt y=>
  obtain⟨t,rfl⟩:=rx;obtain⟨hy,e'⟩:y.size<=sizeLine/\k=((y.size:Int) != 0):=e;subst e';exact PySem.W.truthy_bytes (by omega) ⟨H,I.tok _,q⟩
 | ref p=>
  cases rx;have e':(∃xs,SqL X.K H p xs/\k = !xs.isEmpty)\/(∃xs,SqT X.K H p xs/\k = !xs.isEmpty)\/∃kvs,H p=some (.dK kvs)/\k = !kvs.isEmpty:=e;rcases e' with⟨xs,hx,e'⟩ | ⟨xs,hx,e'⟩ | ⟨kvs,hx,e'⟩
  ·subst e';obtain⟨its,r,pl,hz⟩:=I.list hx;have hlen:=r.length;exact wpAny_truthy_list pl.isList (by simp only[u5];omega) ⟨H,I.tok _,by rw[q5K r];exact q⟩
  ·subst e';obtain⟨its,r,pl,hz⟩:=I.tuple hx;have hlen:=r.length;exact truthy_tuple pl (by simp only[u5];omega) ⟨H,I.tok _,by rw[q5K r];exact q⟩
  ·subst e';obtain⟨hz,hS,vs,r,m⟩:kvs.length<=sizeLine/\(p==sysModules)=false/\∃vs,KV kvs vs/\s.heap.DictOf (q8z X.prog X.w) p vs:=I.hok p _ hx;have hlen:kvs.length=vs.length:=Paired.length r;exact wpAny_truthy_dict hS m (by omega) ⟨H,I.tok _,by rw[q9W r];exact q⟩
 | _=>exact(show False from e).elim
theorem q8M(ha:PE X a ta)(he:∀whole,isTrue a X.env whole=(do let v ←whole;standAt a.pos;holding [v] (truthy v))) :
  PT X a (λσ H Q=>ta σ H λx H'=>∃k,TruV X.K x H' k/\Q k H'):=by
 intro pins s σ H Q I h;exact isTrue_plain (thn (ha pins s σ H _ I h) λv s1 ⟨x,H1,I1,r1,q1⟩=>q8Z pins s1 σ H1 x v Q I1 r1 q1) (he _)
theorem q9u:OpR X (binaryOp .Add) (λx y H Q=>∃i j,x=.str i/\y=.str j/\i.length+j.length<=sizeLine/\Q (.str (i++j)) H):=by
 intro pins s σ H x y v u Q I rx ry h;obtain⟨i,j,rfl,rfl,hz,q⟩:=h;obtain⟨t,rfl⟩:=rx;obtain⟨t',rfl⟩:=ry;exact add_str (λt' tk=>⟨.str (i++j),H,I.tok _,⟨_,rfl⟩,q⟩) hz
theorem F7(r:Vals [x] us):∃u,us=[u]/\RelV x u:=by
 cases r with
 | cons r1 r2=>cases r2;exact⟨_,rfl,r1⟩
theorem z2j(r:Vals [x,y] us):∃u w',us=[u,w']/\RelV x u/\RelV y w':=by
 cases r with
 | cons r1 r2=>
  cases r2 with
  | cons r3 r4=>cases r4;exact⟨_,_,rfl,r1,r3⟩
theorem z1P(hc:X.calm=true):w9 X (.builtin "min") (λxs H Q=>∃i j,xs=[.int i,.int j]/\Q (.int (if j<i then j else i)) H):=by
 intro pins s σ H xs us Q I r h;obtain⟨i,j,rfl,q⟩:=h;obtain⟨u,w',rfl,⟨t,rfl⟩,⟨t',rfl⟩⟩:=z2j r;refine min_two_ints (I.ok.hd hc) λh' tk k=>⟨_,H,I.kept k,?_,q⟩
 by_cases hj:j<i
 ·rw[d4 hj,d4 hj];exact⟨_,rfl⟩
 ·rw[d6 hj,d6 hj];exact⟨_,rfl⟩
theorem q7f:w9 X (.type "int") (λxs H Q=>(∃i,xs=[.int i]/\Q (.int i) H)\/∃k,xs=[.bl k]/\Q (.int (if k then 1 else 0)) H):=by
 intro pins s σ H xs us Q I r h;rcases h with⟨i,rfl,q⟩ | ⟨k,rfl,q⟩
 ·obtain⟨u,rfl,t,rfl⟩:=F7 r;exact call_int_int ⟨.int i,H,I,⟨_,rfl⟩,q⟩
 ·obtain⟨u,rfl,r1⟩:=F7 r;cases r1;exact call_int_bool ⟨.int (if k then 1 else 0),H,I.tok _,⟨_,rfl⟩,q⟩
theorem q7E:w9 X (.type "str") (λxs H Q=>∃i,xs=[.int i]/\i.natAbs.log2<1920/\Q (.str (toString i)) H):=by
 intro pins s σ H xs us Q I r h;obtain⟨i,rfl,hz,q⟩:=h;obtain⟨u,rfl,t,rfl⟩:=F7 r;exact PySem.P.str_of_int hz ⟨.str _,H,I.tok _,⟨_,rfl⟩,q⟩
end
end
section
section
variable {prog:Program} {w:World} {A:Around} {E:Value->Shared->Prop} {s:Shared} {K:PySem.W.Frag} {x dx C f:Addr} {mA:Str->Option Value} {name:Str} {v:Value}
end
section
variable {P:Program} {w:World} {H H':Hp} {h h':Heap} {a C dx:Addr} {fs fs':List (Str×V)}
end
structure Cls(K:PySem.W.Frag)(C:Addr):Prop where
 pg:PySem.W.plainGet K C Str.empty=true
 hd:PySem.W.hasDictIn K C=true
 po:PySem.W.plainOver K C=true
 sa:PySem.W.findIn K (.ref C) "__setattr__" = some (some (.builtin "object.__setattr__"))
section
variable {X:Cx} {pins:List (Addr×Obj)} {σ:St} {H:Hp} {s:Shared} {a C dx:Addr} {fs:List (Str×V)} {f:Str} {v:V} {A:Around} {E:Value->Shared->Prop}
end
section
variable {X:Cx} {o e value:Expr} {f:Str} {pos pos' tpos:Pos} {ta tv:TE}
end
section
variable {X:Cx} {pins:List (Addr×Obj)} {σ:St} {H:Hp} {s:Shared} {A:Around} {E:Value->Shared->Prop} {Q:Value->Shared->Prop} {c:Value} {b:Bool}
end
end
section
structure Room(k:Nat)(A:Around):Prop where
 hd:A.handled=none
 dp:A.depth+3*k+5<recursionLimit
 un:A.units+16*k+200<cLine
theorem Room.deeper(r:Room (k+1) A)(env:Env):Room k (A.deeper env):=
 ⟨r.hd,by have:=r.dp;show A.depth+1+3*k+5<_;omega,by have:=r.un;show A.units+3+16*k+200<_;omega⟩
theorem Room.depth(r:Room k A):A.depth<recursionLimit:=by have:=r.dp;omega
theorem Room.units(r:Room k A):A.units+64<cLine:=by have:=r.un;omega
def tNil:TA:=λ_ H Q=>Q [] H
def z3E(ta:TE)(tr:TA):TA:=λσ H Q=>ta σ H λx H1=>tr σ H1 λxs H2=>Q (x::xs) H2
section
variable {X:Cx} {e:Expr} {es:List Expr} {te:TE} {t:TA} {pos:Pos}
theorem L3:PA X [] tNil:=λ_ _ _ _ H Q I h=>w2d ⟨[],H,I,.nil,h⟩
theorem C2(ha:PE X e te)(hr:PA X es t)(hs:starEach (e::es) X.env=(false,eval e X.env)::starEach es X.env:=by rfl):PA X (e::es) (z3E te t):=by
 intro pos pins s σ H Q I h;rw[hs];show wpAny _ _ (spliced ((false,eval e X.env)::backTo pos (starEach es X.env))) _ _ s;refine w19 (thn (ha pins s σ H _ I h) λu s1 ⟨x,H1,I1,r1,q1⟩=>?_);exact thn (hr pos pins s1 σ H1 _ I1 q1) λus s2 ⟨xs,H2,I2,r2,q2⟩=>⟨x::xs,H2,I2,.cons r1 r2,q2⟩
def tTup(t:TA):TE:=λσ H Q=>t σ H λxs H1=>xs.length<=sizeLine/\∀p,H1 p=none->Q (.ref p) (upd H1 p (.tup xs))
def tLst(t:TA):TE:=λσ H Q=>t σ H λxs H1=>xs.length<=sizeLine/\∀p,H1 p=none->Q (.ref p) (upd H1 p (.lst xs))
theorem z4k{x1}(h:PA X es t):PE X (.Tuple es x1 pos) (tTup t):=by
 intro pins s σ H Q I hq;refine wpAny_Tuple_spliced (thn (h pos pins s σ H _ I hq) λus s1 ⟨xs,H1,I1,r,z,q⟩=>⟨by rw[←r.length];exact z,?_⟩);have hf:H1 s1.heap.objs.size=none:=I1.hok.fresh (j1 _);refine⟨.ref s1.heap.objs.size,upd H1 s1.heap.objs.size (.tup xs),I1.laid (t':=s1.toks) (λb u e=>j5 _ e) (j1 _) ?_,rfl,q _ hf⟩;exact⟨z,us,r,⟨_,v9 _ rfl,⟨rfl,rfl⟩,_,rfl⟩⟩
theorem z7E(h:PA X es t):PE X (.List es pos) (tLst t):=by
 intro pins s σ H Q I hq;refine wpAny_List_spliced (thn (h pos pins s σ H _ I hq) λus s1 ⟨xs,H1,I1,r,z,q⟩=>⟨by rw[←r.length];exact z,?_⟩);have hf:H1 s1.heap.objs.size=none:=I1.hok.fresh (j1 _);refine⟨.ref s1.heap.objs.size,upd H1 s1.heap.objs.size (.lst xs),I1.laid (t':=s1.toks) (λb u e=>j5 _ e) (j1 _) ?_,rfl,q _ hf⟩;exact⟨z,us,0,r,v9 _ rfl⟩
end
abbrev Sp:=List V->Hp->VK->XK->Prop
abbrev CXT:=List Env->Hp->Shared->XK->Value->Shared->Prop
structure Env0(P:Program)(w:World)(K:PySem.W.Frag)(mg:Str->Option Value)(base:Heap)(A:Around)(outer:List Env)(s:Shared)(H:Hp):Prop where
 frames:A.frames=some outer
 mod:Mod K mg base
 bs:∀b o,base.get? b=some o->s.heap.get? b=some o/\H b=none
 bsz:base.objs.size<=s.heap.objs.size
 funs:s.heap.FunFrames base outer
 frf:(∀b∈frs outer,H b=none)/\q6I K H
 hok:HOk P w H s.heap
 bare:AllBare s.gens
def CE(outer:List Env)(P:Program)(w:World)(H:Hp)(s:Shared)(Q:VK)(u:Value)(s':Shared):Prop:=
 ∃v H',s'.os=s.os/\AllBare s'.gens/\Un (frs outer) [] H H' s.heap s'.heap/\HOk P w H' s'.heap/\RelV v u/\Q v H'
def CR(CX:CXT)(outer:List Env)(P:Program)(w:World)(H:Hp)(s:Shared)(Q:VK)(E:XK)(r:Result)(s':Shared):Prop:=
 match r with
 | .ok (.ret u)=>CE outer P w H s Q u s'
 | .ok _=>False
 | .error e=>CX outer H s E e s'
structure FnOk(P:Program)(w:World)(K:PySem.W.Frag)(mg:Str->Option Value)(base:Heap)(CX:CXT)(k:Nat)(f:Addr)(fd:FuncData)(ps:List Str)(sp:Sp):Prop where
 len:∀vs H Q E,sp vs H Q E->vs.length=ps.length
 run:∀(A:Around) (outer:List Env) (s:Shared) (H:Hp) (args:Args) (us:List Value) (vs:List V) (Q:VK) (E:XK),Room k A->Env0 P w K mg base A outer s H->BindsTo s fd args (ps.zip us)->Vals vs us->sp vs H Q E ->
  codeAny (model P w) A (.call (.ref f) args) (CR CX outer P w H s Q E) s
section
variable {X:Cx} {pins:List (Addr×Obj)} {σ:St} {H:Hp} {s s':Shared}
theorem Inv.env0(I:Inv X pins σ H s):Env0 X.prog X.w X.K X.mg X.base X.A X.stack s H:=
 ⟨I.ok.frames,I.ok.mod,I.bs,m7 I.ok.bsz I.sz,I.stack,⟨I.stkFree,I.tabs⟩,I.hok,I.bare⟩
theorem Inv.after(I:Inv X pins σ H s)(h:CE X.stack X.prog X.w H s Q u s'):EP X pins σ Q u s':=by
 obtain⟨v,H',os,bare,un,hok,r,q⟩:=h;obtain⟨hh,g,d,t,os'⟩:=s';obtain rfl:os'=s.os:=os;exact⟨v,H',I.call (h':=hh) (g':=g) (d':=d) (t':=t) (ch:=[]) un hok bare (λb z=>absurd z (by simp)),r,q⟩
end
def C3(K:PySem.W.Frag)(fd:FuncData)(ps:List Str)(ds:List Value):Prop:=
 ∀(s:Shared) (us:List Value),K.In s.heap->(us++ds).length=ps.length->BindsTo s fd ⟨us,[]⟩ (ps.zip (us++ds))
theorem C3.all{K:PySem.W.Frag}{fd:FuncData}{ps:List Str}(h:∀us:List Value,us.length=ps.length->bindArgs fd ⟨us,[]⟩=pure (ps.zip us)):C3 K fd ps []:=λs us _ hl=>by
 rw[z9]at hl ⊢;exact .of_eq (h us hl)
def z0K(CX:CXT)(X:Cx)(E:XK):Prop:=∀(pins:List (Addr×Obj)) (σ:St) (H:Hp) (s:Shared) (e:Value) (s':Shared),Inv X pins σ H s->CX X.stack H s E e s'->X.xe e s'
section
variable {X:Cx} {CX:CXT} {k:Nat} {f C:Addr} {fd:FuncData} {ps:List Str} {sp:Sp} {dvs:List V} {ds:List Value} {E:XK} {x m:Str} {p pos apos:Pos} {e o:Expr} {es:List Expr} {ta:TE} {t:TA}
end
section
variable {X:Cx} {CX:CXT} {k:Nat} {f C:Addr} {fd:FuncData} {ps ks:List Str} {sp:Sp} {E:XK} {x m:Str} {p pos apos kpos:Pos} {e o:Expr} {es:List Expr} {kws:List Keyword} {te ta:TE} {t tk:TA} {nm:Option Str}
structure KBinds(K:PySem.W.Frag)(fd:FuncData)(ps ks:List Str)(g:List Value->List Value->List Value)(gV:List V->List V->List V):Prop where
 to:∀(s:Shared) (us ws:List Value),K.In s.heap->(g us ws).length=ps.length->BindsTo s fd ⟨us,ks.zip ws⟩ (ps.zip (g us ws))
 rel:∀{vs:List V} {us:List Value} {zs:List V} {ws:List Value},Vals vs us->Vals zs ws->Vals (gV vs zs) (g us ws)
variable {g:List Value->List Value->List Value} {gV:List V->List V->List V}
end
structure FnScope(N P:List Str)(sc:Scope):Prop where
 kind:sc.kind=.function
 co:sc.isCoroutine=false
 gen:sc.isGenerator=false
 nd:N.Nodup
 pre:N.take P.length=P
 par:∀x∈P,sc.names.lookup x=some .local\/sc.names.lookup x=some .cell
 nofree:∀y∈sc.names,y.2 ≠ .free
theorem q6R{kindOf:Str->Option NameKind}{x:Str}:∀{binds:List (Str×Value)} {m:Str->Option Value},(∀v,(x,v)∉binds)->bindL kindOf binds m x=m x
 | [],_,_=>rfl
 | (n,v)::r,m,h=>by
  unfold bindL;rw[q6R λw hw=>h w (f9 _ hw)];split
  ·have:x≠n:=by rintro rfl;exact h v i5
   simp[this]
  ·rfl
theorem q6Q{kindOf:Str->Option NameKind}{x:Str}:∀{binds:List (Str×Value)} {m:Str->Option Value},(∀v,(x,v)∉binds)->bindC kindOf binds m x=m x
 | [],_,_=>rfl
 | (n,v)::r,m,h=>by
  unfold bindC;rw[q6Q λw hw=>h w (f9 _ hw)];split
  ·rfl
  ·have:x≠n:=by rintro rfl;exact h v i5
   simp[this]
theorem q7d{kindOf:Str->Option NameKind}{x:Str}{v:Value}:∀{P:List Str} {vs:List Value} {i:Nat} {m:Str->Option Value},P.Nodup->P[i]? = some x->vs[i]? = some v->kindOf x=some .local ->
  bindL kindOf (P.zip vs) m x=some v
 | [],_,_,_,_,h,_,_=>by simp at h
 | _::_,[],_,_,_,_,h,_=>by simp at h
 | p::P,w::vs,0,m,nd,h1,h2,hk=>by simp at h1 h2;subst h1;subst h2;show bindL kindOf ((p,w)::P.zip vs) m p=_;unfold bindL;rw[q6R λv hv=>(M9.mp nd).1 (w2p hv).1,d4 hk];simp
 | p::P,w::vs,i+1,m,nd,h1,h2,hk=>by show bindL kindOf ((p,w)::P.zip vs) m x=_;unfold bindL;exact q7d (i:=i) (M9.mp nd).2 (by simpa using h1) (by simpa using h2) hk
theorem q7G{kindOf:Str->Option NameKind}{x:Str}{v:Value}:∀{P:List Str} {vs:List Value} {i:Nat} {m:Str->Option Value},P.Nodup->P[i]? = some x->vs[i]? = some v->kindOf x≠some .local ->
  bindC kindOf (P.zip vs) m x=some v
 | [],_,_,_,_,h,_,_=>by simp at h
 | _::_,[],_,_,_,_,h,_=>by simp at h
 | p::P,w::vs,0,m,nd,h1,h2,hk=>by simp at h1 h2;subst h1;subst h2;show bindC kindOf ((p,w)::P.zip vs) m p=_;unfold bindC;rw[q6Q λv hv=>(M9.mp nd).1 (w2p hv).1,d6 hk];simp
 | p::P,w::vs,i+1,m,nd,h1,h2,hk=>by show bindC kindOf ((p,w)::P.zip vs) m x=_;unfold bindC;exact q7G (i:=i) (M9.mp nd).2 (by simpa using h1) (by simpa using h2) hk
def start(N:List Str)(vs:List V):St:=vs.map some++List.replicate (N.length - vs.length) none
def cxOf(CX:CXT)(P:Program)(w:World)(K:PySem.W.Frag)(mg:Str->Option Value)(base:Heap)(N:List Str)(qual:Str)(scope:Scope)(f:Addr)(cd:Value)(A:Around)(outer:List Env)(s:Shared)(H:Hp)(E:XK):Cx where
 prog:=P
 w:=w
 K:=K
 mg:=mg
 base:=base
 A:=A.deeper (envOfC qual scope s.heap.objs.size f cd)
 N:=N
 s₀:=s
 H₀:=H
 env:=envOfC qual scope s.heap.objs.size f cd
 outer:=outer
 stack:=envOfC qual scope s.heap.objs.size f cd::outer
 ex:=[]
 calm:=true
 fn:=λ_=>true
 pn:=[]
 xe:=λe s'=>wpAny (model P w) (A.deeper (envOfC qual scope s.heap.objs.size f cd)) (leaving (envOfC qual scope s.heap.objs.size f cd) e) (λ_ s''=>CX outer H s E e s'') (λe' s''=>CX outer H s E e' s'') s'
theorem q8B{sc:Scope}{n:Nat}{x:Str}(h:sc.names.lookup x=some .cell):∃c,(cellsFrom n sc.names []).lookup x=some c:=by
 have q:=w1S sc.names n [] (.inl h);exact G4.mp q
theorem z0c{CX:CXT}{P:Program}{w:World}{K:PySem.W.Frag}{mg:Str->Option Value}{base:Heap}{N ps:List Str}{qual:Str}{scope:Scope}{f:Addr}{cd:Value}{A:Around}{outer:List Env}{s s1:Shared}{H:Hp}{E:XK}{us:List Value}{vs:List V}
  (S:FnScope N ps scope) (hd:A.handled=none) (e0:Env0 P w K mg base A outer s H) (hl:vs.length=ps.length) (r:Vals vs us)
  (x:InCallC s s.heap.objs.size (bindL (envOfC qual scope s.heap.objs.size f cd).kindOf (ps.zip us) λ_=>none) (cellsFrom (s.heap.objs.size+1) scope.names []) (bindC (envOfC qual scope s.heap.objs.size f cd).kindOf (ps.zip us) λ_=>none) s1) :
  Inv (cxOf CX P w K mg base N qual scope f cd A outer s H E) [] (start N vs) H s1:=by
 have hpl:ps.length<=N.length:=by have:=congrArg List.length S.pre;rw[G7]at this;omega
 obtain⟨h1,tk,rfl,hk⟩:=x.done;have noA:∀b:Addr,b∉(cxOf CX P w K mg base N qual scope f cd A outer s H E).ex:=λb z=>absurd (show b∈([]:List Addr)from z) (by simp)
 refine⟨⟨e0.mod,S.kind,rfl,rfl,j1 _,λy z c h1 h2=>?_,λy hy=>?_,λy c _ h=>?_,λ_=>hd,Around.frames_deeper e0.frames,.inr ⟨rfl,rfl⟩,λb z=>absurd z (noA b),e0.bs,e0.bsz,λb _ _=>noA b,λb z=>absurd z (noA b),e0.funs,e0.frf⟩,
  rfl,e0.bare,Un.kept hk,⟨_,x.toInCall.ns,λi y v h1 h2 h3=>?_⟩,λy c h=>⟨_,x.cell y c h⟩,e0.hok.fresh (j1 _),λy c h=>?_,λp hp=>absurd (show p∈([]:List (Addr×Obj))from hp) (by simp),e0.hok.kept hk,?_⟩
 ·exact name_of_addr x.apart (D0 h1) (D0 h2)
 ·have hy:scope.names.lookup y=some .cell\/scope.names.lookup y=some .free:=hy;rcases hy with hy | hy
  ·exact q8B hy
  ·exact absurd rfl (S.nofree _ (D0 hy))
 ·exact w2o (x.above y c (D0 h))
 ·have hi:i<vs.length:=by
   unfold start at h2;by_cases hi:i<vs.length
   ·exact hi
   ·rw[T9 (by simpa using hi)]at h2;rw[X4]at h2;split at h2<;>cases h2
  have ha:vs[i]? = some v:=by
   unfold start at h2;rw[O8 (by simpa using hi),B5]at h2;cases e:vs[i]? with
   | none=>rw[e]at h2;cases h2
   | some a=>rw[e]at h2;cases h2;rfl
  obtain⟨u,hu,rv⟩:=r.get ha;have hp:ps[i]? = some y:=(by rw[←S.pre,w2P (by omega)];exact h1);have ndP:ps.Nodup:=by rw[←S.pre];exact S.nd.sublist (List.take_sublist _ _)
  refine⟨u,rv,?_⟩;rcases S.par y (O9 hp)with k | k
  ·exact .inl ⟨k,q7d ndP hp hu k⟩
  ·obtain⟨c,e⟩:=q8B (n:=s.heap.objs.size+1) k;refine .inr ⟨.inl k,c,e,?_⟩;have q:=x.cell y c e;rw[q7G ndP hp hu (by show scope.names.lookup y≠_;rw[k];decide)]at q;exact q
 ·exact e0.hok.fresh (w2o (x.above y c (D0 h)))
 ·unfold start;show _=N.length;rw[A7,g9,w2k];omega
theorem y0V{CX:CXT}{P:Program}{w:World}{K:PySem.W.Frag}{mg:Str->Option Value}{base:Heap}{k:Nat}{f:Addr}{name qual:Str}{params:Arguments}{body:List Stmt}{scope:Scope}{dV kV doc pm cdv ct oc:Value}{an od:Option Addr}
  {osl:Array (Option Value)} {N ps:List Str} {sp:Sp} (lk:K.lookup f=some ⟨oc,od,.func (PySem.W.fnOf name qual params body scope dV kV doc pm an cdv ct),osl⟩) (hcd:PySem.W.codeIn K cdv qual=true) (S:FnScope N ps scope)
  (len:∀vs H Q E,sp vs H Q E->vs.length=ps.length)
  (hbody:∀(A:Around) (outer:List Env) (s:Shared) (H:Hp) (vs:List V) (Q:VK) (E:XK),Room k (A.deeper (envOfC qual scope s.heap.objs.size f cdv))->sp vs H Q E ->
   ∃t,PSs (cxOf CX P w K mg base N qual scope f cdv A outer s H E) body t/\t {nx:=λ_ H'=>Q .non H',rt:=Q} (start N vs) H) :
  FnOk P w K mg base CX (k+1) f (PySem.W.fnOf name qual params body scope dV kV doc pm an cdv ct) ps sp:=by
 refine⟨len,λA outer s H args us vs Q E hr e0 hb r hsp=>?_⟩;have hl:=len _ _ _ _ hsp;have KX:K.In s.heap:=e0.mod.kin.keeps λb o e=>(e0.bs b o e).1;have lim:s.heap.NoLimit:=e0.mod.nolimit.keeps λb o e=>(e0.bs b o e).1;have hkind:∀y∈ps.zip us,scope.names.lookup y.1=some .local\/(scope.names.lookup y.1=some .cell/\((cellsFrom (s.heap.objs.size+1) scope.names []).lookup y.1).isSome=true):=λ⟨n,v⟩ hy=>by
  rcases S.par n (w2p hy).1 with q | q
  ·exact .inl q
  ·exact .inr ⟨q,w1S _ _ _ (.inl q)⟩
 refine codeAny_call_function hr.depth (KX _ _ lk) rfl S.co S.gen rfl (PySem.W.codeRec_of KX hcd) (hb _ _ _ _ ?_)
 refine wpAny_newFunctionEnv_cells S.kind hkind λenv he s1 x=>?_;subst he;refine⟨lim.keeps x.toInCall.keep,codeAny_func ?_⟩;obtain⟨t,ht,hq⟩:=hbody A outer s H vs Q E (hr.deeper _) hsp;have I:Inv (cxOf CX P w K mg base N qual scope f cdv A outer s H E) [] (start N vs) H s1:=z0c S hr.hd e0 hl r x;refine n6 (ht [] s1 (start N vs) H _ I hq) (λfl s' hs=>?_) λe s' hs=>hs;have fin:∀{σ':St} {H':Hp} {v:V} {u:Value},Inv (cxOf CX P w K mg base N qual scope f cdv A outer s H E) [] σ' H' s'->RelV v u->Q v H'->CE outer P w H s Q u s':=
  λ{σ' H' v u} J rv q=>⟨v,H',J.os,J.bare,J.base,J.hok,rv,q⟩
 cases fl with
 | ret u=>
  obtain⟨v,σ',H',J,rv,q⟩:=hs;exact fin J rv q
 | next=>
  obtain⟨σ',H',J,q⟩:=hs;exact fin (v:=V.non) (u:=Value.none) J rfl q
 | brk=>
  obtain⟨_,_,_,q⟩:=hs;exact False.elim q
 | cont=>
  obtain⟨_,_,_,q⟩:=hs;exact False.elim q
end
section
section
variable {X:Cx} {x:Str} {p pos:Pos} {e:Expr} {es:List Expr} {t:TA} {id T:String} {r:List V->Hp->VK->Prop}
def tCB(r:List V->Hp->VK->Prop)(t:TA):TE:=λσ H Q=>t σ H λvs H1=>r vs H1 Q
theorem q4n(hc:w9 X (.builtin id) r)(hg:Gl X x)(hm:X.mg x=none)(hv:bootBuiltins x=some (.builtin id))(ha:PA X (e::es) t)(hn:x ≠ "__name__":=by decide)(hdb:(x==("__debug__" : Str))=false:=by decide)
  (he:starEach (e::es) X.env=(false,eval e X.env)::starEach es X.env:=by rfl) (hpl:(backTo pos (starEach es X.env)).any (·.1)=false:=by rfl):PE X (.Call (.Name x p) (e::es) [] pos) (tCB r t):=by
 intro pins s σ H Q I h;refine X9 (q6V I hg hm hv ?_ hn hdb);exact PyProof.Rows.callWith_builtin1 (thn (ha pos pins s σ H _ I h) λus s1 ⟨vs,H1,I1,r1,q1⟩=>hc pins s1 σ H1 vs us Q I1 r1 q1) he hpl
theorem z1a(hc:w9 X (.type T) r)(hg:Gl X x)(hm:X.mg x=none)(hv:bootBuiltins x=some (.type T))(ha:PA X (e::es) t)(hn:x ≠ "__name__":=by decide)(hdb:(x==("__debug__" : Str))=false:=by decide)
  (he:starEach (e::es) X.env=(false,eval e X.env)::starEach es X.env:=by rfl) (hpl:(backTo pos (starEach es X.env)).any (·.1)=false:=by rfl):PE X (.Call (.Name x p) (e::es) [] pos) (tCB r t):=by
 intro pins s σ H Q I h;refine X9 (q6V I hg hm hv ?_ hn hdb);exact w1Z (thn (ha pos pins s σ H _ I h) λus s1 ⟨vs,H1,I1,r1,q1⟩=>hc pins s1 σ H1 vs us Q I1 r1 q1) he hpl
end
end
end L2
namespace HT
open PySem PyProof.Rows
section
section
open PySem.SeqAt
open PySem.AutoSeq1 (wpAny_loadPart')
open PySem.MeetsSeq PySem.MeetsSeq2 PySem.MeetsSeq3
end
section
variable {prog:Program} {w:World} {A:Around} {E:Value->Shared->Prop} {s:Shared}
theorem cat_tup(ht:IsTup s.heap t vs.toArray)(hb:IsTup s.heap b ws.toArray)(hv:vs≠[])
  (h1:ws=[]->Q (.ref t) s) (h2:ws≠[]->Q (.ref s.heap.objs.size) {s with heap:=s.heap.push {cls:=.type "tuple",data:=.seq (vs++ws).toArray}})
  (hsz:vs.length+ws.length<=sizeLine):wpAny (model prog w) A (binaryOp .Add (.ref t) (.ref b)) Q E s:=by
 obtain⟨⟨cls,dd,data,sl⟩,ho,hc,n,hd⟩:=id ht;obtain⟨⟨cls2,dd2,data2,sl2⟩,ho2,hc2,n2,hd2⟩:=id hb;simp only at hc hd hc2 hd2;subst hc hd hc2 hd2;have e:vs.toArray++ws.toArray=(vs++ws).toArray:=by simp
 by_cases hw:ws=[]
 ·exact concat_meets ⟨_,ho,rfl⟩ ⟨_,ho2,rfl⟩ noFill_tuple_add seq_tuple_add w29 w2X (w2Q _ _)
   (tuple_addW1 t b vs.toArray ws.toArray n n2 dd dd2 sl sl2 (by simpa using hv) (by simp[hw])) ⟨ho,ho2,h1 hw⟩
 ·refine concat_meets ⟨_,ho,rfl⟩ ⟨_,ho2,rfl⟩ noFill_tuple_add seq_tuple_add w29 w2X (w2Q _ _)
   (tuple_addW2 t b vs.toArray ws.toArray n n2 dd dd2 sl sl2 (by simpa using hv) (by simpa using hw) (by rw[u5,u5];exact hsz)) ⟨ho,ho2,?_⟩
  rw[e];exact h2 hw
def sIx(n d:Nat):Option Int->Nat
 | none=>d
 | some v=>if v<0 then(v+(n:Int)).toNat else min v.toNat n
theorem z8L(n d:Nat)(hd:d<=n)(o:Option Int):sIx n d o<=n:=by
 cases o with
 | none=>exact hd
 | some v=>
  show(if v<0 then(v+(n:Int)).toNat else min v.toNat n)<=n;by_cases hv:v<0
  ·rw[d4 hv];omega
  ·rw[d6 hv];exact Nat.min_le_right _ _
theorem z0l(v:Int)(n d:Nat):(if v<0 then max (v+(n:Int)) 0 else min v (n:Int))=((sIx n d (some v):Nat):Int):=by
 show(if v<0 then max (v+(n:Int)) 0 else min v (n:Int))=(((if v<0 then(v+(n:Int)).toNat else min v.toNat n):Nat):Int);by_cases hv:v<0
 ·simp only[d4 hv];omega
 ·simp only[d6 hv];omega
theorem q9s(lo hi:Option Int)(n:Nat):Builtin.Slice.sliceAdjust lo hi 1 (n:Int)=(((sIx n 0 lo:Nat):Int),((sIx n n hi:Nat):Int)):=by
 have h1:¬((1:Int)<0):=by omega
 unfold Builtin.Slice.sliceAdjust;simp only[h1,if_false];refine Prod.ext ?_ ?_
 ·cases lo with
  | none=>rfl
  | some v=>exact z0l v n 0
 ·cases hi with
  | none=>rfl
  | some v=>exact z0l v n n
theorem z0b(i j:Nat):Builtin.Slice.slicePlaces (i:Int) (j:Int) 1=j - i:=by
 unfold Builtin.Slice.slicePlaces;have h1:(1:Int)>0:=by omega
 simp only[h1,if_true,Int.ediv_one];split<;>omega
theorem q5L(p:IsPart v o)(h:Q o s):wpAny (model prog w) A (Builtin.Slice.slicePartIndex v) Q E s:=by
 cases p with
 | none=>exact slicePart_none h
 | int i t=>exact slicePart_int h
theorem q4k{sl:Addr}{vl vu:Value}{lo hi:Option Int}{n:Nat}{Q:Int×Int×Nat->Shared->Prop}(hs:s.heap.IsSliceOf sl vl vu .none)(pl:IsPart vl lo)(pu:IsPart vu hi)
  (h:Q (((sIx n 0 lo:Nat):Int),1,sIx n n hi - sIx n 0 lo) s):wpAny (model prog w) A (Builtin.Slice.sliceApplied (.ref sl) (pure (n:Int))) Q E s:=by
 obtain⟨os,hos,hcs,hds⟩:=id hs;unfold Builtin.Slice.sliceApplied Builtin.Slice.sliceFields;refine b0 (b0 (y6 hos hds (x:=vl) rfl (b0 (y6 hos hds (x:=vu) rfl (b0 (y6 hos hds (x:=.none) rfl (f8 ?_)))))));refine b0 (slicePart_none ?_);show wpAny _ _ (if((1:Int)==0)=true then _ else _) _ _ s;rw[d6 (by decide)];refine b0 (q5L pl (b0 (q5L pu (b0 (f8 ?_)))));show wpAny _ _ (match Builtin.Slice.sliceAdjust lo hi 1 (n:Int)with | (lo,hi)=>pure (lo,(1:Int),Builtin.Slice.slicePlaces lo hi 1)) _ _ s;rw[q9s lo hi n];show wpAny _ _ (pure (((sIx n 0 lo:Nat):Int),(1:Int),Builtin.Slice.slicePlaces ((sIx n 0 lo:Nat):Int) ((sIx n n hi:Nat):Int) 1)) _ _ s;rw[z0b];exact f8 h
theorem z3V(xs:Array Value)(i k:Nat):((List.range k).filterMap λ(m:Nat)=>xs[((i:Int)+(m:Int)*1).toNat]?).toArray=((xs.toList.drop i).take k).toArray:=by
 have e:(λ(m:Nat)=>xs[((i:Int)+(m:Int)*1).toNat]?)=λm=>xs[i+m]?:=by
  funext m
  have:((i:Int)+(m:Int)*1).toNat=i+m:=by omega
  rw[this]
 rw[e];have:=pick_run xs i k;rw[List.filterMap_map]at this;have e2:((λx=>xs[x]?) ∘ λx=>i+x)=λm=>xs[i+m]?:=rfl
 rw[e2]at this;rw[this]
theorem getItem_tuple_cut{t sl:Addr}{items:Array Value}{vl vu:Value}{lo hi:Option Int}{Q:Value->Shared->Prop}(ht:IsTup s.heap t items)(hs:s.heap.IsSliceOf sl vl vu .none)(pl:IsPart vl lo)(pu:IsPart vu hi)
  (hw:¬(sIx items.size 0 lo=0/\sIx items.size items.size hi=items.size))
  (h:Q (.ref s.heap.objs.size) {s with heap:=s.heap.push {cls:=.type "tuple",data:=.seq ((items.toList.drop (sIx items.size 0 lo)).take (sIx items.size items.size hi - sIx items.size 0 lo)).toArray}})
  (hsz:items.size<=sizeLine):wpAny (model prog w) A (getItem (.ref t) (.ref sl)) Q E s:=by
 have htake:sizeOk (.seq ((items.toList.drop (sIx items.size 0 lo)).take (sIx items.size items.size hi - sIx items.size 0 lo)).toArray):=(by show((items.toList.drop (sIx items.size 0 lo)).take (sIx items.size items.size hi - sIx items.size 0 lo)).toArray.size<=sizeLine;rw[u5,G7,U6,F5];omega);have hj:sIx items.size items.size hi<=items.size:=z8L _ _ (j1 _) hi;obtain⟨os,hos,hcs,hds⟩:=id hs;have hTs:s.TypeIs (.ref sl) "slice":=⟨os,hos,hcs⟩;unfold getItem
 try with_reducible refine B6 ?_
 first | refine b0 (f8 ?_) | skip
 refine b0 (wpAny_sequenceKey ht.typeIs (by decide) ?_);refine b0 (w1v (name:=Str.ofString "__getitem__") ht.typeIs w2n
  (w11 w2n ht.typeIs entry_tuple_getitem ?_ (args_tuple_getitem _ _)))
 show wpAny _ _ (Builtin.Tuple.tupleItemsOf (.ref t) >>= _) _ _ s;refine b0 (tupleItemsOf_ ht ?_);refine b0 (wpAny_typeOf hTs ?_);rw[d4 (by decide)];refine b0 (q4k hs pl pu ?_);have hno:¬((((sIx items.size 0 lo:Nat):Int)==0&&(1:Int)==1&&(sIx items.size items.size hi - sIx items.size 0 lo)==items.size)=true):=by intro q;rw[b8,b8]at q;have q1:((sIx items.size 0 lo:Nat):Int)=0:=w3j q.1.1;have q2:sIx items.size items.size hi - sIx items.size 0 lo=items.size:=w3j q.2;exact hw ⟨by omega,by omega⟩
 show wpAny _ _ (if(((sIx items.size 0 lo:Nat):Int)==0&&(1:Int)==1&&(sIx items.size items.size hi - sIx items.size 0 lo)==items.size)=true then _ else _) _ _ s;rw[d6 hno,z3V]
 first
  | exact b0 (m:=Builtin.Tuple.tupleExact _) (U3 (f8 ⟨_,rfl,f8 h⟩) htake)
  | exact b0 (m:=Builtin.Tuple.tupleExact _) (U3 (b0 (f8 (f8 ⟨_,rfl,f8 h⟩))) htake)
  | exact b0 (b0 (m:=Builtin.Tuple.tupleExact _) (U3 (f8 (f8 ⟨_,rfl,f8 h⟩)) htake))
  | exact b0 (b0 (m:=Builtin.Tuple.tupleExact _) (U3 (f8 ⟨_,rfl,f8 h⟩) htake))
end
end
end HT
namespace L2
open PySem PySem.Spec PyProof.Rows
section
abbrev TO:=St->Hp->(Option Int->Hp->Prop)->Prop
def PO(X:Cx)(e:Option Expr)(t:TO):Prop:=
 ∀(pins:List (Addr×Obj)) (s:Shared) (σ:St) (H:Hp) (Q:Option Int->Hp->Prop),Inv X pins σ H s->t σ H Q ->
  wpAny (model X.prog X.w) X.A (evalPart e X.env) (λu s'=>∃o H',Inv X pins σ H' s'/\IsPart u o/\Q o H') X.xe s
def z7n:TO:=λ_ H Q=>Q none H
def y1r(t:TE):TO:=λσ H Q=>t σ H λx H1=>∃i,x=.int i/\Q (some i) H1
section
variable {X:Cx} {e:Expr} {te:TE} {lo hi:Option Expr} {tl th:TO} {pos p2:Pos}
theorem I0:PO X none z7n:=by
 intro pins s σ H Q I h;rw[evalPart_none];exact f8 ⟨none,H,I,.none,h⟩
theorem z1L(h:PE X e te):PO X (some e) (y1r te):=by
 intro pins s σ H Q I hw;rw[evalPart_some];refine thn (h pins s σ H _ I hw) λu s1 ⟨x,H1,I1,r1,q1⟩=>?_
 obtain⟨i,rfl,q⟩:=q1;obtain⟨t,rfl⟩:=r1;exact⟨some i,H1,I1,.int i t,q⟩
def SlR(X:Cx)(r:V->Option Int->Option Int->Hp->VK->Prop):Prop:=
 ∀(pins:List (Addr×Obj)) (s:Shared) (σ:St) (H:Hp) (x:V) (v vl vu:Value) (lo hi:Option Int) (sl:Addr) (Q:VK),Inv X pins σ H s->RelV x v->s.heap.IsSliceOf sl vl vu .none->IsPart vl lo->IsPart vu hi->r x lo hi H Q ->
  ∃T id,typeLookup (.type T) "__getitem__" = pure (some (.builtin id))/\s.TypeIs v T/\wpAny (model X.prog X.w) X.A (getItem v (.ref sl)) (EP X pins σ Q) X.xe s
theorem SlR.or(h:SlR X r)(h':SlR X r'):SlR X (λx lo hi H Q=>r x lo hi H Q\/r' x lo hi H Q):=by
 intro pins s σ H x v vl vu lo hi sl Q I rx hs pl pu q;rcases q with q | q
 ·exact h pins s σ H x v vl vu lo hi sl Q I rx hs pl pu q
 ·exact h' pins s σ H x v vl vu lo hi sl Q I rx hs pl pu q
def tSl(r:V->Option Int->Option Int->Hp->VK->Prop)(te:TE)(tl th:TO):TE:=λσ H Q=>te σ H λx H1=>tl σ H1 λl H2=>th σ H2 λu H3=>r x l u H3 Q
theorem E3(hr:SlR X r)(he:PE X e te)(hl:PO X lo tl)(hu:PO X hi th):PE X (.Subscript e (.Slice lo hi none p2) pos) (tSl r te tl th):=by
 intro pins s σ H Q I h;refine Subscript_ (thn (he pins s σ H _ I h) λv s1 ⟨x,H1,I1,r1,q1⟩=>?_);refine wpAny_Slice (thn (hl pins s1 σ H1 _ I1 q1) λvl s2 ⟨l,H2,I2,pl,q2⟩=>thn (hu pins s2 σ H2 _ I2 q2) λvu s3 ⟨u,H3,I3,pu,q3⟩=>?_);rw[evalPart_none];refine f8 ?_;have I4:Inv X pins σ H3 {s3 with heap:=s3.heap.push {cls:=.type "slice",data:=.fields #[vl,vu,.none]}}:=I3.kept (t':=s3.toks) λb ob q=>j5 _ q
 obtain⟨T,id,hT,ht,hg⟩:=hr pins {s3 with heap:=s3.heap.push {cls:=.type "slice",data:=.fields #[vl,vu,.none]}} σ H3 x v vl vu l u s3.heap.objs.size Q I4 r1 (Heap.IsSliceOf.new ..) pl pu q3;show wpAny (model X.prog X.w) X.A (subscriptTail e (.Slice lo hi none p2) v (.ref s3.heap.objs.size)) (EP X pins σ Q) X.xe {s3 with heap:=s3.heap.push {cls:=.type "slice",data:=.fields #[vl,vu,.none]}};exact tail_any (ops:=[.ref s3.heap.objs.size,v]) ht hT hg (by with_unfolding_all rfl)
def cutV(xs:List V)(lo hi:Option Int):List V:=(xs.drop (HT.sIx xs.length 0 lo)).take (HT.sIx xs.length xs.length hi - HT.sIx xs.length 0 lo)
theorem q5a(xs:List V)(lo hi:Option Int):(cutV xs lo hi).length<=xs.length:=by
 unfold cutV;rw[G7,U6];omega
def rSlT(K:PySem.W.Frag):V->Option Int->Option Int->Hp->VK->Prop:=λx lo hi H Q=>∃a xs,x=.ref a/\SqT K H a xs /\
 ¬(HT.sIx xs.length 0 lo=0/\HT.sIx xs.length xs.length hi=xs.length)/\∀p,H p=none->Q (.ref p) (upd H p (.tup (cutV xs lo hi)))
theorem z9c:SlR X (rSlT X.K):=by
 intro pins s σ H x v vl vu lo hi sl Q I rx hs pl pu h;obtain⟨a,xs,rfl,hx,hw,q⟩:=h;cases rx;obtain⟨its,r,ht,hz⟩:=I.tuple hx;have hlen:its.toArray.size=xs.length:=by rw[u5];exact r.length.symm
 refine⟨"tuple",_,PyProof.Rows.slot_tuple_getitem.lookup,ht.typeIs,?_⟩;refine HT.getItem_tuple_cut ht hs pl pu (by rw[hlen];exact hw) ?_ (by rw[hlen];exact hz);rw[hlen];refine⟨.ref s.heap.objs.size,_,I.laid (t':=s.toks) (o:=.tup (cutV xs lo hi)) (λb ob q=>j5 _ q) (j1 _) ?_,rfl,q _ (I.hok.fresh (j1 _))⟩;exact⟨m7 (q5a xs lo hi) hz,_,(r.drop (HT.sIx xs.length 0 lo)).take (HT.sIx xs.length xs.length hi - HT.sIx xs.length 0 lo),L0.new _ _⟩
def z7T(K:PySem.W.Frag):R2:=λx y H Q=>∃a b xs ys,x=.ref a/\y=.ref b/\SqT K H a xs/\SqT K H b ys/\xs≠[]/\xs.length+ys.length<=sizeLine /\
 (ys=[]->Q (.ref a) H)/\(ys≠[]->∀p,H p=none->Q (.ref p) (upd H p (.tup (xs++ys))))
theorem Vals.nil_iff(r:Vals xs us):us=[]↔xs=[]:=by
 cases r with
 | nil=>simp
 | cons _ _=>simp
theorem z6W:OpR X (binaryOp .Add) (z7T X.K):=by
 intro pins s σ H x y v u Q I rx ry h;obtain⟨a,b,xs,ys,rfl,rfl,ha,hb,hx,hz,q1,q2⟩:=h;cases rx;cases ry;obtain⟨its,r1,p1,_⟩:=I.tuple ha;obtain⟨its2,r2,p2,_⟩:=I.tuple hb;refine HT.cat_tup p1 p2 (λz=>hx (r1.nil_iff.mp z)) (λz=>⟨.ref a,H,I,rfl,q1 (r2.nil_iff.mp z)⟩) (λz=>?_) (by rw[←r1.length,←r2.length];exact hz);refine⟨.ref s.heap.objs.size,_,I.laid (t':=s.toks) (o:=.tup (xs++ys)) (λb ob q=>j5 _ q) (j1 _) ?_,rfl,q2 (λw=>z (r2.nil_iff.mpr w)) _ (I.hok.fresh (j1 _))⟩;exact⟨by rw[A7];exact hz,_,r1.append r2,L0.new _ _⟩
end
end
section
def ixN(n:Nat)(i:Int):Option Nat:=if 0<=i then(if i<n then some i.toNat else none)else if -(n:Int)<=i then some (i+n).toNat else none
def atI{α:Type}(xs:List α)(i:Int):Option α:=(ixN xs.length i).bind λj=>xs[j]?
theorem z6N(h:ixN n i=some j):seqIndex? i n=some j/\j<n /\ -(n:Int)<=i/\i<n:=by
 unfold ixN at h;by_cases h0:0<=i
 ·rw[d4 h0]at h;by_cases h1:i<n
  ·rw[d4 h1]at h;have e:i.toNat=j:=x4 h;exact⟨by rw[seqIndex_of h0 h1,e],by omega,by omega,h1⟩
  ·rw[d6 h1]at h;cases h
 ·rw[d6 h0]at h;by_cases h1 : -(n:Int)<=i
  ·rw[d4 h1]at h;have e:(i+n).toNat=j:=x4 h;exact⟨by rw[seqIndex_neg (by omega) h1,e],by omega,h1,by omega⟩
  ·rw[d6 h1]at h;cases h
theorem q8v(h:atI xs i=some v):∃j,seqIndex? i xs.length=some j/\xs[j]? = some v/\j<xs.length /\ -(xs.length:Int)<=i/\i<xs.length:=by
 unfold atI at h;cases e:ixN xs.length i with
 | none=>rw[e]at h;cases h
 | some j=>
  rw[e]at h;obtain⟨h1,h2,h3,h4⟩:=z6N e;exact⟨j,h1,h,h2,h3,h4⟩
def z6x(b:Expr):Prop:=∀o i,subscripted b false o i=operate [o,i] (getItem o i)
def IxR(X:Cx)(r:R2):Prop:=
 ∀(value slice:Expr) (pins:List (Addr×Obj)) (s:Shared) (σ:St) (H:Hp) (x y:V) (v u:Value) (Q:VK),Inv X pins σ H s->RelV x v->RelV y u->r x y H Q ->
  subscripted slice false v u=operate [v,u] (getItem v u)->wpAny (model X.prog X.w) X.A (subscriptTail value slice v u) (EP X pins σ Q) X.xe s
def MtR(X:Cx)(id:String)(r:V->List V->Hp->VK->Prop):Prop:=
 ∀(pins:List (Addr×Obj)) (s:Shared) (σ:St) (H:Hp) (x:V) (xs:List V) (v:Value) (us:List Value) (Q:VK),Inv X pins σ H s->RelV x v->Vals xs us->r x xs H Q ->
  wpAny (model X.prog X.w) X.A (call (.builtin id) (v::us)) (EP X pins σ Q) X.xe s
section
variable {X:Cx} {a b:Expr} {ta tb:TE} {pos:Pos}
theorem IxR.or(h:IxR X r)(h':IxR X r'):IxR X (λx y H Q=>r x y H Q\/r' x y H Q):=by
 intro value slice pins s σ H x y v u Q I rx ry q hs;rcases q with q | q
 ·exact h value slice pins s σ H x y v u Q I rx ry q hs
 ·exact h' value slice pins s σ H x y v u Q I rx ry q hs
theorem y1G(hr:IxR X r)(ha:PE X a ta)(hb:PE X b tb)(hs:z6x b):PE X (.Subscript a b pos) (tOp r ta tb):=by
 intro pins s σ H Q I h;exact Subscript_ (binT ha hb I h λv u s2 x y H2 I2 rx ry q=>hr a b pins s2 σ H2 x y v u Q I2 rx ry q (hs _ _))
def rIxL(K:PySem.W.Frag):R2:=λx y H Q=>∃p xs i v,x=.ref p/\y=.int i/\SqL K H p xs/\atI xs i=some v/\Q v H
def rIxT(K:PySem.W.Frag):R2:=λx y H Q=>∃p xs i v,x=.ref p/\y=.int i/\SqT K H p xs/\atI xs i=some v/\Q v H
def rIxS:R2:=λx y H Q=>∃z i c,x=.str z/\y=.int i/\z.length<=sizeLine/\atI z.cps.toList i=some c/\Q (.str ⟨#[c]⟩) H
theorem z7a:IxR X (rIxL X.K):=by
 intro value slice pins s σ H x y v u Q I rx ry h hs;obtain⟨p,xs,i,z,rfl,rfl,hq,he,q⟩:=h;cases rx;obtain⟨t,rfl⟩:=ry;obtain⟨its,r,pl,hz⟩:=I.list hq;obtain⟨j,h1,h2,h3,h4,h5⟩:=q8v he;obtain⟨w,ew,rw'⟩:=r.get h2;have hl:=r.length;have hn:=Y9;have fin:EP X pins σ Q w s:=⟨z,H,I,rw',q⟩;by_cases h0:0<=i
 ·have hj:i.toNat=j:=by
   rw[seqIndex_of h0 h5]at h1;exact x4 h1
  exact item_listR pl.isList h0 (by omega) (by rw[hj];simpa using ew) fin hs
 ·have hj:(i+(its.toArray.size:Int)).toNat=j:=by
   rw[seqIndex_neg (by omega) h4]at h1;rw[u5,←hl];exact x4 h1
  exact w3a (x:=w) pl.isList.typeIs slot_list_getitem.lookup
   (wpAny_getItem_list_neg (Q:=λr s'=>r=w/\EP X pins σ Q r s') pl.isList (by omega) (by rw[u5]<;>omega) (by omega) (by rw[hj];simpa using ew) ⟨rfl,fin⟩) hs
theorem z8K:IxR X (rIxT X.K):=by
 intro value slice pins s σ H x y v u Q I rx ry h hs;obtain⟨p,xs,i,z,rfl,rfl,hq,he,q⟩:=h;cases rx;obtain⟨t,rfl⟩:=ry;obtain⟨its,r,pl,hz⟩:=I.tuple hq;obtain⟨j,h1,h2,h3,h4,h5⟩:=q8v he;obtain⟨w,ew,rw'⟩:=r.get h2;have hl:=r.length;have hn:=Y9;have fin:EP X pins σ Q w s:=⟨z,H,I,rw',q⟩;exact w3a (x:=w) pl.typeIs slot_tuple_getitem.lookup
  (getItem_tuple (j:=j) (Q:=λr s'=>r=w/\EP X pins σ Q r s') pl (by omega) (by omega) (by rw[u5,←hl];exact h1) (by simpa using ew) ⟨rfl,fin⟩) hs
theorem z8s:IxR X rIxS:=by
 intro value slice pins s σ H x y v u Q I rx ry h hs;obtain⟨z,i,c,rfl,rfl,hz,he,q⟩:=h;obtain⟨t,rfl⟩:=rx;obtain⟨t',rfl⟩:=ry;obtain⟨j,h1,h2,h3,h4,h5⟩:=q8v he;have hl:z.cps.toList.length=z.length:=by simp[Str.length]
 rw[hl]at h1 h4 h5;have hn:=Y9;exact tail_any (U9 s z t) slot_str_getitem.lookup (getItem_str (c:=c) (by
  have e1:decide (i < -(2^63:Int))=false:=m6 (by omega);have e2:decide (i ≥ 2^63)=false:=m6 (by omega);rw[e1,e2,Bool.or_false]) (by rw[h1];simpa using h2) ⟨.str ⟨#[c]⟩,H,I.tok _,⟨_,rfl⟩,q⟩) hs
def rIx(K:PySem.W.Frag):R2:=λx y H Q=>rIxL K x y H Q\/rIxT K x y H Q\/rIxS x y H Q
theorem z8x:IxR X (rIx X.K):=z7a.or (z8K.or z8s)
theorem q6E(lo hi:Option Int)(n:Nat):(sliceBounds lo hi none n).1=((HT.sIx n 0 lo:Nat):Int)/\(sliceBounds lo hi none n).2.1=((HT.sIx n n hi:Nat):Int)/\(sliceBounds lo hi none n).2.2=1:=by
 refine⟨?_,?_,rfl⟩
 ·cases lo with
  | none=>simp[sliceBounds,HT.sIx]
  | some i=>
   simp only[sliceBounds,HT.sIx,Option.getD_none,show(1:Int)>0 by decide,if_true];by_cases h:i<0
   ·simp only[h,if_true]<;>omega
   ·simp only[h,if_false]<;>omega
 ·cases hi with
  | none=>simp[sliceBounds,HT.sIx]
  | some i=>
   simp only[sliceBounds,HT.sIx,Option.getD_none,show(1:Int)>0 by decide,if_true];by_cases h:i<0
   ·simp only[h,if_true]<;>omega
   ·simp only[h,if_false]<;>omega
theorem q5X(its:List Value)(lo hi:Option Int):slicePick its.toArray lo hi none=((its.drop (HT.sIx its.length 0 lo)).take (HT.sIx its.length its.length hi - HT.sIx its.length 0 lo)).toArray:=by
 obtain⟨h1,h2,h3⟩:=q6E lo hi its.toArray.size;unfold slicePick;rw[h1,h2,h3];simp only[sliceRange_one,pick_run,u5]<;>rfl
def rSlL(K:PySem.W.Frag):V->Option Int->Option Int->Hp->VK->Prop:=λx lo hi H Q=>∃a xs,x=.ref a/\SqL K H a xs/\∀p,H p=none->Q (.ref p) (upd H p (.lst (cutV xs lo hi)))
theorem z5r:SlR X (rSlL X.K):=by
 intro pins s σ H x v vl vu lo hi sl Q I rx hs pl pu h;obtain⟨a,xs,rfl,hx,q⟩:=h;cases rx;obtain⟨its,r,ht,hz⟩:=I.list hx;have hlen:=r.length;refine⟨"list",_,slot_list_getitem.lookup,ht.isList.typeIs,?_⟩;refine wpAny_getItem_list_slice ht.isList hs pl pu .none (by simp) ?_ (by rw[u5]<;>omega);rw[q5X,←hlen];refine⟨.ref s.heap.objs.size,_,I.laid (t':=s.toks) (o:=.lst (cutV xs lo hi)) (λb ob q=>j5 _ q) (j1 _) ?_,rfl,q _ (I.hok.fresh (j1 _))⟩;exact⟨m7 (q5a xs lo hi) hz,_,0,(r.drop (HT.sIx xs.length 0 lo)).take (HT.sIx xs.length xs.length hi - HT.sIx xs.length 0 lo),v9 _ rfl⟩
theorem q2N:w9 X (.builtin "len") (λxs H Q=>∃p ys,xs=[.ref p]/\(SqL X.K H p ys\/SqT X.K H p ys)/\Q (.int ys.length) H):=by
 intro pins s σ H xs us Q I r h;obtain⟨p,ys,rfl,hq,q⟩:=h;obtain⟨u,rfl,rx⟩:=F7 r;cases rx;have hn:=Y9;rcases hq with hq | hq
 ·obtain⟨its,r',pl,hz⟩:=I.list hq;have hlen:=r'.length;exact Calls.call_len_list pl.isList (by simp only[u5]<;>omega) ⟨.int ys.length,H,I.tok _,⟨s.toks+1,by rw[u5,hlen]⟩,q⟩
 ·obtain⟨its,r',pl,hz⟩:=I.tuple hq;have hlen:=r'.length;exact len_tuple pl (by simp only[u5]<;>omega) ⟨.int ys.length,H,I.tok _,⟨s.toks+1,by rw[u5,hlen]⟩,q⟩
theorem q7h:w9 X (.builtin "len") (λxs H Q=>∃z,xs=[.str z]/\z.length<=sizeLine/\Q (.int z.length) H):=by
 intro pins s σ H xs us Q I r h;obtain⟨z,rfl,hz,q⟩:=h;obtain⟨u,rfl,t,rfl⟩:=F7 r;have hn:=Y9;exact len_str (by omega) ⟨.int z.length,H,I.tok _,⟨_,rfl⟩,q⟩
theorem q2O:w9 X (.type "list") (λxs H Q=>∃p ys,xs=[.ref p]/\(SqL X.K H p ys\/SqT X.K H p ys)/\∀l,H l=none->Q (.ref l) (upd H l (.lst ys))):=by
 intro pins s σ H xs us Q I r h;obtain⟨p,ys,rfl,hq,q⟩:=h;obtain⟨u,rfl,rx⟩:=F7 r;cases rx;have fin:∀(its:List Value),Vals ys its->ys.length<=sizeLine->∀(h':Heap) (c':Nat),(∀b o',s.heap.get? b=some o'->h'.get? b=some o') ->
   h'.get? s.heap.objs.size=some {cls:=.type "list",dict:=none,data:=.seq its.toArray c',slots:=#[]} -> EP X pins σ Q (.ref s.heap.objs.size) {s with heap:=h'}:=λits r' hz h' c' kp e=>
  ⟨.ref s.heap.objs.size,_,I.laid (t':=s.toks) kp (j1 _) (show x5 X.prog X.w _ h' _ (.lst ys)from⟨hz,its,c',r',e⟩),rfl,q _ (I.hok.fresh (j1 _))⟩
 rcases hq with hq | hq
 ·obtain⟨its,r',pl,hz⟩:=I.list hq;have hlen:=r'.length;obtain⟨o,ho,hc,n,hd⟩:=pl.isList;exact call_list_seq p (.inl rfl) ho hc hd (λh' c' kp e=>fin its r' hz h' c' kp e) (by simp only[u5]<;>omega)
 ·obtain⟨its,r',pl,hz⟩:=I.tuple hq;have hlen:=r'.length;obtain⟨o,ho,hc,n,hd⟩:=pl;exact call_list_seq p (.inr rfl) ho hc hd (λh' c' kp e=>fin its r' hz h' c' kp e) (by simp only[u5]<;>omega)
theorem q3M:w9 X (.type "tuple") (λxs H Q=>∃p ys,xs=[.ref p]/\((SqL X.K H p ys/\∀l,H l=none->Q (.ref l) (upd H l (.tup ys)))\/(SqT X.K H p ys/\Q (.ref p) H))):=by
 intro pins s σ H xs us Q I r h;obtain⟨p,ys,rfl,h⟩:=h;obtain⟨u,rfl,rx⟩:=F7 r;cases rx;rcases h with⟨hq,q⟩ | ⟨hq,q⟩
 ·obtain⟨its,r',pl,hz⟩:=I.list hq;have hlen:=r'.length;refine call_tuple_list pl.isList (λh' kp=>?_) (by simp only[u5]<;>omega);have I1:Inv X pins σ H {s with heap:=h'}:=I.kept (t':=s.toks) kp;have I2:Inv X pins σ (upd H h'.objs.size (.tup ys)) {s with heap:=h'.push {cls:=.type "tuple",data:=.seq its.toArray}}:=
   I1.laid (t':=s.toks) (λb o e=>j5 _ e) (j1 _) (show x5 X.prog X.w _ _ _ (.tup ys)from⟨hz,its,r',L0.new _ _⟩)
  exact⟨.ref h'.objs.size,_,I2,rfl,q _ (I1.hok.fresh (j1 _))⟩
 ·obtain⟨its,r',pl,hz⟩:=I.tuple hq;exact call_tuple_same pl ⟨.ref p,H,I,rfl,q⟩
def tyV(K:PySem.W.Frag)(T:String)(x:V)(H:Hp):Prop:=match x with
 | .str _=>T = "str"
 | .int _=>T = "int"
 | .ref p=>(T = "list" /\ ∃xs,SqL K H p xs)\/(T = "tuple" /\ ∃o,K.lookup p=some o/\o.cls=.type "tuple" /\ o.dict=none) \/
   (T = "dict" /\ ((∃kvs,H p=some (.dK kvs))\/∃kvs,H p=some (.dT kvs)))\/(T = "set" /\ ∃S n,H p=some (.set S n))
 | _=>False
theorem z4i(I:Inv X pins σ H s)(r:RelV x v)(ty:tyV X.K T x H) :
  s.TypeIs v T/\∀a,v=.ref a->∃ob,s.heap.get? a=some ob/\ob.dict=none:=by
 cases x with
 | str z=>
  obtain⟨t,rfl⟩:=r;cases(show T = "str" from ty);exact⟨U9 s z t,λ_ e=>nomatch e⟩
 | int i=>
  obtain⟨t,rfl⟩:=r;cases(show T = "int" from ty);exact⟨typeIs_int s i t,λ_ e=>nomatch e⟩
 | ref p=>
  cases r;rcases ty with⟨rfl,xs,hq⟩ | ⟨rfl,o,hk,hc,hd⟩ | ⟨rfl,hk⟩ | ⟨rfl,S,n,hk⟩
  ·obtain⟨its,_,pl,_⟩:=I.list hq;refine⟨pl.isList.typeIs,λa e=>?_⟩;cases e;obtain⟨o,n,e,c,hd,_⟩:=pl;exact⟨o,e,hd⟩
  ·refine⟨⟨o,I.kIn p o hk,hc⟩,λa e=>?_⟩;cases e;exact⟨o,I.kIn _ o hk,hd⟩
  ·have z:∃o,s.heap.get? p=some o/\o.ExactDict:=by
    rcases hk with⟨kvs,hk⟩ | ⟨kvs,hk⟩
    ·obtain⟨_,_,_,_,o,_,_,e,ex,_⟩:=I.hok p _ hk;exact⟨o,e,ex⟩
    ·obtain⟨_,_,_,_,o,_,_,e,ex,_⟩:=I.hok p _ hk;exact⟨o,e,ex⟩
   obtain⟨o,e,ex⟩:=z;refine⟨⟨o,e,ex.1⟩,λa e2=>?_⟩;cases e2;exact⟨o,e,ex.2.1⟩
  ·obtain⟨o,_,_,_,e,ex,_⟩:=I.hok p _ hk;refine⟨⟨o,e,ex.1⟩,λa e2=>?_⟩;cases e2;exact⟨o,e,ex.2.1⟩
 | _=>exact False.elim ty
def tBM0(K:PySem.W.Frag)(T:String)(r:V->List V->Hp->VK->Prop)(to:TE):TE:=λσ H Q=>to σ H λx H1=>tyV K T x H1/\r x [] H1 Q
def tBM(K:PySem.W.Frag)(T:String)(r:V->List V->Hp->VK->Prop)(to:TE)(t:TA):TE:=λσ H Q=>to σ H λx H1=>tyV K T x H1/\t σ H1 λxs H2=>r x xs H2 Q
variable {o e:Expr} {es:List Expr} {to:TE} {t:TA} {name:Str} {apos cpos:Pos} {T id:String} {r:V->List V->Hp->VK->Prop}
theorem z9D(pa:PlainAttrs T)(slot:Slot T name id)(hty:typeOf (.builtin id)=pure (.type "method_descriptor"))(hm:MtR X id r)(ho:PE X o to)
  (hbase:attributeBase o name X.env (eval o X.env)=eval o X.env:=by rfl) (hline:(apos.endLine==cpos.line)=true:=by rfl):PE X (.Call (.Attribute o name apos) [] [] cpos) (tBM0 X.K T r to):=by
 intro pins s σ H Q I h;refine wpAny_Call_method0_late hbase hline (thn (ho pins s σ H _ I h) λv s1 ⟨x,H1,I1,r1,ty,q1⟩=>?_);obtain⟨h1,h2⟩:=z4i I1 r1 ty;exact⟨T,id,pa,slot,hty,h1,h2,w1T rfl (PySem.evalArgs_none (hm pins s1 σ H1 x [] v [] Q I1 r1 .nil q1))⟩
theorem z9L(pa:PlainAttrs T)(slot:Slot T name id)(hty:typeOf (.builtin id)=pure (.type "method_descriptor"))(hm:MtR X id r)(ho:PE X o to)(ha:PA X (e::es) t)
  (hbase:attributeBase o name X.env (eval o X.env)=eval o X.env:=by rfl)
  (hfew:((backTo cpos (starEach (e::es) X.env)).all (λx=>!x.1)&&(backToKw cpos (keywordEach [] X.env)).all (λx=>x.1.isSome)
   && decide ((e::es).length+([]:List Keyword).length+(if([]:List Keyword).isEmpty then 0 else 1)<30))=true:=by rfl)
  (hline:(apos.endLine==cpos.line)=true:=by rfl) (hs:starEach (e::es) X.env=(false,eval e X.env)::starEach es X.env:=by rfl) (hplain:(backTo cpos (starEach es X.env)).any (·.1)=false:=by rfl) :
  PE X (.Call (.Attribute o name apos) (e::es) [] cpos) (tBM X.K T r to t):=by
 intro pins s σ H Q I h;refine w3b hbase hfew hline rfl (thn (ho pins s σ H _ I h) λv s1 ⟨x,H1,I1,r1,ty,q1⟩=>?_);obtain⟨h1,h2⟩:=z4i I1 r1 ty;refine⟨T,id,pa,slot,hty,h1,h2,?_⟩;have hA:=ha cpos pins s1 σ H1 _ I1 q1;rw[hs]at hA ⊢;refine w1T (by show(false||(backTo cpos (starEach es X.env)).any (·.1))=false;rw[hplain]<;>rfl) (w1J ?_);exact thn hA λus s2 ⟨vs,H2,I2,r2,q2⟩=>hm pins s2 σ H2 x vs v us Q I2 r1 r2 q2
end
end
section
def MtM(X:Cx)(id:String)(r:V->List V->Hp->VK->Prop):Prop:=
 ∀(pins:List (Addr×Obj)) (s:Shared) (σ:St) (H:Hp) (x:V) (xs:List V) (v:Value) (us:List Value) (Q:VK),Inv X pins σ H s->RelV x v->Vals xs us->r x xs H Q ->
  wpAny (model X.prog X.w) X.A (call (.builtin id) (v::us)) (EP X pins σ Q) X.xe s
theorem Vals.unc(h:Vals (x::xs) us):∃u ws,us=u::ws/\RelV x u/\Vals xs ws:=by
 cases h with
 | cons r t=>exact⟨_,_,rfl,r,t⟩
theorem Vals.nl(h:Vals [] us):us=[]:=by cases h;rfl
theorem Vals.one(h:Vals [x] us):∃u,us=[u]/\RelV x u:=by
 obtain⟨u,ws,rfl,r,t⟩:=h.unc;cases t.nl;exact⟨_,rfl,r⟩
theorem Vals.two(h:Vals [x,y] us):∃u v,us=[u,v]/\RelV x u/\RelV y v:=by
 obtain⟨u,ws,rfl,r,t⟩:=h.unc;obtain⟨v,rfl,q⟩:=t.one;exact⟨_,_,rfl,r,q⟩
theorem Vals.rep(h:Vals xs us):∀k:Nat,Vals (List.replicate k xs).flatten (List.replicate k us).flatten
 | 0=>.nil
 | k+1=>by rw[U2,U2,Y1,Y1];exact Vals.append h (Vals.rep h k)
theorem q7B(its:List Value):∀(k:Nat) (acc:List Value),
  List.foldl (λx1 x2=>x1++x2) acc.toArray (List.replicate k its.toArray)=(acc++(List.replicate k its).flatten).toArray
 | 0,acc=>by simp
 | k+1,acc=>by
  have e:acc.toArray++its.toArray=(acc++its).toArray:=by simp
  have e2:(acc++its)++(List.replicate k its).flatten=acc++(List.replicate (k+1) its).flatten:=(by rw[U2,Y1,U4]);rw[←e2,←q7B its k (acc++its),←e,U2,List.foldl_cons]
section
variable {X:Cx} {pins:List (Addr×Obj)} {σ:St} {H:Hp} {s:Shared} {l b:Addr} {xs ys zs:List V}
theorem Inv.lset{its its':List Value}{n:Nat}{f:Array Value->Array Value}{t':Nat}(I:Inv X pins σ H s)(hH:H l=some (.lst xs))
  (e:s.heap.get? l=some {cls:=.type "list",data:=.seq its.toArray n}) (hf:f its.toArray=its'.toArray) (hv:Vals ys its') (hz:ys.length<=sizeLine) :
  Inv X pins σ (upd H l (.lst ys)) {s with heap:=s.heap.update l (Obj.mapSeq f),toks:=t'}:=by
 have q:=PySem.IsL.update e f;rw[hf]at q;refine I.write (x:=l) (e:=l) (by rw[hH];exact trivial) (.inl rfl) (λb' u hb hu=>(U1 s.heap (Obj.mapSeq f) (Ne.symm hb)).trans hu) ⟨_,q⟩ ?_;exact⟨hz,its',_,hv,q⟩
theorem Inv.lnew(I:Inv X pins σ H s)(hv:Vals ys its)(hz:ys.length<=sizeLine) :
  Inv X pins σ (upd H s.heap.objs.size (.lst ys)) {s with heap:=s.heap.push {cls:=.type "list",data:=.seq its.toArray},toks:=t'}:=
 I.laid (λ_ _ q=>j5 _ q) (j1 _) ⟨hz,its,0,hv,v9 _ rfl⟩
theorem Inv.fresh(I:Inv X pins σ H s):H s.heap.objs.size=none:=I.hok.fresh (j1 _)
theorem Inv.lstM(I:Inv X pins σ H s)(hH:H l=some (.lst xs)):xs.length<=sizeLine/\∃(its:List Value) (n:Nat),Vals xs its/\xs.length=its.length/\s.heap.get? l=some {cls:=.type "list",data:=.seq its.toArray n}:=by
 obtain⟨z,its,n,r,e⟩:=I.hok l _ hH;exact⟨z,its,n,r,r.length,e⟩
theorem z3F(h:n<=sizeLine):Builtin.List.listTooLong n=false:=by
 unfold Builtin.List.listTooLong;exact m6 (by omega)
end
section
variable {X:Cx}
def z6a:V->List V->Hp->VK->Prop:=λx vs H Q=>∃l xs y,x=.ref l/\vs=[y]/\H l=some (.lst xs)/\xs.length<sizeLine/\Q .non (upd H l (.lst (xs++[y])))
theorem z1U:MtM X "list.append" z6a:=by
 intro pins s σ H x vs v us Q I rx rv h;obtain⟨l,xs,y,rfl,rfl,hH,hz,q⟩:=h;cases rx;obtain⟨u,rfl,ru⟩:=rv.one;obtain⟨z,its,n,r,hl,e⟩:=I.lstM hH;refine Y6 F.slot_list_append ⟨_,e,rfl⟩ F.entry_list_append (F.args_list_append_2 _ _) (PySem.list_append l its.toArray n u (by rw[u5];omega)) ⟨e,?_⟩;refine⟨.non,_,I.lset (its':=its++[u]) hH e (by simp) (r.append (.cons ru .nil)) ?_,rfl,q⟩;rw[A7,w1D];omega
def rCat:R2:=λx y H Q=>∃l b xs zs,x=.ref l/\y=.ref b/\H l=some (.lst xs)/\H b=some (.lst zs)/\xs.length+zs.length<=sizeLine/\∀p,H p=none->Q (.ref p) (upd H p (.lst (xs++zs)))
theorem z9e:OpR X (binaryOp .Add) rCat:=by
 intro pins s σ H x y v u Q I rx ry h;obtain⟨l,b,xs,zs,rfl,rfl,hH,hB,hz,q⟩:=h;cases rx;cases ry;obtain⟨z,its,n,r,hl,e⟩:=I.lstM hH;obtain⟨z2,its2,n2,r2,hl2,e2⟩:=I.lstM hB;refine PySem.P.add_list e e2 ?_ (by rw[u5,u5];omega);have ea:its.toArray++its2.toArray=(its++its2).toArray:=by simp
 rw[ea];exact⟨.ref _,_,I.lnew (t':=s.toks) (r.append r2) (by rw[A7];omega),rfl,q _ I.fresh⟩
def rRep:R2:=λx y H Q=>∃l k xs,x=.ref l/\y=.int k/\H l=some (.lst xs) /\ -(2^63)<=k/\k<2^63/\xs.length*k.toNat<=sizeLine /\
 ∀p,H p=none->Q (.ref p) (upd H p (.lst (List.replicate k.toNat xs).flatten))
theorem z5C(xs:List α)(k:Nat):(List.replicate k xs).flatten.length=k*xs.length:=by
 induction k with
 | zero=>simp
 | succ k ih=>rw[U2,Y1,A7,ih,Nat.succ_mul,Nat.add_comm]
theorem z8d:OpR X (binaryOp .Mult) rRep:=by
 intro pins s σ H x y v u Q I rx ry h;obtain⟨l,k,xs,rfl,rfl,hH,h1,h2,hz,q⟩:=h;cases rx;obtain⟨t,rfl⟩:=ry;obtain⟨z,its,n,r,hl,e⟩:=I.lstM hH;have hlen:its.toArray.size*k.toNat<=sizeLine:=by rw[u5,←hl];exact hz
 have hcap:¬its.toArray.size*k.toNat>(2^63 - 1)/8:=by
  have:(sizeLine:Nat)<=(2^63 - 1)/8:=by decide
  omega
 have hfit:¬(!Builtin.List.listFitsIndex k)=true:=(by rw[fitsIndex_both h1 h2];exact G5);have hlong:¬Builtin.List.listTooLong (its.toArray.size*k.toNat)=true:=(by rw[z3F hlen];exact G5);have hnew:List.foldl (λx1 x2=>x1++x2) #[] (List.replicate (if its.toArray.isEmpty=true then 0 else k.toNat) its.toArray)=(List.replicate k.toNat its).flatten.toArray:=by
  have f0:∀m:Nat,List.foldl (λx1 x2=>x1++x2) #[] (List.replicate m its.toArray)=(List.replicate m its).flatten.toArray:=λm=>by have:=q7B its m [];rw[w2r]at this;exact this
  rw[f0];cases its with
  | nil=>simp
  | cons a r'=>rw[d6 (by simp)]
 refine wpAny_binaryOp_repeat_ref (T:="list") (U:="int") (by decide) ⟨_,e,rfl⟩ (λs'=>typeIs_int s' k t) noFill_list_mul F.fills_int_mul F.slot_int_rmul repeat_list F.slot_int_index.lookup
  (Y6 F.slot_int_rmul (typeIs_int s k t) F.entry_int_rmul (F.args_int_rmul_2 _ _) (int___rmul___int_list k t l its.toArray n)
   ⟨e,rfl,⟨_,e,rfl⟩,Y6 F.slot_list_mul ⟨_,e,rfl⟩ F.entry_list_mul (F.args_list_mul_2 _ _) (AutoListH.list___mul___list_int_3 l its.toArray n k t hfit hcap hlong) ⟨e,?_⟩⟩)
 rw[hnew];exact⟨.ref _,_,I.lnew (t':=s.toks) (r.rep k.toNat) (by rw[z5C,Nat.mul_comm];exact hz),rfl,q _ I.fresh⟩
end
section
variable {prog:Program} {w:World} {A:Around} {E:Value->Shared->Prop} {s:Shared}
end
section
variable {X:Cx}
end
end
end L2
namespace Att
open PySem PySem.W PySem.Calls PyProof.Rows
section
theorem q4D:∀(ns:List Int) (vs:List Value),WellAll P h vs (ns.map WData.int)->IntsAre vs ns:=by
 intro ns
 induction ns with
 | nil=>
  intro vs w;rw[List.map_nil]at w;cases w;exact .nil
 | cons n ns ih=>
  intro vs w;rw[B7]at w;cases w with
  | cons a b=>
   cases a;exact .cons _ _ (ih _ b)
theorem z1m{l:OpenLaw}{n:Nat}(hn:l.most=some n){P:Params}{h:Heap}{args:List WData}{vals:List Value}
  (hpre:l.row.toRowW.claim.pre args=true) (hwl:WellAll P h vals args) :
  ∃a vs ns,vals=[Value.ref a]/\args=[WData.list (ns.map WData.int)]/\h.get? a=some {cls:=.type "list",data:=.seq vs.toArray} /\ IntsAre vs ns/\ns.length<=n:=by
 have hsh:WShape.hasAll [] args [.list .int]=true:=(pre_splitW hpre).1;have hc:l.pre.holds [] {args:=args} = true:=(pre_splitW hpre).2;obtain⟨d,r,rfl,h1,h2⟩:=hasAllW_cons hsh;obtain rfl:=hasAllW_nil h2;obtain⟨xs,rfl,h3⟩:=hasW_list h1;obtain⟨ns,rfl⟩:=items_int h3;have hlen:ns.length<=n:=by
  unfold OpenLaw.pre at hc;have h4:(WTm.not (.lt (.lit (.int (n:Int))) (.len (.arg 0)))).holds [] {args:=[.list (ns.map .int)]} = true:=by have h4:=(holds_andW hc).1;rw[hn]at h4;exact h4
  have h5:=condW_of h4 (w_not (w_lt w_lit (w_len_list (w_arg rfl))));rw[g9]at h5;refine Nat.le_of_not_lt λq=>?_;have q':(n:Int)<((ns.length:Nat):Int):=by omega
  first
   | (rw[r9 q']at h5;exact absurd h5 (by decide))
   | (simp at h5;omega)
 cases hwl with
 | cons w1 w2=>
  cases w2;cases w1 with
  | list ho hall=>exact⟨_,_,ns,rfl,rfl,ho,q4D ns _ hall,hlen⟩
theorem z0g(l:OpenLaw)(args:List WData):l.row.toRowW.claim.post args (.bool true) args=true:=
 postW_of (r:=l.row.toRowW) (X:=(true==true))
  (show WShape.has [] (.bool true) .bool=true by first | rfl | decide | simp[WShape.has,WShape.arms,WShape.armsAll])
  (show(WTm.eq .res (.lit (.bool true))).value [] {args:=args,res:=some (.bool true),after:=args} = some (.bool (true==true))from w_eq_bool (w_res rfl) w_lit) rfl
theorem attach_call{l:OpenLaw}{n:Nat}{q:Program}{loose:List Str}{XP:(Str->Option Value)->Heap->Prop}{YP:World->Heap->Prop}{d:DefRec}
  (hn:l.most=some n) (hdf:d.params.defaults=[])
  (call:∀(w:World) (s₀ s₁:Shared) (mg mb:Str->Option Value) (fa:Addr) (o:Obj) (pm cd doc:Value) (a:Addr) (vs:List Value) (ns:List Int),
   Ground q loose [] XP w s₀ mg mb s₁.heap->YP w s₁.heap ->
   s₁.heap.get? fa=some o->o.data=.func (docDef d.name d.params d.body d.scope pm cd doc)->s₁.heap.CodeRec cd d.name->mg d.name=some (.ref fa) ->
   s₁.heap.get? a=some {cls:=.type "list",data:=.seq vs.toArray} -> IntsAre vs ns->ns.length<=n->s₁.gens = #[] ->
   codeAny (model l.prog w) callerA (.call (.ref fa) ⟨[.ref a],[]⟩) (λr s'=>r=.ok (.ret (.bool true))/\OldK s₁.heap s'.heap/\s'.os=s₁.os/\AllBare s'.gens) s₁) :
  WalkO q loose XP YP l.row.toRowW d [] (λf vs=>PySem.call f vs):=by
 intro w s₀ s₁ mg mb G Y fa o pm cd doc dV kV ho hd hcd hD hmg hg args vals as hpre hlay hrd hwl hlo;obtain rfl:dV=.none:=Dflts.none hD hdf;obtain rfl:kV=.none:=Dflts.noKw hD;obtain⟨a,vs,ns,rfl,rfl,hobj,hints,hlen⟩:=z1m hn hpre hwl;refine enter_call (U8 (call w s₀ s₁ mg mb fa o pm cd doc a vs ns G Y ho (fd_plain hd) hcd hmg hobj hints hlen hg) λr s' hq=>?_);obtain⟨rfl,h2,h3,h4⟩:=hq;exact⟨.inl ⟨.bool true,.bool true,[],rfl,λ_=>rfl,.bool true,z0g l _,λ_=>⟨List.Pairwise.nil,λ_ hm=>(nomatch hm)⟩⟩,h2,h3,h4⟩
section
variable {prog:Program} {w:World} {A:Around} {E:Value->Shared->Prop} {s:Shared} {K:Frag}
def y1I(h:Heap)(L d:Addr):List (Addr×Obj):=(List.range h.objs.size).filterMap λa=>if a=L\/a=d then none else(h.get? a).map λo=>(a,o)
end
end
end Att
namespace L2
open PySem PySem.Spec PyProof.Rows
section
theorem q6N:∀{vs:List Value} {ns:List Int},IntsAre vs ns->Vals (ns.map V.int) vs
 | _,_,.nil=>.nil
 | _,_,.cons n t h=>.cons ⟨t,rfl⟩ (q6N h)
def Only(H:Hp):Prop:=∀b,H b=none\/(∃o xs,H b=some (.frz o (.lst xs)))\/∃q,H b=some (.tbl q)
theorem q2P:∀{l:List (Addr×α)} {c:α},l.lookup x=some c->(x,c)∈l
 | (y,v)::l,c,h=>by
  rw[D1]at h;split at h
  ·rename_i e;cases h;rw[d5.mp e];exact i5
  ·exact f9 _ (q2P h)
theorem z8p:∀{l:List (Addr×α)} {c:α},l.lookup x=none->(x,c)∉l
 | (y,v)::l,c,h,m=>by
  rw[D1]at h;split at h
  ·cases h
  ·rename_i e;rcases d9.mp m with z | z
   ·cases z;simp at e
   ·exact z8p h z
theorem z9U{α β:Type}{p:α×β}{l:List (α×β)}{q:β}(nd:(l.map (·.1)).Nodup)(h1:(p.1,q)∈l)(h2:p∈l):q=p.2:=by
 induction l with
 | nil=>cases h1
 | cons y l ih=>
  rw[B7]at nd;have nd':=M9.mp nd;rcases d9.mp h1 with z1 | z1<;>rcases d9.mp h2 with z2 | z2
  ·rw[z2,←z1]
  ·exact absurd (j9.mpr ⟨p,z2,by rw[←z1]⟩) nd'.1
  ·exact absurd (j9.mpr ⟨_,z1,by rw[z2]⟩) nd'.1
  ·exact ih nd'.2 z1 z2
theorem z2C{P:Program}{w:World}{K:PySem.W.Frag}{mg mb:Str->Option Value}{CX:CXT}{k:Nat}{fa a:Addr}{fd:FuncData}{x:Str}{sp:Sp}{s₁:Shared}{vs:List Value}{ns:List Int}
  (KX:K.In s₁.heap) (hns:s₁.heap.Ns mainGlobals mg) (hb:s₁.heap.Ns builtinsNs mb) (hbb:∀x:Str,x ≠ "__name__" -> mb x=bootBuiltins x) (hlim:s₁.heap.NoLimit) (hg:s₁.gens = #[])
  (ha:s₁.heap.get? a=some {cls:=.type "list",data:=.seq vs.toArray}) (hi:IntsAre vs ns) (hl:ns.length<=sizeLine) (hr:Room k callerA)
  (F:∀base:Heap,K.In base->base.Ns mainGlobals mg->FnOk P w K mg base CX k fa fd [x] sp) (hbind:∀(s:Shared) (u:Value),BindsTo s fd ⟨[u],[]⟩ [(x,u)])
  (hsp:∀H:Hp,Only H->SqL K H a (ns.map V.int)->sp [.ref a] H (λv _=>v=.bl true) λ_ _ _=>False)
  (htb:∀p∈u0 K,K.lookup p.1=none/\s₁.heap.get? p.1=some {cls:=.none,data:=.fields #[]} /\ isCodeTable s₁.heap p.1) (htn:((u0 K).map (·.1)).Nodup)
  (hbm:∃bm ob,mg "__builtins__" = some (.ref bm)/\bm≠builtinsNs/\s₁.heap.get? bm=some ob/\ob.cls=.type "module" /\ ob.dict=some builtinsNs/\ob.data=.plain)
  (hCX:∀H e s',CX [] H s₁ (λ_ _ _=>False) e s'->False) :
  codeAny (model P w) callerA (.call (.ref fa) ⟨[.ref a],[]⟩) (λr s'=>r=.ok (.ret (.bool true))/\OldK s₁.heap s'.heap/\s'.os=s₁.os/\AllBare s'.gens) s₁:=by
 have rv:=q6N hi;have lenV:=hi.length;have core:∀H:Hp,Only H->SqL K H a (ns.map V.int)->HOk P w H s₁.heap->(∀b,H b≠none->b=a\/((∃q,(b,q)∈u0 K)/\∃q,H b=some (.tbl q)))->(H a≠none->K.lookup a=none)->q6I K H ->
   codeAny (model P w) callerA (.call (.ref fa) ⟨[.ref a],[]⟩) (λr s'=>r=.ok (.ret (.bool true))/\OldK s₁.heap s'.heap/\s'.os=s₁.os/\AllBare s'.gens) s₁:=by
  intro H hO hS hok hA hK hT;have base_of:∀{b:Addr} {o:Obj},s₁.heap.get? b=some o->H b=none->(hidT s₁.heap H).get? b=some o:=λe n=>z3K e n
  have noA:∀{b:Addr} {o:Obj} {es:Array DictEntry} {ep:Nat},s₁.heap.get? b=some o->o.data=.dict es ep->H b=none:=λ{b o es ep} e d=>by
   cases q:H b with
   | none=>rfl
   | some u=>
    rcases hA b (by rw[q];simp)with e' | ⟨⟨qq,e'⟩,_⟩
    ·subst e';rw[ha]at e;cases e;have d':Data.seq vs.toArray _=Data.dict es ep:=d;cases d'
    ·rw[(htb _ e').2.1]at e;cases e;have d':Data.fields #[]=Data.dict es ep:=d;cases d'
  have nsK:∀{b:Addr} {m:Str->Option Value},s₁.heap.Ns b m->(hidT s₁.heap H).Ns b m:=λ{b m} ⟨o,es,ep,e,d,r⟩=>⟨o,es,ep,base_of e (noA e d),d,r⟩;have hKb:K.In (hidT s₁.heap H):=λb o e=>base_of (KX b o e) (by
   cases q:H b with
   | none=>rfl
   | some u=>
    rcases hA b (by rw[q];simp)with e' | ⟨⟨qq,e'⟩,_⟩
    ·subst e';rw[hK (by rw[q];simp)]at e;cases e
    ·rw[(htb _ e').1]at e;cases e)
  have hM:Mod K mg (hidT s₁.heap H):=by
   refine⟨hKb,nsK hns,⟨mb,nsK hb,hbb⟩,let ⟨mc,h1,h2⟩:=hlim;⟨mc,nsK h1,h2⟩,?bm⟩;obtain⟨bm,ob,b1,b2,b3,b4,b5,b6⟩:=hbm;refine⟨bm,ob,b1,b2,base_of b3 ?_,b4,b5,b6⟩;cases q:H bm with
   | none=>rfl
   | some u=>
    rcases hA bm (by rw[q];simp)with e' | ⟨⟨qq,e'⟩,_⟩
    ·subst e';rw[ha]at b3;cases b3;exact absurd (Value.type.inj (show Value.type "list" = Value.type "module" from b4)) (by decide)
    ·rw[(htb _ e').2.1]at b3;cases b3;cases b4
  have e0:Env0 P w K mg (hidT s₁.heap H) callerA [] s₁ H:=⟨rfl,hM,λb o e=>z5L e,Nat.le_of_eq (z2o _ _),trivial,⟨λb hb=>absurd (show b∈([]:List Addr)from hb) (by simp),hT⟩,hok,.of_eq hg⟩;refine U8 ((F _ hKb (nsK hns)).run callerA [] s₁ H ⟨[.ref a],[]⟩ [.ref a] [.ref a] _ _ hr e0 (hbind s₁ (.ref a)) (.cons rfl .nil) (hsp H hO hS)) λr s' h=>?_;cases r with
  | error e=>exact(hCX H e s' h).elim
  | ok fl=>
   cases fl with
   | next=>exact False.elim h
   | brk=>exact False.elim h
   | cont=>exact False.elim h
   | ret u=>
    obtain⟨v,H',os,bare,un,hok',r',q⟩:=h;have q':v=.bl true:=q;subst q';obtain rfl:u=Value.bool true:=r';refine⟨rfl,⟨λb o e=>?_,λb o e=>un.there b o e (by simp)⟩,os,bare⟩;cases q:H b with
    | none=>exact .inl (un.keep b o e q (by intro z;exact absurd (show b∈([]:List Addr)from z) (by simp)) (by simp))
    | some u=>
     rcases hO b with z | ⟨ob,xs,z⟩ | ⟨qq,z⟩
     ·rw[q]at z;cases z
     ·have z2:=un.frzs b ob _ z;obtain⟨e1,_⟩:=hok b _ z;obtain⟨e2,_⟩:=hok' b _ z2;rw[e]at e1;cases e1;exact .inl e2
     ·rcases hA b (by rw[q];simp)with e' | ⟨⟨q2,e'⟩,_⟩
      ·subst e';obtain⟨ps,e1,_⟩:=hok b _ z;rw[ha]at e1;have:=congrArg Obj.data (x4 e1);cases this
      ·have t:=htb _ e';rw[t.2.1]at e;cases e;obtain⟨ps,e2,_⟩:=hok' b _ (un.tbls b _ z);exact .inr (.inl ⟨t.2.2,rfl,#[],ps,rfl,by simpa using e2⟩)
 have tabH:∀f:Hp,(∀p∈u0 K,f p.1=none)->∃H:Hp,(∀b,(∃q,(b,q)∈u0 K/\H b=some (.tbl q))\/((∀q,(b,q)∉u0 K)/\H b=f b)):=λf hf=>by
  refine⟨λb=>match(u0 K).lookup b with | some q=>some (.tbl q) | none=>f b,λb=>?_⟩;cases z:(u0 K).lookup b with
  | some q=>exact .inl ⟨q,q2P z,by simp only[z]⟩
  | none=>exact .inr ⟨λq hq=>z8p z hq,by simp only[z]⟩
 have tabT:∀{H:Hp} {f:Hp},(∀b,(∃q,(b,q)∈u0 K/\H b=some (.tbl q))\/((∀q,(b,q)∉u0 K)/\H b=f b))->q6I K H:=λ{H f} h p hp=>by
  rcases h p.1 with⟨q,h1,h2⟩ | ⟨h1,_⟩
  ·rw[h2,z9U htn h1 hp]
  ·exact absurd hp (h1 p.2)
 cases hk:K.lookup a with
 | some o=>
  have e:=KX a o hk;rw[ha]at e;cases e;obtain⟨H,h⟩:=tabH (λ_=>none) λ_ _=>rfl;refine core H (λb=>?_) (.inr ⟨_,vs.toArray,_,hk,rfl,rfl,rfl,by rw[u5,lenV];exact hl,by simpa using rv⟩) (λb u z=>?_) (λb z=>?_) (λz=>?_) (tabT h)
  ·rcases h b with⟨q,_,e⟩ | ⟨_,e⟩
   ·exact .inr (.inr ⟨q,e⟩)
   ·exact .inl e
  ·rcases h b with⟨q,m,e⟩ | ⟨_,e⟩
   ·rw[e]at z;cases z;exact⟨#[],(htb _ m).2.1,trivial,λpos cv z=>by cases z⟩
   ·rw[e]at z;cases z
  ·rcases h b with⟨q,m,e⟩ | ⟨_,e⟩
   ·exact .inr ⟨⟨q,m⟩,q,e⟩
   ·exact absurd e z
  ·rcases h a with⟨q,m,e⟩ | ⟨_,e⟩
   ·have:=(htb _ m).1;rw[hk]at this;cases this
   ·exact absurd e z
 | none=>
  have hna:∀q,(a,q)∉u0 K:=λq m=>by have:=(htb _ m).2.1;rw[ha]at this;have:=congrArg Obj.data (x4 this);cases this
  obtain⟨H,h⟩:=tabH (λb=>if b=a then some (.frz {cls:=.type "list",data:=.seq vs.toArray} (.lst (ns.map V.int)))else none) λp hp=>d6 λz=>hna p.2 (by rw[←z];exact hp)
  have hHa:H a=some (.frz {cls:=.type "list",data:=.seq vs.toArray} (.lst (ns.map V.int))):=by
   rcases h a with⟨q,m,_⟩ | ⟨_,e⟩
   ·exact absurd m (hna q)
   ·rw[e];exact d4 rfl
  refine core H (λb=>?_) (.inl (.inr ⟨{cls:=.type "list",data:=.seq vs.toArray},hHa⟩)) (λb u z=>?_) (λb z=>?_) (λ_=>hk) (tabT h)
  ·rcases h b with⟨q,_,e⟩ | ⟨_,e⟩
   ·exact .inr (.inr ⟨q,e⟩)
   ·by_cases hb:b=a
    ·exact .inr (.inl ⟨_,_,e.trans (d4 hb)⟩)
    ·exact .inl (e.trans (d6 hb))
  ·rcases h b with⟨q,m,e⟩ | ⟨_,e⟩
   ·rw[e]at z;cases z;exact⟨#[],(htb _ m).2.1,trivial,λpos cv z=>by cases z⟩
   ·rw[e]at z;by_cases hb:b=a
    ·have z':=(d4 hb).symm.trans z;cases z';subst hb;exact⟨ha,by rw[g9];exact hl,vs,_,rv,ha⟩
    ·have z':=(d6 hb).symm.trans z;cases z'
  ·rcases h b with⟨q,m,e⟩ | ⟨_,e⟩
   ·exact .inr ⟨⟨q,m⟩,q,e⟩
   ·by_cases hb:b=a
    ·exact .inl hb
    ·exact absurd (e.trans (d6 hb)) z
end
section
theorem walk_of{l:PySem.W.OpenLaw}{n k:Nat}{q:Program}{loose:List Str}{XP:(Str->Option Value)->Heap->Prop}{YP:World->Heap->Prop}{d:DefRec}{K:Params->PySem.W.Frag}{CX:World->CXT}{sp:World->Sp}{x:Str}
  (hn:l.most=some n) (hn2:n<=sizeLine) (hdf:d.params.defaults=[]) (hr:Room k callerA)
  (hY:∀(w:World) (h:Heap),YP w h->(K w.params).In h) (htb:∀(w:World) (h:Heap),YP w h->(∀p∈u0 (K w.params),(K w.params).lookup p.1=none/\h.get? p.1=some {cls:=.none,data:=.fields #[]} /\ isCodeTable h p.1)/\((u0 (K w.params)).map (·.1)).Nodup)
  (F:∀(w:World) (mg:Str->Option Value) (fa:Addr) (h:Heap),(K w.params).In h->h.Ns mainGlobals mg->mg d.name=some (.ref fa) ->
   ∃fd:FuncData,(∀(s:Shared) (u:Value),BindsTo s fd ⟨[u],[]⟩ [(x,u)]) /\
    ∀base:Heap,(K w.params).In base->base.Ns mainGlobals mg->FnOk l.prog w (K w.params) mg base (CX w) k fa fd [x] (sp w))
  (hsp:∀(w:World) (H:Hp) (a:Addr) (ns:List Int),ns.length<=n->Only H->SqL (K w.params) H a (ns.map V.int)->sp w [.ref a] H (λv _=>v=.bl true) λ_ _ _=>False)
  (hCX:∀(w:World) (H:Hp) (s:Shared) (e:Value) (s':Shared),CX w [] H s (λ_ _ _=>False) e s'->False) :
  PySem.W.WalkO q loose XP YP l.row.toRowW d [] (λf vs=>PySem.call f vs):=by
 refine Att.attach_call hn hdf λw s₀ s₁ mg mb fa o pm cd doc a vs ns G Y ho hd hcd hmg hobj hints hlen hg=>?_;have KX:=hY w _ Y;obtain⟨fd,hb,hF⟩:=F w mg fa _ KX G.T.g hmg;exact z2C KX G.T.g G.T.b G.T.builtins G.T.nolimit hg hobj hints (m7 hlen hn2) hr hF hb (λH hO hS=>hsp w H a ns hlen hO hS) (htb w _ Y).1 (htb w _ Y).2 G.T.bmain λH e s'=>hCX w H s₁ e s'
end
section
abbrev CX0:CXT:=λ_ _ _ _ _ _=>False
abbrev E0:XK:=λ_ _ _=>False
structure Fun(K:PySem.W.Frag)(x qual:Str)(st:Stmt)(f:Addr)(fd:FuncData):Prop where
 ex:∃(oc:Value) (od:Option Addr) (kV doc pm:Value) (an:Option Addr) (cdv ct:Value) (osl:Array (Option Value)),
  fd=PySem.W.fnOf x qual (F6 st) (B9 st) (n9 st) .none kV doc pm an cdv ct/\K.lookup f=some ⟨oc,od,.func fd,osl⟩/\PySem.W.codeIn K cdv qual=true
 kp:PySem.W.keepIn K (.ref f)=true
section
variable {P:Program} {w:World} {K:PySem.W.Frag} {mg:Str->Option Value} {base:Heap}
end
section
variable {X:Cx}
theorem pv(i:Nat)(hN:X.N[i]? = some x:=by rfl)(hv:Vis X.env.scope x:=by first | exact Or.inl rfl | exact Or.inr (Or.inl rfl) | exact Or.inr (Or.inr rfl))(hd:(x==("__debug__" : Str))=false:=by decide)
  (hcd:(x==("__classdict__" : Str))=false:=by decide):PE X (.Name x pos) (tVar i):=Y7 hN hv hd hcd
end
theorem iteF{A B:Prop}(h:B):if false=true then A else B:=by
 rw[d6 G5];exact h
theorem iteT{A B:Prop}(h:A):if true=true then A else B:=by
 rw[d4 rfl];exact h
def Same(H H':Hp):Prop:=∀b o,H b=some o->H' b=some o
theorem Same.refl(H:Hp):Same H H:=λ_ _ h=>h
theorem Same.trans(a:Same H H1)(b:Same H1 H2):Same H H2:=λc o h=>b c o (a c o h)
theorem Same.free(e:Same H H')(h:H' l=Option.none):H l=Option.none:=by
 cases q:H l with
 | none=>rfl
 | some o=>
  rw[e l o q]at h;cases h
theorem Same.seq{K:PySem.W.Frag}{H H':Hp}{a:Addr}{xs:List V}(e:Same H H')(h:SqL K H a xs):SqL K H' a xs:=by
 rcases h with(h | ⟨o,h⟩) | h
 ·exact .inl (.inl (e _ _ h))
 ·exact .inl (.inr ⟨o,e _ _ h⟩)
 ·exact .inr h
end
section
def F2(o:Obj):Option Value:=match o.data with
 | .fields vs=>vs[2]?
 | _=>none
theorem F2.freed(h:F2 o=some c):o.isFreed=false:=by
 unfold F2 at h;split at h
 ·rename_i vs e;exact w2l e
 ·cases h
def St2(h h':Heap):Prop:=∀a o c,h.get? a=some o->F2 o=some c->∃o',h'.get? a=some o'/\F2 o'=some c
theorem St2.refl(h:Heap):St2 h h:=λa o c e q=>⟨o,e,q⟩
theorem St2.trans(x:St2 h h1)(y:St2 h1 h2):St2 h h2:=λa o c e q=>by
 obtain⟨o1,e1,q1⟩:=x a o c e q;exact y a o1 c e1 q1
theorem St2.of_keeps(k:∀b o,h.get? b=some o->h'.get? b=some o):St2 h h':=λa o c e q=>⟨o,k a o e,q⟩
theorem St2.push(h:Heap)(o:Obj):St2 h (h.push o):=.of_keeps λb o e=>j5 _ e
theorem St2.upd(hf:∀o,F2 (f o)=F2 o):St2 h (h.update a f):=λb o c e q=>by
 by_cases z:a=b
 ·subst z;exact⟨f o,X6 f e (F2.freed (by rw[hf];exact q)),by rw[hf];exact q⟩
 ·exact⟨o,by rw[U1 _ _ z];exact e,q⟩
inductive Kp2:{α:Type} -> Sem α->Prop
 | pure {α:Type} (a:α):Kp2 (.pure a)
 | raise {α:Type} (e:Value):Kp2 (.raise e:Sem α)
 | unsupported {α:Type} (w:String):Kp2 (.unsupported w:Sem α)
 | rule {α:Type} (t:String) (k:Unit->Sem α):Kp2 (k ())->Kp2 (.rule t k)
 | at{α:Type} (p:Pos) (k:Unit->Sem α):Kp2 (k ())->Kp2 (.at p k)
 | load {α:Type} (a:Addr) (p:Option Value) (k:Obj->Sem α):(∀o,Kp2 (k o))->Kp2 (.load a p k)
 | update {α:Type} (a:Addr) (p:Option Value) (f:Obj->Obj) (k:Unit->Sem α):(∀o,F2 (f o)=F2 o)->Kp2 (k ())->Kp2 (.update a p f k)
 | alloc {α:Type} (o:Obj) (k:Addr->Sem α):(∀a,Kp2 (k a))->Kp2 (.alloc o k)
 | point {α:Type} (l:List Value) (k:Unit->Sem α):Kp2 (k ())->Kp2 (.point l k)
 | ask {α:Type} (k:Setting->Sem α):(∀a,Kp2 (k a))->Kp2 (.ask k)
 | stack {α:Type} (k:List (Code×Pos)->Sem α):(∀a,Kp2 (k a))->Kp2 (.stack k)
theorem Kp2.wp{M:Model}{Γ:PySem.Ctx}{α:Type}{m:Sem α}(k:Kp2 m):∀{Q:α->Pos->Shared->Prop} {E:Value->Pos->Shared->Prop} {p:Pos} {s:Shared},Sem.wp M Γ m Q E p s->Sem.wp M Γ m (λa p' s'=>Q a p' s'/\St2 s.heap s'.heap) (λe p' s'=>E e p' s'/\St2 s.heap s'.heap) p s:=by
 induction k with
 | pure a=>intro Q E p s h;exact⟨h,.refl _⟩
 | raise e=>intro Q E p s h;exact⟨h,.refl _⟩
 | unsupported w=>intro Q E p s h;exact h
 | rule t k _ ih=>intro Q E p s h;rw[Sem.wp]at h ⊢;exact ih h
 | «at» p' k _ ih=>intro Q E p s h;rw[Sem.wp]at h ⊢;exact ih h
 | load a p' k _ ih=>intro Q E p s h;rw[Sem.wp]at h ⊢;obtain⟨o,e,q⟩:=h;exact⟨o,e,ih o q⟩
 | update a p' f k hf _ ih=>
  intro Q E p s h;rw[Sem.wp]at h ⊢;refine⟨h.1,?_⟩;have st:St2 s.heap (s.heap.update a f):=.upd hf;have:=ih h.2;exact Sem.wp_mono M Γ _ (λa p' s' q=>⟨q.1,st.trans q.2⟩) (λe p' s' q=>⟨q.1,st.trans q.2⟩) _ _ this
 | alloc o k _ ih=>
  intro Q E p s h;rw[Sem.wp]at h ⊢;have st:St2 s.heap (s.heap.push o):=.push _ _;have:=ih _ h;exact Sem.wp_mono M Γ _ (λa p' s' q=>⟨q.1,st.trans q.2⟩) (λe p' s' q=>⟨q.1,st.trans q.2⟩) _ _ this
 | point l k _ ih=>intro Q E p s h;rw[Sem.wp]at h ⊢;exact ih h
 | ask k _ ih=>intro Q E p s h;rw[Sem.wp]at h ⊢;exact ih _ h
 | stack k _ ih=>intro Q E p s h;rw[Sem.wp]at h ⊢;exact ih _ h
theorem Kp2.any(k:Kp2 m)(h:wpAny M A m Q E s):wpAny M A m (λa s'=>Q a s'/\St2 s.heap s'.heap) (λe s'=>E e s'/\St2 s.heap s'.heap) s:=
 λΓ p hΓ=>k.wp (h Γ p hΓ)
theorem Kp2.bind(h:Kp2 m)(hf:∀a,Kp2 (f a)):Kp2 (m.bind f):=by
 induction h with
 | pure a=>exact hf a
 | raise e=>exact .raise e
 | unsupported w=>exact .unsupported w
 | rule t k _ ih=>exact .rule t _ ih
 | «at» p k _ ih=>exact .at p _ ih
 | load a p k _ ih=>exact .load a p _ ih
 | update a p g k hg _ ih=>exact .update a p g _ hg ih
 | alloc o k _ ih=>exact .alloc o _ ih
 | point l k _ ih=>exact .point l _ ih
 | ask k _ ih=>exact .ask _ ih
 | stack k _ ih=>exact .stack _ ih
theorem F2.fields(hi:i≠2)(o:Obj):F2 (Obj.mapFields (·.setIfInBounds i x) o)=F2 o:=by
 obtain⟨c,d,dt,sl⟩:=o;cases dt with
 | fields vs=>
  show(vs.setIfInBounds i x)[2]? = vs[2]?;rw[Array.getElem?_setIfInBounds_ne hi]
 | _=>rfl
theorem q7M(a:Addr):Kp2 (PySem.load a):=.load a none _ λo=>.pure o
theorem q7U(v:Value):Kp2 (fieldsOf v):=by
 unfold fieldsOf;split
 ·refine .bind (q7M _) λo=>?_;split
  ·exact .pure _
  ·exact .unsupported _
 ·exact .unsupported _
theorem q3s(v:Value)(i:Nat):Kp2 (field v i):=by
 unfold field;refine .bind (q7U v) λvs=>?_
 split
 ·exact .pure _
 ·exact .unsupported _
theorem q3n(v:Value)(hi:i≠2)(x:Value):Kp2 (setField v i x):=by
 unfold setField;split
 ·unfold updateField;refine .bind (q7M _) λo=>?_
  split
  ·split
   ·exact .update _ _ _ _ (F2.fields hi) (.pure _)
   ·exact .unsupported _
  ·exact .unsupported _
 ·exact .unsupported _
theorem Z0(e:Value)(fr:Option Addr):Kp2 (setFlight e fr):=by
 unfold setFlight;refine .bind (q3s e 1) λtb=>?_
 split
 ·exact q3n tb (by decide) _
 ·exact .pure _
theorem z0v(env:Env)(outer:List Env):Kp2 (behindIsImport env outer):=by
 unfold behindIsImport;split
 ·exact .pure _
 ·split
  ·exact .pure _
  ·exact .bind (q3s _ _) λ_=>.pure _
theorem q6C:Kp2 PySem.stack:=.stack _ λa=>.pure a
theorem z3H:Kp2 underTheClaimsCaller:=by
 unfold underTheClaimsCaller
 repeat (first | exact .pure _ | exact .unsupported _ | refine .bind q6C λ_=>?_ | split)
theorem z5b(env:Env)(i:Bool)(l:List Env):Kp2 (keptBack env i l):=by
 cases l with
 | nil=>
  show Kp2 (if env.scope.isGenerator||env.scope.isCoroutine then(pure Value.none:Sem Value)else do return if ←underTheClaimsCaller then Value.notImplemented else Value.none);split
  ·exact .pure _
  ·exact .bind z3H λ_=>.pure _
 | cons c r=>exact .pure _
theorem q8Y:∀l:List Env,Kp2 (readyFrames l)
 | []=>.pure _
 | env::outer=>by
  unfold readyFrames;split
  ·refine .bind (q7M _) λo=>?_;split
   ·exact .pure _
   ·refine .bind (z0v _ _) λb=>.bind (z5b _ _ _) λc=>?_;exact .update _ _ _ _ (λo=>rfl) (q8Y outer)
  ·exact .unsupported _
theorem q5n(l:List Env):Kp2 (frameObject l):=by
 cases l with
 | nil=>exact .pure _
 | cons e r=>
  unfold frameObject;exact .bind (q8Y _) λ_=>.pure _
theorem q9t(env:Env):Kp2 (PySem.frameOf env):=by
 unfold PySem.frameOf frameEnvs;refine .bind (.bind q6C λ_=>.pure _) λl=>.bind (q5n _) λo=>?_
 split
 ·exact .pure _
 ·exact .unsupported _
theorem z2X(f:Addr)(b:Bool):Kp2 (entryPlaceOf f b):=by
 unfold entryPlaceOf;refine .bind q6C λa=>?_
 split<;>exact .pure _
theorem q7C(ty:String)(vs:List Value):Kp2 (newFields ty vs):=by
 unfold newFields newObj;dsimp only;split
 ·exact .unsupported _
 ·unfold newObjAsIs;exact .bind (.alloc _ _ λa=>.pure a) λ_=>.pure _
theorem q7K(a b c d e:Value)(p:List Value):Kp2 (EntryCells.newEntry a b c d e p):=q7C _ _
theorem q2b(e:Value)(env:Env):Kp2 (noteFrame e env):=by
 unfold noteFrame;split
 ·refine .bind (q3s e 1) λhead=>?_;have last:∀f:Addr,Kp2 (do setField e 1 (←EntryCells.newEntry head (←PySem.frameOf env) .none (rawInt f) .none (←entryPlaceOf f (head != .none)))):=λf=>
   .bind (q9t env) λ_=>.bind (z2X _ _) λ_=>.bind (q7K _ _ _ _ _ _) λ_=>q3n e (by decide) _
  split
  ·refine .bind (q3s head 3) λfl=>?_;split
   ·exact .pure _
   ·exact .bind (q3n head (by decide) _) λ_=>last _
  ·exact last _
 ·exact .unsupported _
theorem q3Q(env:Env)(e:Value):Kp2 (leaving env e):=by
 unfold leaving;exact .bind (q2b e env) λ_=>Z0 e none
def Cx2(h:Heap):Nat->Addr->Prop
 | 0,a=>∃o,h.get? a=some o/\F2 o=some .none
 | n+1,a=>∃o,h.get? a=some o/\(F2 o=some .none\/∃b,F2 o=some (.ref b)/\Cx2 h n b)
theorem Cx2.st(x:St2 h h'):∀{n:Nat} {a:Addr},Cx2 h n a->Cx2 h' n a
 | 0,a,c=>by obtain⟨o,e,q⟩:=c;exact x a o _ e q
 | n+1,a,c=>by
  obtain⟨o,e,q⟩:=c;rcases q with q | ⟨b,q,c⟩
  ·obtain⟨o',e',q'⟩:=x a o _ e q;exact⟨o',e',.inl q'⟩
  ·obtain⟨o',e',q'⟩:=x a o _ e q;exact⟨o',e',.inr ⟨b,q',c.st x⟩⟩
def Ctxd(h:Heap)(a:Addr):Prop:=∃n,Cx2 h n a
theorem Ctxd.st(c:Ctxd h a)(x:St2 h h'):Ctxd h' a:=let ⟨n,q⟩:=c;⟨n,q.st x⟩
theorem Ctxd.made(hx:Heap.MadeExcOf h h' e C vs):Ctxd h' e:=by
 obtain⟨t,he,_⟩:=hx.there;exact⟨0,_,he,rfl⟩
end
section
theorem x5.there(x:x5 P w H h a o):∃ob,h.get? a=some ob:=by
 cases o with
 | lst xs=>obtain⟨_,_,_,_,e⟩:=x;exact⟨_,e⟩
 | tup xs=>obtain⟨_,_,_,ob,e,_⟩:=x;exact⟨_,e⟩
 | dK kvs=>obtain⟨_,_,_,_,o,_,_,e,_⟩:=x;exact⟨_,e⟩
 | dT kvs=>obtain⟨_,_,_,_,o,_,_,e,_⟩:=x;exact⟨_,e⟩
 | set S n=>obtain⟨o,_,_,_,e,_⟩:=x;exact⟨_,e⟩
 | ins C dx fs=>obtain⟨_,_,_,e,_⟩:=x;exact⟨_,e⟩
 | own y=>obtain⟨_,e⟩:=x;exact⟨_,e⟩
 | xd fs=>obtain⟨_,⟨_,_,_,e,_⟩,_⟩:=x;exact⟨_,e⟩
 | rng lo hi=>obtain⟨_,_,_,e⟩:=x;exact⟨_,e⟩
 | frz ob u=>obtain⟨e,_⟩:=x;exact⟨_,e⟩
 | tbl q=>obtain⟨_,e,_⟩:=x;exact⟨_,e⟩
 | met f y=>exact⟨_,(show h.get? a=some _ from x)⟩
 | ext φ=>obtain⟨_,⟨_,e⟩,_⟩:=x;exact⟨_,e⟩
structure Fly(P:Program)(w:World)(base:Heap)(l:List Env)(ea:Addr)(C:Value)(H:Hp)(B h:Heap):Prop where
 fly:∃a0,Heap.FlyingW B l ea C a0 h
 bas:∀b o,base.get? b=some o->B.get? b=some o
 hok:HOk P w H B
 ctx:Ctxd h ea
theorem Fly.stays(F:Fly P w base l ea C H B h):∀b o,B.get? b=some o->h.get? b=some o:=by
 obtain⟨a0,f⟩:=F.fly;exact f.1
theorem Fly.newE(F:Fly P w base l ea C H B h):B.get? ea=none:=by
 obtain⟨a0,f⟩:=F.fly;exact f.2.1
theorem Fly.untr(F:Fly P w base l ea C H B h):H ea=none:=by
 cases q:H ea with
 | none=>rfl
 | some o=>
  obtain⟨ob,e⟩:=(F.hok ea o q).there;rw[F.newE]at e;cases e
def CXx(P:Program)(w:World)(base:Heap):CXT:=λouter H s E e s'=>∃(ea:Addr) (C:Value) (H':Hp) (B:Heap),e=.ref ea/\s'.os=s.os/\AllBare s'.gens/\Un (frs outer) [] H H' s.heap s'.heap /\
 Fly P w base outer ea C H' B s'.heap/\(∀b o,s.heap.get? b=some o->b∉frs outer->∃o',B.get? b=some o')/\E C none H'
end
section
def o4(cells:List (Str×Addr)):List (Str×NameKind)->List (Str×Addr)->List (Str×Addr)
 | [],acc=>acc
 | (n,k)::r,acc=>if(k==NameKind.free)=true then o4 cells r ((n,(cells.lookup n).getD 0)::acc)else o4 cells r acc
theorem q2e:∀(names:List (Str×NameKind)) (acc:List (Str×Addr)),(∀y∈names,y.2=NameKind.free->∃c,env.cells.lookup y.1=some c) ->
  (forIn names acc (λ(x:Str×NameKind) (cs:List (Str×Addr))=>(match x with | (name,kind)=>if(kind==NameKind.free)=true then(do let a ←cellOf env name;pure (ForInStep.yield ((name,a)::cs)))else pure (ForInStep.yield cs):Sem (ForInStep (List (Str×Addr))))):Sem (List (Str×Addr)))=pure (o4 env.cells names acc)
 | [],acc,_=>rfl
 | (n,k)::r,acc,h=>by
  have hr:∀y∈r,y.2=NameKind.free->∃c,env.cells.lookup y.1=some c:=λy hy=>h y (f9 _ hy);rw[w22];by_cases hk:(k==NameKind.free)=true
  ·obtain⟨c,hc⟩:=h (n,k) i5 (d5.mp hk);have e1:cellOf env n=pure c:=by unfold cellOf;rw[hc]
   have e2:o4 env.cells ((n,k)::r) acc=o4 env.cells r ((n,c)::acc):=(by show(if(k==NameKind.free)=true then o4 env.cells r ((n,(env.cells.lookup n).getD 0)::acc)else o4 env.cells r acc)=_;rw[d4 hk,hc];rfl);rw[e2,←q2e r ((n,c)::acc) hr];simp only[hk,if_true,e1];rfl
  ·have e2:o4 env.cells ((n,k)::r) acc=o4 env.cells r acc:=by
    show(if(k==NameKind.free)=true then o4 env.cells r ((n,(env.cells.lookup n).getD 0)::acc)else o4 env.cells r acc)=_;rw[d6 hk]
   rw[e2,←q2e r acc hr];simp only[hk,if_false];rfl
theorem q1W(h:∀y∈scope.names,y.2=NameKind.free->∃c,env.cells.lookup y.1=some c):closureFor scope env=pure (o4 env.cells scope.names []):=by
 have q:=q2e (env:=env) scope.names [] h;unfold closureFor
 first
  | exact(congrArg (λt=>(t >>= λcs=>pure cs)) q).trans rfl
  | (simp only[q];rfl)
theorem q1z:∀{names:List (Str×NameKind)} {acc:List (Str×Addr)} {x:Str} {c:Addr},(∀y∈names,y.2=NameKind.free->∃c,cells.lookup y.1=some c) ->
  (x,c)∈o4 cells names acc->(x,c)∈acc\/(cells.lookup x=some c/\(x,NameKind.free)∈names)
 | [],acc,x,c,_,h=>.inl h
 | (n,k)::r,acc,x,c,hh,h=>by
  have hr:∀y∈r,y.2=NameKind.free->∃c,cells.lookup y.1=some c:=λy hy=>hh y (f9 _ hy);unfold o4 at h;by_cases hk:(k==NameKind.free)=true
  ·rw[d4 hk]at h;obtain⟨c',hc⟩:=hh (n,k) i5 (d5.mp hk);rcases q1z hr h with z | ⟨z1,z2⟩
   ·rcases d9.mp z with z | z
    ·cases z;exact .inr ⟨by rw[hc];rfl,by rw[←d5.mp hk];exact i5⟩
    ·exact .inl z
   ·exact .inr ⟨z1,f9 _ z2⟩
  ·rw[d6 hk]at h;rcases q1z hr h with z | ⟨z1,z2⟩
   ·exact .inl z
   ·exact .inr ⟨z1,f9 _ z2⟩
theorem q2v:∀{names:List (Str×NameKind)} {acc:List (Str×Addr)} {y:Str×Addr},y∈acc->y∈o4 cells names acc
 | [],_,_,h=>h
 | (n,k)::r,acc,y,h=>by
  unfold o4;split
  ·exact q2v (f9 _ h)
  ·exact q2v h
theorem q1R:∀{names:List (Str×NameKind)} {acc:List (Str×Addr)} {x:Str} {c:Addr},(x,NameKind.free)∈names->cells.lookup x=some c->(x,c)∈o4 cells names acc
 | (n,k)::r,acc,x,c,h,hc=>by
  unfold o4;rcases d9.mp h with z | z
  ·cases z;rw[d4 (show(NameKind.free==NameKind.free)=true from rfl),hc];exact q2v i5
  ·split
   ·exact q1R z hc
   ·exact q1R z hc
theorem q1x:∀(names:List (Str×NameKind)) (n:Nat) (acc:List (Str×Addr)),cellsFrom n names acc=cellsFrom n names []++acc
 | [],_,_=>rfl
 | (x,k)::r,n,acc=>by
  unfold cellsFrom;split
  ·rw[q1x r (n+1) ((x,n)::acc),q1x r (n+1) [(x,n)],U4];rfl
  ·exact q1x r n acc
theorem q2q:∀{names:List (Str×NameKind)} {n:Nat} {x:Str} {c:Addr},(x,c)∈cellsFrom n names []->(x,NameKind.cell)∈names
 | [],_,_,_,h=>nomatch h
 | (y,k)::r,n,x,c,h=>by
  unfold cellsFrom at h;by_cases hk:(k==NameKind.cell)=true
  ·rw[d4 hk,q1x]at h;rcases C8.mp h with z | z
   ·exact f9 _ (q2q z)
   ·have z':(x,c)=(y,n):=by simpa using z
    cases z';rw[d5.mp hk];exact i5
  ·rw[d6 hk]at h;exact f9 _ (q2q h)
theorem q2m:∀{l r:List (Str×α)},(l++r).lookup x=(l.lookup x).or (r.lookup x)
 | [],r=>by simp
 | (y,v)::l,r=>by
  rw[Y2,D1,D1];cases hb:x==y with
  | true=>rfl
  | false=>exact q2m
theorem q3e:∀{l:List (Str×α)},(∀c,(x,c)∉l)->l.lookup x=none
 | [],_=>rfl
 | (y,v)::l,h=>by
  rw[D1];cases hb:x==y with
  | true=>exact absurd (by rw[d5.mp hb];exact i5) (h v)
  | false=>exact q3e λc hc=>h c (f9 _ hc)
theorem q2h:∀{l:List (Str×α)} {c:α},(x,c)∈l->∃c',l.lookup x=some c'
 | (y,v)::l,c,h=>by
  rw[D1];cases hb:x==y with
  | true=>exact⟨v,rfl⟩
  | false=>
   rcases d9.mp h with z | z
   ·cases z;rw[w2i]at hb;cases hb
   ·exact q2h z
theorem V2:∀{l:List (Str×α)} {c:α},(l.map (·.1)).Nodup->(x,c)∈l->l.lookup x=some c
 | (y,v)::l,c,nd,h=>by
  rw[D1];rw[B7]at nd;have nd':=M9.mp nd;rcases d9.mp h with z | z
  ·cases z;rw[w2i]
  ·have:x≠y:=λe=>nd'.1 (by rw[←e];exact j9.mpr ⟨_,z,rfl⟩);rw[y8.mpr this];exact V2 nd'.2 z
theorem q2i:(relabel scope env).names.lookup x=(scope.names.lookup x).map λk=>if(k==NameKind.free&&env.scope.kind == .function&&env.kindOf x==some .cell)=true then NameKind.cell else k:=by
 unfold relabel;show(scope.names.map _).lookup x=_;generalize scope.names=l
 induction l with
 | nil=>rfl
 | cons y r ih=>
  obtain⟨n,k⟩:=y;rw[B7];show List.lookup x ((if(k==NameKind.free&&env.scope.kind == .function&&env.kindOf n==some .cell)=true then(n,NameKind.cell)else(n,k))::_)=_;have e:(if(k==NameKind.free&&env.scope.kind == .function&&env.kindOf n==some .cell)=true then(n,NameKind.cell)else(n,k))=(n,if(k==NameKind.free&&env.scope.kind == .function&&env.kindOf n==some .cell)=true then NameKind.cell else k):=by split<;>rfl
  rw[e,D1,D1];cases hb:x==n with
  | true=>rw[d5.mp hb];rfl
  | false=>exact ih
theorem q8s
  (hQ:Q (newEnv scope s.heap.objs.size g (cellsFrom (s.heap.objs.size+1) scope.names cl) q none .none (some env) builtinsNs) {s with heap:=pushCells (s.heap.push {cls:=.type "dict",data:=.dict #[]}) scope.names}) :
  wpAny M A (newFunctionEnv scope g cl [] q none .none (some env)) Q E s:=by
 simp only[newFunctionEnv,Option.isSome_some,if_true];refine b0 (wpAny_alloc ?_);refine b0 (wpAny_layCells _ (λname kind cells=>by cases hkc:kind==NameKind.cell<;>simp[hkc]) _ _ _ _ ?_);rw[show({s with heap:=s.heap.push {cls:=.type "dict",data:=.dict #[]}}:Shared).heap.objs.size=s.heap.objs.size+1 from K8 ..];exact b0 (f8 (f8 hQ))
theorem q6S(I:Nat->Shared->Prop)
  (turn:∀n s,I n s->wpAny (model prog w) A (pyNext it) (λr s₁=>match r with
   | none=>R (.ok .next) s₁
   | some v=>wpAny (model prog w) A (letOwnedTupleGo target it v) (λ_ s₁'=>wpAny (model prog w) A (assign target env v) (λ_ s₂=>
     wpAny (model prog w) A (forIn ifs true λc r=>if r=true then do let ok ←isTrue c env (eval c env);pure (ForInStep.yield ok)else pure (ForInStep.yield r)) (λok s₃=>
      if ok=true then wpAny (model prog w) A (eval elt env) (λx s₄=>
       wpAny (model prog w) A (call (.builtin "list.append") [acc,x]) (λ_ s₅=>∃m,m<n/\I m s₅) (notedBy (model prog w) A env λe s'=>R (.error e) s') s₄) (notedBy (model prog w) A env λe s'=>R (.error e) s') s₃
      else ∃m,m<n/\I m s₃) (notedBy (model prog w) A env λe s'=>R (.error e) s') s₂) (notedBy (model prog w) A env λe s'=>R (.error e) s') s₁') (notedBy (model prog w) A env λe s'=>R (.error e) s') s₁) (notedBy (model prog w) A env λe s'=>R (.error e) s') s)
  (n:Nat) (h:I n s) :
  codeAny (model prog w) A (.compLoop (.ListComp elt [⟨target,iter,ifs,0⟩] scope pos) 0 it acc env) R s:=by
 refine codeAny_loop rfl I (λn s hI=>?_) n h;show wpAny _ A ((compTurn (.ListComp elt [⟨target,iter,ifs,0⟩] scope pos) 0 it acc env).onRaise (λx=>do noteFrame x env;theTreesLotGoes x)) _ _ s;refine wpAny_noted ?_;rw[compTurn_list];refine b0 (P5 (b0 (n6 (turn n s hI) (λr s₁ h₁=>?_) λ_ _ h'=>h')));cases r with
 | none=>exact f8 h₁
 | some v=>
  refine b0 (n6 h₁ (λ_ s₁' h₁'=>?_) λ_ _ h'=>h');refine b0 (n6 h₁' (λ_ s₂ h₂=>b0 (n6 h₂ (λok s₃ h₃=>?_) λ_ _ h'=>h')) λ_ _ h'=>h');cases ok with
  | false=>exact f8 ⟨rfl,h₃⟩
  | true=>
   exact b0 (b0 (n6 h₃ (λx s₄ h₄=>b0 (n6 h₄ (λ_ s₅ h₅=>f8 (f8 ⟨rfl,h₅⟩)) λ_ _ h'=>h')) λ_ _ h'=>h'))
theorem HOk.track(x:HOk P w H h)(hn:H a=none)(new:x5 P w (upd H a o) h a o):HOk P w (upd H a o) h:=λb u e=>by
 by_cases hb:b=a
 ·subst hb;rw[E2]at e;cases e;exact new
 ·rw[j6 hb]at e;exact(x b u e).stay (λc v _ q=>q) (λc q=>by rw[j6 (B3 q hn)];exact q) (λc xs q=>by rw[j6 (B3 q hn)];exact q) λc _ _ _ _ q=>by rw[j6 (B3 q hn)];exact q
theorem Un.track(u:Un fs ex H H' h h')(hn:H' a=none)(hh:h.get? a=none):Un fs ex H (upd H' a o) h h' where
 keep:=u.keep
 slot:=u.slot
 free:=λb ob q n hx=>by
  have:b≠a:=λz=>by rw[z,hh]at q;cases q
  rw[j6 this];exact u.free b ob q n hx
 there:=u.there
 tups:=λb xs q=>by have z:=u.tups b xs q;rw[j6 (B3 z hn)];exact z
 frzs:=λb ob xs q=>by have z:=u.frzs b ob xs q;rw[j6 (B3 z hn)];exact z
 tbls:=λb ps q=>by have z:=u.tbls b ps q;rw[j6 (B3 z hn)];exact z
structure CompScope(N N':List Str)(sc osc:Scope)(fr:List (Option Nat)):Prop where
 kind:sc.kind=.function
 nd:N'.Nodup
 snd:(sc.names.map (·.1)).Nodup
 len:fr.length=N'.length
 fre:∀(j i:Nat),fr[j]? = some (some i)->∃x,N'[j]? = some x/\N[i]? = some x/\(x,NameKind.free)∈sc.names
 out:∀y∈sc.names,y.2=NameKind.free->osc.names.lookup y.1=some .cell\/osc.names.lookup y.1=some .free
def inner(fr:List (Option Nat))(σ:St):St:=fr.map λo=>o.bind λi=>(σ[i]?).join
def q7T(X:Cx)(scope:Scope)(N':List Str)(C:Addr)(cells:List (Str×Addr))(s₂:Shared)(H₂:Hp)(fp:List Addr):Cx:=
 {X with N:=N',s₀:=s₂,H₀:=H₂,env:=compEnvC scope cells C X.env,outer:=X.stack,stack:=X.stack,ex:=fp,fn:=λx=>scope.names.lookup x==some .cell,pn:=[],xe:=λ_ _=>False}
def m9 (X : Cx) (scope : Scope) (N' : List Str) (C : Addr) (cells : List (Str × Addr)) (s₂ : Shared) (H₂ : Hp) (fp : List Addr) (x1 : XK) : Cx :=
  { X with N := N', s₀ := s₂, H₀ := H₂, env := compEnvC scope cells C X.env, outer := X.stack, stack := X.stack, ex := fp, fn := λ x => scope.names.lookup x == some .cell, pn := [],
           xe := λ e s' => ∃ pins σ H s, Inv (q7T X scope N' C cells s₂ H₂ fp) pins σ H s /\ CXx X.prog X.w X.base X.stack H s x1 e s' }
theorem Inv.comp0(I:Inv (m9 X scope N' C cells s₂ H₂ fp x1) pins σ H s):Inv (q7T X scope N' C cells s₂ H₂ fp) pins σ H s:=
 ⟨⟨I.ok.mod,I.ok.kind,I.ok.glob,I.ok.blt,I.ok.above,I.ok.inj,I.ok.has,I.ok.cab,I.ok.hd,I.ok.frames,I.ok.stk,I.ok.exf,I.ok.bs,I.ok.bsz,I.ok.noex,I.ok.exfs,I.ok.funs,I.ok.frf⟩,I.os,I.bare,I.base,I.loc,I.cell,I.free,I.freeC,I.pin,I.hok,I.len⟩
abbrev q6k:String:="comprehension.variables-let-go"
def Z1(X:Cx)(E:St->XK):Prop:=∀(scope:Scope) (N':List Str) (cells:List (Str×Addr)) (C:Nat) (pins:List (Addr×Obj)) (σ:St) (H:Hp) (s₂:Shared) (fp:List Addr) (e:Value) (s':Shared),
 Inv X pins σ H s₂->(∀b∈fp,FpOk X pins H b)->C=s₂.heap.objs.size+1->(m9 X scope N' C cells s₂ H fp (E σ)).xe e s' ->
 notedBy (model X.prog X.w) X.A (compEnvC scope cells C X.env) (λe s'=>∃m,s'.heap.Ns C m/\∀h',Heap.SameBut C s'.heap h'->∀cenv:Env,cenv.locals=C->cenv.frame=X.env.frame->wpAny (model X.prog X.w) X.A (passOn q6k e cenv:Sem Value) (λ_ _=>False) X.xe {s' with heap:=h'}) e s'
theorem q5f:Z1 X λ_ _ _ _=>False:=by
 intro scope N' cells C pins σ H s₂ fp e s' I f hC z;obtain⟨_,_,_,_,_,_,_,_,_,_,_,_,_,_,_,q⟩:=z;exact q.elim
section
variable {X:Cx} {pins:List (Addr×Obj)} {σ:St} {H:Hp} {s₂:Shared} {N':List Str} {scope:Scope} {fr:List (Option Nat)} {fp:List Addr} {x1:XK}
abbrev F8:Obj:={cls:=.type "list",dict:=none,data:=.seq ([]:List Value).toArray}
abbrev q7b:Obj:={cls:=.type "dict",data:=.dict #[]}
theorem z2r(S:CompScope X.N N' scope X.env.scope fr)(I:Inv X pins σ H s₂)(f:∀b∈fp,FpOk X pins H b)(ho:∀b∈fp,@LT.lt Nat _ b s₂.heap.objs.size)(hC:C=s₂.heap.objs.size+1)(h4e:h4=pushCells ((s₂.heap.push F8).push q7b) scope.names) :
  Inv (m9 X scope N' C (cellsFrom (C+1) scope.names (o4 X.env.cells scope.names [])) s₂ H fp x1) [] (inner fr σ) H {s₂ with heap:=h4} /\ h4.get? s₂.heap.objs.size=some F8/\(∀b o,s₂.heap.get? b=some o->h4.get? b=some o):=by
 have hsz1:(s₂.heap.push F8).objs.size=s₂.heap.objs.size+1:=K8 ..;have hsz2:((s₂.heap.push F8).push q7b).objs.size=C+1:=by rw[K8,hsz1,hC]
 have keep:∀b o,s₂.heap.get? b=some o->h4.get? b=some o:=λb o e=>by rw[h4e];exact w23 _ _ b o (j5 _ (j5 _ e))
 have hD:h4.get? s₂.heap.objs.size=some F8:=by rw[h4e];exact w23 _ _ _ _ (j5 _ (v9 _ rfl))
 have hns:h4.Ns C λ_=>none:=by have q:=(Heap.Ns.new (s₂.heap.push F8) (.type "dict")).keeps (w23 scope.names _);rw[hsz1,←hC]at q;rw[h4e];exact q
 have ok:=cellsFrom_ok scope.names ((s₂.heap.push F8).push q7b) (C+1) [] ⟨λ_ _ hm=>(nomatch hm),List.Pairwise.nil⟩ (by rw[hsz2];exact j1 _);rw[hsz2,←h4e]at ok;have hfree:∀y∈scope.names,y.2=NameKind.free->∃c,X.env.cells.lookup y.1=some c:=λy hy hk=>I.ok.has y.1 (S.out y hy hk);generalize hcl:o4 X.env.cells scope.names []=cl;have memcl:∀{x:Str} {c:Addr},(x,c)∈cl->X.env.cells.lookup x=some c/\(x,NameKind.free)∈scope.names:=λ{x c} hm=>by
  rw[←hcl]at hm;rcases q1z hfree hm with z | z
  ·exact nomatch z
  ·exact z
 generalize hown:cellsFrom (C+1) scope.names []=own at ok;have app:cellsFrom (C+1) scope.names cl=own++cl:=by rw[q1x,hown]
 rw[app];have memown:∀{x:Str} {c:Addr},(x,c)∈own->(x,NameKind.cell)∈scope.names:=λ{x c} hm=>by rw[←hown]at hm;exact q2q hm
 have L1:∀x c,(own++cl).lookup x=some c->((x,c)∈own)\/(X.env.cells.lookup x=some c/\(x,NameKind.free)∈scope.names/\own.lookup x=none):=λx c e=>by
  rw[q2m]at e;cases q:own.lookup x with
  | some c'=>rw[q]at e;cases e;exact .inl (D0 q)
  | none=>rw[q]at e;have z:=memcl (D0 (show cl.lookup x=some c from e));exact .inr ⟨z.1,z.2,rfl⟩
 have own_ge:∀{x:Str} {c:Nat},(x,c)∈own->@LE.le Nat _ (C+1) c:=λ{x c} hm=>(ok.empty x c hm).2;have cell_lt:∀{x:Str} {c:Nat},X.env.cells.lookup x=some c->@LT.lt Nat _ c s₂.heap.objs.size:=λ{x c} e=>by obtain⟨v,z⟩:=I.cell x c e;exact z.lt
 have free_no:∀{x:Str},(x,NameKind.free)∈scope.names->own.lookup x=none:=λ{x} hm=>by refine q3e λc hc=>?_;have a:=V2 S.snd hm;have b:=V2 S.snd (memown hc);rw[a]at b;cases b
 have cl_get:∀{x:Str} {c:Addr},(x,NameKind.free)∈scope.names->X.env.cells.lookup x=some c->(own++cl).lookup x=some c:=λ{x c} hm hc=>by rw[q2m,free_no hm];obtain⟨c',e⟩:=q2h (l:=cl) (by rw[←hcl];exact q1R hm hc);have z:=(memcl (D0 e)).1;rw[hc]at z;cases z;exact e
 have hX:(m9 X scope N' C (own++cl) s₂ H fp x1).Ok:=by
  refine⟨I.ok.mod,S.kind,I.ok.glob,I.ok.blt,?_,λx y c h1 h2=>?_,λx hx=>?_,λx c hf hc=>?_,I.ok.hd,I.ok.frames,.inl rfl,λb hb=>⟨?_,λx c e=>?_⟩,I.bs,m7 I.ok.bsz I.sz,λb o e hb=>?_,λb hb hs=>?_,I.stack,⟨I.stkFree,I.tabs⟩⟩
  ·show s₂.heap.objs.size<=C;rw[hC];exact Nat.le_succ _
  ·have h1:(own++cl).lookup x=some c:=h1;have h2:(own++cl).lookup y=some c:=h2;rcases L1 x c h1 with a | ⟨a,_⟩<;>rcases L1 y c h2 with b | ⟨b,_⟩
   ·exact name_of_addr ok.apart a b
   ·exfalso;have q1:=own_ge a;have q2:=cell_lt b;omega
   ·exfalso;have q1:=own_ge b;have q2:=cell_lt a;omega
   ·exact I.ok.inj x y c a b
  ·have hx':(relabel scope X.env).names.lookup x=some .cell\/(relabel scope X.env).names.lookup x=some .free:=hx;show ∃c,(own++cl).lookup x=some c;rw[q2i]at hx';cases q:scope.names.lookup x with
   | none=>rw[q]at hx';rcases hx' with z | z<;>cases z
   | some k=>
    have km:=D0 q;by_cases k1:k=.cell
    ·subst k1;have z:=w1S scope.names (C+1) [] (.inl q);rw[hown]at z;obtain⟨c,z⟩:=G4.mp z;exact⟨c,by rw[q2m,z];rfl⟩
    ·by_cases k2:k=.free
     ·subst k2;obtain⟨c,e⟩:=hfree _ km rfl;exact⟨c,cl_get km e⟩
     ·exfalso;rw[q]at hx';have e0:(k==NameKind.free)=false:=y8.mpr k2;simp only[w15,e0,P3]at hx';rcases hx' with z | z
      ·exact k1 (by simpa using z)
      ·exact k2 (by simpa using z)
  ·have hf':(scope.names.lookup x==some .cell)=true:=hf;have q:scope.names.lookup x=some .cell:=by simpa using hf'
   have z:=w1S scope.names (C+1) [] (.inl q);rw[hown]at z;obtain⟨c',z⟩:=G4.mp z;have hc':(own++cl).lookup x=some c:=hc;rw[q2m,z]at hc';have e:c'=c:=x4 hc';subst e;have:=own_ge (D0 z);show @LE.le Nat _ s₂.heap.objs.size c';omega
  ·have:=ho b hb;show @Ne Nat b C;omega
  ·rcases L1 x c e with a | ⟨a,_⟩
   ·have:=own_ge a;have:=ho b hb;show @Ne Nat c b;omega
   ·exact(f b hb).2.2.2.2.1 x c a
  ·rcases(f b hb).2.2.2.1 with z | z
   ·exact I.ok.noex b o e z
   ·exact absurd (p5 (i7 e) (m7 I.ok.bsz z)) (K0 _)
  ·rcases d9.mp (I.stkSub b hs)with z | z
   ·exact(f b hb).2.1 z
   ·exact(f b hb).2.2.1 z
 refine⟨⟨hX,rfl,I.bare,Un.kept keep,⟨_,hns,λi x v e1 e2 e3=>?_⟩,λx c e=>?_,I.hok.fresh (by show @LE.le Nat _ s₂.heap.objs.size C;omega),λx c e=>?_,λp hp=>absurd (show p∈([]:List (Addr×Obj))from hp) (by simp),I.hok.kept keep,?_⟩,hD,keep⟩
 ·have e1:N'[i]? = some x:=e1;unfold inner at e2;rw[B5]at e2;cases q:fr[i]? with
  | none=>rw[q]at e2;cases e2
  | some o=>
   rw[q]at e2;cases o with
   | none=>cases e2
   | some j=>
    have e2':(σ[j]?).join=some v:=x4 e2;have hv:σ[j]? = some (some v):=by
     cases z:σ[j]? with
     | none=>rw[z]at e2';cases e2'
     | some o=>rw[z]at e2';rw[show o=some v from e2']
    obtain⟨x',a1,a2,a3⟩:=S.fre i j q;rw[e1]at a1;cases a1;obtain⟨m,hn,hl⟩:=I.loc;have ko:=S.out _ a3 rfl;obtain⟨u,r,l⟩:=hl j x v a2 hv (ko.elim (λz=>.inr (.inl z)) λz=>.inr (.inr z));rcases l with⟨k,_⟩ | ⟨k,c,e,z⟩
    ·have k':X.env.scope.names.lookup x=some .local:=k;rcases ko with w | w<;>(rw[show X.env.scope.names.lookup x=_ from w]at k';cases k')
    ·refine⟨u,r,.inr ⟨?_,c,cl_get a3 e,z.keeps keep⟩⟩;show(relabel scope X.env).names.lookup x=some .cell\/(relabel scope X.env).names.lookup x=some .free;rw[q2i,V2 S.snd a3];simp only[w15];split
     ·exact .inl rfl
     ·exact .inr rfl
 ·rcases L1 x c e with a | ⟨a,_⟩
  ·exact⟨none,(ok.empty x c a).1⟩
  ·obtain⟨v,z⟩:=I.cell x c a;exact⟨v,z.keeps keep⟩
 ·rcases L1 x c e with a | ⟨a,_⟩
  ·exact I.hok.fresh (by have:=own_ge a;show @LE.le Nat _ s₂.heap.objs.size c;omega)
  ·exact I.freeC x c a
 ·show(inner fr σ).length=N'.length;unfold inner;rw[g9,S.len]
end
def PTs(X:Cx)(ifs:List Expr)(t:TT):Prop:=
 ∀(pins:List (Addr×Obj)) (s:Shared) (σ:St) (H:Hp) (Q:Bool->Hp->Prop),Inv X pins σ H s->t σ H Q ->
  wpAny (model X.prog X.w) X.A (forIn ifs true λc r=>if r=true then do let ok ←isTrue c X.env (eval c X.env);pure (ForInStep.yield ok)else pure (ForInStep.yield r)) (TP X pins σ Q) X.xe s
def tYes:TT:=λ_ H Q=>Q true H
theorem z0N:PTs X [] tYes:=λ_ _ _ H _ I h=>wpAny_tests_nil ⟨H,I,h⟩
theorem z5w(h:PT X c t):PTs X [c] t:=λpins s σ H Q I hq=>wpAny_tests_one (h pins s σ H Q I hq)
def z3o(J:It)(g:TG)(tc:TT)(te:TE)(Fin:List V->Hp->Prop)(σ:St)(H:Hp):Prop:=
 ∃W:Nat->Nat->List V->St->Hp->Prop,(∃m,W 0 m [] σ H)/\∀i m ys σ H,W i m ys σ H ->
  (J.stop i H/\Fin ys H)\/(J.go i H/\ys.length<sizeLine/\∀x H',J.yld i H x H'->g x σ H' λσ2 H2=>tc σ2 H2 λb H3=>
   if b=true then te σ2 H3 λy H4=>∃m',m'<m/\W (i+1) m' (ys++[y]) σ2 H4 else ∃m',m'<m/\W (i+1) m' ys σ2 H3)
theorem Vals.snoc(r:Vals xs us)(q:RelV x u):Vals (xs++[x]) (us++[u]):=r.append (.cons q .nil)
theorem q8H{X:Cx}{pins:List (Addr×Obj)}{σ:St}{H:Hp}{s₂:Shared}{N':List Str}{scope:Scope}{fr:List (Option Nat)}{fp:List Addr}{iter elt tg:Expr}{ifs:List Expr}{pos:Pos}{g:TG}{te:TE}{tc:TT}{it:Addr}{tn:Nat->Heap->Prop}{J:It}
  {E:Value->Shared->Prop} {Fin:List V->Hp->Prop} {RR:Value->Env->Result->Shared->Prop} {x1:XK}
  (S:CompScope X.N N' scope X.env.scope fr) (hc:X.calm=true)
  (hg:∀C cells s₂ H₂ fp,PG (m9 X scope N' C cells s₂ H₂ fp x1) tg g) (ht:∀C cells s₂ H₂ fp,PTs (m9 X scope N' C cells s₂ H₂ fp x1) ifs tc) (he:∀C cells s₂ H₂ fp,PE (m9 X scope N' C cells s₂ H₂ fp x1) elt te)
  (I:Inv X pins σ H s₂) (T:Turn X.prog X.w X.K tg J fp it tn) (st:tn 0 s₂.heap) (f:∀b∈fp,FpOk X pins H b) (h:z3o J g tc te Fin (inner fr σ) H)
  (hX:∀cells (C:Nat) e s',C=s₂.heap.objs.size+1->(m9 X scope N' C cells s₂ H fp x1).xe e s'->notedBy (model X.prog X.w) X.A (compEnvC scope cells C X.env) (λe s'=>RR (.ref s₂.heap.objs.size) (compEnvC scope cells C X.env) (.error e) s') e s')
  (hRR:∀D C cells H' s' m ys,Inv X pins σ (upd H' D (.lst ys)) s'->H' D=none->s'.heap.Ns C m->upd H' D (.lst ys) C=none->C≠X.env.locals->X.s₀.heap.objs.size<=C->(∀x c,X.env.cells.lookup x=some c->c≠C)->(∀p∈X.pn++pins,p.1≠C)->Fin ys H'->RR (.ref D) (compEnvC scope cells C X.env) (.ok .next) s') :
  wpAny (model X.prog X.w) X.A (newList []) (λacc s₃=>wpAny (model X.prog X.w) X.A (newFunctionEnv scope X.env.globals (o4 X.env.cells scope.names []) [] X.env.qual none .none (some X.env)) (λcenv s₄=>
   codeAny (model X.prog X.w) X.A (.compStart (.ListComp elt [⟨tg,iter,ifs,0⟩] scope pos) 0 (.ref it) acc {cenv with scope:=relabel scope X.env}) (RR acc {cenv with scope:=relabel scope X.env}) s₄) E s₃) E s₂:=by
 have ho:∀b∈fp,b<s₂.heap.objs.size:=λb hb=>by obtain⟨o,e,_⟩:=T.obj _ _ st b hb;exact i7 e
 refine U3 (q8s ?_);have hsz1:(s₂.heap.push F8).objs.size=s₂.heap.objs.size+1:=K8 ..;obtain⟨I4,hD4,keep⟩:=z2r (x1:=x1) (C:=s₂.heap.objs.size+1) S I f ho rfl rfl;show codeAny _ _ (.compStart _ 0 (.ref it) (.ref s₂.heap.objs.size) (compEnvC scope (cellsFrom ((s₂.heap.push F8).objs.size+1) scope.names (o4 X.env.cells scope.names [])) (s₂.heap.push F8).objs.size X.env)) (RR (.ref s₂.heap.objs.size) (compEnvC scope (cellsFrom ((s₂.heap.push F8).objs.size+1) scope.names (o4 X.env.cells scope.names [])) (s₂.heap.push F8).objs.size X.env)) {s₂ with heap:=pushCells ((s₂.heap.push F8).push q7b) scope.names};rw[hsz1];have hX':=λcells e s'=>hX cells _ e s' rfl
 clear hX
 generalize hDe:s₂.heap.objs.size=D at *;generalize cellsFrom (D+1+1) scope.names (o4 X.env.cells scope.names [])=cells at *;generalize pushCells ((s₂.heap.push F8).push q7b) scope.names=h4 at *;have hfp:∀{pins':List (Addr×Obj)} {H':Hp},(∀b∈fp,H' b=none)->(∀p∈pins',p.1=D)->∀b∈fp,FpOk (m9 X scope N' (D+1) cells s₂ H fp x1) pins' H' b:=λ{pins' H'} hn hp b hb=>
  ⟨hn b hb,(I4.ok.exf b hb).1,I4.ok.exfs b hb,.inl hb,(I4.ok.exf b hb).2,λp hp' z=>by
   have hp':p∈([]:List (Addr×Obj))++pins':=hp';rw[w2r]at hp';have:=ho b hb;rw[←z,hp p hp']at this;exact K0 _ this⟩
 obtain⟨W,⟨m0,w0⟩,turn⟩:=h;have hDC:D≠(m9 X scope N' (D+1) cells s₂ H fp x1).env.locals:=by show D≠D+1;omega
 have hDcell:∀x c,(m9 X scope N' (D+1) cells s₂ H fp x1).env.cells.lookup x=some c->c≠D:=λx c e z=>by
  obtain⟨v,o,hoc,hd⟩:=I4.cell x c e;have q:h4.get? D=some o:=by rw[←z];exact hoc
  rw[hD4]at q;cases q;cases hd
 have hDfs:D∉(m9 X scope N' (D+1) cells s₂ H fp x1).fs:=λz=>by
  obtain⟨_,o,ho',_⟩:=I4.ok.funs.mem z
  have:=i7 ho';have e:s₂.heap.objs.size=D:=hDe;exact absurd this (by show ¬D<s₂.heap.objs.size;omega)
 have loop:codeAny (model X.prog X.w) X.A (.compLoop (.ListComp elt [⟨tg,iter,ifs,0⟩] scope pos) 0 (.ref it) (.ref D) (compEnvC scope cells (D+1) X.env)) (RR (.ref D) (compEnvC scope cells (D+1) X.env)) {s₂ with heap:=h4}:=by
  refine q6S (λn s'=>∃i ys its k σ' H',Inv (m9 X scope N' (D+1) cells s₂ H fp x1) [] σ' H' s'/\tn i s'.heap/\(∀b∈fp,H' b=none)/\H' D=none /\
   s'.heap.get? D=some {cls:=.type "list",data:=.seq (its:List Value).toArray k} /\ Vals ys its/\ys.length<=sizeLine/\W i n ys σ' H') ?_ m0
   ⟨0,[],[],_,_,H,I4,T.keep _ _ _ st λb _ o e=>keep b o e,λb hb=>(f b hb).1,I.hok.fresh (by omega),hD4,.nil,G9 _,w0⟩
  rintro n s3 ⟨i,ys,its,k,σ3,H3,I3,st3,fr3,hD3,oD3,rv,hl,w3⟩
  have I3p:Inv (m9 X scope N' (D+1) cells s₂ H fp x1) [(D,{cls:=.type "list",data:=.seq its.toArray k})] σ3 H3 s3:=I3.pins_of λp hp=>by
   have e:p=(D,{cls:=.type "list",data:=.seq its.toArray k}):=by simpa using hp
   subst e;exact⟨oD3,hD3,hDC,hDfs,λv z=>by cases z⟩
  have pinD:∀p∈[((D:Addr),({cls:=.type "list",data:=.seq its.toArray k}:Obj))],p.1=D:=λp hp=>by
   have e:p=(D,{cls:=.type "list",data:=.seq its.toArray k}):=by simpa using hp
   subst e;rfl
  rcases turn i n ys σ3 H3 w3 with⟨stop,fin⟩ | ⟨go,hlt,step⟩
  ·refine thn (T.done (m9 X scope N' (D+1) cells s₂ H fp x1) rfl rfl rfl hc i _ s3 σ3 H3 _ I3p (hfp fr3 pinD) st3 stop) λr s4 ⟨hr,I4'⟩=>?_;subst hr;have oD:=(I4'.pin (D,_) (A8 _ i5)).1;have un:Un (frs X.stack) fp H H3 s₂.heap s4.heap:=I4'.base;have hn:s₂.heap.get? D=none:=w10 (by rw[hDe];exact j1 _);obtain⟨mC,hnC,_⟩:=I4'.loc;refine hRR D (D+1) cells H3 s4 mC ys (I.call' I4'.os (un.track hD3 hn) (I4'.hok.track hD3 ⟨hl,its,k,rv,oD⟩) I4'.bare λb hb=>?_) hD3 hnC ?_ ?_ ?_ (λx c e=>?_) (λp hp=>?_) fin
   ·obtain⟨_,f1,f2,f3,f4,f5⟩:=f b hb;exact⟨f3,f1,f4,f5⟩
   ·rw[j6 (show @Ne Nat (D+1) D by omega)];exact I4'.free
   ·have q:@LT.lt Nat _ X.env.locals s₂.heap.objs.size:=I.lt;show @Ne Nat (D+1) X.env.locals;omega
   ·have q:@LE.le Nat _ X.s₀.heap.objs.size s₂.heap.objs.size:=I.sz;show @LE.le Nat _ X.s₀.heap.objs.size (D+1);omega
   ·obtain⟨v,z⟩:=I.cell x c e;have q:@LT.lt Nat _ c s₂.heap.objs.size:=z.lt;show @Ne Nat c (D+1);omega
   ·have q:@LT.lt Nat _ p.1 s₂.heap.objs.size:=i7 (I.pin p hp).1;show @Ne Nat p.1 (D+1);omega
  ·refine thn (T.item (m9 X scope N' (D+1) cells s₂ H fp x1) rfl rfl rfl hc i _ s3 σ3 H3 _ I3p (hfp fr3 pinD) st3 go) λr s4 ⟨u,hr,h4'⟩=>?_;subst hr;refine thn h4' λ_ s5 ⟨x,H5,I5,r5,y5,st5,fr5⟩=>?_;have I5':=I5.pinned (hfp fr5 pinD) (T.obj _ _ st5);refine n6 (hg (D+1) cells s₂ H fp _ s5 σ3 H5 x u _ I5' r5 (step x H5 y5)) (λ_ s6 ⟨σ6,H6,I6,q6⟩=>?_) λe' s9 z=>hX' cells e' s9 z;refine n6 (ht (D+1) cells s₂ H fp _ s6 σ6 H6 _ I6 q6) (λb s7 ⟨H7,I7,q7⟩=>?_) λe' s9 z=>hX' cells e' s9 z;have fpK:∀{H':Hp} {s':Shared},Inv (m9 X scope N' (D+1) cells s₂ H fp x1) ([(D,{cls:=.type "list",data:=.seq its.toArray k})]++q7m fp s5.heap) σ6 H' s'->tn (i+1) s'.heap/\(∀b∈fp,H' b=none)/\s'.heap.get? D=some {cls:=.type "list",data:=.seq its.toArray k} /\ H' D=none:=λ{H' s'} J'=>by
    refine⟨T.keep _ _ _ st5 λb hb o e=>(J'.pin (b,o) (A8 _ (A8 _ (q2X hb e)))).1,λb hb=>?_,?_,?_⟩
    ·obtain⟨o,e,d⟩:=T.obj _ _ st5 b hb;exact(J'.pin (b,o) (A8 _ (A8 _ (q2X hb e)))).2.1
    ·exact(J'.pin (D,_) (A8 _ (y0 _ i5))).1
    ·exact(J'.pin (D,_) (A8 _ (y0 _ i5))).2.1
   cases b with
   | false=>
    rw[d6 G5]at q7 ⊢;obtain⟨m',hm,w7⟩:=q7;obtain⟨k1,k2,k3,k4⟩:=fpK I7;exact⟨m',hm,i+1,ys,its,k,σ6,H7,I7.pins_of (λp hp=>(nomatch hp)),k1,k2,k4,k3,rv,hl,w7⟩
   | true=>
    rw[d4 rfl]at q7 ⊢;refine n6 (he (D+1) cells s₂ H fp _ s7 σ6 H7 _ I7 q7) (λy s8 ⟨v8,H8,I8,r8,q8⟩=>?_) λe' s9 z=>hX' cells e' s9 z
    obtain⟨m',hm,w8⟩:=q8;obtain⟨k1,k2,k3,k4⟩:=fpK I8;have hits:its.length<=sizeLine:=by rw[←rv.length];exact hl
    refine append_at k3 (λh9 hs9 hD9=>?_) (by rw[u5];exact hits);have I9:Inv (m9 X scope N' (D+1) cells s₂ H fp x1) [] σ6 H8 s8:=I8.pins_of λp hp=>(nomatch hp);refine⟨m',hm,i+1,ys++[v8],its++[y],k+1,σ6,H8,I9.turned (it:=D) (t':=s8.toks) (λb o hb e=>(hs9.2 b hb).trans e) k4 hDC (.inr (by show s₂.heap.objs.size<=D;omega)) hDcell (λp hp=>(nomatch hp)),?_,k2,k4,?_,rv.snoc r8,?_,w8⟩
    ·exact T.keep _ _ _ k1 λb hb o e=>(hs9.2 b (by have q:@LT.lt Nat _ b D:=ho b hb;show @Ne Nat b D;omega)).trans e
    ·rw[hD9,List.push_toArray]
    ·rw[A7,w1D];omega
 exact codeAny_compStart_list loop (T.self X.A 0 _ _ _ (T.keep _ _ _ st λb _ o e=>keep b o e) loop)
def q5b(M:Model)(A:Around)(E:Value->Shared->Prop)(use:Option (Value->Sem Unit))(Q:Value->Shared->Prop)(acc:Value)(cenv:Env)(r:Result)(s':Shared):Prop:=
 match r,use with
 | .ok _,none=>∃m,s'.heap.Ns cenv.locals m/\∀h',Heap.SameBut cenv.locals s'.heap h'->Q acc {s' with heap:=h'}
 | .ok _,some u=>wpAny M A (u acc) (λ_ s''=>∃m,s''.heap.Ns cenv.locals m/\∀h',Heap.SameBut cenv.locals s''.heap h'->Q .none {s'' with heap:=h'}) E s'
 | .error x,_=>∃m,s'.heap.Ns cenv.locals m/\∀h',Heap.SameBut cenv.locals s'.heap h'->wpAny M A (passOn q6k x cenv:Sem Value) (λ_ _=>False) E {s' with heap:=h'}
theorem q6L
   (hcl:clausesOf e=g::gs) (hs:∀x,foldedSetIterable g.iter env x=pure x) (hclos:closureFor scope env=pure cl)
  (hkind:scope.kind=.function) (hnames:∀x∈scope.names,x.2=NameKind.local->scope.names.lookup x.1=some NameKind.local)
  (h:wpAny M A fst1 (λx s₁=>wpAny M A (pyIter x) (λit s₂=>wpAny M A newAcc (λacc s₃=>
   wpAny M A (newFunctionEnv scope env.globals cl [] env.qual none .none (some env)) (λcenv s₄=>
    codeAny M A (.compStart e 0 it acc {cenv with scope:=relabel scope env}) (q5b M A E use Q acc {cenv with scope:=relabel scope env}) s₄) E s₃) E s₂) E s₁) E s) :
  wpAny M A (comprehension e scope env pos newAcc false fst1 use) Q E s:=by
 unfold comprehension;rw[hclos,hcl];refine b0 (n6 h (λx s₁ h₁=>b0 (P5 (b0 (wpAny_of_eq (hs x) (b0 (B6 (n6 h₁ (λit s₂ h₂=>
  wpAny_standIf (b0 (n6 h₂ (λacc s₃ h₃=>b0 (f8 (b0 (n6 h₃ (λcenv s₄ h₄=>?_) λ_ _ z=>z)))) λ_ _ z=>z)))
   λ_ _ z=>z))))))) λ_ _ z=>z)
 dsimp only;have rel:∀{l:List (Str×NameKind)},(∀x∈l,x∈scope.names)->∀x∈l,x.2=NameKind.local->Env.kindOf {cenv with scope:=relabel scope env} x.1=some NameKind.local:=λhl x hx hq=>lookup_relabel_local (hnames x (hl x hx) hq)
 have in0:∀x∈(scope.names.filter λx=>(x.2==NameKind.local||x.2==NameKind.cell)&&x.1 != (".0" : Str)).reverse,x∈scope.names:=λx hx=>(G8.mp (List.mem_reverse.mp hx)).1;have hv:=rel in0;have hv':=rel (l:=(scope.names.filter λx=>(x.2==NameKind.local||x.2==NameKind.cell)&&x.1 != (".0" : Str)).reverse.drop 1++(scope.names.filter λx=>(x.2==NameKind.local||x.2==NameKind.cell)&&x.1 != (".0" : Str)).reverse.take 1) λx hx=>
  (C8.mp hx).elim (λz=>in0 x (List.mem_of_mem_drop z)) λz=>in0 x (List.mem_of_mem_take z)
 refine B6 (b0 (w2h (B6 (wpAny_run (U8 h₄ λr s' hr=>?_)))));cases r with
 | ok f=>
  cases use with
  | none=>
   obtain⟨m,hn,hr⟩:=hr;exact b0 (B6 (w2R (cenv:={cenv with scope:=relabel scope env}) hkind _ s' m hv hn λh' m' _ hs'=>f8 (hr h' hs')))
  | some u=>
   refine b0 (w2L (b0 (B6 (n6 hr (λ_ s'' ⟨m,hn,hr'⟩=>?_) λ_ _ z=>z))));exact b0 (w2R (cenv:={cenv with scope:=relabel scope env}) hkind _ s'' m hv' hn λh' m' _ hs'=>f8 (hr' h' hs'))
 | error x=>
  have hr':∃m,s'.heap.Ns cenv.locals m/\∀h',Heap.SameBut cenv.locals s'.heap h'->wpAny M A (passOn q6k x {cenv with scope:=relabel scope env}:Sem Value) (λ_ _=>False) E {s' with heap:=h'}:=by cases use<;>exact hr
  obtain⟨m,hn,hr⟩:=hr';exact b0 (B6 (w2R (cenv:={cenv with scope:=relabel scope env}) hkind _ s' m hv hn λh' m' _ hs'=>n6 (hr h' hs') (λ_ _ f=>f.elim) λ_ _ y=>y))
def z7b(fr:List (Option Nat))(wi:TI)(g:TG)(tc:TT)(te:TE):TE:=λσ H Q=>wi σ H λJ H1=>z3o J g tc te (λys H'=>∀p,H' p=none->Q (.ref p) (upd H' p (.lst ys))) (inner fr σ) H1
theorem z6V{X:Cx}{N':List Str}{scope:Scope}{fr:List (Option Nat)}{iter elt tg:Expr}{ifs:List Expr}{pos:Pos}{wi:TI}{g:TG}{te:XK->TE}{E:St->XK}{tc:TT}(S:CompScope X.N N' scope X.env.scope fr)(hc:X.calm=true)(hx:Z1 X E)(hi:PI X tg iter wi)
  (hg:∀C cells s₂ H₂ fp x1,PG (m9 X scope N' C cells s₂ H₂ fp x1) tg g) (ht:∀C cells s₂ H₂ fp x1,PTs (m9 X scope N' C cells s₂ H₂ fp x1) ifs tc) (he:∀C cells s₂ H₂ fp x1,PE (m9 X scope N' C cells s₂ H₂ fp x1) elt (te x1))
  (hs:∀x,foldedSetIterable iter X.env x=pure x:=by intro _;rfl):PE X (.ListComp elt [⟨tg,iter,ifs,0⟩] scope pos) (λσ=>z7b fr wi g tc (te (E σ)) σ):=by
 intro pins s σ H Q I h;rw[eval_ListComp];have hfree:∀y∈scope.names,y.2=NameKind.free->∃c,X.env.cells.lookup y.1=some c:=λy hy hk=>I.ok.has y.1 (S.out y hy hk)
 refine q6L (use:=none) rfl hs (q1W hfree) S.kind (λx hx hl=>V2 S.snd (by rw[←hl];exact hx)) (thn (hi pins s σ H _ I h) λv s1 h1=>thn h1 λitv s2 h2=>?_);obtain⟨it,fp,tn,J,H2,e,I2,T,st2,f2,w⟩:=h2;subst e;refine q8H (RR:=λacc C=>q5b (model X.prog X.w) X.A X.xe none (EP X pins σ Q) acc C) S hc (λC cells s₂ H₂ fp=>hg C cells s₂ H₂ fp (E σ)) (λC cells s₂ H₂ fp=>ht C cells s₂ H₂ fp (E σ)) (λC cells s₂ H₂ fp=>he C cells s₂ H₂ fp (E σ)) I2 T st2 f2 w (λcells C e s' hC z=>?_) ?_
 ·refine n6 (hx scope N' cells C pins σ H2 s2 fp e s' I2 f2 hC z) (λ_ s'' ⟨m,n,q⟩=>⟨m,n,λh' hs'=>q h' hs' _ rfl rfl⟩) λe' s'' ⟨m,n,q⟩=>⟨m,n,λh' hs'=>q h' hs' _ rfl rfl⟩
 intro D C cells H' s' m ys I' hD hnC hCn hCL hCs hCc hCp fin;exact⟨m,hnC,λh' hs'=>⟨.ref D,_,I'.turned (it:=C) (t':=s'.toks) (λb o hb e=>(hs'.2 b hb).trans e) hCn hCL (.inr hCs) hCc hCp,rfl,fin D hD⟩⟩
theorem q9M{X:Cx}{N':List Str}{scope:Scope}{fr:List (Option Nat)}{iter elt tg:Expr}{ifs:List Expr}{pos spos py:Pos}{y:Str}{i:Nat}{wi:TI}{g:TG}{te:XK->TE}{E:St->XK}{tc:TT}(S:CompScope X.N N' scope X.env.scope fr)(hc:X.calm=true)(hx:Z1 X E)(hN:X.N.Nodup)(hiN:X.N[i]? = some y)
  (hy:X.env.scope.names.lookup y=some .local) (hi:PI X tg iter wi)
  (hg:∀C cells s₂ H₂ fp x1,PG (m9 X scope N' C cells s₂ H₂ fp x1) tg g) (ht:∀C cells s₂ H₂ fp x1,PTs (m9 X scope N' C cells s₂ H₂ fp x1) ifs tc) (he:∀C cells s₂ H₂ fp x1,PE (m9 X scope N' C cells s₂ H₂ fp x1) elt (te x1))
  (hsw:swapsWith (.ListComp elt [⟨tg,iter,ifs,0⟩] scope pos) (some (.Name y py)) spos.line X.env=pure true:=by rfl)
  (hs:∀x,foldedSetIterable iter X.env x=pure x:=by intro _;rfl):PS X (.Assign [.Name y py] (.ListComp elt [⟨tg,iter,ifs,0⟩] scope pos) spos) (tAsg (λσ=>z7b fr wi g tc (te (E σ)) σ) (Y8 i)):=by
 intro pins s σ H Dn I h;rw[exec_Assign_Name_used _ _ _ _ hsw];refine b0 (P5 (b0 ?_));show wpAny _ _ (do let _ ←comprehension (.ListComp elt [⟨tg,iter,ifs,0⟩] scope pos) scope X.env _ (newList []) false (eval iter X.env) (some (assign (.Name y py) X.env))) _ _ s;have hfree:∀y∈scope.names,y.2=NameKind.free->∃c,X.env.cells.lookup y.1=some c:=λy hy hk=>I.ok.has y.1 (S.out y hy hk)
 refine b0 (n6 (q6L (use:=some (assign (.Name y py) X.env)) (Q:=λ_ s'=>SP X pins Dn .next s') rfl hs (q1W hfree) S.kind (λx hx hl=>V2 S.snd (by rw[←hl];exact hx))
  (thn (hi pins s σ H _ I h) λv s1 h1=>thn h1 λitv s2 h2=>?_)) (λ_ s' hq=>f8 (f8 hq)) λ_ _ e=>e)
 obtain⟨it,fp,tn,J,H2,e,I2,T,st2,f2,w⟩:=h2;subst e;refine q8H (RR:=λacc C=>q5b (model X.prog X.w) X.A X.xe (some (assign (.Name y py) X.env)) (λ_ s'=>SP X pins Dn .next s') acc C) S hc (λC cells s₂ H₂ fp=>hg C cells s₂ H₂ fp (E σ)) (λC cells s₂ H₂ fp=>ht C cells s₂ H₂ fp (E σ)) (λC cells s₂ H₂ fp=>he C cells s₂ H₂ fp (E σ)) I2 T st2 f2 w (λcells C e s' hC z=>?_) ?_
 ·refine n6 (hx scope N' cells C pins σ H2 s2 fp e s' I2 f2 hC z) (λ_ s'' ⟨m,n,q⟩=>⟨m,n,λh' hs'=>q h' hs' _ rfl rfl⟩) λe' s'' ⟨m,n,q⟩=>⟨m,n,λh' hs'=>q h' hs' _ rfl rfl⟩
 intro D C cells H' s' m ys I' hD hnC hCn hCL hCs hCc hCp fin;refine wpAny_assign_Name (q6Z (v:=.ref D) I' hN hiN (Or.inl hy) rfl (λs'' I'' ⟨a,hsb,ha⟩=>⟨m,hnC.sameBut hsb ?_,λh' hs'=>⟨_,_,I''.turned (it:=C) (t':=s''.toks) (λb o hb e=>(hs'.2 b hb).trans e) hCn hCL (.inr hCs) hCc hCp,fin D hD⟩⟩) (.inr hy));rcases ha with z | z
 ·rw[z];exact hCL
 ·exact Ne.symm (hCc y a z)
end
section
theorem Un.flown{fs ex:List Addr}{H H':Hp}{h0 h1 h2 B:Heap}(u:Un fs ex H H' h0 h1)(cov:∀b o,h0.get? b=some o->b∉fs->b∉ex->∃o',B.get? b=some o')(s1:∀b o,B.get? b=some o->h1.get? b=some o)(s2:∀b o,B.get? b=some o->h2.get? b=some o)
  (up:h1.UpToSlots h2) (fd:∀b∈fs,b∉ex/\H b=none/\∀o,h0.get? b=some o->∀vs,o.data ≠ .fields vs):Un fs ex H H' h0 h2:=by
 have keep:∀b o,h0.get? b=some o->H b=none->b∉fs->b∉ex->h2.get? b=some o:=λb o e n hb hx=>by have e1:=u.keep b o e n hb hx;obtain⟨o',q⟩:=cov b o e hb hx;have q1:=s1 b o' q;rw[e1]at q1;cases q1;exact s2 b o q
 have slot:∀b o,h0.get? b=some o->H b=none->b∈fs->b∉ex->∃sl,h2.get? b=some {o with slots:=sl}:=λb o e n hb hx=>by obtain⟨sl,e1⟩:=u.slot b o e n hb hx;obtain⟨sl',e2⟩:=up b _ e1 ((fd b hb).2.2 o e);exact⟨sl',e2⟩
 refine⟨keep,slot,u.free,λb o e hx=>?_,u.tups,u.frzs,u.tbls⟩;by_cases hb:b∈fs
 ·obtain⟨sl,q⟩:=slot b o e (fd b hb).2.1 hb hx;exact⟨_,q⟩
 ·obtain⟨o',q⟩:=cov b o e hb hx;exact⟨o',s2 b o' q⟩
section
variable {X:Cx} {pins:List (Addr×Obj)} {σ:St} {H:Hp} {s:Shared}
theorem Inv.frameData(I:Inv X pins σ H s):∀b∈X.fs,b∉X.ex/\X.H₀ b=none/\∀o,X.s₀.heap.get? b=some o->∀vs,o.data ≠ .fields vs:=λb hb=>by
 refine⟨λz=>I.ok.exfs b z hb,I.ok.frf.1 b hb,λo e=>?_⟩;obtain⟨_,o',e',d⟩:=I.ok.funs.mem hb
 rw[e]at e';cases e';exact d
theorem Inv.notStk(I:Inv X pins σ H s)(e:X.s₀.heap.get? b=some o)(hb:b∉X.fs):b∉frs X.stack:=λz=>by
 rcases d9.mp (I.stkSub b z)with q | q
 ·exact absurd (p5 (i7 e) I.ok.above) (by rw[q];exact K0 _)
 ·exact hb q
theorem Inv.flown(I:Inv X pins σ H s)(F:Fly X.prog X.w X.base l ea C H B s.heap)(cov:∀b o,X.s₀.heap.get? b=some o->b∉frs X.stack->b∉X.ex->∃o',B.get? b=some o')
  (pc:∀p∈X.pn++pins,∃o',B.get? p.1=some o') (st:∀b o,B.get? b=some o->h'.get? b=some o) (up:s.heap.UpToSlots h'):Inv X pins σ H {s with heap:=h',toks:=t'}:=by
 have cellK:∀c v,s.heap.IsCell c v->h'.IsCell c v:=λc v ⟨o,ho,hd⟩=>by obtain⟨sl,q⟩:=up c o ho (λvs z=>by rw[hd]at z;cases z);exact⟨_,q,hd⟩
 refine⟨I.ok,I.os,I.bare,I.base.flown (λb o e hb hx=>cov b o e (I.notStk e hb) hx) F.stays st up I.frameData,?_,λx c e=>?_,I.free,I.freeC,λp hp=>?_,F.hok.kept st,I.len⟩
 ·obtain⟨m,hn,hl⟩:=I.loc;refine⟨m,up.ns hn,λi x v e1 e2 e3=>?_⟩;obtain⟨u,r,l⟩:=hl i x v e1 e2 e3;refine⟨u,r,?_⟩;rcases l with l | ⟨k,c,e,z⟩
  ·exact .inl l
  ·exact .inr ⟨k,c,e,cellK c _ z⟩
 ·obtain⟨v,z⟩:=I.cell x c e;exact⟨v,cellK c v z⟩
 ·obtain⟨e,n,ne,nf,d⟩:=I.pin p hp;obtain⟨o',q⟩:=pc p hp;have q1:=F.stays _ _ q;rw[e]at q1;cases q1;exact⟨st _ _ q,n,ne,nf,d⟩
end
section
variable {P:Program} {w:World} {K:PySem.W.Frag} {mg:Str->Option Value} {base:Heap} {N:List Str} {qual:Str} {scope:Scope} {f:Addr} {cd:Value} {A:Around} {outer:List Env} {s:Shared} {H:Hp} {E:XK}
abbrev cxD(P:Program)(w:World)(K:PySem.W.Frag)(mg:Str->Option Value)(base:Heap)(N:List Str)(qual:Str)(scope:Scope)(f:Addr)(cd:Value)(A:Around)(outer:List Env)(s:Shared)(H:Hp)(E:XK):Cx:=
 cxOf (CXx P w base) P w K mg base N qual scope f cd A outer s H E
theorem q7J(I:Inv (cxD P w K mg base N qual scope f cd A outer s H E) pins σ H1 s1)(hx:Heap.MadeExcOf s1.heap h' ea C vs)(hE:E C none H1) :
  (cxD P w K mg base N qual scope f cd A outer s H E).xe (.ref ea) {s1 with heap:=h'}:=by
 have hstk:=I.stack;have hin:∀env∈(cxD P w K mg base N qual scope f cd A outer s H E).stack,∀a,env.frame=some a->a∈frs (cxD P w K mg base N qual scope f cd A outer s H E).stack:=λenv he b hb=>G6.mpr ⟨env,he,hb⟩;have hB1:∀b o,(PySem.W.hideAll s1.heap (frs (cxD P w K mg base N qual scope f cd A outer s H E).stack)).get? b=some o->s1.heap.get? b=some o:=λb o q=>w17 _ q;have hHid:∀b u,H1 b≠none->s1.heap.get? b=some u->(PySem.W.hideAll s1.heap (frs (cxD P w K mg base N qual scope f cd A outer s H E).stack)).get? b=some u:=λb u hb q=>M7 _ q λz=>hb (I.stkFree b z);refine n6 ((q3Q _ _).any (wpAny_leaves_madeW (Q:=λ_ s'=>∃h2 t,s' = {s1 with heap:=h2} /\ Heap.FlyingW (PySem.W.hideAll s1.heap (frs (cxD P w K mg base N qual scope f cd A outer s H E).stack)) outer ea C (.ref t) h2/\h'.UpToSlots h2) (E:=λ_ _=>False) (base:=PySem.W.hideAll s1.heap (frs (cxD P w K mg base N qual scope f cd A outer s H E).stack)) (h:=s1.heap) I.ok.frames rfl hB1 (w3c hstk hin) hx λh2 t fl tup nt up=>⟨h2,t,rfl,fl,up⟩)) (λ_ s' ⟨⟨h2,t,e0,fl,up⟩,st⟩=>?_) (λ_ _ q=>q.1.elim);subst e0;have hcov:∀b o,s.heap.get? b=some o->b∉frs outer->∃o',(PySem.W.hideAll s1.heap (frs (cxD P w K mg base N qual scope f cd A outer s H E).stack)).get? b=some o':=λb o e hb=>by obtain⟨o1,e1⟩:=I.base.there b o e (by intro z;exact nomatch z);exact⟨o1,M7 _ e1 (I.notStk e hb)⟩
 refine⟨ea,C,H1,_,rfl,I.os,I.bare,I.base.flown (λb o e hb _=>hcov b o e hb) hB1 fl.1 ((Heap.UpToSlots.of_keeps hx.keeps).trans up) I.frameData,⟨⟨_,fl⟩,λb o e=>?_,λa o q=>?_,(Ctxd.made hx).st st⟩,hcov,hE⟩
 ·refine M7 _ (I.bk b o e) λz=>?_;have q:base.get? b=none:=(hstk.mem z).1;rw[q]at e;cases e
 ·refine(I.hok a o q).stay (λb u hc e=>hHid b u ?_ e) (λ_ z=>z) (λ_ _ z=>z) λ_ _ _ _ _ z=>z;rcases hc with z | z
  ·subst z;rw[q];intro z;cases z
  ·rw[z];intro z;cases z
theorem z3a(I:Inv (cxD P w K mg base N qual scope f cd A outer s H E) pins σ H1 s1)(F:Fly P w base (cxD P w K mg base N qual scope f cd A outer s H E).stack ea C H1 B s1.heap)
  (cov:∀b o,s.heap.get? b=some o->b∉frs (cxD P w K mg base N qual scope f cd A outer s H E).stack->∃o',B.get? b=some o') (hE:E C none H1):(cxD P w K mg base N qual scope f cd A outer s H E).xe (.ref ea) s1:=by
 obtain⟨a0,fl⟩:=F.fly;refine n6 ((q3Q _ _).any (wpAny_leaves_onW (Q:=λ_ s'=>∃h2,s' = {s1 with heap:=h2} /\ Heap.FlyingW B outer ea C a0 h2/\s1.heap.UpToSlots h2) (E:=λ_ _=>False) I.ok.frames rfl fl λh2 fl2 up=>⟨h2,rfl,fl2,up⟩)) (λ_ s' ⟨⟨h2,e0,fl2,up⟩,st⟩=>?_) (λ_ _ q=>q.1.elim);subst e0;have hcov:∀b o,s.heap.get? b=some o->b∉frs outer->∃o',B.get? b=some o':=λb o e hb=>cov b o e (I.notStk e hb)
 exact⟨ea,C,H1,B,rfl,I.os,I.bare,I.base.flown (λb o e hb _=>hcov b o e hb) F.stays fl2.1 up I.frameData,⟨⟨_,fl2⟩,F.bas,F.hok,F.ctx.st st⟩,hcov,hE⟩
theorem q9Q:z0K (CXx P w base) (cxD P w K mg base N qual scope f cd A outer s H E) E:=by
 intro pins σ H0 s0 e s' I hcx;obtain⟨ea,C,H',B,rfl,os,bare,un,F,cov,hE⟩:=hcx;have I':Inv (cxD P w K mg base N qual scope f cd A outer s H E) pins σ H' s':=I.call' os un (F.hok.kept F.stays) bare λb hb=>nomatch hb
 refine z3a I' F (λb o e hb=>?_) hE;obtain⟨o1,e1⟩:=I.base.there b o e (by intro z;exact nomatch z);exact cov b o1 e1 hb
end
def excO(ea:Addr)(C:Value):HO:=.ext λh=>∃oe vs,h.get? ea=some oe/\oe.cls=C/\oe.data=.fields vs
theorem z6E(x:∃oe vs,h.get? ea=some oe/\oe.cls=C/\oe.data=.fields vs):x5 P w H h ea (excO ea C):=by
 refine⟨x,?_,λh1 h2 p k=>?_⟩
 ·obtain⟨oe,_,e,_⟩:=x;exact⟨oe,e⟩
 ·obtain⟨oe,vs,e,c,d⟩:=p;exact⟨oe,vs,k oe e,c,d⟩
def XP(X:Cx)(pins:List (Addr×Obj))(E:St->Value->Hp->Prop)(e:Value)(s':Shared):Prop:=∃(ea:Addr) (C:Value) (σ':St) (H':Hp) (B:Heap),e=.ref ea/\Inv X pins σ' H' s'/\Fly X.prog X.w X.base X.stack ea C H' B s'.heap /\
 (∀b o,X.s₀.heap.get? b=some o->b∉frs X.stack->b∉X.ex->∃o',B.get? b=some o')/\(∀p∈X.pn++pins,∃o',B.get? p.1=some o')/\E σ' C H'
abbrev Cx.tryIn(X:Cx)(pins:List (Addr×Obj))(E:St->Value->Hp->Prop):Cx:={X with pn:=X.pn++pins,xe:=XP X pins E}
abbrev Cx.inExc(X:Cx)(ea:Addr):Cx:={X with A:=X.A.mark (some (.ref ea)),calm:=false,xe:=λ_ _=>False}
section
variable {X:Cx} {pins pins':List (Addr×Obj)} {σ:St} {H:Hp} {s:Shared} {E:St->Value->Hp->Prop} {ea:Addr}
theorem Cx.Ok.tryIn(k:X.Ok):(X.tryIn pins E).Ok:=⟨k.mod,k.kind,k.glob,k.blt,k.above,k.inj,k.has,k.cab,k.hd,k.frames,k.stk,k.exf,k.bs,k.bsz,k.noex,k.exfs,k.funs,k.frf⟩
theorem Cx.Ok.untry(k:(X.tryIn pins E).Ok):X.Ok:=⟨k.mod,k.kind,k.glob,k.blt,k.above,k.inj,k.has,k.cab,k.hd,k.frames,k.stk,k.exf,k.bs,k.bsz,k.noex,k.exfs,k.funs,k.frf⟩
theorem Cx.Ok.inExc(k:X.Ok):(X.inExc ea).Ok:=⟨k.mod,k.kind,k.glob,k.blt,k.above,k.inj,k.has,k.cab,(λz=>(nomatch z)),k.frames,k.stk,k.exf,k.bs,k.bsz,k.noex,k.exfs,k.funs,k.frf⟩
theorem Inv.tryIn(I:Inv X (pins++pins') σ H s):Inv (X.tryIn pins E) pins' σ H s:=
 ⟨I.ok.tryIn,I.os,I.bare,I.base,I.loc,I.cell,I.free,I.freeC,λp hp=>I.pin p (by have hp:p∈(X.pn++pins)++pins':=hp;rw[U4]at hp;exact hp),I.hok,I.len⟩
theorem Inv.untry(I:Inv (X.tryIn pins E) pins' σ H s):Inv X (pins++pins') σ H s:=
 ⟨I.ok.untry,I.os,I.bare,I.base,I.loc,I.cell,I.free,I.freeC,λp hp=>I.pin p (by show p∈(X.pn++pins)++pins';rw[U4];exact hp),I.hok,I.len⟩
theorem Inv.inExc(I:Inv X pins σ H s):Inv (X.inExc ea) pins σ H s:=⟨I.ok.inExc,I.os,I.bare,I.base,I.loc,I.cell,I.free,I.freeC,I.pin,I.hok,I.len⟩
theorem Inv.unExc(I:Inv (X.inExc ea) pins σ H s)(k:X.Ok):Inv X pins σ H s:=⟨k,I.os,I.bare,I.base,I.loc,I.cell,I.free,I.freeC,I.pin,I.hok,I.len⟩
theorem Inv.track(I:Inv X pins σ H s)(hn:H a=none)(h0:X.s₀.heap.get? a=none)(hL:a≠X.env.locals)(hc:∀x c,X.env.cells.lookup x=some c->c≠a)(hp:∀p∈X.pn++pins,p.1≠a)(new:x5 X.prog X.w (upd H a o) s.heap a o) :
  Inv X pins σ (upd H a o) s:=
 ⟨I.ok,I.os,I.bare,I.base.track hn h0,I.loc,I.cell,by rw[j6 (Ne.symm hL)];exact I.free,λx c e=>by rw[j6 (hc x c e)];exact I.freeC x c e,λp hq=>by
  obtain⟨e,n,ne,nf,d⟩:=I.pin p hq;exact⟨e,by rw[j6 (hp p hq)];exact n,ne,nf,d⟩,I.hok.track hn new,I.len⟩
theorem q3y(I:Inv X pins σ H s)(hN:X.N.Nodup)(hi:X.N[i]? = some x)(hx:X.env.scope.names.lookup x=some .local)
  (h:∀s',Inv X pins (σ.set i none) H s'->Q () s'):wpAny M A (do bindName X.env x .none;unbindBehindTheSuite X.env x pos) Q EE s:=by
 obtain⟨m,hn,hl⟩:=id I.loc;have hcls:(X.env.scope.kind == .class||(X.env.scope.kind == .module&&X.env.locals != X.env.globals))=false:=by rw[I.ok.kind];rfl
 have hiσ:i<σ.length:=by rw[I.len];exact(u9.mp hi).1
 have cne:=I.cne;have tracked:∀{h':Heap},Heap.SameBut X.env.locals s.heap h'->HOk X.prog X.w H h':=λ{h'} hs b ob e=>by
  refine(I.hok b ob e).stay (λc w' hc q=>(hs.2 c ?_).trans q) (λ_ q=>q) (λ_ _ q=>q) λ_ _ _ _ _ q=>q
  rintro rfl
  rcases hc with rfl | hc
  ·rw[I.free]at e;cases e
  ·rw[I.free]at hc;cases hc
 refine wpAny_nameGoes_keeps hx hn hcls λh' v hn' hs=>?_;refine h _ ⟨I.ok,I.os,I.bare,⟨λb o e n hb hx=>?_,λb o e n hb hx=>?_,I.base.free,λb o e hx=>?_,I.base.tups,I.base.frzs,I.base.tbls⟩,⟨_,hn',λj y v' e1 e2 e3=>?_⟩,λy c e=>?_,I.free,I.freeC,λp hp=>?_,tracked hs,by simpa using I.len⟩
 ·exact(hs.2 b (w6 (p5 (i7 e) I.ok.above))).trans (I.base.keep b o e n hb hx)
 ·obtain⟨sl,e1⟩:=I.base.slot b o e n hb hx;exact⟨sl,(hs.2 b (w6 (p5 (i7 e) I.ok.above))).trans e1⟩
 ·obtain⟨o',e1⟩:=I.base.there b o e hx;exact⟨o',(hs.2 b (w6 (p5 (i7 e) I.ok.above))).trans e1⟩
 ·by_cases hj:j=i
  ·subst hj;rw[C7 hiσ]at e2;cases e2
  ·rw[d8 (Ne.symm hj)]at e2;obtain⟨u',r',q⟩:=hl j y v' e1 e2 e3;refine⟨u',r',?_⟩;rcases q with⟨k,e⟩ | ⟨k,c,e,z⟩
   ·refine .inl ⟨k,?_⟩;have:y≠x:=λe=>hj (q4s hN e1 (e▸hi));simp[this,e]
   ·exact .inr ⟨k,c,e,z.sameBut hs (cne y c e)⟩
 ·obtain⟨w',z⟩:=I.cell y c e;exact⟨w',z.sameBut hs (cne y c e)⟩
 ·obtain⟨e,n,ne,nf,d⟩:=I.pin p hp;exact⟨(hs.2 p.1 ne).trans e,n,ne,nf,d⟩
end
def P7(CX:CXT)(X:Cx)(E:St->XK):Prop:=∀(pins:List (Addr×Obj)) (σ:St) (H:Hp) (s:Shared) (e:Value) (s':Shared),Inv X pins σ H s->CX X.stack H s (E σ) e s'->X.xe e s'
theorem z0K.s(h:z0K CX X E):P7 CX X λ_=>E:=λpins σ H s e s' I q=>h pins σ H s e s' I q
theorem q9N{X:Cx}{pins:List (Addr×Obj)}{E:St->Value->Hp->Prop}:P7 (CXx X.prog X.w X.base) (X.tryIn pins E) (λσ C _ H=>E σ C H):=by
 intro pins' σ H0 s0 e s' I hcx;obtain⟨ea,C,H',B,rfl,os,bare,un,F,cov,hE⟩:=hcx;have I':Inv (X.tryIn pins E) pins' σ H' s':=I.call' os un (F.hok.kept F.stays) bare λb hb=>nomatch hb
 have J:=I'.untry;refine⟨ea,C,σ,H',B,rfl,J.pins_of λp hp=>J.pin p (A8 _ (y0 _ hp)),F,λb o e hb hx=>?_,λp hp=>?_,hE⟩
 ·obtain⟨o1,e1⟩:=I.base.there b o e hx;exact cov b o1 e1 hb
 ·obtain⟨e,n,ne,nf,d⟩:=I.pin p (y0 _ hp);exact cov p.1 p.2 e λz=>(d9.mp (I.stkSub _ z)).elim ne nf
section
variable {X:Cx} {CX:CXT} {k:Nat} {f C:Addr} {fd:FuncData} {ps:List Str} {sp:Sp} {dvs:List V} {ds:List Value} {E:St->XK} {x m:Str} {p pos apos:Pos} {e o:Expr} {es:List Expr} {ta:TE} {t:TA}
theorem z0k(F:FnOk X.prog X.w X.K X.mg X.base CX k f fd ps sp)(hr:Room k X.A)(hb:C3 X.K fd ps ds)(hd:Vals dvs ds)(hx:P7 CX X E)
  (I:Inv X pins σ H s) (r:Vals vs us) (h:sp (vs++dvs) H Q (E σ)):wpAny (model X.prog X.w) X.A (call (.ref f) us) (EP X pins σ Q) X.xe s:=by
 have r2:Vals (vs++dvs) (us++ds):=r.append hd;have hl:(us++ds).length=ps.length:=by rw[←r2.length];exact F.len _ _ _ _ h
 refine wpAny_call (U8 (F.run X.A X.stack s H ⟨us,[]⟩ (us++ds) (vs++dvs) Q (E σ) hr I.env0 (hb s us I.kIn hl) r2 h) λr s' hq=>?_);cases r with
 | error e=>exact hx pins σ H s e s' I hq
 | ok fl=>
  cases fl with
  | ret u=>exact I.after hq
  | next=>exact False.elim hq
  | brk=>exact False.elim hq
  | cont=>exact False.elim hq
def z1d(sp:Sp)(dvs:List V)(E:St->XK)(t:TA):TE:=λσ H Q=>t σ H λvs H1=>sp (vs++dvs) H1 Q (E σ)
theorem z3G(F:FnOk X.prog X.w X.K X.mg X.base CX k f fd ps sp)(hr:Room k X.A)(hg:Gl X x)(hm:X.mg x=some (.ref f))(hk:PySem.W.keepIn X.K (.ref f)=true)(hb:C3 X.K fd ps ds)(hd:Vals dvs ds)(hx:P7 CX X E)
  (ha:PA X (e::es) t) (hdb:(x==("__debug__" : Str))=false:=by decide) (he:starEach (e::es) X.env=(false,eval e X.env)::starEach es X.env:=by rfl) (hpl:(backTo pos (starEach es X.env)).any (·.1)=false:=by rfl) :
  PE X (.Call (.Name x p) (e::es) [] pos) (z1d sp dvs E t):=by
 intro pins s σ H Q I h;refine X9 (V0 I hg hm ?_ hdb);refine w2A (h₀:=X.base) I.ok.mod.kin hk (thn (ha pos pins s σ H _ I h) λus s1 ⟨vs,H1,I1,r,q⟩=>⟨I1.kIn,?_⟩) he hpl;exact z0k F hr hb hd hx I1 r q
end
def tTry(K:PySem.W.Frag)(cv:Value)(i:Nat)(tb:(St->Value->Hp->Prop)->TS)(ts:TS):TS:=λD σ H=>
 tb (λσ' C H'=>PySem.W.exmOne K C cv=some true/\∀ea,H' ea=none->ts {nx:=λσ2 H2=>D.nx (σ2.set i none) H2,rt:=D.rt,bk:=λσ2 H2=>D.bk (σ2.set i none) H2,ct:=λσ2 H2=>D.ct (σ2.set i none) H2} (σ'.set i (some (.ref ea))) (upd H' ea (excO ea C))) D σ H
theorem z8T(hst:X.stack=X.env::X.outer)(hfr:X.env.frame=some X.env.locals)(hex:X.ex=[])(hgl:Gl X c)(hm:X.mg c=some cv)
  (hN:X.N.Nodup) (hi:X.N[i]? = some n) (hl:X.env.scope.names.lookup n=some .local) (hb:∀pins E,PSs (X.tryIn pins E) body (tb E)) (hs:∀ea,PSs (X.inExc ea) (b₀::suite) ts) (hd:(c==("__debug__" : Str))=false:=by decide) :
  PS X (.Try body [.ExceptHandler (some (.Name c np)) (some n) (b₀::suite) hpos] [] [] pos) (tTry X.K cv i tb ts):=by
 intro pins s σ H D I h;refine wpAny_Try_except ?_;have un:∀{σ1:St} {H1:Hp} {s1:Shared} {E:St->Value->Hp->Prop},Inv (X.tryIn pins E) [] σ1 H1 s1->Inv X pins σ1 H1 s1:=λ{σ1 H1 s1 E} J=>by have q:=J.untry;rw[z9]at q;exact q
 refine n6 (hb pins _ [] s σ H D (Inv.tryIn (pins':=[]) (by rw[z9];exact I)) h) (λf s1 q=>?_) (λe s1 q=>?_)
 ·cases f with
  | next=>obtain⟨σ1,H1,I1,q1⟩:=q;exact Y4 ⟨σ1,H1,un I1,q1⟩
  | brk=>obtain⟨σ1,H1,I1,q1⟩:=q;exact⟨σ1,H1,un I1,q1⟩
  | cont=>obtain⟨σ1,H1,I1,q1⟩:=q;exact⟨σ1,H1,un I1,q1⟩
  | ret u=>obtain⟨v,σ1,H1,I1,r1,q1⟩:=q;exact⟨v,σ1,H1,un I1,r1,q1⟩
 ·obtain⟨ea,C,σ1,H1,B,rfl,I1,F,cov,pc,hE,hsuite⟩:=q;obtain⟨a0,fl⟩:=F.fly;have fl':Heap.FlyingW B (X.env::X.outer) ea C a0 s1.heap:=by rw[←hst];exact fl
  refine w24 (by rw[←hst];exact I1.ok.frames) hfr fl' λh4 held up4=>?_;refine w3k held λh5 fl5 up5=>?_;have up:=up4.trans up5;have I5:Inv X pins σ1 H1 {s1 with heap:=h5}:=I1.flown (t':=s1.toks) F cov pc fl5.1 up;have J5:Inv (X.inExc ea) pins σ1 H1 {s1 with heap:=h5}:=I5.inExc;obtain⟨oe,ws,hoe,hoec,hoed,hoe0⟩:=fl5.first
  refine wpAny_handleBy_cons (w3g ?_) (by intro q;cases q);refine V0 J5 hgl hm ?_ hd;have LT:PySem.W.Looks (model X.prog X.w) h5 (typeOf (.ref ea)) C:=hoec▸(PySem.W.Looks.ld hoe).andThen .now;refine(PySem.W.exm_one (M:=model X.prog X.w) (K:=X.K) (h:=h5) J5.kIn LT hE).here ?_;show codeAny _ _ (.handlers (.ref ea) [.ExceptHandler none (some n) (b₀::suite) hpos] X.env) _ _;refine codeAny_handlers_suite_as ?_;refine lands_againW fl5 λh6 fl6 up6=>?_;have I6:Inv X pins σ1 H1 {s1 with heap:=h6}:=I1.flown (t':=s1.toks) F cov pc fl6.1 (up.trans up6);obtain⟨oe6,ws6,hoe6,hoec6,hoed6,_⟩:=fl6.first
  have hn:H1 ea=none:=F.untr;have h0:X.s₀.heap.get? ea=none:=by
   cases q:X.s₀.heap.get? ea with
   | none=>rfl
   | some o=>
    exfalso;by_cases hf:ea∈frs X.stack
    ·obtain⟨_,o',e',d⟩:=I6.stack.mem hf;have e'':h6.get? ea=some o':=e';rw[hoe6]at e'';cases e'';exact d _ hoed6
    ·obtain⟨o',z⟩:=cov ea o q hf (by rw[hex];intro z;exact nomatch z);rw[F.newE]at z;cases z
  have hL:ea≠X.env.locals:=λz=>by
   obtain⟨m,⟨o,es,ep,ho,hdd,_⟩,_⟩:=I6.loc;have ho':h6.get? ea=some o:=by rw[z];exact ho
   rw[hoe6]at ho';cases ho';rw[hoed6]at hdd;cases hdd
  have hc:∀x c,X.env.cells.lookup x=some c->c≠ea:=λx c e z=>by
   obtain⟨v,o,ho,hdd⟩:=I6.cell x c e;have ho':h6.get? ea=some o:=by rw[←z];exact ho
   rw[hoe6]at ho';cases ho';rw[hoed6]at hdd;cases hdd
  have hp:∀p∈X.pn++pins,p.1≠ea:=λp hp z=>by obtain⟨o',q⟩:=pc p hp;rw[z,F.newE]at q;cases q
  have J6:Inv (X.inExc ea) pins σ1 (upd H1 ea (excO ea C)) {s1 with heap:=h6}:=(I6.track hn h0 hL hc hp (z6E ⟨oe6,ws6,hoe6,hoec6,hoed6⟩)).inExc;refine q6s (X:=X.inExc ea) (i:=i) (v:=.ref ea) J6 hN hi (Or.inl hl) rfl (λs7 I7=>?_) (.inr hl);refine n6 (hs ea pins s7 _ _ _ I7 (hsuite ea hn)) (λf s8 q=>?_) λ_ _ z=>z.elim;cases f with
  | next=>obtain⟨σ8,H8,I8,q8⟩:=q;exact q3y (I8.unExc I.ok) hN hi hl λs9 I9=>⟨_,H8,I9,q8⟩
  | brk=>obtain⟨σ8,H8,I8,q8⟩:=q;exact q3y (I8.unExc I.ok) hN hi hl λs9 I9=>⟨_,H8,I9,q8⟩
  | cont=>obtain⟨σ8,H8,I8,q8⟩:=q;exact q3y (I8.unExc I.ok) hN hi hl λs9 I9=>⟨_,H8,I9,q8⟩
  | ret u=>obtain⟨v,σ8,H8,I8,r8,q8⟩:=q;exact q3y (I8.unExc I.ok) hN hi hl λs9 I9=>⟨v,_,H8,I9,r8,q8⟩
theorem q9m{K:PySem.W.Frag}{h₀:Heap}{mg:Str->Option Value}{x:Str}{C:Addr}{bmB:List Value}{newId:String}(X:K.In h₀)(hm:mg x=some (.ref C))(q:PySem.W.excIn K C bmB newId=true):OwnCls x C bmB newId mg h₀:=by
 refine⟨hm,?_⟩;unfold PySem.W.excIn at q;split at q
 ·rename_i dd cd sl ho;split at q
  ·rename_i C' bm k0 k1 k2 k3 n k5 hm hs;simp only[b8,d5,p6]at q;obtain⟨⟨⟨⟨⟨rfl,rfl⟩,hdel⟩,ht⟩,hok⟩,hni⟩:=q;obtain⟨nm,bs,mro,ns,qn,hd,sn,sub,ab,col,del⟩:=cd;dsimp only at hm hdel hok hni;subst hm hdel;have hsl:sl = #[k0,k1,k2,k3,some (.builtin n),k5]:=by
    obtain⟨l⟩:=sl;simp only at hs;rw[hs]
   subst hsl;exact⟨bm,ns,nm,qn,bs,hd,sn,sub,ab,col,dd,k0,k1,k2,k3,k5,_,X _ _ ho,.of_isNs (PySem.W.isNs_of_in X hok),PySem.W.nsMap_none_of_in X hok hni,PySem.W.tail_of_in X ht⟩
  ·cases q
 ·cases q
def q4y(X:Cx)(E:St->XK):Prop:=∀(pins:List (Addr×Obj)) (σ:St) (H:Hp) (s:Shared) (h':Heap) (ea:Addr) (C:Value) (vs:List Value),Inv X pins σ H s->Heap.MadeExcOf s.heap h' ea C vs->E σ C none H->X.xe (.ref ea) {s with heap:=h'}
theorem q9C{P:Program}{w:World}{K:PySem.W.Frag}{mg:Str->Option Value}{base:Heap}{N:List Str}{qual:Str}{scope:Scope}{f:Addr}{cd:Value}{A:Around}{outer:List Env}{s:Shared}{H:Hp}{E:XK} :
  q4y (cxD P w K mg base N qual scope f cd A outer s H E) λ_=>E:=λpins σ H1 s1 h' ea C vs I hx hE=>q7J I hx hE
def z9x(C:Addr)(E:St->XK)(t:TA):TS:=λ_ σ H=>t σ H λvs H1=>vs.length<=sizeLine/\E σ (.ref C) none H1
theorem z2Z{X:Cx}{x:Str}{C:Addr}{bmB:List Value}{B newId initId:String}{np cpos pos:Pos}{e₀:Expr}{rest:List Expr}{t:TA}{E:St->XK}(FB:ExcBaseFacts B newId initId bmB)(hc:X.calm=true)(hg:Gl X x)(hm:X.mg x=some (.ref C))(hx:PySem.W.excIn X.K C bmB newId=true)
  (hR:q4y X E) (ha:PA X (e₀::rest) t) (hd:(x==("__debug__" : Str))=false:=by decide) (he:starEach (e₀::rest) X.env=(false,eval e₀ X.env)::starEach rest X.env:=by rfl) (hpl:(backTo cpos (starEach rest X.env)).any (·.1)=false:=by rfl) :
  PS X (.Raise (some (.Call (.Name x np) (e₀::rest) [] cpos)) none pos) (z9x C E t):=by
 intro pins s σ H D I h;obtain⟨tl,N,nm,q,bs,hdct,sn,sub,ab,col,dd,k0,k1,k2,k3,k5,mN,hC,hN,hni,T⟩:=(q9m I.mod.kin hm hx).obj;refine wpAny_Raise_call_subT (C:=C) (nm:=nm) (q:=q) (N:=N) (bs:=bs) (bm:=tl) (hdct:=hdct) (sn:=sn) (sub:=sub) (ab:=ab) (col:=col) (dd:=dd) (k0:=k0) (k1:=k1) (k2:=k2) (k3:=k3) (k5:=k5)
  FB (mN:=mN) (T.hasType FB.hasBase) (I.ok.hd hc) (by rw[he];show(false||(backTo cpos (starEach rest X.env)).any (·.1))=false;rw[hpl];rfl) hni (V0 I hg hm ⟨rfl,?_⟩ hd)
 have hq:=ha cpos pins s σ H _ I h;rw[he]at hq ⊢;exact w1J (thn hq λvs s₂ ⟨xs,H2,I2,r2,hl,hE⟩=>⟨rfl,by show vs.length<=sizeLine;rw[←r2.length];exact hl,I2.bk _ _ hC,hN.keeps I2.bk,T.keeps I2.bk,λh' e hm'=>hR pins σ H2 s₂ h' e _ _ I2 hm' hE⟩)
end
section
theorem q3q:entryFor table "proto.unchain" = some Builtin.«proto.unchain»:=entryFor_of_fast (by kernel_rfl)
theorem q1N:plainId "proto.unchain" = true:=by decide +kernel
def Pth(h:Heap):Nat->Addr->Addr->Prop
 | 0,a,b=>a=b
 | k+1,a,b=>∃o c,h.get? a=some o/\F2 o=some (.ref c)/\Pth h k c b
theorem Pth.snoc(e:h.get? b=some o)(q:F2 o=some (.ref c)):∀{k:Nat} {a:Addr},Pth h k a b->Pth h (k+1) a c
 | 0,a,p=>by have p':a=b:=p;subst p';exact⟨o,c,e,q,rfl⟩
 | k+1,a,p=>by obtain⟨o1,c1,e1,q1,p1⟩:=p;exact⟨o1,c1,e1,q1,p1.snoc e q⟩
theorem F2.at(h:F2 o=some c):∃vs,o.data=.fields vs/\vs[2]? = some c:=by
 unfold F2 at h;split at h
 ·rename_i vs e;exact⟨vs,e,h⟩
 ·cases h
theorem Cx2.there(c:Cx2 h n a):∃o,h.get? a=some o:=by
 cases n with
 | zero=>obtain⟨o,e,_⟩:=c;exact⟨o,e⟩
 | succ n=>obtain⟨o,e,_⟩:=c;exact⟨o,e⟩
theorem q4E(eo:s.heap.get? o=some ob)(q:F2 ob=some .none)(hR:R (.ok (.ret .none)) s) :
  codeAny (model prog w) A (.builtin "proto.unchain" ⟨[.ref e,.ref o,.ref sl,.bool tg],[]⟩) R s:=by
 obtain⟨vs,hd,h2⟩:=F2.at q;refine w25 q3q ?_;rw[Around.under_plainId q1N _];unfold Builtin.«proto.unchain»;refine b0 (y6 eo hd h2 ?_);exact f8 hR
theorem q9T(hn:h0.get? e=none):∀(n:Nat) {A:Around} {R:Result->Shared->Prop} {s:Shared} {o sl:Addr} {tg:Bool} {k:Nat},Cx2 h0 n o->St2 h0 s.heap->Pth s.heap k sl o->R (.ok (.ret .none)) s ->
  codeAny (model prog w) A (.builtin "proto.unchain" ⟨[.ref e,.ref o,.ref sl,.bool tg],[]⟩) R s:=by
 intro n
 induction n with
 | zero=>
  intro A R s o sl tg k c st p hR;obtain⟨ob,eo,q⟩:=c;obtain⟨o',e',q'⟩:=st o ob _ eo q;exact q4E e' q' hR
 | succ n ih=>
  intro A R s o sl tg k c st p hR;obtain⟨ob,eo,q⟩:=c;rcases q with q | ⟨b,q,c⟩
  ·obtain⟨o',e',q'⟩:=st o ob _ eo q;exact q4E e' q' hR
  ·obtain⟨o',e',q'⟩:=st o ob _ eo q;obtain⟨vs,hd,h2⟩:=F2.at q';have hbe:b≠e:=λz=>by
    obtain⟨o2,e2⟩:=c.there;rw[z,hn]at e2;cases e2
   have p2:=p.snoc e' q';refine w25 q3q ?_;rw[Around.under_plainId q1N _];unfold Builtin.«proto.unchain»;refine b0 (y6 e' hd h2 ?_);rw[d6 (show ¬((Value.ref b==Value.none)=true) by simp),d6 (show ¬((Value.ref b==Value.ref e)=true) by simpa using hbe)];by_cases z:b=sl
   ·rw[d4 (show(Value.ref b==Value.ref sl)=true by simpa using z)];exact b0 (w2L (f8 hR))
   ·rw[d6 (show ¬((Value.ref b==Value.ref sl)=true) by simpa using z)];cases tg with
    | false=>
     refine b0 (f8 ?_);exact f8 ⟨plainId_quiet q1N _,ih c st p2 hR⟩
    | true=>
     obtain⟨o1,c1,e1,q1,p1⟩:=p2;obtain⟨vs1,hd1,h21⟩:=F2.at q1;refine b0 (y6 e1 hd1 h21 ?_);exact f8 ⟨plainId_quiet q1N _,ih c st p1 hR⟩
def z0A(C:Value)(t ea:Addr):Obj:={cls:=C,data:=.fields #[.ref t,.none,.ref ea,.none,.bool true,.none]}
theorem q8b(hh:A.handled=some (.ref ea))(hne:ea≠e)(hn:h0.get? e=none)(c:Cx2 h0 n ea)(st:St2 h0 s.heap)
  (he:s.heap.get? e=some oe) (hd:oe.data=.fields vs) (hs:2<vs.size) (h:E (.ref e) {s with heap:=s.heap.update e (Obj.mapFields (·.setIfInBounds 2 (.ref ea)))}):wpAny (model prog w) A (raiseNew (.ref e):Sem α) Q E s:=by
 unfold raiseNew;refine b0 (wpAny_handled ?_);rw[hh];dsimp only;rw[d4 (show(Value.ref ea != Value.ref e)=true by simpa using hne)];refine b0 (B6 (wpAny_runValue (q9T (k:=0) hn n c st rfl ?_)));refine b0 (show wpAny _ _ (setField (.ref e) 2 (.ref ea)) _ _ _ from Y5 he hd hs ?_);exact λΓ p hΓ=>by rw[w3l];exact h
section
variable {M:Model} {A:Around} {E:Value->Shared->Prop} {env:Env}
variable {nm q:Str} {C N:Addr} {bs bm:List Value} {hdct:Bool} {sn:List Str} {sub:List Value} {ab:Bool} {col:Option Bool} {dd:Option Addr} {k0 k1 k2 k3 k5:Option Value} {newId:String}
theorem q7p(hbase:bm.contains (.type "BaseException")=true)(hC:s.heap.get? C=some (excClassObj nm q C N bs bm hdct sn sub ab col dd k0 k1 k2 k3 k5 newId))
  (he:s.heap.get? e=some oe) (hcl:oe.cls=.ref C) (hd:∃vs,oe.data=.fields vs) (hQ:Q (.ref e) s):wpAny M A (excFromValue (.ref e) msg) Q E s:=by
 have hcB:(Value.ref C::bm).contains (.type "BaseException")=true:=by rw[List.contains_cons,hbase,Bool.or_true]
 obtain⟨vs,hd⟩:=hd;obtain⟨oc,od,dt,sl⟩:=oe;simp only at hcl hd;subst hcl hd;obtain⟨hp,g,d,tk,os⟩:=s;unfold excFromValue
 repeat (first | with_reducible refine w2e he ?_ | with_reducible refine w2e hC ?_ | (with_reducible refine wpAny_isSubtype_exc hC ?_;rw[hcB]) | exact hQ | wp_step)
theorem q7R(hC:s.heap.get? C=some (excClassObj nm q C N bs bm hdct sn sub ab col dd k0 k1 k2 k3 k5 newId))
  (he:s.heap.get? e=some oe) (hcl:oe.cls=.ref C) (hd:oe.data=.fields vs) (h1:vs[1]? = some .none) (h:wpAny M A (raiseNew (.ref e):Sem Flow) Q E s) :
  wpAny M A (do
   let e' ←if ←isType (.ref e)then holding [.ref e] (raisedFor (.ref e) (.ref e))else raisedInstance (.ref e)
   setFlight e' none
   raiseNew e':Sem Flow) Q E s:=by
 have he':=he;obtain⟨oc,od,dt,sl⟩:=oe;simp only at hcl hd;subst hcl hd;have fl:wpAny M A (setFlight (.ref e) none) (λ_ s'=>wpAny M A (raiseNew (.ref e):Sem Flow) Q E s') E s:=(by unfold setFlight;refine b0 (y6 he rfl h1 ?_);exact f8 h);obtain⟨hp,g,d,tk,os⟩:=s
 repeat (first | with_reducible refine w2e he ?_ | with_reducible refine w2e hC ?_ | exact fl | wp_step)
end
section
variable {prog:Program} {w:World} {A:Around} {E:Value->Shared->Prop} {env:Env}
variable {nm q:Str} {C N:Addr} {bs bm:List Value} {hdct:Bool} {sn:List Str} {sub:List Value} {ab:Bool} {col:Option Bool} {dd:Option Addr} {k0 k1 k2 k3 k5:Option Value} {newId:String}
theorem q5w(hbase:bm.contains (.type "BaseException")=true)(hh:A.handled=some (.ref ea))(hc:∀(Q:Value->Shared->Prop) (s:Shared),Q .none s->wpAny (model prog w) A c Q E s)
  (h:wpAny (model prog w) A x (λv s₁=>∃e t h0 n,v=.ref e/\s₁.heap.get? C=some (excClassObj nm q C N bs bm hdct sn sub ab col dd k0 k1 k2 k3 k5 newId) /\
   s₁.heap.get? e=some {cls:=.ref C,data:=.fields #[.ref t,.none,.none,.none,.bool false,.none]} /\ ea≠e/\h0.get? e=none/\Cx2 h0 n ea/\St2 h0 s₁.heap /\
   ∀h3:Heap,h3.get? e=some (z0A (.ref C) t ea)->(∀b,b≠e->h3.get? b=s₁.heap.get? b)->E (.ref e) {s₁ with heap:=h3}) E s) :
  wpAny (model prog w) A (raiseStmt env (some x) (some c)) Q E s:=by
 unfold raiseStmt;refine b0 (n6 h (λv s₁ h₁=>?_) λ_ _ x=>x);obtain⟨e,t,h0,n,rfl,hC,he,hne,hn,hcx,hst,hE⟩:=h₁;refine b0 (B6 (hc _ _ (b0 (f8 ?_))));refine b0 (B6 (q7p hbase hC he rfl ⟨_,rfl⟩ ?_));have hCe:C≠e:=λz=>by rw[z,he]at hC;cases hC
 dsimp only;rw[d4 (show(Value.none==Value.none)=true by rfl)];refine b0 (f8 ?_);refine b0 (Y5 he rfl (show 3<6 by decide) ?_);have he1:=X6 (h:=s₁.heap) (Obj.mapFields (·.setIfInBounds 3 Value.none)) he rfl;refine b0 (Y5 he1 rfl (show 4<6 by decide) ?_);have he2:=X6 (h:=s₁.heap.update e (Obj.mapFields (·.setIfInBounds 3 Value.none))) (Obj.mapFields (·.setIfInBounds 4 (.bool true))) he1 rfl;have oth:∀b,b≠e->((s₁.heap.update e (Obj.mapFields (·.setIfInBounds 3 Value.none))).update e (Obj.mapFields (·.setIfInBounds 4 (.bool true)))).get? b=s₁.heap.get? b:=λb hb=>by rw[U1 _ _ (Ne.symm hb),U1 _ _ (Ne.symm hb)]
 refine q7R (C:=C) (nm:=nm) (q:=q) (N:=N) (bs:=bs) (bm:=bm) (hdct:=hdct) (sn:=sn) (sub:=sub) (ab:=ab) (col:=col) (dd:=dd) (k0:=k0) (k1:=k1) (k2:=k2) (k3:=k3) (k5:=k5) (newId:=newId) ((oth C hCe).trans hC) he2 rfl rfl rfl ?_;refine q8b hh hne hn hcx (hst.trans ((St2.upd (F2.fields (by decide))).trans (St2.upd (F2.fields (by decide))))) he2 rfl (show 2<6 by decide) (hE _ ?_ λb hb=>?_)
 ·exact X6 _ he2 rfl
 ·exact(U1 _ _ (Ne.symm hb)).trans (oth b hb)
end
end
section
section
variable {prog:Program} {w:World} {A:Around} {E:Value->Shared->Prop} {env:Env} {s:Shared}
variable {nm q:Str} {C N:Addr} {bs bm bmB:List Value} {hdct:Bool} {sn:List Str} {sub:List Value} {ab:Bool} {col:Option Bool} {dd:Option Addr} {k0 k1 k2 k3 k5:Option Value} {B newId initId:String}
theorem q4G(F:ExcBaseFacts B newId initId bmB)
  (hbase:bm.contains (.type "BaseException")=true) (hh:A.handled=some (.ref ea)) (hplain:(backTo cpos (starEach args env)).any (·.1)=false) (hni:mN "__init__" = none)
  (h:wpAny (model prog w) A (eval (.Name x np) env) (λf s₁=>f=.ref C/\wpAny (model prog w) A (evalArgs (.ref C) true (backTo cpos (starEach args env)) [])
   (λa s₂=>a.kw=[]/\a.pos.length<=sizeLine/\s₂.heap.get? C=some (excClassObj nm q C N bs bm hdct sn sub ab col dd k0 k1 k2 k3 k5 newId)/\s₂.heap.Ns N mN/\OwnTail s₂.heap bmB bm/\(∃n,Cx2 s₂.heap n ea) /\
    ∀(h3:Heap) e t,s₂.heap.get? e=none->h3.get? e=some (z0A (.ref C) t ea)->(∀b o,s₂.heap.get? b=some o->h3.get? b=some o)->E (.ref e) {s₂ with heap:=h3}) E s₁) E s) :
  wpAny (model prog w) A (exec (.Raise (some (.Call (.Name x np) args [] cpos)) (some (.Constant .none j cp)) pos) env) Q E s:=by
 rw[arm_exec_Raise];refine b0 (P5 ?_);refine q5w (C:=C) (nm:=nm) (q:=q) (N:=N) (bs:=bs) (bm:=bm) (hdct:=hdct) (sn:=sn) (sub:=sub) (ab:=ab) (col:=col) (dd:=dd) (k0:=k0) (k1:=k1) (k2:=k2) (k3:=k3) (k5:=k5) (newId:=newId) hbase hh (λQ' s' h'=>?_) ?_
 ·show wpAny _ _ (do let v ←eval (.Constant .none j cp) env;standAt pos;pure v) _ _ _;exact b0 (f8 (b0 (P5 (f8 h'))))
 ·refine b0 (n6 (wpAny_Call_ofName (n6 h (λf s₁ h₁=>?_) λ_ _ x=>x)) (λv s₃ h₃=>b0 (P5 (f8 h₃))) λ_ _ x=>x);obtain⟨rfl,h₁⟩:=h₁;unfold callWith;refine b0 (B6 (n6 h₁ (λa s₂ h₂=>b0 (P5 ?_)) λ_ _ x=>x));obtain⟨apos,akw⟩:=a;obtain⟨hkw,hlen,hC,hn,T,⟨m,hcx⟩,h₂⟩:=h₂;obtain rfl:akw=[]:=hkw;obtain⟨hp,g,d,tk,os⟩:=s₂;simp only[hplain];refine b0 (wpAny_keeperOf_exc hC ?_);refine b0 (wpAny_call_exc_subT (hrest:=hlen) F T hC hn hni λh' e hm=>b0 (B6 (wpAny_point (f8 ?_))));obtain⟨t,ht,_,_⟩:=hm.there;obtain⟨oe,eo⟩:=hcx.there;have hne:ea≠e:=λz=>by rw[z,hm.new]at eo;cases eo
  refine⟨e,t,hp,m,rfl,hm.keeps _ _ hC,ht,hne,hm.new,hcx,.of_keeps hm.keeps,λh3 g1 g2=>h₂ h3 e t hm.new g1 λb o hb=>?_⟩;have hbe:b≠e:=λz=>by rw[z,hm.new]at hb;cases hb
  rw[g2 b hbe];exact hm.keeps b o hb
theorem q2s(f1:base.StaysIn s.heap)(f2:base.get? e=none)(f3:s.heap.FunFrames base l)(ht:s.heap.TracedAtW base e cls a0 fl)
  (hQ:∀h',Heap.HeldW base l e cls a0 L h'->s.heap.UpToSlots h'->Q () {s with heap:=h'}):wpAny (model prog w) A (setFlight (.ref e) (some L)) Q E s:=by
 obtain⟨oe,vs,T,oT,ts,he,hcls,hd,h1,hnT,hTe,hT,hdT,h3⟩:=ht;unfold setFlight;refine b0 (y6 he hd h1 ?_);rw[d4 (show(Value.ref T != Value.none)=true by simp)];have hsz:=(Array.getElem?_eq_some_iff.mp h3).1;refine Y5 hT hdT hsz (hQ _ ?_ ?_)
 ·have other:∀b,b≠T->(s.heap.update T (Obj.mapFields (·.setIfInBounds 3 (rawInt L)))).get? b=s.heap.get? b:=λb hb=>U1 _ _ (Ne.symm hb);have noRec:∀b o,s.heap.get? b=some o->(∀vs,o.data ≠ .fields vs)->b≠T:=λb o hb hnf q=>by
   rw[q,hT]at hb;injection hb with hb;subst hb;exact hnf ts hdT
  refine⟨λb o hbo=>(other b λq=>by rw[q,hnT]at hbo;cases hbo).trans (f1 b o hbo),f2,f3.of_keeps λb o hb hnf=>⟨o,(other b (noRec b o hb hnf)).trans hb,rfl⟩,?_⟩;refine⟨oe,vs,T,_,_,(other e (Ne.symm hTe)).trans he,hcls,hd,h1,hnT,hTe,X6 _ hT (w2l (w2a hdT _)),w2a hdT _,?_⟩;show(ts.setIfInBounds 3 (rawInt L))[3]? = some (rawInt L);rw[Array.getElem?_setIfInBounds_self_of_lt hsz]
 ·intro b o hb hnf;have hbT:b≠T:=λq=>by rw[q,hT]at hb;injection hb with hb;subst hb;exact hnf ts hdT
  exact⟨o.slots,(U1 _ _ (Ne.symm hbT)).trans hb⟩
theorem q5q(f1:base.StaysIn s.heap)(f2:base.get? e=none)(f3:s.heap.FunFrames base l)(ht:s.heap.TracedAtW base e cls a0 fl)
  (hQ:∀h',Heap.HeldW base l e cls a0 L h'->s.heap.UpToSlots h'->Q () {s with heap:=h'}):wpAny (model prog w) A (do
   if(←field (.ref e) 1) == .none then unsupported "frame.own-activation:exception-without-traceback"
   setFlight (.ref e) (some L)) Q E s:=by
 have ht':=ht;obtain⟨oe,vs,T,oT,ts,he,hcls,hd,h1,hnT,hTe,hT,hdT,h3⟩:=ht;refine b0 (y6 he hd h1 ?_);rw[d6 (show ¬((Value.ref T==Value.none)=true) by simp)];exact q2s f1 f2 f3 ht' hQ
theorem z5G(x:Value)(fr:Option Addr):Kp2 (do
   if(←field x 1) == .none then unsupported "frame.own-activation:exception-without-traceback"
   setFlight x fr:Sem Unit):=by
 refine .bind (q3s x 1) λv=>?_;split
 ·exact .unsupported _
 ·exact Z0 x fr
end
def q7k(X:Cx)(E:St->XK):Prop:=∀(pins:List (Addr×Obj)) (σ:St) (H:Hp) (s:Shared) (ea:Addr) (C a0:Value) (B:Heap),Inv X pins σ H s->Heap.HeldW B X.stack ea C a0 X.env.locals s.heap->(∀b o,X.base.get? b=some o->B.get? b=some o)->HOk X.prog X.w H B->Ctxd s.heap ea ->
 (∀b o,X.s₀.heap.get? b=some o->b∉frs X.stack->∃o',B.get? b=some o')->E σ C none H->X.xe (.ref ea) s
section
variable {P:Program} {w:World} {K:PySem.W.Frag} {mg:Str->Option Value} {base:Heap} {N:List Str} {qual:Str} {scope:Scope} {f:Addr} {cd:Value} {A:Around} {outer:List Env} {s:Shared} {H:Hp} {E:XK}
theorem z3P:q7k (cxD P w K mg base N qual scope f cd A outer s H E) λ_=>E:=by
 intro pins σ H1 s1 ea C a0 B I hh bas hok ctx cov hE;have lv:wpAny (model P w) (A.deeper (envOfC qual scope s.heap.objs.size f cd)) (leaving (envOfC qual scope s.heap.objs.size f cd) (.ref ea)) (λ_ s'=>∃h2,s' = {s1 with heap:=h2} /\ Heap.FlyingW B outer ea C a0 h2/\s1.heap.UpToSlots h2) (λ_ _=>False) s1:=by
  unfold leaving;refine b0 (wpAny_noteFrame_againW rfl hh.2.2.2 ?_);refine w3k hh λh' hfl up=>⟨h',rfl,?_,up⟩
  obtain⟨k1,k2,⟨_,_,k3⟩,k4⟩:=hfl;exact⟨k1,k2,k3,k4⟩
 refine n6 ((q3Q _ _).any lv) (λ_ s' ⟨⟨h2,e0,fl2,up⟩,st⟩=>?_) (λ_ _ q=>q.1.elim);subst e0;have hcov:∀b o,s.heap.get? b=some o->b∉frs outer->∃o',B.get? b=some o':=λb o e hb=>cov b o e (I.notStk e hb);exact⟨ea,C,H1,B,rfl,I.os,I.bare,I.base.flown (λb o e hb _=>hcov b o e hb) hh.1 fl2.1 up I.frameData,⟨⟨_,fl2⟩,bas,hok,ctx.st st⟩,hcov,hE⟩
end
theorem Inv.flown0(I:Inv X pins σ H s)(hs:∀b o,B.get? b=some o->s.heap.get? b=some o)(hok:HOk X.prog X.w H B)(cov:∀b o,X.s₀.heap.get? b=some o->b∉frs X.stack->b∉X.ex->∃o',B.get? b=some o')
  (pc:∀p∈X.pn++pins,∃o',B.get? p.1=some o') (st:∀b o,B.get? b=some o->h'.get? b=some o) (up:s.heap.UpToSlots h'):Inv X pins σ H {s with heap:=h',toks:=t'}:=by
 have cellK:∀c v,s.heap.IsCell c v->h'.IsCell c v:=λc v ⟨o,ho,hd⟩=>by obtain⟨sl,q⟩:=up c o ho (λvs z=>by rw[hd]at z;cases z);exact⟨_,q,hd⟩
 refine⟨I.ok,I.os,I.bare,I.base.flown (λb o e hb hx=>cov b o e (I.notStk e hb) hx) hs st up I.frameData,?_,λx c e=>?_,I.free,I.freeC,λp hp=>?_,hok.kept st,I.len⟩
 ·obtain⟨m,hn,hl⟩:=I.loc;refine⟨m,up.ns hn,λi x v e1 e2 e3=>?_⟩;obtain⟨u,r,l⟩:=hl i x v e1 e2 e3;refine⟨u,r,?_⟩;rcases l with l | ⟨k,c,e,z⟩
  ·exact .inl l
  ·exact .inr ⟨k,c,e,cellK c _ z⟩
 ·obtain⟨v,z⟩:=I.cell x c e;exact⟨v,cellK c v z⟩
 ·obtain⟨e,n,ne,nf,d⟩:=I.pin p hp;obtain⟨o',q⟩:=pc p hp;have q1:=hs _ _ q;rw[e]at q1;cases q1;exact⟨st _ _ q,n,ne,nf,d⟩
def y1l(K:PySem.W.Frag)(cv:Value)(C':Addr)(E:St->XK)(tb:(St->Value->Hp->Prop)->TS):TS:=λD σ H=>
 tb (λσ' C H'=>∃b,PySem.W.exmOne K C cv=some b/\E σ' (if b then .ref C' else C) none H') D σ H
theorem z6o
  (hst:X.stack=X.env::X.outer) (hfr:X.env.frame=some X.env.locals) (hex:X.ex=[]) (hgl:Gl X c) (hm:X.mg c=some cv)
  (FB:ExcBaseFacts B newId initId bmB) (hg':Gl X x) (hm':X.mg x=some (.ref C')) (hx:PySem.W.excIn X.K C' bmB newId=true) (hR:q7k X E)
  (hb:∀pins E,PSs (X.tryIn pins E) body (tb E)) (hd:(c==("__debug__" : Str))=false) (hd':(x==("__debug__" : Str))=false) :
  PS X (.Try body [.ExceptHandler (some (.Name c np)) none [.Raise (some (.Call (.Name x np') [.Constant (.str msg) j2 mp] [] cpos)) (some (.Constant .none j cp)) rpos] hpos] [] [] pos) (y1l X.K cv C' E tb):=by
 intro pins s σ H D I h;refine wpAny_Try_except ?_;have un:∀{σ1:St} {H1:Hp} {s1:Shared} {E:St->Value->Hp->Prop},Inv (X.tryIn pins E) [] σ1 H1 s1->Inv X pins σ1 H1 s1:=λ{σ1 H1 s1 E} J=>by have q:=J.untry;rw[z9]at q;exact q
 refine n6 (hb pins _ [] s σ H D (Inv.tryIn (pins':=[]) (by rw[z9];exact I)) h) (λf s1 q=>?_) (λe s1 q=>?_)
 ·cases f with
  | next=>obtain⟨σ1,H1,I1,q1⟩:=q;exact Y4 ⟨σ1,H1,un I1,q1⟩
  | brk=>obtain⟨σ1,H1,I1,q1⟩:=q;exact⟨σ1,H1,un I1,q1⟩
  | cont=>obtain⟨σ1,H1,I1,q1⟩:=q;exact⟨σ1,H1,un I1,q1⟩
  | ret u=>obtain⟨v,σ1,H1,I1,r1,q1⟩:=q;exact⟨v,σ1,H1,un I1,r1,q1⟩
 ·obtain⟨ea,C,σ1,H1,B0,rfl,I1,F,cov,pc,b,hE,hsuite⟩:=q;obtain⟨a0,fl⟩:=F.fly;have fl':Heap.FlyingW B0 (X.env::X.outer) ea C a0 s1.heap:=by rw[←hst];exact fl
  refine n6 ((q2b _ _).any (w24 (Q:=λ_ s'=>∃h4,s' = {s1 with heap:=h4} /\ Heap.HeldW B0 (X.env::X.outer) ea C a0 X.env.locals h4/\s1.heap.UpToSlots h4) (E:=λ_ _=>False) (by rw[←hst];exact I1.ok.frames) hfr fl' λh4 held up4=>⟨h4,rfl,held,up4⟩)) (λ_ s' ⟨⟨h4,e4,held,up4⟩,st4⟩=>?_) (λ_ _ q=>q.1.elim);subst e4;refine n6 ((Z0 _ _).any (w3k (Q:=λ_ s'=>∃h5,s' = {s1 with heap:=h5} /\ Heap.FlyingW B0 (X.env::X.outer) ea C a0 h5/\h4.UpToSlots h5) (E:=λ_ _=>False) held λh5 fl5 up5=>⟨h5,rfl,fl5,up5⟩)) (λ_ s' ⟨⟨h5,e5,fl5,up5⟩,st5⟩=>?_) (λ_ _ q=>q.1.elim);subst e5;have up:=up4.trans up5;have I5:Inv X pins σ1 H1 {s1 with heap:=h5}:=I1.flown (t':=s1.toks) F cov pc fl5.1 up;have J5:Inv (X.inExc ea) pins σ1 H1 {s1 with heap:=h5}:=I5.inExc;obtain⟨oe,ws,hoe,hoec,hoed,hoe0⟩:=fl5.first
  refine wpAny_handleBy_cons (w3g ?_) (by intro q;cases q);refine V0 J5 hgl hm ?_ hd;have LT:PySem.W.Looks (model X.prog X.w) h5 (typeOf (.ref ea)) C:=hoec▸(PySem.W.Looks.ld hoe).andThen .now;refine(PySem.W.exm_one (M:=model X.prog X.w) (K:=X.K) (h:=h5) J5.kIn LT hE).here ?_;cases b with
  | false=>
   show wpAny (model X.prog X.w) X.A (handleBy (.ref ea) X.env []) _ _ _;refine wpAny_handleBy_nil ?_;have tr:=fl5.2.2.2;obtain⟨oe',vs',T',oT',ts',he',hcls',hd',h1',_⟩:=tr;unfold PySem.passOn;refine b0 (y6 he' hd' h1' ?_);rw[d6 (show ¬((Value.ref T'==Value.none)=true) by simp),hfr];refine b0 (n6 ((Z0 _ _).any (q2s (s:={s1 with heap:=h5}) (L:=X.env.locals) (Q:=λ_ s'=>∃h9,s' = {s1 with heap:=h9} /\ Heap.HeldW B0 (X.env::X.outer) ea C a0 X.env.locals h9/\h5.UpToSlots h9) (E:=λ_ _=>False) fl5.1 fl5.2.1 fl5.2.2.1 fl5.2.2.2.at λh9 hd9 up9=>⟨h9,rfl,hd9,up9⟩)) (λ_ s' ⟨⟨h9,e9,held9,up9⟩,st9⟩=>?_) (λ_ _ q=>q.1.elim));subst e9;have I9:Inv X pins σ1 H1 {s1 with heap:=h9}:=I1.flown (t':=s1.toks) F cov pc held9.1 (up.trans up9);have hxe:X.xe (.ref ea) {s1 with heap:=h9}:=hR pins σ1 H1 _ ea C a0 B0 I9 (by rw[hst];exact held9) F.bas F.hok (F.ctx.st ((st4.trans st5).trans st9)) (λb o e hb=>cov b o e hb (by rw[hex];intro z;exact nomatch z)) hsuite;exact λΓ p hΓ=>by rw[w3l];exact hxe
  | true=>
  show codeAny _ _ (.handlers (.ref ea) [.ExceptHandler none none [.Raise (some (.Call (.Name x np') [.Constant (.str msg) j2 mp] [] cpos)) (some (.Constant .none j cp)) rpos] hpos] X.env) _ _;refine codeAny_handlers_suite ?_;refine n6 ((Z0 _ _).any (lands_againW (Q:=λ_ s'=>∃h6,s' = {s1 with heap:=h6} /\ Heap.FlyingW B0 (X.env::X.outer) ea C a0 h6/\h5.UpToSlots h6) (E:=λ_ _=>False) fl5 λh6 fl6 up6=>⟨h6,rfl,fl6,up6⟩)) (λ_ s' ⟨⟨h6,e6,fl6,up6⟩,st6⟩=>?_) (λ_ _ q=>q.1.elim);subst e6;have I6:Inv X pins σ1 H1 {s1 with heap:=h6}:=I1.flown (t':=s1.toks) F cov pc fl6.1 (up.trans up6);have J6:Inv (X.inExc ea) pins σ1 H1 {s1 with heap:=h6}:=I6.inExc;obtain⟨m,hcx⟩:=F.ctx;have hcx6:Cx2 h6 m ea:=hcx.st ((st4.trans st5).trans st6);refine w2N ?_;obtain⟨tl,N,nm,q,bs,hdct,sn,sub,ab,col,dd,k0,k1,k2,k3,k5,mN,hC,hN,hni,T⟩:=(q9m I.mod.kin hm' hx).obj;refine q4G (C:=C') (nm:=nm) (q:=q) (N:=N) (bs:=bs) (bm:=tl) (hdct:=hdct) (sn:=sn) (sub:=sub) (ab:=ab) (col:=col) (dd:=dd) (k0:=k0) (k1:=k1) (k2:=k2) (k3:=k3) (k5:=k5)
   FB (mN:=mN) (T.hasType FB.hasBase) rfl rfl hni (V0 J6 hg' hm' ⟨rfl,?_⟩ hd')
  refine w1J ?_;show wpAny _ _ (spliced ((false,eval (.Constant (.str msg) j2 mp) X.env)::backTo cpos (starEach [] X.env))) _ _ _;refine w19 (Calls.Constant_str (w2d ?_));refine⟨rfl,by show 1<=sizeLine;decide,I6.bk _ _ hC,hN.keeps I6.bk,T.keeps I6.bk,⟨m,hcx6⟩,λh3 e2 t hnew he3 keep=>?_⟩;have I7:Inv X pins σ1 H1 {s1 with heap:=h3,toks:=s1.toks+1}:=I6.kept (t':=s1.toks+1) keep;have J7:Inv (X.inExc ea) pins σ1 H1 {s1 with heap:=h3,toks:=s1.toks+1}:=I7.inExc;have hne:h6.get? e2=none:=hnew
  let B:=PySem.W.hideAll h6 (frs X.stack)
  have hB1:∀b o,B.get? b=some o->h6.get? b=some o:=λb o q=>w17 _ q;have hBn:B.get? e2=none:=by
   cases z:B.get? e2 with
   | none=>rfl
   | some o=>have:=hB1 _ _ z;rw[hne]at this;cases this
  have hin:∀env∈X.stack,∀a,env.frame=some a->a∈frs X.stack:=λenv he b hb=>G6.mpr ⟨env,he,hb⟩;have ff6:h6.FunFrames B X.stack:=w3c I6.stack hin
  have ff:h3.FunFrames B X.stack:=ff6.of_keeps λb o hb _=>⟨o,keep b o hb,rfl⟩;have hHid:∀b u,H1 b≠none->h6.get? b=some u->B.get? b=some u:=λb u hb q=>M7 _ q λz=>hb (I6.stkFree b z);have hokB:HOk X.prog X.w H1 B:=λa o q=>by
   refine(I6.hok a o q).stay (λb u hc e=>hHid b u ?_ e) (λ_ z=>z) (λ_ _ z=>z) λ_ _ _ _ _ z=>z;rcases hc with z | z
   ·subst z;rw[q];intro z;cases z
   ·rw[z];intro z;cases z
  have basB:∀b o,X.base.get? b=some o->B.get? b=some o:=λb o e=>by refine M7 _ (I6.bk b o e) λz=>?_;have q:X.base.get? b=none:=(I6.stack.mem z).1;rw[q]at e;cases e
  have covB:∀b o,X.s₀.heap.get? b=some o->b∉frs X.stack->b∉X.ex->∃o',B.get? b=some o':=λb o e hb hx=>by obtain⟨o1,e1⟩:=I6.base.there b o e hx;exact⟨o1,M7 _ e1 hb⟩
  have pcB:∀p∈X.pn++pins,∃o',B.get? p.1=some o':=λp hp=>by obtain⟨e,n,ne,nf,d⟩:=I6.pin p hp;exact⟨_,M7 _ e λz=>(d9.mp (I6.stkSub _ z)).elim ne nf⟩
  have stB:∀b o,B.get? b=some o->h3.get? b=some o:=λb o q=>keep b o (hB1 b o q);have nt:wpAny (model X.prog X.w) (X.A.mark (some (.ref ea))) (noteFrame (.ref e2) X.env) (λ_ s'=>∃h8,s' = {s1 with heap:=h8,toks:=s1.toks+1} /\ Heap.NotedW B (X.env::X.outer) e2 (.ref C') (.ref t) (rawInt X.env.locals) h3 h8) (λ_ _=>False) {s1 with heap:=h3,toks:=s1.toks+1}:=by
   unfold noteFrame;simp only[hfr];refine b0 (y6 (x:=.none) he3 rfl rfl ?_);rw[d6 (by decide)];exact wpAny_entryW (by rw[←hst];exact J7.ok.frames) (by rw[←hst];exact ff) hfr he3 stB hBn rfl (show 1<6 by decide) rfl λh8 hN=>⟨h8,rfl,hN⟩
  show wpAny (model X.prog X.w) (X.A.mark (some (.ref ea))) (noteFrame (.ref e2) X.env) _ _ _;refine n6 ((q2b _ _).any nt) (λ_ s' ⟨⟨h8,e8,n1,n2,n3,n4⟩,st8⟩=>?_) (λ_ _ q=>q.1.elim);subst e8;have held8:Heap.HeldW B (X.env::X.outer) e2 (.ref C') (.ref t) X.env.locals h8:=⟨n1,hBn,n2,n3⟩;show cameBackBy (model X.prog X.w) X.A X.env X.xe (.ref e2) {s1 with heap:=h8,toks:=s1.toks+1};unfold cameBackBy;rw[hfr];refine n6 ((z5G _ _).any (q5q (Q:=λ_ s'=>∃h9,s' = {s1 with heap:=h9,toks:=s1.toks+1} /\ Heap.HeldW B (X.env::X.outer) e2 (.ref C') (.ref t) X.env.locals h9/\h8.UpToSlots h9) (E:=λ_ _=>False) held8.1 held8.2.1 held8.2.2.1 held8.2.2.2 λh9 hd9 up9=>⟨h9,rfl,hd9,up9⟩)) (λ_ s' ⟨⟨h9,e9,held9,up9⟩,st9⟩=>?_) (λ_ _ q=>q.1.elim);subst e9;have up89:h3.UpToSlots h9:=Heap.UpToSlots.trans n4 up9;have I9:Inv X pins σ1 H1 {s1 with heap:=h9,toks:=s1.toks+1}:=I7.flown0 stB hokB covB pcB held9.1 up89;have c3:Cx2 h3 (m+1) e2:=⟨_,he3,.inr ⟨ea,rfl,hcx6.st (.of_keeps keep)⟩⟩;exact hR pins σ1 H1 _ e2 (.ref C') (.ref t) B I9 (by rw[hst];exact held9) basB hokB ⟨m+1,c3.st (st8.trans st9)⟩ (λb o e hb=>covB b o e hb (by rw[hex];intro z;exact nomatch z)) hsuite
end
section
theorem q4K(e:Value)(h:env.frame=env'.frame):noteFrame e env=noteFrame e env':=by
 unfold noteFrame PySem.frameOf;rw[h]
theorem q4b{h h' B B':Heap}(hb:∀L,B.get? L=none->B'.get? L=none):∀{l:List Env},(∀L∈frs l,h'.get? L=h.get? L)->h.FunFrames B l->h'.FunFrames B' l
 | [],_,_=>trivial
 | env::r,hs,hl=>by obtain⟨hk,⟨L,o,hf,hn,ho,hd⟩,hr⟩:=hl;have hL:L∈frs (env::r):=G6.mpr ⟨env,i5,hf⟩;refine⟨hk,⟨L,o,hf,hb L hn,(hs L hL).trans ho,hd⟩,q4b hb (λL' h'=>hs L' ?_) hr⟩;obtain⟨e',m,q⟩:=G6.mp h';exact G6.mpr ⟨e',f9 _ m,q⟩
theorem q9E(hst:X.stack=X.env::X.outer)(hfr:X.env.frame=some X.env.locals)(hex:X.ex=[])(hR:q7k X E):Z1 X E:=by
 intro scope N' cells C pins σ H s₂ fp e s1 I f hC z;obtain⟨pins',σ',H',s,I',ea,Cl,H1,B,rfl,os,bare,un,F,cov,hE⟩:=z;have I1:Inv (q7T X scope N' C cells s₂ H fp) pins' σ' H1 s1:=I'.call' os un (F.hok.kept F.stays) bare λb hb=>nomatch hb
 have unO:Un (frs X.stack) fp H H1 s₂.heap s1.heap:=I1.base;have IO:Inv X pins σ H1 s1:=I.call' I1.os unO I1.hok I1.bare λb hb=>by obtain⟨_,f1,f2,f3,f4,f5⟩:=f b hb;exact⟨f3,f1,f4,f5⟩
 obtain⟨mC,hnC0,_⟩:=I1.loc;have hnC:s1.heap.Ns C mC:=hnC0;have lt0:∀(b:Nat) o,s₂.heap.get? b=some o->b≠C:=λb o e z=>by have q:@LT.lt Nat _ b s₂.heap.objs.size:=i7 e;omega
 have hCn:H1 C=none:=I1.free;have hCL:C≠X.env.locals:=(by have q:@LT.lt Nat _ X.env.locals s₂.heap.objs.size:=I.lt;show @Ne Nat C X.env.locals;omega);have hCs:X.s₀.heap.objs.size<=C:=(by have q:@LE.le Nat _ X.s₀.heap.objs.size s₂.heap.objs.size:=I.sz;omega);have hCc:∀x c,X.env.cells.lookup x=some c->c≠C:=λx c e=>by obtain⟨v,z⟩:=I.cell x c e;have q:@LT.lt Nat _ c s₂.heap.objs.size:=z.lt;show @Ne Nat c C;omega
 have hCp:∀p∈X.pn++pins,p.1≠C:=λp hp=>lt0 _ _ (I.pin p hp).1;have hCf:∀L∈frs X.stack,L≠C:=λL hL=>by obtain⟨_,o,ho,_⟩:=I.stack.mem hL;exact lt0 L o ho
 obtain⟨a0,fl⟩:=F.fly;have fl':Heap.FlyingW B (X.env::X.outer) ea Cl a0 s1.heap:=by rw[←hst];exact fl
 show wpAny (model X.prog X.w) X.A (noteFrame (.ref ea) (compEnvC scope cells C X.env)) _ _ s1;rw[q4K (env:=compEnvC scope cells C X.env) (env':=X.env) _ rfl];refine n6 ((q2b _ _).any (w24 (Q:=λ_ s'=>∃h4,s' = {s1 with heap:=h4} /\ Heap.HeldW B (X.env::X.outer) ea Cl a0 X.env.locals h4/\s1.heap.UpToSlots h4) (E:=λ_ _=>False) (by rw[←hst];exact I.ok.frames) hfr fl' λh4 held up4=>⟨h4,rfl,held,up4⟩)) (λ_ s' ⟨⟨h4,e4,held,up4⟩,st4⟩=>?_) (λ_ _ q=>q.1.elim);subst e4;have hn4:h4.Ns C mC:=up4.ns hnC;refine⟨mC,hn4,λh5 sb cenv hl hf=>?_⟩;have notC:∀b o vs,h4.get? b=some o->o.data=.fields vs->b≠C:=λb o vs e d z=>by obtain⟨o',es,ep,e',d',_⟩:=hn4;rw[z,e']at e;cases e;rw[d']at d;cases d
 let B':=PySem.W.hideAll B [C]
 have hB1:∀b o,B'.get? b=some o->B.get? b=some o:=λb o q=>w17 _ q;have hB2:∀b o,B.get? b=some o->b≠C->B'.get? b=some o:=λb o q hb=>M7 _ q λz=>hb (E9.mp z);have hB3:∀b o,B'.get? b=some o->b≠C:=λb o q z=>by have:B'.get? C=none:=PySem.W.hideAll_none _ (E9.mpr rfl);rw[z,this]at q;cases q
 have hBn:∀b,B.get? b=none->B'.get? b=none:=λb q=>by
  cases y:B'.get? b with
  | none=>rfl
  | some o=>rw[hB1 b o y]at q;cases q
 have held5:Heap.HeldW B' (X.env::X.outer) ea Cl a0 X.env.locals h5:=(by obtain⟨g1,g2,g3,oe,vs,T,oT,ts,he,hcls,hd,h1,hnT,hTe,hT,hdT,h3⟩:=held;refine⟨λb o q=>(sb.2 b (hB3 b o q)).trans (g1 b o (hB1 b o q)),hBn _ g2,q4b hBn (λL hL=>sb.2 L (hCf L (by rw[hst];exact hL))) g3,oe,vs,T,oT,ts,(sb.2 _ (notC _ _ _ he hd)).trans he,hcls,hd,h1,hBn _ hnT,hTe,(sb.2 _ (notC _ _ _ hT hdT)).trans hT,hdT,h3⟩);have cov1:∀b o,X.s₀.heap.get? b=some o->b∉frs X.stack->b∉X.ex->∃o',B.get? b=some o':=λb o e hb hx=>by
  obtain⟨o1,e1⟩:=I.base.there b o e hx;have hf:b∉fp:=λz=>by
   rcases(f b z).2.2.2.1 with q | q
   ·exact hx q
   ·exact absurd (i7 e) (Nat.not_lt.mpr q)
  obtain⟨o2,e2⟩:=I'.base.there b o1 e1 hf;exact cov b o2 e2 hb
 have pc1:∀p∈X.pn++pins,∃o',B.get? p.1=some o':=λp hp=>by
  obtain⟨e,n,ne,nf,d⟩:=I.pin p hp;obtain⟨o2,e2⟩:=I'.base.there p.1 _ e (λz=>(f _ z).2.2.2.2.2 p hp rfl);exact cov p.1 o2 e2 λz=>(d9.mp (I.stkSub _ z)).elim ne nf
 have I4:Inv X pins σ H1 {s1 with heap:=h4}:=IO.flown0 (t':=s1.toks) F.stays F.hok cov1 pc1 held.1 up4;have I5:Inv X pins σ H1 {s1 with heap:=h5}:=Inv.turned (s:={s1 with heap:=h4}) (h':=h5) (it:=C) (t':=s1.toks) I4 (λb o hb e=>(sb.2 b hb).trans e) hCn hCL (.inr hCs) hCc hCp;have hokB:HOk X.prog X.w H1 B':=λa o q=>by
  refine(F.hok a o q).stay (λb u hc e=>hB2 b u e λz=>?_) (λ_ z=>z) (λ_ _ z=>z) λ_ _ _ _ _ z=>z;rcases hc with y | y
  ·rw[←y,z,hCn]at q;cases q
  ·rw[z,hCn]at y;cases y
 have lt1:∀b o,X.s₀.heap.get? b=some o->b≠C:=λb o e z=>by have q:@LT.lt Nat _ b X.s₀.heap.objs.size:=i7 e;have q2:@LE.le Nat _ X.s₀.heap.objs.size C:=hCs;rw[z]at q;exact absurd q (Nat.not_lt.mpr q2)
 have cov2:∀b o,X.s₀.heap.get? b=some o->b∉frs X.stack->b∉X.ex->∃o',B'.get? b=some o':=λb o e hb hx=>by obtain⟨o',q⟩:=cov1 b o e hb hx;exact⟨o',hB2 b o' q (lt1 b o e)⟩
 have pc2:∀p∈X.pn++pins,∃o',B'.get? p.1=some o':=λp hp=>by obtain⟨o',q⟩:=pc1 p hp;exact⟨o',hB2 _ o' q (hCp p hp)⟩
 obtain⟨oe',vs',T',oT',ts',he',hcls',hd',h1',_⟩:=held5.2.2.2;unfold PySem.passOn;refine b0 (y6 he' hd' h1' ?_);rw[d6 (show ¬((Value.ref T'==Value.none)=true) by simp),hf,hfr];refine b0 (n6 ((Z0 _ _).any (q2s (s:={s1 with heap:=h5}) (L:=X.env.locals) (Q:=λ_ s'=>∃h9,s' = {s1 with heap:=h9} /\ Heap.HeldW B' (X.env::X.outer) ea Cl a0 X.env.locals h9/\h5.UpToSlots h9) (E:=λ_ _=>False) held5.1 held5.2.1 held5.2.2.1 held5.2.2.2 λh9 hd9 up9=>⟨h9,rfl,hd9,up9⟩)) (λ_ s' ⟨⟨h9,e9,held9,up9⟩,st9⟩=>?_) (λ_ _ q=>q.1.elim));subst e9;have I9:Inv X pins σ H1 {s1 with heap:=h9}:=I5.flown0 (t':=s1.toks) held5.1 hokB cov2 pc2 held9.1 up9;have stC:St2 h4 h5:=λa o c e q=>by
  by_cases ha:a=C
  ·obtain⟨vs,d,_⟩:=F2.at q;exact absurd ha (notC a o vs e d)
  ·exact⟨o,(sb.2 a ha).trans e,q⟩
 have basB:∀b o,X.base.get? b=some o->B'.get? b=some o:=λb o e=>hB2 b o (F.bas b o e) (lt0 b o (I.bk b o e));have hxe:X.xe (.ref ea) {s1 with heap:=h9}:=hR pins σ H1 _ ea Cl a0 B' I9 (by rw[hst];exact held9) basB hokB (F.ctx.st ((st4.trans stC).trans st9)) (λb o e hb=>cov2 b o e hb (by rw[hex];intro z;exact nomatch z)) hE;exact λΓ p hΓ=>by rw[w3l];exact hxe
end
end L2
end
noncomputable section
namespace L2
open PySem PySem.W PySem.Spec PySem.Calls PyProof.Rows PySem.Builtin PySem.Builtin.ObjectAttr PySem.Builtin.Getset_descriptor
section
def P8(x D:Addr)(h:Heap):Prop:=∃o,h.get? x=some o/\o.cls=.ref D
section
variable {prog:Program} {w:World} {K:Frag} {x D:Addr} {M:Model} {h:Heap}
theorem P8.ty(p:P8 x D h):Looks M h (typeOf (.ref x)) (.ref D):=by
 obtain⟨o,e,c⟩:=p;exact c▸(Looks.ld e).andThen .now
theorem z1F(X:K.In h)(h1:findIn K (.ref D) n=some (some a))(h2:specialIn K a "__get__" = some (some g))(h3:takesIn K a=some true):Looks M h (find (.ref x) (.ref D) n) (.bind g a):=by
 have T:Looks M h (dataDescriptor? (some a) (some g)) (some (g,a)):=(looks_takesIn X h3).andThen .now;exact(looks_findIn X h1).andThen ((show Looks M h (getOf (some a)) (some g)from looks_specialIn X h2).andThen (T.andThen (Looks.tag .now)))
structure ClsK(K:Frag)(D:Addr):Prop where
 ga:findIn K (.ref D) "__getattribute__" = some (some (.builtin "BaseException.__getattribute__"))
 gt:findIn K (.ref D) "__getattr__" = some none
 mb:mroIn K D (.type "BaseException")=some true
 hd:hasDictIn K D=true
 fc:findIn K (.ref D) "__class__" = some (some (.builtin "object.__class__"))
 sg:specialIn K (.builtin "object.__class__") "__get__" = some (some (.builtin "getset_descriptor.__get__"))
 tk:takesIn K (.builtin "object.__class__")=some true
 mo:mroIn K D (.type "object")=some true
variable {A:Around} {E:Value->Shared->Prop} {s:Shared}
theorem z5m(X:K.In s.heap)(p:P8 x D s.heap)(hm:mroIn K D (.type "object")=some true)(q:R (.ok (.ret (.ref D))) s) :
  codeAny (model prog w) A (.call (.builtin "getset_descriptor.__get__") ⟨[.builtin "object.__class__",.ref x,tp],[]⟩) R s:=by
 obtain⟨h0,g0,d0,t0,o0⟩:=s;have T0:=p.ty (M:=model prog w);have T1:=looks_mroIn (M:=model prog w) X hm;refine codeAny_call_builtin KF.slot_gs.plain KF.entry_gs (KF.slot_gs.check _ _ _ _ _ _ _ _ KF.type_class (KF.args_gs _ _ _) ?_);unfold Builtin.«getset_descriptor.__get__»;unfold descrGet;rw[dga_obj];refine b0 (f8 ?_);unfold descrGetter;unfold descrCheckInstance;unfold descrNameAndClass;unfold isInstance;simp only[KF.owner_class]
 repeat lk
 refine⟨Code.quiet_builtin _ (by decide +kernel),w25 KF.entry_class ?_⟩;unfold Builtin.«object.__class__»;unfold shownTypeOf
 repeat lk
 exact q
theorem z3x(C:ClsK K D)(X:K.In s.heap)(p:P8 x D s.heap)(q:Q () s):wpAny (model prog w) A (checkBuiltinCall "BaseException.__getattribute__" ⟨[.ref x,nm],[]⟩) Q E s:=by
 obtain⟨h0,g0,d0,t0,o0⟩:=s;have k1:builtinKind "BaseException.__getattribute__" = some .slot:=by decide +kernel
 have k2:splitId "BaseException.__getattribute__" = some ("BaseException","__getattribute__"):=by decide +kernel
 have T0:=p.ty (M:=model prog w);have T1:=looks_mroIn (M:=model prog w) X C.mb;have ha:=F.args_bexc_ga (.ref x) nm;simp only[checkBuiltinCall,k1,k2];refine b0 ((show Looks (model prog w) _ (isInstance (.ref x) (.type "BaseException")) true from T0.andThen T1).at ?_)
 repeat (any_goals (first | assumption | wp_step))
theorem z1B(C:ClsK K D)(X:K.In s.heap)(p:P8 x D s.heap)(q:Q (.done (.ret (.ref D))) s):wpAny (model prog w) A (Builtin.«object.__getattribute__» ⟨[.ref x,.str "__class__" tk],[]⟩) Q E s:=by
 obtain⟨h0,g0,d0,t0,o0⟩:=s;have T0:=p.ty (M:=model prog w);have T3:=z1F (M:=model prog w) (x:=x) X C.fc C.sg C.tk;unfold Builtin.«object.__getattribute__»
 repeat (any_goals (first | assumption | with_reducible refine T0.at ?_ | with_reducible refine T3.at ?_ | wp_step))
 refine z5m X p C.mo ?_
 repeat (any_goals (first | assumption | wp_step))
theorem z3d(C:ClsK K D)(X:K.In s.heap)(p:P8 x D s.heap)(q:Q (some (.ref D)) {s with toks:=s.toks+1}):wpAny (model prog w) A (getAttr? (.ref x) "__class__") Q E s:=by
 obtain⟨h0,g0,d0,t0,o0⟩:=s;have T0:=p.ty (M:=model prog w);have T1:=looks_findIn (M:=model prog w) X C.ga;have T2:=looks_findIn (M:=model prog w) X C.gt;have f3:=F.attr_ValueError.ga.bind (.ref x);unfold getAttr?;unfold getAttrBy?;unfold getAttrBy;refine b0 (wpAny_mkText (b0 (w2h (B6 (b0 (T0.at (b0 (T1.at ?_))))))));dsimp only;have ne:(onTheHeap (Value.ref D)&&Value.builtin "BaseException.__getattribute__" == Value.builtin "object.__getattribute__")=false:=(by rw[show(Value.builtin "BaseException.__getattribute__" == Value.builtin "object.__getattribute__")=false by decide +kernel,w3h]);rw[d6 (by rw[ne];exact G5)];unfold getAttrByItsOwn;unfold hookBefore;rw[d4 (show onTheHeap (Value.ref D)=true from rfl)];refine b0 (T2.at ?_);refine b0 (w2h (B6 ?_));unfold callGetattribute;rw[d6 (by decide)]
 repeat (any_goals (first | assumption | wp_step))
 refine codeAny_call_builtin F.attr_ValueError.ga.plain F.entry_bexc_ga (z3x C X p (z1B C X p ?_));exact handed_on rfl (f8 q)
theorem z4Z(C:ClsK K D):KitX K (.ref x) (.ref D) (P8 x D) where
 ty:=λ_ _ _ p=>p.ty
 it:=λM h X _=>by
  obtain⟨cd,e,_⟩:=any_some C.hd;unfold clsIn at e;split at e
  ·rename_i ho;intro A1 Q1 E1 s1 k1 q1;unfold isType;unfold loadHead;exact b0 (wpAny_loadPart (k1 _ _ (X _ _ ho)) (f8 q1))
  ·cases e
 ne:=λh tp dd its n sl X e2=>by
  obtain⟨cd,e,_⟩:=any_some C.hd;rw[Bool.eq_false_iff];intro z;have e1:D=tp:=Value.ref.inj (d5.mp z);subst e1;unfold clsIn at e;split at e
  ·rename_i ho;cases(X _ _ ho).symm.trans e2
  ·cases e
 ca:=λX p k=>z3d C X p k
theorem z5x(C:ClsK K D)(X:K.In s.heap)(p:P8 x D s.heap)(e:kitOne K (.ref D) c=some b)(q:∀tk,Q (.bool b) {s with toks:=tk}):wpAny (model prog w) A (call (.builtin "isinstance") [.ref x,c]) Q E s:=
 kia_one (z4Z C) X p e (λz=>nomatch z) q
end
end
end L2
end
noncomputable section
namespace L2
open PySem PySem.Spec PyProof.Rows
section
structure Src(P:Program)(w:World)(ia la:Addr)(vs:Array Value)(S:Nat->Heap->Prop):Prop where
 keep:∀k h h',S k h->(∀o,h.get? ia=some o->h'.get? ia=some o)->(∀o,h.get? la=some o->h'.get? la=some o)->S k h'
 there:∀k h,S k h->∃o xs,h.get? ia=some o/\o.data=.fields xs
 step:∀{A:Around} {E:Value->Shared->Prop} {s:Shared} {Q:Value->Shared->Prop} (k:Nat) (x:Value),S k s.heap->vs[k]? = some x->(∀h',S (k+1) h'->Heap.SameBut ia s.heap h'->Q x {s with heap:=h'}) ->
  wpAny (model P w) A (Builtin.SmallTypes.nextOf (.ref ia)) Q E s
 stop:∀{A:Around} {E:Value->Shared->Prop} {s:Shared} {Q:Value->Shared->Prop} (k:Nat),A.handled=none->S k s.heap->vs[k]? = none ->
  (∀h' e,Heap.ExtBut ia s.heap h'->(∃o,h'.get? e=some o/\o.cls=.type "StopIteration")->E (.ref e) {s with heap:=h'})->wpAny (model P w) A (Builtin.SmallTypes.nextOf (.ref ia)) Q E s
def sL(ia la:Addr)(vs:Array Value):Nat->Heap->Prop:=λk h=>h.IsListIter ia la k/\h.IsList la vs
def sT(ia la:Addr)(vs:Array Value):Nat->Heap->Prop:=λk h=>h.IsTupleIter ia la k/\h.IsTuple la vs
theorem z3W(ne:la≠ia):Src P w ia la vs (sL ia la vs) where
 keep:=λk h h' ⟨p,q⟩ e1 e2=>⟨p.at e1,q.at e2⟩
 there:=λk h ⟨p,q⟩=>by obtain⟨o,e,_,d⟩:=p;exact⟨o,_,e,d⟩
 step:=λk x ⟨p,q⟩ hx hq=>wpAny_nextOf_list_item p q hx λh' p' sb=>hq h' ⟨p',q.extBut sb.extBut ne⟩ sb
 stop:=λk hh ⟨p,q⟩ hx hq=>wpAny_nextOf_list_end hh p q hx hq
section
variable {P:Program} {w:World} {A:Around} {E:Value->Shared->Prop} {s:Shared}
theorem z2L(p:s.heap.IsTupleIter ja ta k)(q:s.heap.IsTuple ta vs)(hx:vs[k]? = some x)(hq:∀h',h'.IsTupleIter ja ta (k+1)->Heap.SameBut ja s.heap h'->Q x {s with heap:=h'}) :
  wpAny (model P w) A (Builtin.SmallTypes.nextOf (.ref ja)) Q E s:=by
 obtain⟨ob,e1,e2,e3⟩:=id p;obtain⟨ot,f1,_,nn,f3⟩:=q;unfold Builtin.SmallTypes.nextOf;refine b0 (w1v (name:=Str.ofString "__next__") p.typeIs w1F (w11 w1F p.typeIs w2B ?_ (w2z _)));show wpAny _ _ (field (.ref ja) 0 >>= _) _ _ s;refine b0 (y6 e1 e3 (x:=.ref ta) rfl ?_);show wpAny _ _ (if(Value.ref ta==Value.none)=true then _ else _) _ _ s;rw[d6 (show ¬((Value.ref ta==Value.none)=true)from G5)];show wpAny _ _ (field (.ref ja) 1 >>= _) _ _ s;refine b0 (y6 e1 e3 (x:=.int k 0) rfl ?_);show wpAny _ _ (seqItems? (.ref ta) >>= _) _ _ s;refine b0 (P4 f1 f3 ?_);simp only[M8,hx];refine b0 (Y5 e1 e3 (by simp) (f8 ⟨x,rfl,f8 (hq _ ?_ (Heap.SameBut.update ..))⟩));exact⟨_,X6 _ e1 (w2l (w2a e3 _)),(Obj.cls_mapFields ..).trans e2,by rw[w2a e3];simp[rawInt]⟩
theorem z3c(hh:A.handled=none)(p:s.heap.IsTupleIter ja ta k)(q:s.heap.IsTuple ta vs)(hx:vs[k]? = none)(hE:∀h' e,Heap.ExtBut ja s.heap h'->(∃o,h'.get? e=some o/\o.cls=.type "StopIteration")->E (.ref e) {s with heap:=h'}) :
  wpAny (model P w) A (Builtin.SmallTypes.nextOf (.ref ja)) Q E s:=by
 obtain⟨ob,e1,e2,e3⟩:=id p;obtain⟨ot,f1,_,nn,f3⟩:=q;unfold Builtin.SmallTypes.nextOf;refine b0 (w1v (name:=Str.ofString "__next__") p.typeIs w1F (w11 w1F p.typeIs w2B ?_ (w2z _)));show wpAny _ _ (field (.ref ja) 0 >>= _) _ _ s;refine b0 (y6 e1 e3 (x:=.ref ta) rfl ?_);show wpAny _ _ (if(Value.ref ta==Value.none)=true then _ else _) _ _ s;rw[d6 (show ¬((Value.ref ta==Value.none)=true)from G5)];show wpAny _ _ (field (.ref ja) 1 >>= _) _ _ s;refine b0 (y6 e1 e3 (x:=.int k 0) rfl ?_);show wpAny _ _ (seqItems? (.ref ta) >>= _) _ _ s;refine b0 (P4 f1 f3 ?_);simp only[M8,hx];refine b0 (w2L (b0 (Y5 e1 e3 (by simp) ?_)));show wpAny _ _ (newExc (.type "StopIteration") [] >>= λy=>raiseNew y) _ _ _;refine b0 ?_;simp only[newExc,newTuple];refine b0 (U3 ?_ (by size_fits));refine b0 (m:=firstArgMember _ _) (wpAny_of_eq (a:=Value.none) (by first | rfl | (simp only[firstArgMember];rfl)) ?_);refine U3 ?_ (by size_fits);simp only[raiseNew];refine b0 (wpAny_handled ?_)
 first | rw[show A.in1.handled=none from hh] | rw[hh]
 refine b0 (f8 (wpAny_throw (hE _ _ (((Heap.SameBut.update ..).extBut.push _).push _) ⟨_,v9 _ rfl,rfl⟩)))
theorem z6d(ne:la≠ia):Src P w ia la vs (sT ia la vs) where
 keep:=λk h h' ⟨p,q⟩ e1 e2=>⟨by obtain⟨o,e,r⟩:=p;exact⟨o,e1 o e,r⟩,by obtain⟨o,e,r⟩:=q;exact⟨o,e2 o e,r⟩⟩
 there:=λk h ⟨p,q⟩=>by obtain⟨o,e,_,d⟩:=p;exact⟨o,_,e,d⟩
 step:=λk x ⟨p,q⟩ hx hq=>z2L p q hx λh' p' sb=>hq h' ⟨p',q.extBut sb.extBut ne⟩ sb
 stop:=λk hh ⟨p,q⟩ hx hq=>z3c hh p q hx hq
variable {Z U W a b l1 l2:Addr} {k:Nat} {vs1 vs2:Array Value} {S1 S2:Nat->Heap->Prop} {x y c d:Value}
theorem Src.ext(R:Src P w ia la vs S)(q:S k h)(hs:Heap.ExtBut e h h')(n1:ia≠e)(n2:la≠e):S k h':=R.keep k h h' q (λo z=>hs _ _ n1 z) (λo z=>hs _ _ n2 z)
theorem z2O{Q:Value->Shared->Prop}(D:ZipApart Z U W a b l1 l2)(R1:Src P w a l1 vs1 S1)(R2:Src P w b l2 vs2 S2)(hz:IsZip s.heap Z U W .none)(hU:IsPair s.heap U (.ref a) (.ref b))(hW:IsPair s.heap W c d)(h1:S1 k s.heap)(h2:S2 k s.heap)(hx:vs1[k]? = some x)(hy:vs2[k]? = some y)
  (hQ:∀h',IsZip h' Z U W (rawInt s.heap.objs.size)->IsPair h' W x y->S1 (k+1) h'->S2 (k+1) h'->IsPair h' s.heap.objs.size x y->h'.objs.size=s.heap.objs.size+1->(∀e o,e≠Z->e≠W->e≠a->e≠b->s.heap.get? e=some o->h'.get? e=some o)->Q (.ref s.heap.objs.size) {s with heap:=h'}) :
  wpAny (model P w) A (Builtin.«zip.__next__» ⟨[.ref Z],[]⟩) (λfin s'=>∃v,fin=.done (.ret v)/\Q v s') E s:=by
 show wpAny _ _ (field (.ref Z) 2 >>= _) _ _ _;refine b0 (y6 hz rfl (x:=.bool false) rfl ?_);show wpAny _ _ (field (.ref Z) 3 >>= _) _ _ _;refine b0 (y6 hz rfl (x:=.ref U) rfl (b0 (P4 hU rfl ?_)));show wpAny _ _ (Builtin.SmallTypes.ownedTupleIsFree (.ref Z) >>= _) _ _ _;refine b0 ?_;unfold Builtin.SmallTypes.ownedTupleIsFree;refine b0 (y6 hz rfl (x:=.none) rfl (f8 ?_));simp only[if_true];refine b0 (w2L (b0 (y6 hz rfl (x:=.ref W) rfl ?_)));refine b0 (Y0 hz (by simp) λg1 z1 t1=>?_)
 replace z1:IsZip g1 Z U W .ellipsis:=z1
 refine b0 ?_;simp only[List.zipIdx_cons,List.zipIdx_nil,w22,List.forIn_nil];refine b0 (b0 (w2H ?_));show wpAny _ _ (Builtin.SmallTypes.nextOf (.ref a) >>= _) _ _ _;refine b0 (R1.step k x (R1.ext h1 t1.extBut D.i1z D.l1z) hx λg2 r2 t2=>f8 ?_);have w2:IsPair g2 W c d:=t2.extBut _ _ D.TOi1 (t1.extBut _ _ D.TOz hW);refine b0 (P4 w2 rfl (b0 (w2s w2 λg3 w3 t3=>?_)))
 replace w3:IsPair g3 W x d:=w3
 refine b0 (wpAny_letGo (f8 ?_));refine b0 (b0 (w2H ?_));show wpAny _ _ (Builtin.SmallTypes.nextOf (.ref b) >>= _) _ _ _;refine b0 (R2.step k y (R2.ext (R2.ext (R2.ext h2 t1.extBut D.i2z D.l2z) t2.extBut D.i12.symm D.l2i1) t3.extBut D.TOi2.symm D.l2TO) hy λg4 r4 t4=>f8 ?_);have w4:IsPair g4 W x d:=t4.extBut _ _ D.TOi2 w3;refine b0 (P4 w4 rfl (b0 (w2s w4 λg5 w5 t5=>?_)))
 replace w5:IsPair g5 W x y:=w5
 refine b0 (wpAny_letGo (f8 (f8 (b0 (P4 w5 rfl (b0 (wpAny_newTuple ?_)))))));have sz:g5.objs.size=s.heap.objs.size:=by rw[t5.1,t4.1,t3.1,t2.1,t1.1]
 have z5:IsZip g5 Z U W .ellipsis:=t5.extBut _ _ D.TOz.symm (t4.extBut _ _ D.i2z.symm (t3.extBut _ _ D.TOz.symm (t2.extBut _ _ D.i1z.symm z1)));have kk:∀e o,e≠Z->e≠W->e≠a->e≠b->s.heap.get? e=some o->g5.get? e=some o:=λe o n1 n2 n3 n4 z=>t5.extBut _ _ n2 (t4.extBut _ _ n4 (t3.extBut _ _ n2 (t2.extBut _ _ n3 (t1.extBut _ _ n1 z))));have r15:S1 (k+1) g5:=R1.ext (R1.ext (R1.ext r2 t3.extBut D.TOi1.symm D.l1TO) t4.extBut D.i12 D.l1i2) t5.extBut D.TOi1.symm D.l1TO;have r25:S2 (k+1) g5:=R2.ext r4 t5.extBut D.TOi2.symm D.l2TO;have zlt:Z<g5.objs.size:=i7 z5;show wpAny _ _ (Builtin.SmallTypes.ownedTupleHandOut (.ref Z) (.ref g5.objs.size) >>= _) _ _ _;refine b0 ?_;unfold Builtin.SmallTypes.ownedTupleHandOut;have z6:IsZip (g5.push {cls:=.type "tuple",data:=.seq #[x,y]}) Z U W .ellipsis:=j5 _ z5;refine b0 (Y0 z6 (by simp) λg7 z7 t7=>?_)
 replace z7:IsZip g7 Z U W (rawInt g5.objs.size):=z7
 refine Y0 z7 (by simp) λg8 z8 t8=>?_
 replace z8:IsZip g8 Z U W (rawInt g5.objs.size):=z8
 have up:∀e o,e≠Z->g5.get? e=some o->g8.get? e=some o:=λe o n z=>t8.extBut _ _ n (t7.extBut _ _ n (j5 _ z));have T8:IsPair g8 g5.objs.size x y:=t8.extBut _ _ (w2O zlt) (t7.extBut _ _ (w2O zlt) (v9 _ rfl));have s8:g8.objs.size=g5.objs.size+1:=by rw[t8.1,t7.1,K8]
 rw[sz]at z8 T8 s8;refine f8 ⟨_,rfl,?_⟩;show Q (.ref g5.objs.size) _;rw[sz];exact hQ g8 z8 (up _ _ D.TOz w5) (R1.keep _ _ _ r15 (λo z=>up _ o D.i1z z) (λo z=>up _ o D.l1z z)) (R2.keep _ _ _ r25 (λo z=>up _ o D.i2z z) (λo z=>up _ o D.l2z z)) T8 s8 λe o n1 n2 n3 n4 z=>up e o n1 (kk e o n1 n2 n3 n4 z)
theorem z2P(hh:A.handled=none)(D:ZipApart Z U W a b l1 l2)(R1:Src P w a l1 vs1 S1)(R2:Src P w b l2 vs2 S2)(hz:IsZip s.heap Z U W .none)(hU:IsPair s.heap U (.ref a) (.ref b))(hW:IsPair s.heap W c d)(h1:S1 k s.heap)(h2:S2 k s.heap)(hend:vs1[k]? = none\/vs2[k]? = none)
  (hE:∀h' e,(∀f o,f≠Z->f≠W->f≠a->f≠b->s.heap.get? f=some o->h'.get? f=some o)->(∃o,h'.get? e=some o/\o.cls=.type "StopIteration")->E (.ref e) {s with heap:=h'}) :
  wpAny (model P w) A (Builtin.«zip.__next__» ⟨[.ref Z],[]⟩) Q E s:=by
 show wpAny _ _ (field (.ref Z) 2 >>= _) _ _ _;refine b0 (y6 hz rfl (x:=.bool false) rfl ?_);show wpAny _ _ (field (.ref Z) 3 >>= _) _ _ _;refine b0 (y6 hz rfl (x:=.ref U) rfl (b0 (P4 hU rfl ?_)));show wpAny _ _ (Builtin.SmallTypes.ownedTupleIsFree (.ref Z) >>= _) _ _ _;refine b0 ?_;unfold Builtin.SmallTypes.ownedTupleIsFree;refine b0 (y6 hz rfl (x:=.none) rfl (f8 ?_));simp only[if_true];refine b0 (w2L (b0 (y6 hz rfl (x:=.ref W) rfl ?_)));refine b0 (Y0 hz (by simp) λg1 z1 t1=>?_)
 replace z1:IsZip g1 Z U W .ellipsis:=z1
 refine b0 ?_;simp only[List.zipIdx_cons,List.zipIdx_nil,w22,List.forIn_nil];refine b0 (b0 (w2H ?_));show wpAny _ _ (Builtin.SmallTypes.nextOf (.ref a) >>= _) _ _ _;cases hx:vs1[k]? with
 | none=>
  refine b0 (R1.stop k hh (R1.ext h1 t1.extBut D.i1z D.l1z) hx λg2 e t2 he=>?_);obtain⟨oe,q1,q2⟩:=he;have z2:IsZip g2 Z U W .ellipsis:=t2 _ _ D.i1z.symm z1;have ez:e≠Z:=λz=>by subst z;rw[z2]at q1;cases q1;simp at q2
  exact Y0 z2 (by simp) λg3 _ t3=>hE g3 e (λf o n1 _ n3 _ z=>t3.extBut _ _ n1 (t2 _ _ n3 (t1.extBut _ _ n1 z))) ⟨oe,t3.extBut _ _ ez q1,q2⟩
 | some x=>
  have hy:vs2[k]? = none:=by rcases hend with h | h;rw[hx]at h;cases h;exact h
  refine b0 (R1.step k x (R1.ext h1 t1.extBut D.i1z D.l1z) hx λg2 r2 t2=>f8 ?_);have w2:IsPair g2 W c d:=t2.extBut _ _ D.TOi1 (t1.extBut _ _ D.TOz hW);refine b0 (P4 w2 rfl (b0 (w2s w2 λg3 w3 t3=>?_)));refine b0 (wpAny_letGo (f8 ?_));refine b0 (b0 (w2H ?_));show wpAny _ _ (Builtin.SmallTypes.nextOf (.ref b) >>= _) _ _ _;refine b0 (R2.stop k hh (R2.ext (R2.ext (R2.ext h2 t1.extBut D.i2z D.l2z) t2.extBut D.i12.symm D.l2i1) t3.extBut D.TOi2.symm D.l2TO) hy λg4 e t4 he=>?_);obtain⟨oe,q1,q2⟩:=he;have z4:IsZip g4 Z U W .ellipsis:=t4 _ _ D.i2z.symm (t3.extBut _ _ D.TOz.symm (t2.extBut _ _ D.i1z.symm z1));have ez:e≠Z:=λz=>by subst z;rw[z4]at q1;cases q1;simp at q2
  exact Y0 z4 (by simp) λg5 _ t5=>hE g5 e (λf o n1 n2 n3 n4 z=>t5.extBut _ _ n1 (t4 _ _ n4 (t3.extBut _ _ n2 (t2.extBut _ _ n3 (t1.extBut _ _ n1 z))))) ⟨oe,t5.extBut _ _ ez q1,q2⟩
theorem z2n(D:ZipApart Z U W a b l1 l2)(R1:Src P w a l1 vs1 S1)(R2:Src P w b l2 vs2 S2)(hz:IsZip s.heap Z U W .none)(hU:IsPair s.heap U (.ref a) (.ref b))(hW:IsPair s.heap W c d)(h1:S1 k s.heap)(h2:S2 k s.heap)(hx:vs1[k]? = some x)(hy:vs2[k]? = some y)
  (hQ:∀h',IsZip h' Z U W (rawInt s.heap.objs.size)->IsPair h' W x y->S1 (k+1) h'->S2 (k+1) h'->IsPair h' s.heap.objs.size x y->h'.objs.size=s.heap.objs.size+1->(∀e o,e≠Z->e≠W->e≠a->e≠b->s.heap.get? e=some o->h'.get? e=some o)->Q (some (.ref s.heap.objs.size)) {s with heap:=h'}) :
  wpAny (model P w) A (pyNext (.ref Z)) Q E s:=by
 have T:s.TypeIs (.ref Z) "zip":=⟨_,hz,rfl⟩;unfold pyNext;exact b0 (w2h (w1v (name:=Str.ofString "__next__") T w2t (w11 w2t T F.entry_zip_next (z2O D R1 R2 hz hU hW h1 h2 hx hy λh' b1 b2 b3 b4 b5 b6 b7=>f8 (hQ h' b1 b2 b3 b4 b5 b6 b7)) (F.args_zip_next_1 _))))
theorem z2k(hh:A.handled=none)(D:ZipApart Z U W a b l1 l2)(R1:Src P w a l1 vs1 S1)(R2:Src P w b l2 vs2 S2)(hz:IsZip s.heap Z U W .none)(hU:IsPair s.heap U (.ref a) (.ref b))(hW:IsPair s.heap W c d)(h1:S1 k s.heap)(h2:S2 k s.heap)(hend:vs1[k]? = none\/vs2[k]? = none)
  (hQ:∀h',(∀f o,f≠Z->f≠W->f≠a->f≠b->s.heap.get? f=some o->h'.get? f=some o)->Q none {s with heap:=h'}):wpAny (model P w) A (pyNext (.ref Z)) Q E s:=by
 have T:s.TypeIs (.ref Z) "zip":=⟨_,hz,rfl⟩;unfold pyNext;refine b0 (w2h (w1v (name:=Str.ofString "__next__") T w2t (w11 w2t T F.entry_zip_next (z2P hh D R1 R2 hz hU hW h1 h2 hend λh' e hk he=>?_) (F.args_zip_next_1 _))));obtain⟨o,q1,q2⟩:=he;exact b0 (wpAny_isInstance (T:="StopIteration") (b:=true) ⟨o,q1,q2⟩ isSubtype_stop (f8 (hQ _ hk)))
end
def SqK(t:Bool)(h:Heap)(l:Addr)(vs:Array Value):Prop:=match t with | false=>h.IsList l vs | true=>h.IsTuple l vs
def sK(t:Bool)(ia la:Addr)(vs:Array Value):Nat->Heap->Prop:=match t with | false=>sL ia la vs | true=>sT ia la vs
theorem z3b(t:Bool)(ne:la≠ia):Src P w ia la vs (sK t ia la vs):=by
 cases t
 ·exact z3W ne
 ·exact z6d ne
def itN:Bool->String | false=>"list_iterator" | true=>"tuple_iterator"
abbrev itO(t:Bool)(l:Addr):Obj:={cls:=.type (itN t),data:=.fields #[.ref l,.int 0 0]}
abbrev zH1(h:Heap)(t1:Bool)(l1:Addr):Heap:=h.push (itO t1 l1)
abbrev zH2(h:Heap)(t1 t2:Bool)(l1 l2:Addr):Heap:=(zH1 h t1 l1).push (itO t2 l2)
abbrev zH3(h:Heap)(t1 t2:Bool)(l1 l2:Addr):Heap:=(zH2 h t1 t2 l1 l2).push {cls:=.type "tuple",data:=.seq #[.ref h.objs.size,.ref (zH1 h t1 l1).objs.size]}
abbrev zH4(h:Heap)(t1 t2:Bool)(l1 l2:Addr):Heap:=(zH3 h t1 t2 l1 l2).push {cls:=.type "tuple",data:=.seq #[.none,.none]}
abbrev zH5(h:Heap)(t1 t2:Bool)(l1 l2:Addr):Heap:=(zH4 h t1 t2 l1 l2).push {cls:=.type "zip",data:=.fields #[.none,.bool false,.bool false,.ref (zH2 h t1 t2 l1 l2).objs.size,.ref (zH3 h t1 t2 l1 l2).objs.size]}
theorem z2E(t1 t2:Bool)(l1 l2:Addr)(vs1 vs2:Array Value):Meets (Builtin.«zip.__new__» ⟨[.type "zip",.ref l1,.ref l2],[]⟩) (λ_ R s=>SqK t1 s.heap l1 vs1/\SqK t2 s.heap l2 vs2/\R (.ok (.ret (.ref (zH4 s.heap t1 t2 l1 l2).objs.size))) {s with heap:=zH5 s.heap t1 t2 l1 l2}):=
 .of_wp λP w A R s h=>by
  obtain⟨h0,g0,d0,k0,o0⟩:=s;obtain⟨q1,q2,h⟩:=h;have hsub:=sub_zip;cases t1<;>cases t2
  ·have e1:Heap.IsList (Shared.heap ⟨h0,g0,d0,k0,o0⟩) l1 vs1:=q1;have e2:Heap.IsList (Shared.heap ⟨h0.push {cls:=.type "list_iterator",data:=.fields #[.ref l1,.int 0 0]},g0,d0,k0,o0⟩) l2 vs2:=Heap.IsList.push q2 _
   wp_walk using P0 e1,P0 e2
   exact⟨_,rfl,h⟩
  ·have e1:Heap.IsList (Shared.heap ⟨h0,g0,d0,k0,o0⟩) l1 vs1:=q1;have e2:Heap.IsTuple (Shared.heap ⟨h0.push {cls:=.type "list_iterator",data:=.fields #[.ref l1,.int 0 0]},g0,d0,k0,o0⟩) l2 vs2:=Heap.IsTuple.push q2 _
   wp_walk using P0 e1,w1Q e2
   exact⟨_,rfl,h⟩
  ·have e1:Heap.IsTuple (Shared.heap ⟨h0,g0,d0,k0,o0⟩) l1 vs1:=q1;have e2:Heap.IsList (Shared.heap ⟨h0.push {cls:=.type "tuple_iterator",data:=.fields #[.ref l1,.int 0 0]},g0,d0,k0,o0⟩) l2 vs2:=Heap.IsList.push q2 _
   wp_walk using w1Q e1,P0 e2
   exact⟨_,rfl,h⟩
  ·have e1:Heap.IsTuple (Shared.heap ⟨h0,g0,d0,k0,o0⟩) l1 vs1:=q1;have e2:Heap.IsTuple (Shared.heap ⟨h0.push {cls:=.type "tuple_iterator",data:=.fields #[.ref l1,.int 0 0]},g0,d0,k0,o0⟩) l2 vs2:=Heap.IsTuple.push q2 _
   wp_walk using w1Q e1,w1Q e2
   exact⟨_,rfl,h⟩
theorem z4O(e:h'.get? ia=some (itO t la))(q:SqK t h la vs)(k:∀c o,h.get? c=some o->h'.get? c=some o):sK t ia la vs 0 h':=by
 cases t
 ·exact⟨⟨_,e,rfl,rfl⟩,Heap.IsList.at q λo z=>k _ o z⟩
 ·exact⟨⟨_,e,rfl,rfl⟩,by obtain⟨o,z,r⟩:=q;exact⟨o,k _ o z,r⟩⟩
theorem z1c(t1 t2:Bool)(q1:SqK t1 s.heap l1 vs1)(q2:SqK t2 s.heap l2 vs2)
  (h:∀h',IsZip h' (s.heap.objs.size+4) (s.heap.objs.size+2) (s.heap.objs.size+3) .none->IsPair h' (s.heap.objs.size+2) (.ref s.heap.objs.size) (.ref (s.heap.objs.size+1))->IsPair h' (s.heap.objs.size+3) .none .none->sK t1 s.heap.objs.size l1 vs1 0 h'->sK t2 (s.heap.objs.size+1) l2 vs2 0 h'->h'.objs.size=s.heap.objs.size+5 ->
   (∀c o,s.heap.get? c=some o->h'.get? c=some o)->Q (.ref (s.heap.objs.size+4)) {s with heap:=h'}):wpAny (model P w) A (call (.type "zip") [.ref l1,.ref l2]) Q E s:=by
 refine callType_new F.called_zip (by decide) (F.typeCall_zip_2 _ _) (F.newCall_zip_2 _ _) (λobj=>F.args_object_init_3 obj _ _) F.entry_zip_new (z2E t1 t2 l1 l2 vs1 vs2) ⟨q1,q2,?_⟩;have n1:(zH1 s.heap t1 l1).objs.size=s.heap.objs.size+1:=K8 ..;have n2:(zH2 s.heap t1 t2 l1 l2).objs.size=s.heap.objs.size+2:=by rw[K8,n1]
 have n3:(zH3 s.heap t1 t2 l1 l2).objs.size=s.heap.objs.size+3:=by rw[K8,n2]
 have n4:(zH4 s.heap t1 t2 l1 l2).objs.size=s.heap.objs.size+4:=by rw[K8,n3]
 have n5:(zH5 s.heap t1 t2 l1 l2).objs.size=s.heap.objs.size+5:=by rw[K8,n4]
 have e5:(zH5 s.heap t1 t2 l1 l2).get? (zH4 s.heap t1 t2 l1 l2).objs.size=some _:=v9 _ rfl;have e4:(zH5 s.heap t1 t2 l1 l2).get? (zH3 s.heap t1 t2 l1 l2).objs.size=some _:=j5 _ (v9 _ rfl);have e3:(zH5 s.heap t1 t2 l1 l2).get? (zH2 s.heap t1 t2 l1 l2).objs.size=some _:=j5 _ (j5 _ (v9 _ rfl));have e2:(zH5 s.heap t1 t2 l1 l2).get? (zH1 s.heap t1 l1).objs.size=some _:=j5 _ (j5 _ (j5 _ (v9 _ rfl)));have e1:(zH5 s.heap t1 t2 l1 l2).get? s.heap.objs.size=some _:=j5 _ (j5 _ (j5 _ (j5 _ (v9 _ rfl))));have kp:∀c o,s.heap.get? c=some o->(zH5 s.heap t1 t2 l1 l2).get? c=some o:=λc o z=>j5 _ (j5 _ (j5 _ (j5 _ (j5 _ z))));show _/\_;rw[n2,n3,n4]at e5;rw[n1,n2]at e3;rw[n3]at e4;rw[n1]at e2;rw[n4];exact⟨⟨_,e5,rfl⟩,h _ e5 e3 e4 (z4O e1 q1 kp) (z4O e2 q2 kp) n5 kp⟩
end
end L2
end
noncomputable section
namespace PySem.SeqAt
open AutoSeq1 (wpAny_loadPart')
section
open MeetsSeq MeetsSeq2 MeetsSeq3 SeqRoads2
theorem q5s(f:Nat->β->Sem (ForInStep β))(I:List Nat->β->Shared->Prop)(Q:β->Shared->Prop)
    (turn:∀x rest b s,I (x::rest) b s->wpAny M A (f x b) (λr s'=>match r with | .yield b'=>I rest b' s' | .done b'=>Q b' s') E s)
  (fin:∀b s,I [] b s->Q b s) (h:I (List.range' 0 n 1) b s):wpAny M A (forIn [:n] b f) Q E s:=by
 rw[Std.Legacy.Range.forIn_eq_forIn_range'];have hsz:([:n]:Std.Legacy.Range).size=n:=by simp[Std.Legacy.Range.size]
 show wpAny M A (forIn (List.range' 0 ([:n]:Std.Legacy.Range).size 1) b f) Q E s;rw[hsz];exact wpAny_forIn_list f I Q turn fin _ b h
theorem q6B(l:Addr)(items:Array Value)(n:Nat)(dd:Option Addr)(sl:Array (Option Value))(x:Value)(e:Value->Bool)(j:Nat)(hj:j<items.size)
  (hit:e items[j]=true) (hno:∀m (hm:m<items.size),m<j->e items[m]=false) :
  Meets (Builtin.«tuple.index» ⟨[.ref l,x],[]⟩)
   (λA R s=>s.heap.get? l=some {cls:=.type "tuple",dict:=dd,data:=.seq items n,slots:=sl} /\ (∀y,y∈items->EqAt A.in1 s y x (e y))/\R (.ok (.ret (.int j s.toks))) {s with toks:=s.toks+1}):=
 .of_wp λprog w A R s h=>by
  obtain⟨hp,g,d,tk,os⟩:=s;obtain⟨hl,he,h⟩:=h
  wp_walk using w21 hl,q5s _ (λrest b s'=>b.1=none/\s'=⟨hp,g,d,tk,os⟩/\∃i,i<=j/\rest=List.range' i (items.size - i) 1) _
  case turn=>
   rintro i rest b s' ⟨hb,rfl,i',hi',hr⟩
   obtain⟨m,hm⟩:∃m,items.size - i'=m+1:=⟨items.size - i' - 1,by omega⟩;rw[hm,List.range'_succ]at hr;obtain⟨rfl,rfl⟩:=List.cons.inj hr;have hlt:i<items.size:=by omega
   rw[show items[i]? = some items[i] by simp[hlt]];refine b0 (he _ (Array.getElem_mem hlt) prog w _ _ ?_);by_cases q:i=j
   ·subst q;rw[hit]
    wp_walk
    exact⟨_,rfl,h⟩
   ·rw[hno i hlt (by omega)]
    wp_walk
    exact⟨rfl,rfl,i+1,by omega,by congr 1;omega⟩
  case fin=>
   rintro⟨b1,b2⟩ s' ⟨hb,rfl,i,hi,hr⟩
   obtain⟨m,hm⟩:∃m,items.size - i=m+1:=⟨items.size - i - 1,by omega⟩;rw[hm,List.range'_succ]at hr;cases hr
  case h=>
   exact⟨rfl,rfl,0,G9 _,by simp⟩
section
variable {prog:Program} {w:World} {A:Around} {E:Value->Shared->Prop} {s:Shared}
theorem q8C:∀(xs:List PyData) (vs:List Value) (as:List Addr),PyData.canLayAll0 xs=true->ReadsAll h vs xs as->vs.length=xs.length/\∀m (h1:m<vs.length) (h2:m<xs.length),PyData.eqv (readOf h vs[m]) d=PyData.eqv xs[m] d:=by
 intro xs vs as hc r;have e:=readsAll_map xs vs as hc r;have hl:vs.length=xs.length:=by rw[←e,g9]
 refine⟨hl,λm h1 h2=>?_⟩
 congr 1
 subst e;rw[List.getElem_map]
theorem index_list_reads(rc:Reads s.heap c (.list xs) as)(rx:Reads s.heap x d bs)(hxs:PyData.canLayAll0 xs=true)(hd:d.canLay0=true)
  (hu:A.units+1+min (PyData.depthAll xs) d.depth<cLine) (hj:j<xs.length) (hj63:(j:Int)<2^63 - 1) (hit:PyData.eqv xs[j] d=true) (hno:∀m (hm:m<xs.length),m<j->PyData.eqv xs[m] d=false) (h:Q (.int j s.toks) {s with toks:=s.toks+1}):wpAny (model prog w) A (call (.builtin "list.index") [c,x]) Q E s:=by
 cases rc with
 | list h1 h2 h3 h4=>
  rename_i l o vs n as';obtain⟨cls,dd,data,sl⟩:=o;simp only at h2 h3;subst h2 h3;obtain⟨hl,ha⟩:=q8C (d:=d) xs vs.toList _ hxs h4;have hl':vs.size=xs.length:=by rw[←hl];simp
  refine PySem.call_meets w2Y ⟨_,h1,rfl⟩ PySem.F.entry_list_index (PySem.F.args_list_index_2 _ _)
   (list_indexAt l vs _ dd sl x (λy=>PyData.eqv (readOf s.heap y) d) j (by omega) hj63 ?_ ?_) ⟨h1,items_eqAt h4 rx hxs hd hu,h⟩
  ·rw[←hit];exact ha j (by simpa using(by omega:j<vs.size)) hj
  ·intro m hm hlt;rw[←hno m (by omega) hlt];exact ha m (by simpa using hm) (by omega)
theorem index_tuple_reads(rc:Reads s.heap c (.tuple xs) as)(rx:Reads s.heap x d bs)(hxs:PyData.canLayAll0 xs=true)(hd:d.canLay0=true)
  (hu:A.units+1+min (PyData.depthAll xs) d.depth<cLine) (hj:j<xs.length) (hit:PyData.eqv xs[j] d=true) (hno:∀m (hm:m<xs.length),m<j->PyData.eqv xs[m] d=false) (h:Q (.int j s.toks) {s with toks:=s.toks+1}):wpAny (model prog w) A (call (.builtin "tuple.index") [c,x]) Q E s:=by
 cases rc with
 | tuple h1 h2 h3 h4=>
  rename_i l o vs n;obtain⟨cls,dd,data,sl⟩:=o;simp only at h2 h3;subst h2 h3;obtain⟨hl,ha⟩:=q8C (d:=d) xs vs.toList _ hxs h4;have hl':vs.size=xs.length:=by rw[←hl];simp
  refine PySem.call_meets w2S ⟨_,h1,rfl⟩ PySem.F.entry_tuple_index (PySem.F.args_tuple_index_2 _ _)
   (q6B l vs _ dd sl x (λy=>PyData.eqv (readOf s.heap y) d) j (by omega) ?_ ?_) ⟨h1,items_eqAt h4 rx hxs hd hu,h⟩
  ·rw[←hit];exact ha j (by simpa using(by omega:j<vs.size)) hj
  ·intro m hm hlt;rw[←hno m (by omega) hlt];exact ha m (by simpa using hm) (by omega)
end
end
end PySem.SeqAt
end
noncomputable section
namespace L2
open PySem
section
inductive DKey where
 | i (n:Int) | s (x:Str) | t (l:List (Sum Int Str))
 deriving DecidableEq
inductive Bi where
 | len | min | any | all | int | list | tuple | str
 deriving DecidableEq
inductive Mt where
 | bitLength | index | get
 deriving DecidableEq
inductive Tg where
 | one (i:Nat) | many (is:List Nat)
inductive ME where
  | var (i:Nat) | int (i:Int) | bl (b:Bool) | str (x:Str) | non | glb (x:Str)
  | bin (op:Operator) (a b:ME) | neg (a:ME)  | not (a:ME)
  | cmp (op:CmpOp) (a b:ME) | chain (op op':CmpOp) (a b c:ME)
  | and (es:List ME) | or (es:List ME) | ite (c a b:ME)
  | lst (es:List ME) | tup (es:List ME)
  | ix (a b:ME) | sl (a lo hi:ME) | slf (a lo:ME) | slt (a hi:ME)
  | call (f:Nat) (es:List ME)    | bi (f:Bi) (es:List ME) | isi (a:ME) (ts:List Str) | isx (a:ME) (t:Str) | meth (m:Mt) (a:ME) (es:List ME)
  | comp (elt:ME) (tg:Tg) (it:ME) (fr:List (Option Nat)) | compi (elt:ME) (tg:Tg) (it c:ME) (fr:List (Option Nat)) | compx (elt:ME) (tg:Tg) (it:ME) (fr:List (Option Nat)) | scat (a b:ME) | stf (a lo:ME) | stt (a hi:ME)
  | fmt (a:ME) | fst (es:List ME)
  | fnd (a b:ME) | spl (a b:ME) | joi (a b:ME)
     | callv (i:Nat) (xs:List (Str×Nat)) (es:List ME)
  | calll (f:Nat) (a b:ME) (N:List Str) (np:Nat) (lb:ME) (fr:List Nat)
  | idx (a b:ME)
  | rng (es:List ME)  | zp (a b:ME)
structure LamD where
 N:List Str
 np:Nat
 body:ME
 fn:List Str
 bl:List Str
 cl:List Str
inductive DV where
 | non | bl (b:Bool) | int (i:Int) | str (x:Str) | tup (ds:List DV) | lst (ds:List DV) | dct (ks:List DKey) (vs:List DV)
 | exc (c:Str) | fn (x:Str)
 | lam (m:LamD) (ds:List DV)
 | scr (ns:List Int)
inductive Cl where
 | weak | top | strong | fresh | ft
 deriving DecidableEq
inductive Re where
 | ok (d:DV) (c:Cl) | ex (c:Str)
inductive Rs where
 | ok (l:List (DV×Cl)) | ex (c:Str)
inductive Rt where
 | ok (b:Bool) | ex (c:Str)
inductive Sv where
 | no | val (d:DV) | own (d:DV) | ot (d:DV)
 | o2 (d:DV)
 | od (d:DV)
def otD:DV->DV
 | .dct _ ds=>.tup ds
 | d=>d
inductive Ou where
 | v (d:DV) (fr:Bool) | x (c:Str) | t (d:DV)
inductive Out where
 | nx (δ:List Sv) | rt (d:DV) (fr:Bool) | ex (c:Str) (δ:List Sv) | rtt (d:DV)
inductive MS where
 | set (i:Nat) (own:Bool) (e:ME) | sett (is:List Nat) (e:ME)
 | app (i:Nat) (e:ME)
 | exp (e:ME) | ret (e:ME)  | iff (c:ME) (a b:List MS) | fo (tg:Tg) (it:ME) (body:List MS) | wh (c:ME) (body:List MS)
 | rse (c:Str) (e:ME) | tryc (body:List MS) (c:Str) (ie ic:Nat) | tryr (body:List MS) (c cr msg:Str)
 | frz (i:Nat)
structure FD where
 n:Nat
 np:Nat
 dfl:List DV:=[]
 kn:Option (List Str):=none
 body:List MS
def Re.thn(r:Option Re)(k:DV->Cl->Option Re):Option Re:=match r with
 | none=>none
 | some (.ex c)=>some (.ex c)
 | some (.ok d c)=>k d c
def Rs.thn(r:Option Rs)(k:List (DV×Cl)->Option Re):Option Re:=match r with
 | none=>none
 | some (.ex c)=>some (.ex c)
 | some (.ok l)=>k l
def Rt.thn(r:Option Rt)(k:Bool->Option Re):Option Re:=match r with
 | none=>none
 | some (.ex c)=>some (.ex c)
 | some (.ok b)=>k b
def Re.thnT(r:Option Re)(k:DV->Cl->Option Rt):Option Rt:=match r with
 | none=>none
 | some (.ex c)=>some (.ex c)
 | some (.ok d c)=>k d c
mutual
def DV.immut:DV->Bool
 | .non=>true | .bl _=>true | .int _=>true | .str _=>true | .exc _=>true | .fn _=>true | .scr _=>true
 | .tup ds=>DV.immuts ds
 | .lst _=>false
 | .lam _ _=>false
 | .dct _ vs=>DV.immuts vs
def DV.immuts:List DV->Bool
 | []=>true
 | d::r=>d.immut&&DV.immuts r
end
mutual
def DV.nolam:DV->Bool
 | .lam _ _=>false
 | .tup ds=>DV.nolams ds
 | .lst ds=>DV.nolams ds
 | .dct _ vs=>DV.nolams vs
 | _=>true
def DV.nolams:List DV->Bool
 | []=>true
 | d::r=>d.nolam&&DV.nolams r
end
def stro(d:DV):Cl->Bool
 | .strong=>true | .fresh=>true | .ft=>true | _=>d.immut
def stros(l:List (DV×Cl)):Bool:=l.all λp=>stro p.1 p.2
def Cl.item:Cl->Cl
 | .weak=>.weak | _=>.strong
def Cl.anew:Cl->Cl->Cl
 | .weak,_=>.weak | _,.weak=>.weak | _,_=>.fresh
def Cl.notF:Cl->Cl
 | .fresh=>.strong | c=>c
def mostLen:Nat:=1000000
mutual
def deq:DV->DV->Bool
 | .non,.non=>true
 | .bl a,.bl b=>a==b
 | .bl a,.int j=>(if a then 1 else 0)==j
 | .int i,.bl b=>i==(if b then 1 else 0)
 | .int i,.int j=>i==j
 | .str a,.str b=>decide (a=b)
 | .tup a,.tup b=>deqs a b
 | .lst a,.lst b=>deqs a b
 | _,_=>false
def deqs:List DV->List DV->Bool
 | [],[]=>true
 | a::r,b::s=>deq a b&&deqs r s
 | _,_=>false
end
mutual
def DV.plain:Nat->DV->Bool
 | _,.non=>true | _,.bl _=>true | _,.int _=>true
 | _,.str x=>x.cps.all (· < 0x110000)
 | 0,_=>false
 | n+1,.tup ds=>DV.plains n ds | n+1,.lst ds=>DV.plains n ds
 | _,_=>false
def DV.plains:Nat->List DV->Bool
 | _,[]=>true
 | n,d::r=>d.plain n&&DV.plains n r
end
def D2:DV->Option Bool
 | .non=>some false
 | .bl b=>some b
 | .int i=>some (i != 0)
 | .str x=>some (x.cps.size != 0)
 | .tup ds=>some (!ds.isEmpty)
 | .lst ds=>some (!ds.isEmpty)
 | _=>none
def F9(n:Nat)(i:Int):Option Nat:=if 0<=i then(if i<n then some i.toNat else none)else if -(n:Int)<=i then some (i+n).toNat else none
def atD(ds:List DV)(i:Int):Option DV:=(F9 ds.length i).bind λj=>ds[j]?
def ixD(a b:DV):Option DV:=match a,b with
 | .scr ns,.int i=>((F9 ns.length i).bind λj=>ns[j]?).map DV.int
 | .lst ds,.int i=>atD ds i
 | .tup ds,.int i=>atD ds i
 | .str z,.int i=>(F9 z.cps.size i).bind λj=>(z.cps[j]?).map λc=>.str ⟨#[c]⟩
 | _,_=>none
def slIx(n d:Nat):Option Int->Nat
 | none=>d
 | some v=>if v<0 then(v+(n:Int)).toNat else min v.toNat n
def cutD(ds:List DV)(lo hi:Option Int):List DV:=(ds.drop (slIx ds.length 0 lo)).take (slIx ds.length ds.length hi - slIx ds.length 0 lo)
def slD(a:DV)(lo hi:Option Int):Option DV:=match a with
 | .scr ns=>some (.lst (cutD (ns.map DV.int) lo hi))
 | .lst ds=>some (.lst (cutD ds lo hi))
 | .tup ds=>if slIx ds.length 0 lo=0/\slIx ds.length ds.length hi=ds.length then none else some (.tup (cutD ds lo hi))
 | _=>none
def slCl(a:DV)(c:Cl):Cl:=match a with
 | .scr _=>.fresh
 | .lst _=>Cl.anew c c
 | _=>c.item
def L4(i j:Int):Bool:=(decide (-(2^64)<i)&&decide (i<2^64))||(decide (-(2^64)<j)&&decide (j<2^64))||(decide (i.natAbs<2^2000)&&decide (j.natAbs<2^2000))
def binD(op:Operator)(a b:DV)(ca cb:Cl):Option Re:=match op,a,b with
 | .Add,.int i,.int j=>some (.ok (.int (i+j)) .strong)
 | .Sub,.int i,.int j=>some (.ok (.int (i - j)) .strong)
 | .Mult,.int i,.int j=>if L4 i j then some (.ok (.int (i*j)) .strong)else none
 | .Mod,.int i,.int j=>if 0<j then some (.ok (.int (i%j)) .strong)else if j≠0 then some (.ok (.int (i.fmod j)) .strong)else none
 | .FloorDiv,.int i,.int j=>if 0<j/\j<2^200 then some (.ok (.int (i/j)) .strong)else none
 | .LShift,.int i,.int j=>if 0<=j/\j<=1000000/\i.natAbs<2^64 then some (.ok (.int (i*2^j.toNat)) .strong)else none
 | .RShift,.int i,.int j=>if 0<=j then some (.ok (.int (i/2^j.toNat)) .strong)else none
 | .BitAnd,.int i,.int j=>some (.ok (.int (Builtin.bitAnd i j)) .strong)
 | .Add,.lst x,.lst y=>if x.length+y.length<=mostLen then some (.ok (.lst (x++y)) (Cl.anew ca cb))else none
 | .Add,.tup x,.tup y=>if x.length+y.length<=mostLen/\x≠[]then some (.ok (.tup (x++y)) (Cl.anew ca cb).notF)else none
 | .Mult,.lst x,.int k=>if x.length*k.toNat<=mostLen /\ -(2^63)<=k/\k<2^63 then some (.ok (.lst (List.replicate k.toNat x).flatten) (Cl.anew ca ca))else none
 | _,_,_=>none
def isN:DV->Bool
 | .non=>true
 | _=>false
def inS(x y:Str):Option Bool:=match y.cps.toList with
 | [c]=>some (decide (c∈x.cps.toList))
 | _=>none
def splL(c:Nat):List Nat->List (List Nat)
 | []=>[[]]
 | a::r=>if a=c then[]::splL c r else match splL c r with
  | x::t=>(a::x)::t
  | []=>[[a]]
def P9(c:Nat)(l:List Nat):Int:=if l.idxOf c<l.length then(l.idxOf c:Nat)else -1
def strB:DV->Bool
 | .str _=>true
 | _=>false
def fndD(x y:DV):Option DV:=match x,y with
 | .str x,.str y=>(match y.cps.toList with | [c]=>some (.int (P9 c x.cps.toList)) | _=>none)
 | _,_=>none
def splD(x y:DV):Option DV:=match x,y with
 | .str x,.str y=>(match y.cps.toList with | [c]=>if x.length<=mostLen then some (.lst ((splL c x.cps.toList).map λp=>.str ⟨p.toArray⟩))else none | _=>none)
 | _,_=>none
def strs?:List DV->Option (List Str)
 | []=>some []
 | .str x::r=>(strs? r).map (x :: ·)
 | _=>none
def joiD(x y:DV):Option DV:=match x,y with
 | .str s,.lst ds=>(match strs? ds with | some ys=>if(ys.map (·.length)).sum+ys.length*s.length<=mostLen then some (.str (Str.join s ys))else none | none=>none)
 | _,_=>none
def cutS(z:Str)(i j:Nat):Str:=⟨((z.cps.toList.drop i).take (j - i)).toArray⟩
def stfD(x y:DV):Option DV:=match x,y with
 | .str z,.int i=>if 0<=i/\i<=(z.length:Int)then some (.str (cutS z i.toNat z.length))else none
 | _,_=>none
def sttD(x y:DV):Option DV:=match x,y with
 | .str z,.int i=>if 0<=i/\i<=(z.length:Int)then some (.str (cutS z 0 i.toNat))else none
 | _,_=>none
def catS(x y:DV):Option DV:=match x,y with
 | .str i,.str j=>if i.length+j.length<=mostLen then some (.str (i++j))else none
 | _,_=>none
def cmpD(op:CmpOp)(a b:DV):Option Bool:=match op,a,b with
 | .Lt,.int i,.int j=>some (decide (i<j))
 | .LtE,.int i,.int j=>some (decide (i<=j))
 | .Gt,.int i,.int j=>some (decide (j<i))
 | .Eq,a,b=>if a.plain 60&&b.plain 60 then some (deq a b)else none
 | .NotEq,a,b=>if a.plain 60&&b.plain 60 then some (!deq a b)else none
 | .Is,a,.non=>some (isN a)
 | .IsNot,a,.non=>some (!isN a)
 | .In,a,.lst ds=>if a.plain 60&&DV.plains 60 ds then some (ds.any λd=>deq d a)else none
 | .NotIn,a,.lst ds=>if a.plain 60&&DV.plains 60 ds then some (!ds.any λd=>deq d a)else none
 | .In,a,.tup ds=>if a.plain 60&&DV.plains 60 ds then some (ds.any λd=>deq d a)else none
 | .NotIn,a,.tup ds=>if a.plain 60&&DV.plains 60 ds then some (!ds.any λd=>deq d a)else none
 | .In,.str y,.str x=>inS x y
 | .NotIn,.str y,.str x=>(inS x y).map λb=>!b
 | _,_,_=>none
def ints?:List DV->Option (List Int)
 | []=>some []
 | .int i::r=>(ints? r).map (i :: ·)
 | _=>none
def bools?:List DV->Option (List Bool)
 | []=>some []
 | .bl i::r=>(bools? r).map (i :: ·)
 | _=>none
def minI:Int->List Int->Int
 | m,[]=>m
 | m,x::r=>minI (if x<m then x else m) r
def dk(σ:List Int)(k:Int):List Int:=if k∈σ then σ else σ++[k]
def q7a(i:Int):Int:=if i=0 then 0 else(i.natAbs.log2:Int)+1
def lenD:List (DV×Cl)->Option Re
 | [(.lst ds,_)]=>some (.ok (.int ds.length) .strong)
 | [(.tup ds,_)]=>some (.ok (.int ds.length) .strong)
 | [(.scr ns,_)]=>some (.ok (.int ns.length) .strong)
 | [(.str z,_)]=>some (.ok (.int z.length) .strong)
 | _=>none
def minD:List (DV×Cl)->Option Re
 | [(.int i,_),(.int j,_)]=>some (.ok (.int (if j<i then j else i)) .strong)
 | [(.lst ds,c)]=>match ints? ds with
  | some (n::r)=>some (.ok (.int (minI n r)) .strong)
  | _=>none
 | _=>none
def allD:List (DV×Cl)->Option Re
 | [(.lst ds,_)]=>(bools? ds).map λbs=>.ok (.bl (bs.all id)) .strong
 | _=>none
def anyD:List (DV×Cl)->Option Re
 | [(.lst ds,_)]=>(bools? ds).map λbs=>.ok (.bl (bs.any id)) .strong
 | _=>none
def dnum(x:Str):Option Int:=match x.cps.toList with
 | [a]=>if 48<=a/\a<=57 then some ((a - 48:Nat):Int)else none
 | [a,b]=>if 48<=a/\a<=57/\48<=b/\b<=57 then some (((a - 48)*10+(b - 48):Nat):Int)else none
 | _=>none
def intD:List (DV×Cl)->Option Re
 | [(.int i,_)]=>some (.ok (.int i) .strong)
 | [(.bl b,_)]=>some (.ok (.int (if b then 1 else 0)) .strong)
 | [(.str x,_)]=>(dnum x).map λn=>.ok (.int n) .strong
 | _=>none
def strD:List (DV×Cl)->Option Re
 | [(.int i,_)]=>if i.natAbs<2^64 then some (.ok (.str (Str.ofString (toString i))) .strong)else none
 | _=>none
def z1x:List (DV×Cl)->Option Re
 | [(.scr ns,_)]=>some (.ok (.lst (ns.map DV.int)) .fresh)
 | [(.lst ds,c)]=>some (.ok (.lst ds) (Cl.anew c c))
 | [(.tup ds,c)]=>some (.ok (.lst ds) (Cl.anew c c))
 | _=>none
def Z2:List (DV×Cl)->Option Re
 | [(.lst ds,c)]=>some (.ok (.tup ds) c.item)
 | [(.tup ds,c)]=>some (.ok (.tup ds) c)
 | _=>none
def biD(f:Bi)(l:List (DV×Cl)):Option Re:=match f with
 | .len=>lenD l
 | .min=>minD l
 | .int=>intD l
 | .str=>strD l
 | .list=>z1x l
 | .tuple=>Z2 l
 | .all=>allD l
 | .any=>anyD l
def biOk:Bi->Bool
 | .len=>true | .min=>true | .int=>true | .str=>true | .list=>true | .tuple=>true | .all=>true | .any=>true
def mtD(m:Mt)(a:DV):Option Re:=match m,a with
 | .bitLength,.int i=>some (.ok (.int (q7a i)) .strong)
 | _,_=>none
structure Gs where
 dcs:List (Str×List (Str×Option DV)):=[]
 con:List (Str×DV)
 cls:List (Str×List Str)
 dfl:List (Nat×List DV):=[]
 kws:List (Nat×List Str):=[]
 hun:Bool:=false
 fnl:List Str:=[]
 bll:List Str:=[]
 cll:List Str:=[]
def F1(G:Gs)(c c':Str):Bool:=c==c'||((G.cls.lookup c).getD []).contains c'
def fmtD:DV->Option Str
 | .int i=>if i.natAbs<2^64 then some (Str.ofString (toString i))else none
 | .str x=>some x
 | _=>none
def fstG(acc:Str):List (DV×Cl)->Option Str
 | []=>some acc
 | (.str x,_)::r=>if acc.length+x.length<=mostLen then fstG (acc++x) r else none
 | _=>none
def isxD(G:Gs)(d:DV)(t:Str):Option Bool:=match d with
 | .exc c=>if(G.cls.lookup c).isSome then some (F1 G c t)else none
 | _=>none
def tyOf:DV->List Str
 | .non=>["NoneType"]
 | .bl _=>["bool","int"]
 | .int _=>["int"]
 | .str _=>["str"]
 | .tup _=>["tuple"]
 | .lst _=>["list"]
 | .dct _ _=>["dict"]
 | _=>[]
def G0:List Str:=["int","bool","str","list","tuple","dict"]
def isiD(G:Gs)(d:DV)(ts:List Str):Option Bool:=match d with
 | .scr _=>none
 | .exc _=>none
 | .fn _=>none
 | .lam _ _=>none
 | d=>match ts with
  | [t]=>if G0.contains t then some ((tyOf d).contains t)else none
  | [t,u]=>if G0.contains t&&G0.contains u then some ((tyOf d).contains t||(tyOf d).contains u)else none
  | _=>none
def upTo(lo:Int)(n:Nat):List DV:=(List.range n).map λ(i:Nat)=>DV.int (lo+i)
def Z3(i:Int):Bool:=decide (-(2^62)<=i)&&decide (i<2^62)
def L5(y:DV):List DV->Option Nat
 | []=>none
 | d::r=>if deq d y then some 0 else(L5 y r).map (· + 1)
def seqB:DV->Bool
 | .lst _=>true | .tup _=>true | _=>false
def idxD(x y:DV):Option DV:=match x with
 | .lst ds=>if y.plain 60&&DV.plains 60 ds&&decide (ds.length<=mostLen)then(L5 y ds).map λ(j:Nat)=>DV.int (j:Int)else none
 | .tup ds=>if y.plain 60&&DV.plains 60 ds&&decide (ds.length<=mostLen)then(L5 y ds).map λ(j:Nat)=>DV.int (j:Int)else none
 | _=>none
def rngD(l:List (DV×Cl)):Option (List DV):=match l with
 | [(.int j,_)]=>if Z3 j&&decide (j<=mostLen)then some (upTo 0 j.toNat)else none
 | _=>none
def zpD:List DV->List DV->List DV
 | a::r,b::s=>.tup [a,b]::zpD r s
 | _,_=>[]
def Cl.meet:Cl->Cl->Cl
 | .weak,_=>.weak | _,.weak=>.weak | .top,_=>.top | _,.top=>.top | _,_=>.strong
def Q0:DV->Option (Bool×List DV)
 | .lst ds=>some (false,ds)
 | .tup ds=>some (true,ds)
 | _=>none
def zipD(x y:DV)(c c':Cl):Option Re:=match Q0 x,Q0 y with
 | some (_,xs),some (_,ys)=>some (.ok (.lst (zpD xs ys)) (Cl.meet c c'))
 | _,_=>none
def seqD:DV->Option (List DV)
 | .scr ns=>some (ns.map DV.int)
 | .lst ds=>some ds
 | .tup ds=>some ds
 | .str x=>some (x.cps.toList.map λc=>.str ⟨#[c]⟩)
 | _=>none
def N4(δ:List Sv):List Nat->List DV->Option (List Sv)
 | [],[]=>some δ
 | i::is,d::ds=>N4 (δ.set i (.val d)) is ds
 | _,_=>none
def Tg.bind(tg:Tg)(d:DV)(δ:List Sv):Option (List Sv):=match tg with
 | .one i=>some (δ.set i (.val d))
 | .many is=>match d with
  | .tup ds=>N4 δ is ds
  | _=>none
def Sv.plain:Sv->Sv
 | .ot _=>.no
 | .o2 _=>.no
 | s=>s
def u3(fr:List (Option Nat))(δ:List Sv):List Sv:=fr.map λo=>match o with
 | some i=>(δ.getD i .no).plain
 | none=>.no
inductive Rc where
 | skip | item (d:DV)
def A2(g:DV->Option Rc):List DV->Option (List DV)
 | []=>some []
 | d::r=>match g d with
  | none=>none
  | some .skip=>A2 g r
  | some (.item x)=>match A2 g r with
   | none=>none
   | some xs=>some (x::xs)
def L6(g:DV->Option Re):List DV->List DV->Option Re
 | [],done=>some (.ok (.lst done) .fresh)
 | d::r,done=>match g d with
  | none=>none
  | some (.ex c)=>some (.ex c)
  | some (.ok x c)=>if stro x c then L6 g r (done++[x])else none
def K1(r:Option (List DV)):Option Re:=match r with
 | none=>none
 | some xs=>some (.ok (.lst xs) .fresh)
def Rc.of(r:Option Re):Option Rc:=match r with
 | some (.ok d c)=>if stro d c then some (.item d)else none
 | _=>none
def Rc.test(t:Option Rt)(r:Option Rc):Option Rc:=match t with
 | some (.ok true)=>r
 | some (.ok false)=>some .skip
 | _=>none
inductive Ri where
 | ok (ds:List DV) (c:Cl) | ex (c:Str)
def Ri.thn(r:Option Ri)(k:List DV->Cl->Option Re):Option Re:=match r with
 | none=>none
 | some (.ex c)=>some (.ex c)
 | some (.ok ds c)=>k ds c
def Re.thnI(r:Option Re)(k:DV->Cl->Option Ri):Option Ri:=match r with
 | none=>none
 | some (.ex c)=>some (.ex c)
 | some (.ok d c)=>k d c
def y0L(d:DV)(c:Cl):Option Ri:=(seqD d).map λds=>.ok ds c
def imL:DV->Bool
 | .lst ds=>DV.immuts ds
 | _=>false
def G1(F:Nat->List DV->Option Ou)(f:Nat)(l:List (DV×Cl)):Option Re:=match F f (l.map (·.1))with
 | none=>none
 | some (.x c)=>some (.ex c)
 | some (.t (.dct _ ds))=>some (.ok (.tup ds) .strong)
 | some (.t d)=>some (.ok d (if l.all λp=>p.2 == .strong||p.2 == .fresh then(match d with | .lst _=>.fresh | _=>.ft)else .weak))
 | some (.v d fr)=>some (.ok d (if l.all λp=>p.2 == .strong||p.2 == .fresh then(if fr then .fresh else .strong)else if fr&&imL d then .fresh else .weak))
def u6:Nat:=1001
def capD(δ:List Sv):List Nat->Option (List DV)
 | []=>some []
 | i::r=>match δ[i]?,capD δ r with
  | some (.val d),some ds=>if d.nolam then some (d::ds)else none
  | _,_=>none
def Q2(F:Nat->List DV->Option Ou)(m:LamD)(cs:List DV)(l:List (DV×Cl)):Option Re:=if(l.all λp=>p.2 == .strong||p.2 == .fresh)=true then(match F u6 (.lam m cs::l.map (·.1))with
 | some (.v d false)=>some (.ok d .strong)
 | _=>none)else none
def V3(F:Nat->List DV->Option Ou)(f:Nat)(l:List (DV×Cl))(m:DV):Option Re:=if(l.all λp=>p.2 == .strong||p.2 == .fresh)=true then(match F f (l.map (·.1)++[m])with
 | some (.v d false)=>if d.nolam then some (.ok d .strong)else none
 | _=>none)else none
def andD(x:DV)(c:Cl)(r:Option Re):Option Re:=match D2 x with
 | none=>none
 | some true=>r
 | some false=>some (.ok x c)
def orD(x:DV)(c:Cl)(r:Option Re):Option Re:=match D2 x with
 | none=>none
 | some true=>some (.ok x c)
 | some false=>r
def tstD(r:Option Re):Option Rt:=Re.thnT r λx _=>(D2 x).map Rt.ok
def t6(r:Option Re):Option Ri:=Re.thnI r λx c=>y0L x c
mutual
def evE(G:Gs)(F:Nat->List DV->Option Ou):ME->List Sv->Option Re
 | .var i,δ=>match δ[i]? with
  | some (.val d)=>some (.ok d .strong)
  | some (.own d)=>some (.ok d .top)
  | some (.ot d)=>some (.ok (otD d) .weak)
  | some (.o2 d)=>some (.ok d .weak)
  | _=>none
 | .int i,_=>some (.ok (.int i) .strong)
 | .bl i,_=>some (.ok (.bl i) .strong)
 | .str i,_=>some (.ok (.str i) .strong)
 | .non,_=>some (.ok .non .strong)
 | .glb x,_=>(G.con.lookup x).map λd=>.ok d .strong
 | .bin op a b,δ=>Re.thn (evE G F a δ) λx cx=>Re.thn (evE G F b δ) λy cy=>binD op x y cx cy
 | .neg a,δ=>Re.thn (evE G F a δ) λx _=>match x with | .int i=>some (.ok (.int (-i)) .strong) | _=>none
 | .not a,δ=>Re.thn (evE G F a δ) λx _=>(D2 x).map λk=>.ok (.bl (!k)) .strong
 | .cmp op a b,δ=>Re.thn (evE G F a δ) λx _=>Re.thn (evE G F b δ) λy _=>(cmpD op x y).map λk=>.ok (.bl k) .strong
 | .chain op op' a b c,δ=>Re.thn (evE G F a δ) λx _=>Re.thn (evE G F b δ) λy _=>match cmpD op x y with
  | none=>none
  | some false=>some (.ok (.bl false) .strong)
  | some true=>Re.thn (evE G F c δ) λz _=>(cmpD op' y z).map λk=>.ok (.bl k) .strong
 | .and es,δ=>E4 G F es δ
 | .or es,δ=>evOr G F es δ
 | .ite c a b,δ=>Rt.thn (tstD (evE G F c δ)) λk=>if k then evE G F a δ else evE G F b δ
 | .lst es,δ=>Rs.thn (evEs G F es δ) λl=>if l.length<=mostLen then some (.ok (.lst (l.map (·.1))) (if stros l then .fresh else .weak))else none
 | .tup es,δ=>Rs.thn (evEs G F es δ) λl=>if l.length<=mostLen then some (.ok (.tup (l.map (·.1))) (if stros l then .strong else .weak))else none
 | .ix a b,δ=>Re.thn (evE G F a δ) λx cx=>Re.thn (evE G F b δ) λy _=>(ixD x y).map λd=>.ok d cx.item
 | .sl a lo hi,δ=>Re.thn (evE G F a δ) λx cx=>Re.thn (evE G F lo δ) λl _=>match l with
  | .int l=>Re.thn (evE G F hi δ) λh _=>(match h with
   | .int h=>(slD x (some l) (some h)).map λd=>.ok d (slCl x cx)
   | _=>none)
  | _=>none
 | .slf a lo,δ=>Re.thn (evE G F a δ) λx cx=>Re.thn (evE G F lo δ) λl _=>match l with
  | .int l=>(slD x (some l) none).map λd=>.ok d (slCl x cx)
  | _=>none
 | .slt a hi,δ=>Re.thn (evE G F a δ) λx cx=>Re.thn (evE G F hi δ) λh _=>match h with
  | .int h=>(slD x none (some h)).map λd=>.ok d (slCl x cx)
  | _=>none
 | .call f es,δ=>Rs.thn (evEs G F es δ) λl=>G1 F f l
 | .bi f es,δ=>if biOk f then Rs.thn (evEs G F es δ) λl=>biD f l else none
 | .isi a ts,δ=>Re.thn (evE G F a δ) λx _=>(isiD G x ts).map λk=>.ok (.bl k) .strong
 | .isx a t,δ=>Re.thn (evE G F a δ) λx _=>(isxD G x t).map λk=>.ok (.bl k) .strong
 | .meth m a _,δ=>if m=.bitLength then Re.thn (evE G F a δ) λx _=>mtD m x else none
 | .comp elt tg it fr,δ=>Ri.thn (t6 (evE G F it δ)) λds c=>if c=.weak\/mostLen<ds.length then none else K1 (A2 (λd=>(tg.bind d (u3 fr δ)).bind λδ'=>Rc.of (evE G F elt δ')) ds)
 | .compx elt tg it fr,δ=>Ri.thn (t6 (evE G F it δ)) λds c=>if c=.weak\/mostLen<ds.length then none else L6 (λd=>(tg.bind d (u3 fr δ)).bind λδ'=>evE G F elt δ') ds []
 | .compi elt tg it cd fr,δ=>Ri.thn (t6 (evE G F it δ)) λds c=>if c=.weak\/mostLen<ds.length then none else K1 (A2 (λd=>(tg.bind d (u3 fr δ)).bind λδ'=>Rc.test (tstD (evE G F cd δ')) (Rc.of (evE G F elt δ'))) ds)
 | .scat a b,δ=>Re.thn (evE G F a δ) λx _=>Re.thn (evE G F b δ) λy _=>(catS x y).map λd=>.ok d .strong
 | .stf a lo,δ=>Re.thn (evE G F a δ) λx _=>Re.thn (evE G F lo δ) λl _=>(stfD x l).map λd=>.ok d .strong
 | .stt a hi,δ=>Re.thn (evE G F a δ) λx _=>Re.thn (evE G F hi δ) λl _=>(sttD x l).map λd=>.ok d .strong
 | .fnd a b,δ=>Re.thn (evE G F a δ) λx _=>if strB x then Re.thn (evE G F b δ) λy _=>(fndD x y).map λd=>.ok d .strong else none
 | .spl a b,δ=>Re.thn (evE G F a δ) λx _=>if strB x then Re.thn (evE G F b δ) λy _=>(splD x y).map λd=>.ok d .fresh else none
 | .joi a b,δ=>Re.thn (evE G F a δ) λx _=>if strB x then Re.thn (evE G F b δ) λy _=>(joiD x y).map λd=>.ok d .strong else none
 | .fmt a,δ=>Re.thn (evE G F a δ) λd _=>(fmtD d).map λx=>.ok (.str x) .strong
 | .fst es,δ=>match evEs G F es δ with
  | some (.ok l)=>(fstG Str.empty l).map λx=>.ok (.str x) .strong
  | _=>none
 | .idx a b,δ=>Re.thn (evE G F a δ) λx _=>if seqB x then Re.thn (evE G F b δ) λy _=>(idxD x y).map λd=>.ok d .strong else none
 | .rng es,δ=>Rs.thn (evEs G F es δ) λl=>(rngD l).map λds=>.ok (.lst ds) .fresh
 | .zp a b,δ=>Re.thn (evE G F a δ) λx c=>Re.thn (evE G F b δ) λy c'=>zipD x y c c'
 | .callv i xs es,δ=>match δ[i]? with
  | some (.val (.fn x))=>(match xs.lookup x with
   | some f=>Rs.thn (evEs G F es δ) λl=>G1 F f l
   | none=>none)
  | some (.val (.lam m cs))=>if m.fn=G.fnl/\m.bl=G.bll/\m.cl=G.cll/\G.fnl.isEmpty=false then Rs.thn (evEs G F es δ) λl=>Q2 F m cs l else none
  | _=>none
 | .calll f a b N np lb fr,δ=>match capD δ fr with
  | some cs=>if G.fnl.isEmpty then none else Re.thn (evE G F a δ) λx cx=>Re.thn (evE G F b δ) λy cy=>V3 F f [(x,cx),(y,cy)] (.lam ⟨N,np,lb,G.fnl,G.bll,G.cll⟩ cs)
  | none=>none
def evEs(G:Gs)(F:Nat->List DV->Option Ou):List ME->List Sv->Option Rs
 | [],_=>some (.ok [])
 | e::es,δ=>match evE G F e δ with
  | none=>none
  | some (.ex c)=>some (.ex c)
  | some (.ok d c)=>match evEs G F es δ with
   | none=>none
   | some (.ex c)=>some (.ex c)
   | some (.ok l)=>some (.ok ((d,c)::l))
def E4(G:Gs)(F:Nat->List DV->Option Ou):List ME->List Sv->Option Re
 | [],_=>none
 | e::es,δ=>if es.isEmpty then evE G F e δ else Re.thn (evE G F e δ) λx c=>andD x c (E4 G F es δ)
def evOr(G:Gs)(F:Nat->List DV->Option Ou):List ME->List Sv->Option Re
 | [],_=>none
 | e::es,δ=>if es.isEmpty then evE G F e δ else Re.thn (evE G F e δ) λx c=>orD x c (evOr G F es δ)
end
def A9:Nat:=1000
def Re.thnS(δ:List Sv)(r:Option Re)(k:DV->Cl->Option Out):Option Out:=match r with
 | none=>none
 | some (.ex c)=>some (.ex c δ)
 | some (.ok d c)=>k d c
def Rt.thnS(δ:List Sv)(r:Option Rt)(k:Bool->Option Out):Option Out:=match r with
 | none=>none
 | some (.ex c)=>some (.ex c δ)
 | some (.ok b)=>k b
def Ri.thnS(δ:List Sv)(r:Option Ri)(k:List DV->Cl->Option Out):Option Out:=match r with
 | none=>none
 | some (.ex c)=>some (.ex c δ)
 | some (.ok ds c)=>k ds c
def n8(tg:Tg)(body:List Sv->Option Out):List DV->List Sv->Option Out
 | [],δ=>some (.nx δ)
 | d::r,δ=>match tg.bind d δ with
  | none=>none
  | some δ1=>match body δ1 with
   | some (.nx δ2)=>n8 tg body r δ2
   | o=>o
def Z4(test:List Sv->Option Rt)(body:List Sv->Option Out):Nat->List Sv->Option Out
 | 0,_=>none
 | n+1,δ=>match test δ with
  | none=>none
  | some (.ex c)=>some (.ex c δ)
  | some (.ok false)=>some (.nx δ)
  | some (.ok true)=>match body δ with
   | some (.nx δ2)=>Z4 test body n δ2
   | o=>o
def frD:DV->Cl->Bool
 | .lst _,.fresh=>true | .lst _,.top=>true
 | _,_=>false
def noOt(i:Nat)(δ:List Sv):Bool:=(List.range δ.length).all λj=>j==i||(match δ[j]? with | some (.ot _)=>false | some (.o2 _)=>false | some (.od _)=>false | _=>true)
def V4(i:Nat)(δ:List Sv)(d:DV)(c:Cl):Option Out:=match c with
 | .fresh=>some (.nx (δ.set i (.own d)))
 | .ft=>if noOt i δ then some (.nx (δ.set i (.ot d)))else none
 | _=>none
def retD(d:DV)(c:Cl):Out:=match c with
 | .ft=>.rtt d
 | _=>.rt d (frD d c)
def tryD(G:Gs)(c:Str)(ie ic:Nat)(r:Option Out):Option Out:=match r with
 | some (.ex c' δ')=>if(G.cls.lookup c').isSome/\F1 G c' c/\ie<δ'.length/\ie≠ic then some (.nx ((δ'.set ic (.val (.exc c'))).set ie .no))else none
 | o=>o
def z7v(G:Gs)(c cr:Str)(r:Option Out):Option Out:=match r with
 | some (.ex c' δ')=>if(G.cls.lookup c').isSome/\(G.cls.lookup cr).isSome then some (.ex (if F1 G c' c then cr else c') δ')else none
 | o=>o
mutual
def evS(G:Gs)(F:Nat->List DV->Option Ou)(fu:Nat):MS->List Sv->Option Out
 | .set i own e,δ=>Re.thnS δ (evE G F e δ) λd c=>if own then V4 i δ d c else(if stro d c then some (.nx (δ.set i (.val d)))else none)
 | .sett is e,δ=>Re.thnS δ (evE G F e δ) λd c=>if c=.strong\/c=.fresh then(match Q0 d with
  | some (_,ds)=>(N4 δ is ds).map Out.nx
  | none=>none)else none
 | .app i e,δ=>match δ[i]? with
  | some (.own (.lst ds))=>Re.thnS δ (evE G F e δ) λd c=>if stro d c/\ds.length<mostLen then some (.nx (δ.set i (.own (.lst (ds++[d])))))else none
  | _=>none
 | .exp e,δ=>Re.thnS δ (evE G F e δ) λ_ _=>some (.nx δ)
 | .ret e,δ=>Re.thnS δ (evE G F e δ) λd c=>some (retD d c)
 | .iff c a b,δ=>Rt.thnS δ (tstD (evE G F c δ)) λk=>if k then evSs G F fu a δ else evSs G F fu b δ
 | .fo tg it body,δ=>Ri.thnS δ (t6 (evE G F it δ)) λds c=>if c=.strong\/c=.fresh then n8 tg (λδ'=>evSs G F fu body δ') ds δ else none
 | .wh c body,δ=>Z4 (λδ'=>tstD (evE G F c δ')) (λδ'=>evSs G F fu body δ') fu δ
 | .rse c e,δ=>if(G.cls.lookup c).isSome then Re.thnS δ (evE G F e δ) λ_ _=>some (.ex c δ)else none
 | .tryc body c ie ic,δ=>tryD G c ie ic (evSs G F fu body δ)
 | .tryr body c cr _,δ=>if(G.cls.lookup cr).isSome then z7v G c cr (evSs G F fu body δ)else none
 | .frz i,δ=>match δ[i]? with
  | some (.own d)=>some (.nx (δ.set i (.val d)))
  | _=>some (.nx δ)
def evSs(G:Gs)(F:Nat->List DV->Option Ou)(fu:Nat):List MS->List Sv->Option Out
 | [],δ=>some (.nx δ)
 | s::r,δ=>match evS G F fu s δ with
  | some (.nx δ')=>evSs G F fu r δ'
  | o=>o
end
def i4(n:Nat)(ds:List DV):List Sv:=ds.map Sv.val++List.replicate (n - ds.length) .no
def Ou.of(o:Option Out):Option Ou:=match o with
 | some (.nx _)=>some (.v .non false)
 | some (.rt d fr)=>some (.v d fr)
 | some (.rtt d)=>some (.t d)
 | some (.ex c _)=>some (.x c)
 | none=>none
def N5:Nat->DV->List DV->Option (DV×List DV)
 | 0,_,_=>none
 | k+1,d,l=>match d with
  | .tup [.str s,x]=>if decide (s = "end")&&d.plain 60&&DV.plains 59 l then(match l with
   | []=>some (d,[])
   | y::l'=>some (y,l'))else none
  | .tup [.str s,a,b,c,e]=>if decide (s ≠ "end")&&(s.cps.all (· < 0x110000))then(match N5 k c l with
   | none=>none
   | some (n,l1)=>match N5 k e l1 with
    | none=>none
    | some (y,l2)=>some (.tup [.str "ask",a,b,n,y],l2))else none
  | _=>none
def J0(k:Nat)(f:Nat)(ds:List DV):Option Ou:=match ds with
 | [d,.lst l]=>if f=A9 then(N5 k d l).map (λr=>.v r.1 false)else none
 | _=>none
def lamR(ev:ME->List Sv->Option Re)(ds:List DV):Option Ou:=match ds with
 | .lam m cs::args=>if args.length=m.np/\args.length+cs.length=m.N.length/\DV.nolams args=true/\DV.nolams cs=true then(match ev m.body ((args++cs).map Sv.val)with
  | some (.ok d .strong)=>if d.nolam then some (.v d false)else none
  | _=>none)else none
 | _=>none
def run(G:Gs)(T:List FD)(fu:Nat):Nat->Nat->List DV->Option Ou
 | 0,_,_=>none
 | k+1,f,ds=>match T[f]? with
  | none=>if f=u6 then lamR (evE G (run G T fu k)) ds else J0 (k+1) f ds
  | some fd=>if ds.length=fd.np then Ou.of (evSs G (run G T fu k) fu fd.body (i4 fd.n ds))else none
end
section
section
variable {G:Gs} {F:Nat->List DV->Option Ou} {fu:Nat} {δ:List Sv}
theorem o8:Re.thn (some (.ok d c)) k=k d c:=rfl
theorem q5m:Rs.thn (some (.ok l)) k=k l:=rfl
theorem q6g:Ri.thn (some (.ok ds c)) k=k ds c:=rfl
theorem z3k:Ri.thnS δ (some (.ok ds c)) k=k ds c:=rfl
theorem z8B(h:evS G F fu m δ=some (.nx δ')):evSs G F fu (m::r) δ=evSs G F fu r δ':=by
 rw[show evSs G F fu (m::r) δ=(match evS G F fu m δ with | some (.nx δ')=>evSs G F fu r δ' | o=>o)from rfl,h]
theorem z9h(h:evS G F fu m δ=some (.rt d fr)):evSs G F fu (m::r) δ=some (.rt d fr):=by
 rw[show evSs G F fu (m::r) δ=(match evS G F fu m δ with | some (.nx δ')=>evSs G F fu r δ' | o=>o)from rfl,h]
theorem j7(h:T[f]? = some fd)(hl:ds.length=fd.np):run G T fu (k+1) f ds=Ou.of (evSs G (run G T fu k) fu fd.body (i4 fd.n ds)):=by
 show(match T[f]? with | none=>if f=u6 then lamR (evE G (run G T fu k)) ds else J0 (k+1) f ds | some fd=>if ds.length=fd.np then Ou.of (evSs G (run G T fu k) fu fd.body (i4 fd.n ds))else none)=_;rw[h];exact d4 hl
end
end
section
theorem q6M{I:List Sv->Prop}{tg:Tg}{body:List Sv->Option Out}:∀{ds:List DV} {δ:List Sv},(∀d∈ds,∀δ,I δ->∃δ1 δ2,tg.bind d δ=some δ1/\body δ1=some (.nx δ2)/\I δ2)->I δ->∃δ',n8 tg body ds δ=some (.nx δ')/\I δ'
 | [],δ,_,i=>⟨δ,rfl,i⟩
 | d::r,δ,h,i=>by obtain⟨δ1,δ2,e1,e2,i2⟩:=h d (i5 ..) δ i;obtain⟨δ',e3,i3⟩:=q6M (ds:=r) (λd hd=>h d (f9 _ hd)) i2;refine⟨δ',?_,i3⟩;show(match tg.bind d δ with | none=>none | some δ1=>(match body δ1 with | some (.nx δ2)=>n8 tg body r δ2 | o=>o))=_;rw[e1];show(match body δ1 with | some (.nx δ2)=>n8 tg body r δ2 | o=>o)=_;rw[e2];exact e3
theorem q3F:∀{ds:List DV},(∀d∈ds,g d=some (if p d then .item d else .skip))->A2 g ds=some (ds.filter p)
 | [],_=>rfl
 | d::r,h=>by
  have h0:=h d (i5 ..);have ih:=q3F (ds:=r) (λd hd=>h d (f9 _ hd));unfold A2;rw[h0];cases hp:p d with
  | false=>rw[List.filter_cons_of_neg (by rw[hp];exact G5)];exact ih
  | true=>
   rw[List.filter_cons_of_pos hp];show(match A2 g r with | none=>none | some xs=>some (d::xs))=_;rw[ih]
theorem q5D:∀{ds:List DV},(∀d∈ds,g d=some (.item (f d)))->A2 g ds=some (ds.map f)
 | [],_=>rfl
 | d::r,h=>by have h0:=h d (i5 ..);have ih:=q5D (ds:=r) (λd hd=>h d (f9 _ hd));unfold A2;rw[h0];show(match A2 g r with | none=>none | some xs=>some (f d::xs))=_;rw[ih];rfl
end
section
section
variable {G:Gs} {F:Nat->List DV->Option Ou} {fu:Nat} {δ δ':List Sv} {m:MS} {r a b body:List MS} {o:Option Out} {c it:ME} {d:DV} {fr:Bool} {tg:Tg} {ds:List DV} {cl:Cl}
theorem m5(h:evSs G F fu r δ=some (.rt d fr)):Ou.of (evSs G F fu r δ)=some (.v d fr):=by rw[h];rfl
theorem y0C(h:evSs G F fu r δ=some (.nx δ')):Ou.of (evSs G F fu r δ)=some (.v .non false):=by rw[h];rfl
theorem j3(h:evS G F fu m δ=some (.nx δ'))(h2:evSs G F fu r δ'=o):evSs G F fu (m::r) δ=o:=(z8B h).trans h2
theorem j4(h:evS G F fu m δ=some (.rt d fr)):evSs G F fu (m::r) δ=some (.rt d fr):=z9h h
theorem z1p(hc:tstD (evE G F c δ)=some (.ok bb)):evS G F fu (.iff c a b) δ=if bb then evSs G F fu a δ else evSs G F fu b δ:=by
 show Rt.thnS δ (tstD (evE G F c δ)) (λk=>if k then evSs G F fu a δ else evSs G F fu b δ)=_;rw[hc];rfl
theorem q6K(hc:tstD (evE G F c δ)=some (.ok true))(h:evSs G F fu a δ=some (.nx δ'))(h2:evSs G F fu r δ'=o):evSs G F fu (.iff c a b::r) δ=o:=j3 ((z1p hc).trans h) h2
theorem z8Y(hc:tstD (evE G F c δ)=some (.ok false))(h:evSs G F fu b δ=some (.nx δ'))(h2:evSs G F fu r δ'=o):evSs G F fu (.iff c a b::r) δ=o:=j3 ((z1p hc).trans h) h2
theorem C4(hc:tstD (evE G F c δ)=some (.ok true))(h:evSs G F fu a δ=some (.rt d fr)):evSs G F fu (.iff c a b::r) δ=some (.rt d fr):=j4 ((z1p hc).trans h)
theorem g6(hc:tstD (evE G F c δ)=some (.ok false))(h2:evSs G F fu r δ=o):evSs G F fu (.iff c a []::r) δ=o:=z8Y hc rfl h2
theorem Q4(hw:t6 (evE G F it δ)=some (.ok ds cl))(hc:cl=.strong\/cl=.fresh)(h:n8 tg (λδ'=>evSs G F fu body δ') ds δ=some (.nx δ'))(h2:evSs G F fu r δ'=o):evSs G F fu (.fo tg it body::r) δ=o:=by
 refine j3 ?_ h2;show Ri.thnS δ (t6 (evE G F it δ)) (λds c=>if c=.strong\/c=.fresh then n8 tg (λδ'=>evSs G F fu body δ') ds δ else none)=_;rw[hw];show(if cl=.strong\/cl=.fresh then n8 tg (λδ'=>evSs G F fu body δ') ds δ else none)=_;rw[d4 hc];exact h
theorem p7(h:evE G F e δ=some (.ok d cl))(hs:stro d cl=true):evS G F fu (.set i false e) δ=some (.nx (δ.set i (.val d))):=by
 show Re.thnS δ (evE G F e δ) (λd c=>if false then V4 i δ d c else(if stro d c then some (.nx (δ.set i (.val d)))else none))=_;rw[h];show(if stro d cl then some (Out.nx (δ.set i (.val d)))else none)=_;rw[d4 hs]
theorem z4L(h:evE G F e δ=some (.ok d .fresh)):evS G F fu (.set i true e) δ=some (.nx (δ.set i (.own d))):=by
 show Re.thnS δ (evE G F e δ) (λd c=>if true then V4 i δ d c else(if stro d c then some (.nx (δ.set i (.val d)))else none))=_;rw[h];rfl
theorem r6(h:evE G F e δ=some (.ok d cl))(hc:cl ≠ .ft:=by first | decide | (intro z;cases z)):evS G F fu (.ret e) δ=some (.rt d (frD d cl)):=by
 show Re.thnS δ (evE G F e δ) (λd c=>some (retD d c))=_;rw[h];show some (retD d cl)=_;cases cl<;>first | rfl | exact absurd rfl hc
theorem z8r(h:evE G F e δ=some (.ok d cl)):evS G F fu (.exp e) δ=some (.nx δ):=by
 show Re.thnS δ (evE G F e δ) (λ_ _=>some (.nx δ))=_;rw[h];rfl
theorem p8(ha:evEs G F es δ=some (.ok l))(hs:(l.all λp=>p.2 == .strong||p.2 == .fresh)=true)(h:F f (l.map (·.1))=some (.v d fr)):evE G F (.call f es) δ=some (.ok d (if fr then .fresh else .strong)):=by
 show Rs.thn (evEs G F es δ) (λl=>G1 F f l)=_;rw[ha];show G1 F f l=_;unfold G1;rw[h,hs];rfl
theorem i6(h:evE G F e δ=some (.ok (.bl x) cl)):tstD (evE G F e δ)=some (.ok x):=by rw[h];rfl
theorem Q5(h:evE G F e δ=some (.ok (.bl x) cl)):evE G F (.not e) δ=some (.ok (.bl (!x)) .strong):=by
 show Re.thn (evE G F e δ) (λx _=>(D2 x).map λk=>.ok (.bl (!k)) .strong)=_;rw[h];rfl
end
end
section
section
variable {G:Gs} {F:Nat->List DV->Option Ou} {fu:Nat} {δ δ':List Sv} {a b:ME} {x y:DV} {cx cy:Cl}
theorem Z5(ha:evE G F a δ=some (.ok x cx))(hb:evE G F b δ=some (.ok y cy))(h:binD op x y cx cy=r):evE G F (.bin op a b) δ=r:=by
 show Re.thn (evE G F a δ) (λx cx=>Re.thn (evE G F b δ) λy cy=>binD op x y cx cy)=_;rw[ha,o8,hb,o8,h]
theorem G2(ha:evE G F a δ=some (.ok x cx))(hb:evE G F b δ=some (.ok y cy))(h:cmpD op x y=some t):evE G F (.cmp op a b) δ=some (.ok (.bl t) .strong):=by
 show Re.thn (evE G F a δ) (λx _=>Re.thn (evE G F b δ) λy _=>(cmpD op x y).map λk=>.ok (.bl k) .strong)=_;rw[ha,o8,hb,o8,h];rfl
theorem D3(ha:evE G F a δ=some (.ok x cx))(hb:evE G F b δ=some (.ok y cy))(h:ixD x y=some d):evE G F (.ix a b) δ=some (.ok d cx.item):=by
 show Re.thn (evE G F a δ) (λx cx=>Re.thn (evE G F b δ) λy _=>(ixD x y).map λd=>.ok d cx.item)=_;rw[ha,o8,hb,o8,h];rfl
theorem z2s(ha:evE G F a δ=some (.ok (.bl false) cx)):evE G F (.and [a,b]) δ=some (.ok (.bl false) cx):=by
 show Re.thn (evE G F a δ) (λx c=>andD x c (evE G F b δ))=_;rw[ha];rfl
theorem z3m(ha:evE G F a δ=some (.ok (.bl true) cx))(hb:evE G F b δ=o):evE G F (.and [a,b]) δ=o:=by
 show Re.thn (evE G F a δ) (λx c=>andD x c (evE G F b δ))=_;rw[ha];exact hb
theorem q8p(ha:evE G F a δ=some (.ok (.bl false) cx))(hb:evE G F b δ=o):evE G F (.or [a,b]) δ=o:=by
 show Re.thn (evE G F a δ) (λx c=>orD x c (evE G F b δ))=_;rw[ha];exact hb
theorem z6J(ha:evE G F a δ=some (.ok (.bl true) cx)):evE G F (.or [a,b]) δ=some (.ok (.bl true) cx):=by
 show Re.thn (evE G F a δ) (λx c=>orD x c (evE G F b δ))=_;rw[ha];rfl
theorem i8:evEs G F [] δ=some (.ok []):=rfl
theorem d7(ha:evE G F a δ=some (.ok x cx))(h:evEs G F es δ=some (.ok l)):evEs G F (a::es) δ=some (.ok ((x,cx)::l)):=by
 unfold evEs;rw[ha,h]
end
end
section
section
variable {G:Gs} {F:Nat->List DV->Option Ou} {fu:Nat} {δ δ':List Sv} {a b c e:ME} {x y d:DV} {cx cy cl:Cl} {i:Nat} {ds:List DV}
theorem z8P(h:tstD (evE G F c δ)=some (.ok t)):evE G F (.ite c a b) δ=if t then evE G F a δ else evE G F b δ:=by
 show Rt.thn (tstD (evE G F c δ)) (λk=>if k then evE G F a δ else evE G F b δ)=_;rw[h];rfl
theorem z4t(h0:δ[i]? = some (.own (.lst ds)))(h:evE G F e δ=some (.ok d cl))(hs:stro d cl=true)(hl:ds.length<mostLen):evS G F fu (.app i e) δ=some (.nx (δ.set i (.own (.lst (ds++[d]))))):=by
 unfold evS;rw[h0];show Re.thnS δ (evE G F e δ) (λd c=>if stro d c/\ds.length<mostLen then some (.nx (δ.set i (.own (.lst (ds++[d])))))else none)=_;rw[h];exact d4 ⟨hs,hl⟩
end
end
section
section
variable {G:Gs} {F:Nat->List DV->Option Ou} {fu:Nat} {δ δ':List Sv} {a b c e:ME} {x y d:DV} {cx cy cl:Cl} {i:Nat} {ds:List DV}
theorem q4P{I:Nat->List Sv->Prop}{body:List Sv->Option Out}:∀(n:Nat) (lo:Int) {δ:List Sv},(∀j<n,∀δ,I j δ->∃δ2,body (δ.set i (.val (.int (lo+j))))=some (.nx δ2)/\I (j+1) δ2)->I 0 δ->∃δ',n8 (.one i) body (upTo lo n) δ=some (.nx δ')/\I n δ'
 | 0,_,δ,_,i0=>⟨δ,rfl,i0⟩
 | n+1,lo,δ,h,i0=>by
  have e:upTo lo (n+1)=.int lo::upTo (lo+1) n:=by
   unfold upTo;rw[List.range_succ_eq_map,B7,B8]
   congr 1
   ·congr 1;omega
   ·apply w14;intro a _;show DV.int _=DV.int _
    congr 1
    push_cast
    omega
  obtain⟨δ2,h0,i1⟩:=h 0 (by omega) δ i0;rw[show lo+((0:Nat):Int)=lo by omega]at h0;obtain⟨δ',h1,i2⟩:=q4P (I:=λj=>I (j+1)) n (lo+1) (δ:=δ2) (λj hj δ q=>by
   obtain⟨δ3,q1,q2⟩:=h (j+1) (by omega) δ q;refine⟨δ3,?_,q2⟩;rw[show lo+1+((j:Nat):Int)=lo+((j+1:Nat):Int) by push_cast;omega];exact q1) i1
  refine⟨δ',?_,i2⟩;rw[e];show(match body (δ.set i (.val (.int lo)))with | some (.nx δ2)=>n8 (.one i) body (upTo (lo+1) n) δ2 | o=>o)=_;rw[h0];exact h1
theorem z3X(hw:t6 (evE G F it δ)=some (.ok ds cl))(hc:cl ≠ .weak)(hl:ds.length<=mostLen)
  (h:∀d∈ds,∃δ',tg.bind d (u3 fr δ)=some δ'/\tstD (evE G F cd δ')=some (.ok (p d))/\evE G F elt δ'=some (.ok d .strong)):evE G F (.compi elt tg it cd fr) δ=some (.ok (.lst (ds.filter p)) .fresh):=by
 show Ri.thn (t6 (evE G F it δ)) (λds c=>if c=.weak\/mostLen<ds.length then none else K1 (A2 (λd=>(tg.bind d (u3 fr δ)).bind λδ'=>Rc.test (tstD (evE G F cd δ')) (Rc.of (evE G F elt δ'))) ds))=_;rw[hw,q6g,d6 (by rintro(z | z);exact hc z;omega),q3F (p:=p) (λd hd=>?_)]
 ·rfl
 ·obtain⟨δ',e1,e2,e3⟩:=h d hd;rw[e1,P1,e2,e3];cases p d<;>rfl
theorem q6a(hw:t6 (evE G F it δ)=some (.ok ds cl))(hc:cl ≠ .weak)(hl:ds.length<=mostLen)
  (h:∀d∈ds,∃δ',tg.bind d (u3 fr δ)=some δ'/\evE G F elt δ'=some (.ok (f d) .strong)):evE G F (.comp elt tg it fr) δ=some (.ok (.lst (ds.map f)) .fresh):=by
 show Ri.thn (t6 (evE G F it δ)) (λds c=>if c=.weak\/mostLen<ds.length then none else K1 (A2 (λd=>(tg.bind d (u3 fr δ)).bind λδ'=>Rc.of (evE G F elt δ')) ds))=_;rw[hw,q6g,d6 (by rintro(z | z);exact hc z;omega),q5D (f:=f) (λd hd=>?_)]
 ·rfl
 ·obtain⟨δ',e1,e2⟩:=h d hd;rw[e1,P1,e2];rfl
theorem z7A{l:List Int}{j:Nat}(h:j<l.length):ixD (.lst (l.map DV.int)) (.int j)=some (.int l[j]):=by
 have hh:(j:Int)<((l.map DV.int).length:Int):=by rw[g9];exact_mod_cast h
 simp only[ixD,atD,F9,d4 (w18 j),d4 hh,P1,M8,B5,x9 h,w15]
theorem q9c{l:List Int}{i:Int}(h0:0<=i)(h:i<l.length):∃v,ixD (.lst (l.map DV.int)) (.int i)=some (.int v):=by
 obtain⟨j,rfl⟩:=Int.eq_ofNat_of_zero_le h0;exact⟨_,z7A (by omega)⟩
end
end
section
section
variable {G:Gs} {F:Nat->List DV->Option Ou} {fu:Nat} {δ δ':List Sv} {r body:List MS} {it:ME} {cl:Cl} {ds:List DV} {tg:Tg} {o:Option Out}
theorem z9w{J:List Sv->Prop}(hw:t6 (evE G F it δ)=some (.ok ds cl))(hc:cl=.strong\/cl=.fresh)(lp:∃δ',n8 tg (λδ'=>evSs G F fu body δ') ds δ=some (.nx δ')/\J δ')(h2:∀δ',J δ'->evSs G F fu r δ'=o):evSs G F fu (.fo tg it body::r) δ=o:=by
 obtain⟨δ',h,j⟩:=lp;exact Q4 hw hc h (h2 δ' j)
end
end
section
section
variable {G:Gs} {F:Nat->List DV->Option Ou} {fu:Nat} {δ δ':List Sv} {a b:ME} {i j:Int} {cx cy:Cl}
theorem e7:evE G F (.int i) δ=some (.ok (.int i) .strong):=rfl
theorem b9(h:δ[n]? = some (.val d)):evE G F (.var n) δ=some (.ok d .strong):=by unfold evE;rw[h]
theorem z7m(h:δ[n]? = some (.own d)):evE G F (.var n) δ=some (.ok d .top):=by unfold evE;rw[h]
theorem G3(ha:evE G F a δ=some (.ok (.int i) cx))(hb:evE G F b δ=some (.ok (.int j) cy)):evE G F (.bin .Add a b) δ=some (.ok (.int (i+j)) .strong):=Z5 ha hb rfl
theorem z5H(ha:evE G F a δ=some (.ok (.int i) cx))(hb:evE G F b δ=some (.ok (.int j) cy))(h:L4 i j=true):evE G F (.bin .Mult a b) δ=some (.ok (.int (i*j)) .strong):=Z5 ha hb (d4 h)
theorem D4(ha:evE G F a δ=some (.ok (.int i) cx))(hb:evE G F b δ=some (.ok (.int j) cy))(h:0<j):evE G F (.bin .Mod a b) δ=some (.ok (.int (i%j)) .strong):=Z5 ha hb (d4 h)
theorem y0A(ha:evE G F a δ=some (.ok (.int i) cx))(hb:evE G F b δ=some (.ok (.int j) cy))(h:0<j/\j<1073741824):evE G F (.bin .FloorDiv a b) δ=some (.ok (.int (i/j)) .strong):=Z5 ha hb (d4 ⟨h.1,Int.lt_trans h.2 (by decide)⟩)
theorem b_eq(ha:evE G F a δ=some (.ok (.int i) cx))(hb:evE G F b δ=some (.ok (.int j) cy)):evE G F (.cmp .Eq a b) δ=some (.ok (.bl (i==j)) .strong):=G2 ha hb rfl
theorem b_lt(ha:evE G F a δ=some (.ok (.int i) cx))(hb:evE G F b δ=some (.ok (.int j) cy)):evE G F (.cmp .Lt a b) δ=some (.ok (.bl (decide (i<j))) .strong):=G2 ha hb rfl
theorem b_gt(ha:evE G F a δ=some (.ok (.int i) cx))(hb:evE G F b δ=some (.ok (.int j) cy)):evE G F (.cmp .Gt a b) δ=some (.ok (.bl (decide (j<i))) .strong):=G2 ha hb rfl
end
end
section
section
variable {G:Gs} {F:Nat->List DV->Option Ou} {fu:Nat} {δ δ':List Sv} {es:List ME} {l:List (DV×Cl)}
theorem z4P:evE G F (.str x) δ=some (.ok (.str x) .strong):=rfl
end
end
section
end
section
end
section
end
end L2
end
noncomputable section
namespace L2
open PySem PySem.Spec PyProof.Rows
section
section
variable {prog:Program} {w:World} {A:Around} {E:Value->Shared->Prop} {s:Shared}
theorem y1h(hne:l≠it):∀(k i:Nat) (s:Shared) (Q:List Value->Shared->Prop),s.heap.IsListIter it l i->s.heap.IsList l items->i+k=items.size ->
  (∀h',h'.IsListIter it l items.size->Heap.SameBut it s.heap h'->Q (items.toList.drop i) {s with heap:=h'})->wpAny (model prog w) A (draw (.ref it) k) Q E s:=by
 intro k
 induction k with
 | zero=>
  intro i s Q hi hl e h;show wpAny (model prog w) A (pure []) Q E s;have e:i=items.size:=e;subst e;have:=h s.heap hi (Heap.SameBut.refl _ _);rw[List.drop_of_length_le (by rw[F5];exact j1 _)]at this;exact f8 this
 | succ k ih=>
  intro i s Q hi hl e h;have hlt:i<items.size:=by omega
  show wpAny (model prog w) A (pyNext (.ref it) >>= _) Q E s;refine b0 (w28 hi hl (x:=items[i]) (Array.getElem?_eq_getElem hlt) λh1 i1 b1=>?_);refine b0 (B6 (ih (i+1) _ _ i1 (hl.extBut b1.extBut hne) (by omega) λh2 i2 b2=>f8 ?_));have:=h h2 i2 (b1.trans b2);rw[w1K (by rw[F5];exact hlt)]at this;exact this
theorem asgL{x1}(hh:A.handled=none)(hl:s.heap.IsList l items)
  (hn:(assignEach elts env).length=items.size) (hst:(assignEach elts env).findIdx? (·.1)=none)
  (h:∀h',Heap.ExtBut s.heap.objs.size s.heap h'->wpAny (model prog w) A (assignInOrder ((assignEach elts env).map (·.2)) items.toList) Q E {s with heap:=h'}) :
  wpAny (model prog w) A (assign (.Tuple elts x1 pos) env (.ref l)) Q E s:=by
 have hlt:l≠s.heap.objs.size:=(by obtain⟨o,ho,_⟩:=hl;exact w6 (i7 ho));rw[assign_Tuple];refine b0 (P5 ?_);unfold unpack;rw[hn,hst];refine b0 (B6 ?_);unfold unpackItems;refine b0 ?_;unfold notIterableAtAll;refine b0 (wpAny_specialOf hl.typeIs slot_list_iter.lookup (f8 ?_));simp only[w2C,if_false];refine b0 (B6 (P0 hl ?_));refine b0 (B6 (y1h hlt items.size 0 _ _ ⟨_,v9 _ rfl,rfl,rfl⟩ (hl.push _) (Nat.zero_add _) λh1 i1 b1=>?_));rw[w3i,d6 (by rw[F5];exact K0 _)];refine b0 (B6 (w3f hh i1 ((hl.push _).extBut b1.extBut hlt) (Array.getElem?_eq_none (j1 _)) λh2 b2=>?_));simp only[Option.isSome_none,w2C,if_false];exact f8 (h h2 λb o hb e=>b2 b o hb (b1.extBut b o hb (j5 _ e)))
theorem y0r{l:List Int}{i:Nat}(h:i<l.length):l.getD i 0∈l:=by
 rw[U0,x9 h];exact Y3 h
theorem minL(hh:A.handled=none)(hl:s.heap.IsList l vs.toArray)(hi:IntsAre vs ns)(hz:ns≠[])
  (h:∀h' M (t:Tok) tk,(∀b o,s.heap.get? b=some o->h'.get? b=some o)->M∈ns->(∀a∈ns,M<=a)->Q (.int M t) {s with heap:=h',toks:=tk}):wpAny (model prog w) A (call (.builtin "min") [.ref l]) Q E s:=by
 obtain⟨ys,e⟩:=hi.allInts.items;have en:ns=ys.toList.map (·.1):=by rw[←hi.numsOf,←nums_intItems,←e]
 have zy:0<ys.size:=by
  have q:0<ns.length:=List.length_pos_iff.mpr hz
  rwa [en,g9,F5]at q
 rw[e]at hl;refine min_intList hh hl zy λv h1 tk q k=>?_
 obtain⟨t,ev⟩:=intItems_at q;subst ev;obtain⟨g1,g2⟩:=argBest_lt (numAt ys) (ys.size - 1);refine h h1 _ t tk k ?_ λa ha=>?_
 ·rw[en,numAt_eq];exact y0r (by rw[g9,F5];omega)
 ·rw[en]at ha;obtain⟨j,hj,ej⟩:=mem_getD ha;subst ej;rw[g9,F5]at hj;rw[←numAt_eq];exact g2 j (by omega)
end
section
variable {X:Cx} {pos:Pos}
def gSeq(K:PySem.W.Frag)(n:Nat)(t:TGs):TG:=λv σ H Q=>∃a xs,v=.ref a/\(SqL K H a xs\/SqT K H a xs)/\xs.length=n/\t xs σ H Q
theorem z8o(hc:X.calm=true)(h:PGs X es t)(hn:(assignEach es X.env).length=n)(hst:(assignEach es X.env).findIdx? (·.1)=none):PG X (.Tuple es k pos) (gSeq X.K n t):=by
 intro pins s σ H v u Q I r hw;obtain⟨a,xs,e1,hq,hl,hw⟩:=hw;rcases hq with hq | hq
 ·subst e1;cases r;obtain⟨its,rv,pl,hz⟩:=I.list hq;refine asgL (I.ok.hd hc) pl.isList (by rw[hn,u5,←rv.length,hl]) hst λh' hx=>?_
  have I1:Inv X pins σ H {s with heap:=h'}:=I.kept (t':=s.toks) λb o e=>hx b o (w6 (i7 e)) e;exact h pins _ σ H xs _ Q I1 rv hw
 ·exact z4m hc h hn hst pins s σ H v u Q I r ⟨a,xs,e1,hq,hl,hw⟩
theorem z9z:∀{ns:List Int} {us:List Value},Vals (ns.map V.int) us->IntsAre us ns
 | [],us,h=>by cases h;exact .nil
 | n::ns,us,h=>by
  cases h with
  | cons r t=>
   obtain⟨tk,rfl⟩:=r;exact .cons n tk (z9z t)
theorem z0h(hc:X.calm=true):w9 X (.builtin "min") (λxs H Q=>∃(a:Addr) (ns:List Int),xs=[.ref a]/\SqL X.K H a (ns.map V.int)/\ns≠[]/\∀M,M∈ns->(∀x∈ns,M<=x)->Q (.int M) H):=by
 intro pins s σ H xs us Q I r h;obtain⟨a,ns,rfl,hq,hz,q⟩:=h;obtain⟨u,rfl,r1⟩:=F7 r;cases r1;obtain⟨its,rv,pl,_⟩:=I.list hq;exact minL (I.ok.hd hc) pl.isList (z9z rv) hz λh' M t tk k m1 m2=>⟨.int M,H,I.kept k,⟨t,rfl⟩,q M m1 m2⟩
end
end
section
section
variable {prog:Program} {w:World} {A:Around} {E:Value->Shared->Prop} {s:Shared}
theorem q8X{items:Array Value}{bs:List Bool}(e:items.toList=bs.map Value.bool):TruthOf prog w A (λi v=>items[i]? = some v) (λi=>bs.getD i false):=by
 intro i v s Q E hP hQ;have h1:(bs.map Value.bool)[i]? = some v:=by rw[←e,w1X];exact hP
 rw[B5]at h1;obtain⟨b,h2,rfl⟩:=j8.mp h1;have hQ':Q (bs.getD i false) s:=hQ;rw[U0,h2]at hQ';exact PySem.wpAny_truthy_bool hQ'
theorem z0j(bs:List Bool):(List.range bs.length).all (λi=>bs.getD i false)=bs.all id:=by
 rw[J9,o7,o7];constructor
 ·intro h x hx;obtain⟨i,hi,rfl⟩:=w2x hx;have:=h i (F0.mpr hi);rw[U0,x9 hi]at this;exact this
 ·intro h i hi;have hi:=F0.mp hi;rw[U0,x9 hi];exact h _ (Y3 hi)
theorem z2m(bs:List Bool):(List.range bs.length).any (λi=>bs.getD i false)=bs.any id:=by
 rw[J9,w2T,w2T];constructor
 ·rintro⟨i,hi,h⟩
  have hi:=F0.mp hi;rw[U0,x9 hi]at h;exact⟨_,Y3 hi,h⟩
 ·rintro⟨x,hx,h⟩
  obtain⟨i,hi,rfl⟩:=w2x hx;refine⟨i,F0.mpr hi,?_⟩;rw[U0,x9 hi];exact h
theorem allL{l:Addr}{items:Array Value}{bs:List Bool}{Q:Value->Shared->Prop}(hh:A.handled=none)(hl:s.heap.IsList l items)(e:items.toList=bs.map Value.bool)
  (h:∀h' tk,(∀b o,s.heap.get? b=some o->h'.get? b=some o)->Q (.bool (bs.all id)) {s with heap:=h',toks:=tk}):wpAny (model prog w) A (call (.builtin "all") [.ref l]) Q E s:=by
 have hlt:l<s.heap.objs.size:=by obtain⟨_,e,_⟩:=hl;exact i7 e
 have hn:items.size=bs.length:=by rw[←F5,e,g9]
 refine call_all_walk (P0 hl ⟨_,_,_,_,_,_,λi=>bs.getD i false,rfl,Walks.list (A:=A.in1) hh s.heap.objs.size l (w6 hlt) items,⟨⟨_,v9 _ rfl,rfl,rfl⟩,hl.push _⟩,q8X e,λh' tk hk=>?_⟩);rw[hn,z0j];exact h h' tk λb o eb=>hk b o (by simp;exact w6 (i7 eb)) (j5 _ eb)
theorem anyL{l:Addr}{items:Array Value}{bs:List Bool}{Q:Value->Shared->Prop}(hh:A.handled=none)(hl:s.heap.IsList l items)(e:items.toList=bs.map Value.bool)
  (h:∀h' tk,(∀b o,s.heap.get? b=some o->h'.get? b=some o)->Q (.bool (bs.any id)) {s with heap:=h',toks:=tk}):wpAny (model prog w) A (call (.builtin "any") [.ref l]) Q E s:=by
 have hlt:l<s.heap.objs.size:=by obtain⟨_,e,_⟩:=hl;exact i7 e
 have hn:items.size=bs.length:=by rw[←F5,e,g9]
 refine call_any_walk (P0 hl ⟨_,_,_,_,_,_,λi=>bs.getD i false,rfl,Walks.list (A:=A.in1) hh s.heap.objs.size l (w6 hlt) items,⟨⟨_,v9 _ rfl,rfl,rfl⟩,hl.push _⟩,q8X e,λh' tk hk=>?_⟩);rw[hn,z2m];exact h h' tk λb o eb=>hk b o (by simp;exact w6 (i7 eb)) (j5 _ eb)
end
section
variable {X:Cx}
theorem z5u:∀{bs:List Bool} {us:List Value},Vals (bs.map V.bl) us->us=bs.map Value.bool
 | [],_,h=>by cases h;rfl
 | b::bs,_,h=>by
  cases h with
  | cons r t=>
   rw[z5u t];cases(show _=Value.bool b from r);rfl
theorem z0f(hc:X.calm=true):w9 X (.builtin "all") (λxs H Q=>∃(a:Addr) (bs:List Bool),xs=[.ref a]/\SqL X.K H a (bs.map V.bl)/\Q (.bl (bs.all id)) H):=by
 intro pins s σ H xs us Q I r h;obtain⟨a,bs,rfl,hq,q⟩:=h;obtain⟨u,rfl,r1⟩:=F7 r;cases r1;obtain⟨its,rv,pl,_⟩:=I.list hq;exact allL (I.ok.hd hc) pl.isList (by simpa using z5u rv) λh' tk k=>⟨.bl _,H,I.kept k,rfl,q⟩
theorem z1y(hc:X.calm=true):w9 X (.builtin "any") (λxs H Q=>∃(a:Addr) (bs:List Bool),xs=[.ref a]/\SqL X.K H a (bs.map V.bl)/\Q (.bl (bs.any id)) H):=by
 intro pins s σ H xs us Q I r h;obtain⟨a,bs,rfl,hq,q⟩:=h;obtain⟨u,rfl,r1⟩:=F7 r;cases r1;obtain⟨its,rv,pl,_⟩:=I.list hq;exact anyL (I.ok.hd hc) pl.isList (by simpa using z5u rv) λh' tk k=>⟨.bl _,H,I.kept k,rfl,q⟩
end
end
end L2
end
noncomputable section
namespace L2
open PySem
section
structure Sg where
 N:List Str
 sc:List (Str×NameKind)
 fn:List Str
 bl:List Str
 cl:List Str
 top:Bool
 lp:Bool
def z1R:List Str:=["ValueError"]
def p9:Expr->Option Str | .Name x _=>some x | _=>none
def J1:Expr->Option Const | .Constant c _ _=>some c | _=>none
def z1G:Expr->Option (Expr×Operator×Expr) | .BinOp a o b _=>some (a,o,b) | _=>none
def asUn:Expr->Option (UnaryOp×Expr) | .UnaryOp o a _=>some (o,a) | _=>none
def z2Q:Expr->Option (Expr×List CmpOp×List Expr) | .Compare a o b _=>some (a,o,b) | _=>none
def q8T:Expr->Option (BoolOp×List Expr) | .BoolOp o es _=>some (o,es) | _=>none
def asIf:Expr->Option (Expr×Expr×Expr) | .IfExp c a b _=>some (c,a,b) | _=>none
def z1j:Expr->Option (List Expr) | .List es _=>some es | _=>none
def C9:Expr->Option (List Expr) | .Tuple es _ _=>some es | _=>none
def Q6:Expr->Option (Expr×Expr) | .Subscript a b _=>some (a,b) | _=>none
def V5:Expr->Option (Option Expr×Option Expr×Option Expr) | .Slice a b c _=>some (a,b,c) | _=>none
def B4:Expr->Option (Expr×List Expr×List Keyword×Pos) | .Call f as ks p=>some (f,as,ks,p) | _=>none
def N6:Expr->Option (Expr×Str×Pos) | .Attribute a n p=>some (a,n,p) | _=>none
def z0m:Expr->Option (Expr×List Comprehension×Scope) | .ListComp e gs sc _=>some (e,gs,sc) | _=>none
def z1b:Expr->Option (List Expr) | .JoinedStr es _=>some es | _=>none
def z6p:Expr->Option Expr | .FormattedValue v c none _=>if c = -1 then some v else none | _=>none
def i9:Expr->Bool | .Starred _ _=>true | _=>false
def z1e:Expr->Bool | .Slice _ _ _ _=>true | _=>false
def D5:Expr->Bool | .Set _ _ _=>true | _=>false
def Q7:Expr->Bool | .ListComp _ _ _ _=>true | .SetComp _ _ _ _=>true | .DictComp _ _ _ _ _=>true | _=>false
theorem x0(h:p9 e=some x):∃p,e=.Name x p:=by
 cases e<;>simp[p9]at h;subst h;exact⟨_,rfl⟩
theorem V6(h:J1 e=some x):∃k p,e=.Constant x k p:=by
 cases e<;>simp[J1]at h;subst h;exact⟨_,_,rfl⟩
theorem q3I(h:z1G e=some (a,o,b)):∃p,e=.BinOp a o b p:=by
 cases e<;>simp[z1G]at h;obtain⟨rfl,rfl,rfl⟩:=h;exact⟨_,rfl⟩
theorem q6y(h:asUn e=some (o,a)):∃p,e=.UnaryOp o a p:=by
 cases e<;>simp[asUn]at h;obtain⟨rfl,rfl⟩:=h;exact⟨_,rfl⟩
theorem q4x{e a:Expr}{os:List CmpOp}{bs:List Expr}(h:z2Q e=some (a,os,bs)):∃p,e=.Compare a os bs p:=by
 cases e<;>simp[z2Q]at h;obtain⟨rfl,rfl,rfl⟩:=h;exact⟨_,rfl⟩
theorem q3w(h:q8T e=some (o,es)):∃p,e=.BoolOp o es p:=by
 cases e<;>simp[q8T]at h;obtain⟨rfl,rfl⟩:=h;exact⟨_,rfl⟩
theorem z1Z(h:asIf e=some (c,a,b)):∃p,e=.IfExp c a b p:=by
 cases e<;>simp[asIf]at h;obtain⟨rfl,rfl,rfl⟩:=h;exact⟨_,rfl⟩
theorem q7j(h:z1j e=some es):∃p,e=.List es p:=by
 cases e<;>simp[z1j]at h;subst h;exact⟨_,rfl⟩
theorem V7(h:C9 e=some es):∃k p,e=.Tuple es k p:=by
 cases e<;>simp[C9]at h;subst h;exact⟨_,_,rfl⟩
theorem J2(h:Q6 e=some (a,b)):∃p,e=.Subscript a b p:=by
 cases e<;>simp[Q6]at h;obtain⟨rfl,rfl⟩:=h;exact⟨_,rfl⟩
theorem q7e(h:z1b e=some es):∃p,e=.JoinedStr es p:=by
 cases e<;>simp[z1b]at h;subst h;exact⟨_,rfl⟩
theorem q8N(h:z6p e=some v):∃p,e=.FormattedValue v (-1) none p:=by
 unfold z6p at h;split at h
 ·split at h
  ·rename_i q;subst q;cases h;exact⟨_,rfl⟩
  ·cases h
 ·cases h
theorem q2l(h:V5 e=some (a,b,c)):∃p,e=.Slice a b c p:=by
 cases e<;>simp[V5]at h;obtain⟨rfl,rfl,rfl⟩:=h;exact⟨_,rfl⟩
theorem v5(h:B4 e=some (f,as,ks,p)):e=.Call f as ks p:=by
 cases e<;>simp[B4]at h;obtain⟨rfl,rfl,rfl,rfl⟩:=h;rfl
theorem Z6(h:N6 e=some (a,n,p)):e=.Attribute a n p:=by
 cases e<;>simp[N6]at h;obtain⟨rfl,rfl,rfl⟩:=h;rfl
theorem z0i(h:z0m e=some (x,gs,sc)):∃p,e=.ListComp x gs sc p:=by
 cases e<;>simp[z0m]at h;obtain⟨rfl,rfl,rfl⟩:=h;exact⟨_,rfl⟩
def visB(sg:Sg)(x:Str):Bool:=sg.sc.lookup x==some .local||sg.sc.lookup x==some .cell||sg.sc.lookup x==some .free
def gloB(sg:Sg)(x:Str):Bool:=sg.sc.lookup x==some .globalImplicit
def locB(sg:Sg)(x:Str):Bool:=sg.sc.lookup x==some .local||sg.sc.lookup x==some .cell
def V8(sg:Sg)(i:Nat)(x:Str):Bool:=sg.N[i]? == some x&&visB sg x&&x != "__debug__" && x != "__classdict__"
def bltB(sg:Sg)(x:Str)(f:Expr):Bool:=p9 f==some x&&gloB sg x&&sg.bl.contains x
def z8u:Bi->Str
 | .len=>"len" | .min=>"min" | .any=>"any" | .all=>"all" | .int=>"int" | .list=>"list" | .tuple=>"tuple" | .str=>"str"
def z4B:Mt->Str
 | .bitLength=>"bit_length" | .index=>"index" | .get=>"get"
structure CParts where
 elt:Expr
 tg:Expr
 it:Expr
 ifs:List Expr
 sc:Scope
def V9(e:Expr):Option CParts:=match z0m e with
 | some (elt,[⟨tg,it,ifs,a⟩],sc)=>if a=0 then some ⟨elt,tg,it,ifs,sc⟩else none
 | _=>none
theorem q3B(h:V9 e=some c):∃p,e=.ListComp c.elt [⟨c.tg,c.it,c.ifs,0⟩] c.sc p:=by
 unfold V9 at h;split at h
 ·rename_i elt tg it ifs a sc q;split at h
  ·rename_i ha;cases h;subst ha;exact z0i q
  ·cases h
 ·cases h
def A3(sg:Sg)(tn:List Str)(fr:List (Option Nat)):List Str:=tn++(fr.drop tn.length).map λo=>match o with | some i=>sg.N.getD i "" | none=>""
def q8k:Tg->Expr->Option (List Str)
 | .one _,e=>(p9 e).map λx=>[x]
 | .many is,e=>match C9 e with
  | some es=>if es.length=is.length then es.mapM p9 else none
  | none=>none
def tgOk(sg:Sg):Tg->Expr->Bool
 | .one i,e=>match p9 e with
  | some x=>sg.N[i]? == some x&&locB sg x
  | none=>false
 | .many is,e=>match C9 e with
  | some es=>es.length==is.length&&2<=es.length&&(is.zip es).all λp=>match p9 p.2 with
   | some x=>sg.N[p.1]? == some x&&locB sg x
   | none=>false
  | none=>false
def N7:List Str->Bool
 | []=>true
 | x::r=>!r.contains x&&N7 r
def N8:Tg->List Nat
 | .one i=>[i]
 | .many is=>is
def L7(sg:Sg)(N':List Str)(fr:List (Option Nat))(sc:Scope)(tg:Tg):Bool:=(N8 tg).all (λi=>fr[i]? == some none) &&
 sc.kind == .function&&N7 N'&&N7 (sc.names.map (·.1))&&fr.length==N'.length &&
 (fr.zip N').all (λp=>match p.1 with | some i=>sg.N[i]? == some p.2&&sc.names.contains (p.2,.free) | none=>true) &&
 sc.names.all λy=>if y.2 == .free then sg.sc.lookup y.1==some .cell||sg.sc.lookup y.1==some .free else true
def Z7(p:Arguments):Option (List Str):=match p with
 | ⟨[],[a],none,[],[],none,[]⟩=>if(["way","entry","word"]:List Str).contains a.arg then some [a.arg]else none
 | ⟨[],[a,b],none,[],[],none,[]⟩=>if a.arg==("r" : Str)&&b.arg==("c" : Str)then some [a.arg,b.arg]else none
 | _=>none
def z7k:Expr->Option (Arguments×Expr×Scope×Pos) | .Lambda pr bd sc p=>some (pr,bd,sc,p) | _=>none
def z4g(sg:Sg)(N:List Str)(np:Nat)(fr:List Nat)(pr:Arguments)(sc:Scope):Bool:=Z7 pr==some (N.take np)&&sc.kind == .function && !sc.isCoroutine && !sc.isGenerator&&N7 N&&N7 (sc.names.map (·.1))&&decide (N.length=np+fr.length) &&
 (N.take np).all (λx=>sc.names.lookup x==some .local)&&sc.names.all (λy=>y.2 != .cell)&&(N.drop np).all (λx=>sc.names.lookup x==some .free)&&(fr.zip (N.drop np)).all (λp=>sg.N[p.1]? == some p.2) &&
 sc.names.all λy=>if y.2 == .free then sg.sc.lookup y.1==some .cell else true
def z0R:ME->Bool
 | .comp _ _ _ _=>true
 | .compi _ _ _ _ _=>true
 | .compx _ _ _ _=>true
 | _=>false
def isZp:ME->Bool
 | .zp _ _=>true
 | _=>false
mutual
def corE(sg:Sg)(w:Bool):ME->Expr->Bool
 | .var i,e=>match p9 e with | some x=>V8 sg i x | none=>false
 | .int i,e=>J1 e==some (.int i)
 | .bl i,e=>J1 e==some (.bool i)
 | .str x,e=>J1 e==some (.str x)&&decide (x.length<=1000)
 | .non,e=>J1 e==some .none
 | .glb x,e=>p9 e==some x&&gloB sg x&&x != "__debug__"
 | .bin op a b,e=>match z1G e with | some (ea,o,eb)=>o==op&&corE sg false a ea&&corE sg false b eb | none=>false
 | .neg a,e=>match asUn e with | some (o,ea)=>o == .USub&&corE sg false a ea | none=>false
 | .not a,e=>match asUn e with | some (o,ea)=>o == .Not&&corE sg false a ea | none=>false
 | .cmp op a b,e=>match z2Q e with | some (ea,[o],[eb])=>o==op&&corE sg false a ea&&corE sg false b eb && !D5 eb | _=>false
 | .chain op op' a b c,e=>match z2Q e with | some (ea,[o,o'],[eb,ec])=>o==op&&o'==op'&&corE sg false a ea&&corE sg false b eb&&corE sg false c ec && !D5 ec | _=>false
 | .and ms,e=>match q8T e with | some (o,es)=>o == .And&&o5 sg ms es | none=>false
 | .or ms,e=>match q8T e with | some (o,es)=>o == .Or&&o5 sg ms es | none=>false
 | .ite c a b,e=>match asIf e with | some (ec,ea,eb)=>corE sg false c ec&&corE sg false a ea&&corE sg false b eb | none=>false
 | .lst ms,e=>match z1j e with | some es=>o5 sg ms es | none=>false
 | .tup ms,e=>match C9 e with | some es=>o5 sg ms es | none=>false
 | .ix a b,e=>match Q6 e with | some (ea,eb)=>corE sg false a ea&&corE sg false b eb && !z1e eb | none=>false
 | .sl a lo hi,e=>match Q6 e with
  | some (ea,es)=>(match V5 es with | some (some el,some eh,none)=>corE sg false a ea&&corE sg false lo el&&corE sg false hi eh | _=>false)
  | none=>false
 | .slf a lo,e=>match Q6 e with
  | some (ea,es)=>(match V5 es with | some (some el,none,none)=>corE sg false a ea&&corE sg false lo el | _=>false)
  | none=>false
 | .slt a hi,e=>match Q6 e with
  | some (ea,es)=>(match V5 es with | some (none,some eh,none)=>corE sg false a ea&&corE sg false hi eh | _=>false)
  | none=>false
 | .stf a lo,e=>match Q6 e with
  | some (ea,es)=>(match V5 es with | some (some el,none,none)=>corE sg false a ea&&corE sg false lo el | _=>false)
  | none=>false
 | .stt a hi,e=>match Q6 e with
  | some (ea,es)=>(match V5 es with | some (none,some eh,none)=>corE sg false a ea&&corE sg false hi eh | _=>false)
  | none=>false
 | .scat a b,e=>match z1G e with | some (ea,o,eb)=>o == .Add&&corE sg false a ea&&corE sg false b eb | none=>false
 | .call f ms,e=>match B4 e with
  | some (ef,es,[],_)=>(match p9 ef with | some x=>sg.fn[f]? == some x&&gloB sg x&&x != "__debug__" | none=>false) && !es.isEmpty&&o5 sg ms es
  | _=>false
 | .bi f ms,e=>match B4 e with
  | some (ef,es,[],_)=>bltB sg (z8u f) ef && !es.isEmpty&&(match f with
   | _=>o5 sg ms es)
  | _=>false
 | .isi a ts,e=>match B4 e with
  | some (ef,[ea,et],[],_)=>bltB sg "isinstance" ef&&corE sg false a ea && !i9 ea && !i9 et&&(match ts with
   | [t]=>p9 et==some t&&gloB sg t&&sg.bl.contains t&&G0.contains t
   | [t,u]=>(match C9 et with
    | some [e1,e2]=>(p9 e1==some t&&gloB sg t&&sg.bl.contains t&&G0.contains t)&&(p9 e2==some u&&gloB sg u&&sg.bl.contains u&&G0.contains u)
    | _=>false)
   | _=>false)
  | _=>false
 | .isx a t,e=>match B4 e with
  | some (ef,[ea,et],[],_)=>bltB sg "isinstance" ef&&corE sg false a ea && !i9 ea && !i9 et&&p9 et==some t&&gloB sg t&&((sg.cl.contains t&&t != "__debug__")||(sg.bl.contains t&&z1R.contains t))
  | _=>false
 | .meth m a ms,e=>match B4 e with
  | some (ef,[],[],pos)=>(match N6 ef with
   | some (ea,n,apos)=>n==z4B m&&corE sg false a ea&&((p9 ea).isSome||(z1G ea).isSome)&&apos.endLine==pos.line&&ms.isEmpty
   | none=>false)
  | _=>false
 | .comp elt tg it fr,e=>match V9 e with
  | some c=>c.ifs.isEmpty&&(corE sg true it c.it&&(!isZp it||(C9 c.tg).isSome)) && !D5 c.it&&(match q8k tg c.tg with
   | some tn=>L7 sg (A3 sg tn fr) fr c.sc tg&&tgOk ⟨A3 sg tn fr,c.sc.names,sg.fn,sg.bl,sg.cl,false,false⟩ tg c.tg&&corE ⟨A3 sg tn fr,c.sc.names,sg.fn,sg.bl,sg.cl,false,false⟩ false elt c.elt
   | none=>false)
  | none=>false
 | .compx elt tg it fr,e=>match V9 e with
  | some c=>sg.top&&c.ifs.isEmpty&&(corE sg true it c.it&&(!isZp it||(C9 c.tg).isSome)) && !D5 c.it&&(match q8k tg c.tg with
   | some tn=>L7 sg (A3 sg tn fr) fr c.sc tg&&tgOk ⟨A3 sg tn fr,c.sc.names,sg.fn,sg.bl,sg.cl,false,false⟩ tg c.tg&&corE ⟨A3 sg tn fr,c.sc.names,sg.fn,sg.bl,sg.cl,false,false⟩ false elt c.elt
   | none=>false)
  | none=>false
 | .compi elt tg it cd fr,e=>match V9 e with
  | some c=>(corE sg true it c.it&&(!isZp it||(C9 c.tg).isSome)) && !D5 c.it&&(match q8k tg c.tg,c.ifs with
   | some tn,[ec]=>L7 sg (A3 sg tn fr) fr c.sc tg&&tgOk ⟨A3 sg tn fr,c.sc.names,sg.fn,sg.bl,sg.cl,false,false⟩ tg c.tg&&corE ⟨A3 sg tn fr,c.sc.names,sg.fn,sg.bl,sg.cl,false,false⟩ false elt c.elt&&corE ⟨A3 sg tn fr,c.sc.names,sg.fn,sg.bl,sg.cl,false,false⟩ false cd ec
   | _,_=>false)
  | none=>false
 | .idx a b,e=>match B4 e with
  | some (ef,[eb],[],pos)=>(match N6 ef with
   | some (ea,n,apos)=>n == "index" && corE sg false a ea&&(p9 ea).isSome&&apos.endLine==pos.line&&corE sg false b eb && !i9 eb
   | none=>false)
  | _=>false
 | .fnd a b,e=>match B4 e with
  | some (ef,[eb],[],pos)=>(match N6 ef with
   | some (ea,n,apos)=>n == "find" && corE sg false a ea&&((p9 ea).isSome||(J1 ea).isSome)&&apos.endLine==pos.line&&corE sg false b eb && !i9 eb
   | none=>false)
  | _=>false
 | .spl a b,e=>match B4 e with
  | some (ef,[eb],[],pos)=>(match N6 ef with
   | some (ea,n,apos)=>n == "split" && corE sg false a ea&&((p9 ea).isSome||(J1 ea).isSome)&&apos.endLine==pos.line&&corE sg false b eb && !i9 eb
   | none=>false)
  | _=>false
 | .joi a b,e=>match B4 e with
  | some (ef,[eb],[],pos)=>(match N6 ef with
   | some (ea,n,apos)=>n == "join" && corE sg false a ea&&((p9 ea).isSome||(J1 ea).isSome)&&apos.endLine==pos.line&&corE sg false b eb && !i9 eb
   | none=>false)
  | _=>false
 | .fmt a,e=>match z6p e with | some v=>corE sg false a v | none=>false
 | .fst ms,e=>match z1b e with | some es=>decide (2<=es.length)&&o5 sg ms es | none=>false
 | .rng ms,e=>w&&(match B4 e with
  | some (ef,es,[],_)=>bltB sg "range" ef&&o5 sg ms es&&decide (es.length<=1)
  | _=>false)
 | .zp a b,e=>w&&(match B4 e with
  | some (ef,[ea,eb],[],_)=>bltB sg "zip" ef&&corE sg false a ea&&corE sg false b eb && !i9 ea && !i9 eb
  | _=>false)
 | .callv i xs ms,e=>match B4 e with
  | some (ef,es,[],_)=>(match p9 ef with | some x=>V8 sg i x | none=>false)&&(xs.all λp=>sg.fn[p.2]? == some p.1) && !es.isEmpty&&o5 sg ms es
  | _=>false
 | .calll f a b N np lb fr,e=>sg.top&&(match B4 e with
  | some (ef,[ea,eb,el],[],_)=>(match p9 ef,z7k el with
   | some x,some (pr,bd,sc,_)=>sg.fn[f]? == some x&&gloB sg x&&x != "__debug__" && corE sg false a ea && !i9 ea&&corE sg false b eb && !i9 eb&&z4g sg N np fr pr sc&&corE ⟨N,sc.names,sg.fn,sg.bl,sg.cl,false,false⟩ false lb bd
   | _,_=>false)
  | _=>false)
def o5(sg:Sg):List ME->List Expr->Bool
 | [],[]=>true
 | m::ms,e::es=>corE sg false m e && !i9 e&&o5 sg ms es
 | _,_=>false
end
def q3O:ExceptHandler->Option (Option Expr×Option Str×List Stmt) | .ExceptHandler t n b _=>some (t,n,b)
def z6L(v:Expr):Bool:=match C9 v with
 | none=>true
 | some vs=>vs.all (foldedForSure 8)
def E5:Str:="_law_hung"
def hunB(sg:Sg)(i:Nat)(v:Expr):Option Expr:=match B4 v with
 | some (ef,[ea,eo],[],_)=>(match p9 ef,p9 eo with
  | some f,some x=>if f==E5&&gloB sg f&&V8 sg i x && !i9 ea then some ea else none
  | _,_=>none)
 | _=>none
mutual
def corS(sg:Sg):MS->Stmt->Bool
 | .set i _ e,s=>match s with
  | .Assign [t] v pos=>(match t with
   | .Name x pt=>sg.N[i]? == some x&&locB sg x&&corE sg false e v&&(!Q7 v||z0R e)
   | _=>false)
  | _=>false
 | .sett is e,s=>match s with
  | .Assign [t] v _=>tgOk sg (.many is) t&&corE sg false e v&&z6L v && !Q7 v
  | _=>false
 | .app i e,s=>match s with
  | .Expr v _=>(match B4 v with
   | some (ef,[ea],[],pos)=>(match N6 ef with
    | some (o,n,apos)=>n == "append" && (match p9 o with | some x=>V8 sg i x | none=>false)&&corE sg false e ea && !i9 ea&&apos.endLine==pos.line
    | none=>false)
   | _=>false)
  | _=>false
 | .exp e,s=>match s with
  | .Expr v _=>corE sg false e v && !Q7 v
  | _=>false
 | .ret e,s=>match s with
  | .Return (some v) _=>corE sg false e v
  | _=>false
 | .iff c a b,s=>match s with
  | .If ec ea eb _=>corE sg false c ec&&D6 sg a ea&&D6 sg b eb
  | _=>false
 | .fo tg it body,s=>match s with
  | .For t i b [] _=>sg.lp&&tgOk sg tg t&&(corE sg true it i&&(!isZp it||(C9 t).isSome)) && !D5 i&&D6 sg body b
  | _=>false
 | .wh c body,s=>match s with
  | .While t b [] _=>sg.lp&&corE sg false c t&&D6 sg body b
  | _=>false
 | .rse c e,s=>match s with
  | .Raise (some v) none _=>(match B4 v with
   | some (ef,[ea],[],_)=>sg.top&&p9 ef==some c&&gloB sg c&&c != "__debug__" && corE sg false e ea && !i9 ea
   | _=>false)
  | _=>false
 | .tryc body c ie ic,s=>match s with
  | .Try b [h] [] [] _=>sg.top&&D6 ⟨sg.N,sg.sc,sg.fn,sg.bl,sg.cl,false,false⟩ body b&&(match q3O h with
   | some (some t,some n,[.Assign [t2] v2 _])=>p9 t==some c&&gloB sg c&&c != "__debug__" && sg.cl.contains c&&sg.N[ie]? == some n&&sg.sc.lookup n==some .local&&n != "__debug__" && n != "__classdict__" &&
     p9 v2==some n&&(match p9 t2 with | some x=>sg.N[ic]? == some x&&locB sg x | none=>false)&&ie != ic
   | _=>false)
  | _=>false
 | .tryr body c cr msg,s=>match s with
  | .Try b [h] [] [] _=>sg.top&&D6 ⟨sg.N,sg.sc,sg.fn,sg.bl,sg.cl,false,false⟩ body b&&(match q3O h with
   | some (some t,none,[.Raise (some v) (some k) _])=>(match B4 v with
    | some (ef,[ea],[],_)=>p9 t==some c&&gloB sg c&&c != "__debug__" && sg.cl.contains c&&p9 ef==some cr&&gloB sg cr&&cr != "__debug__" && J1 ea==some (.str msg)&&J1 k==some .none
    | _=>false)
   | _=>false)
  | _=>false
 | .frz _,_=>false
def D6(sg:Sg):List MS->List Stmt->Bool
 | [],[]=>true
 | .frz _::ms,ss=>D6 sg ms ss
 | m::ms,s::ss=>corS sg m s&&D6 sg ms ss
 | _,_=>false
end
end
end L2
end
noncomputable section
namespace L2
open PySem PySem.Spec PyProof.Rows
section
def N9(H:Hp)(q:Str)(params:Arguments)(body:Expr)(scope:Scope)(cl:List (Str×Addr))(f:Addr):Prop:=
 ∃c' oc u vs t pm ctv,H f=some (.frz (PySem.W.kla_obj "<lambda>" q params body scope cl pm c' ctv) (.own f))/\H c'=some (.frz oc u)/\oc.data=.fields vs/\vs[1]? = some (.str q t)
theorem N9.mono(e:Same H H')(h:N9 H q params body scope cl f):N9 H' q params body scope cl f:=by
 obtain⟨c',oc,u,vs,t,pm,ctv,e1,e2,r⟩:=h;exact⟨c',oc,u,vs,t,pm,ctv,e _ _ e1,e _ _ e2,r⟩
structure LamScope(N ps:List Str)(sc:Scope)(cl:List (Str×Addr))(l:List Addr):Prop where
 kind:sc.kind=.function
 co:sc.isCoroutine=false
 gen:sc.isGenerator=false
 nd:N.Nodup
 pre:N.take ps.length=ps
 par:∀x∈ps,sc.names.lookup x=some .local
 nocell:∀y∈sc.names,y.2 ≠ .cell
 fre:∀i x,ps.length<=i->N[i]? = some x->sc.names.lookup x=some .free
 has:∀x,sc.names.lookup x=some .free->∃c,cl.lookup x=some c
 inj:∀x y c,cl.lookup x=some c->cl.lookup y=some c->x=y
 mem:∀x c,cl.lookup x=some c->c∈l
def z0T(H:Hp)(N:List Str)(np:Nat)(cl:List (Str×Addr))(l:List Addr)(ws:List V):Prop:=N.length=np+ws.length/\(∀c∈l,∃o v,H c=some (.frz o (.own c))/\o.data=.cell v) /\
 ∀(i:Nat) x v,N[np+i]? = some x->ws[i]? = some v->∃c o u,cl.lookup x=some c/\H c=some (.frz o (.own c))/\o.data=.cell (some u)/\RelV v u
theorem z0T.mono(e:Same H H')(h:z0T H N np cl l ws):z0T H' N np cl l ws:=
 ⟨h.1,λc hc=>by obtain⟨o,v,e1,e2⟩:=h.2.1 c hc;exact⟨o,v,e _ _ e1,e2⟩,λi x v h1 h2=>by obtain⟨c,o,u,e1,e2,r⟩:=h.2.2 i x v h1 h2;exact⟨c,o,u,e1,e _ _ e2,r⟩⟩
def Z8(m:LamD)(params:Arguments)(body:Expr)(scope:Scope):Bool:=Z7 params==some (m.N.take m.np)&&corE ⟨m.N,scope.names,m.fn,m.bl,m.cl,false,false⟩ false m.body body
theorem z2v(h:Z7 params=some ps)(hl:us.length=ps.length):bindArgs (PySem.W.kla_fn "<lambda>" q params b sc cl pm cd ct) ⟨us,[]⟩=pure (ps.zip us):=by
 unfold Z7 at h;split at h
 ·rename_i a;split at h
  ·rename_i z;cases h;obtain⟨u,rfl⟩:∃u,us=[u]:=by
    cases us with
    | nil=>cases hl
    | cons u r=>cases r with
     | nil=>exact⟨u,rfl⟩
     | cons _ _=>cases hl
   obtain⟨x,an,p⟩:=a;have z':x∈(["way","entry","word"]:List Str):=E8.mp z;simp only[d9,K7,K9]at z';rcases z' with z' | z' | z'<;>(subst z';rfl)
  ·cases h
 ·rename_i a b;split at h
  ·rename_i z;cases h;obtain⟨u,v,rfl⟩:∃u v,us=[u,v]:=by
    cases us with
    | nil=>cases hl
    | cons u r=>cases r with
     | nil=>cases hl
     | cons v r=>cases r with
      | nil=>exact⟨u,v,rfl⟩
      | cons _ _=>cases hl
   obtain⟨x,an,p⟩:=a;obtain⟨y,an',p'⟩:=b;rw[b8,d5,d5]at z;obtain⟨z1,z2⟩:=z;have z1:x=("r" : Str):=z1;have z2:y=("c" : Str):=z2;subst z1 z2;rfl
  ·cases h
 ·cases h
end
section
structure Dm where
 K:PySem.W.Frag
 mg:Str->Option Value
abbrev Cx.D(X:Cx):Dm:=⟨X.K,X.mg⟩
def SqS(K:PySem.W.Frag)(H:Hp)(a:Addr)(xs:List V):Prop:=(∃o,H a=some (.frz o (.lst xs))) \/
 ∃(o:Obj) (its:Array Value) (n:Nat),K.lookup a=some o/\o.cls=.type "list" /\ o.dict=none/\o.data=.seq its n/\its.size<=sizeLine/\Vals xs its.toList
theorem SqS.sq{K:PySem.W.Frag}{H:Hp}{a:Addr}{xs:List V}(h:SqS K H a xs):SqL K H a xs:=by
 rcases h with h | h
 ·exact .inl (.inr h)
 ·exact .inr h
theorem SqS.of{K:PySem.W.Frag}{H:Hp}{a:Addr}{xs:List V}(hO:Only H)(h:SqL K H a xs):SqS K H a xs:=by
 rcases h with(h | h) | h
 ·rcases hO a with z | z
  ·rw[h]at z;cases z
  ·rcases z with⟨o,ys,z⟩ | ⟨q,z⟩<;>(rw[h]at z;cases z)
 ·exact .inl h
 ·exact .inr h
theorem Same.sqs{K:PySem.W.Frag}{H H':Hp}{a:Addr}{xs:List V}(e:Same H H')(h:SqS K H a xs):SqS K H' a xs:=by
 rcases h with⟨o,h⟩ | h
 ·exact .inl ⟨o,e _ _ h⟩
 ·exact .inr h
def dKey:Key->DKey
 | .inl i=>.i i
 | .inr x=>.s x
def mutO:HO->Bool
 | .lst _=>true
 | .dK _=>true
 | .dT _=>true
 | _=>false
mutual
def Rep(D:Dm)(H:Hp):DV->V->Prop
 | .non,v=>v=.non
 | .bl b,v=>v=.bl b
 | .int i,v=>v=.int i
 | .str x,v=>v=.str x/\x.length<=sizeLine
 | .tup ds,v=>∃a xs,v=.ref a/\SqT D.K H a xs/\RepL D H ds xs
 | .lst ds,v=>∃a xs,v=.ref a/\H a=some (.lst xs)/\RepL D H ds xs
 | .dct ks vs,v=>(∃a o kvs,v=.ref a/\H a=some (.frz o (.dK kvs))/\kvs.map (λp=>dKey p.1)=ks/\RepL D H vs (kvs.map (·.2)))\/∃a o kvs,v=.ref a/\H a=some (.frz o (.dT kvs))/\kvs.map (λp=>DKey.t p.1)=ks/\RepL D H vs (kvs.map (·.2))
 | .exc c,v=>∃a C,v=.ref a/\D.mg c=some C/\H a=some (excO a C)
 | .fn x,v=>∃f,v=.ref f/\D.mg x=some (.ref f)
 | .lam m cs,v=>∃f pr bd sc q cl l ws,v=.ref f/\N9 H q pr bd sc cl f/\Z8 m pr bd sc=true/\LamScope m.N (m.N.take m.np) sc cl l/\RepL D H cs ws/\z0T H m.N m.np cl l ws
 | .scr ns,v=>∃a,v=.ref a/\SqS D.K H a (ns.map V.int)
def RepL(D:Dm)(H:Hp):List DV->List V->Prop
 | [],xs=>xs=[]
 | d::ds,xs=>∃v vs,xs=v::vs/\Rep D H d v/\RepL D H ds vs
end
theorem Same.tseq{K:PySem.W.Frag}{H H':Hp}{a:Addr}{xs:List V}(e:Same H H')(h:SqT K H a xs):SqT K H' a xs:=by
 rcases h with(h | ⟨o,h⟩) | h
 ·exact .inl (.inl (e _ _ h))
 ·exact .inl (.inr ⟨o,e _ _ h⟩)
 ·exact .inr h
mutual
theorem Rep.mono(e:Same H H'):∀{d:DV} {v:V},Rep D H d v->Rep D H' d v
 | .non,_,h=>by unfold Rep at h ⊢;exact h
 | .bl _,_,h=>by unfold Rep at h ⊢;exact h
 | .int _,_,h=>by unfold Rep at h ⊢;exact h
 | .str _,_,h=>by unfold Rep at h ⊢;exact h
 | .tup ds,_,h=>by unfold Rep at h ⊢;obtain⟨a,xs,e1,e2,e3⟩:=h;exact⟨a,xs,e1,e.tseq e2,RepL.mono e e3⟩
 | .lst ds,_,h=>by unfold Rep at h ⊢;obtain⟨a,xs,e1,e2,e3⟩:=h;exact⟨a,xs,e1,e _ _ e2,RepL.mono e e3⟩
 | .dct _ _,_,h=>by
  unfold Rep at h ⊢;rcases h with⟨a,o,kvs,e1,e2,e3,e4⟩ | ⟨a,o,kvs,e1,e2,e3,e4⟩
  ·exact .inl ⟨a,o,kvs,e1,e _ _ e2,e3,RepL.mono e e4⟩
  ·exact .inr ⟨a,o,kvs,e1,e _ _ e2,e3,RepL.mono e e4⟩
 | .exc C,_,h=>by unfold Rep at h ⊢;obtain⟨a,C,e1,e2,e3⟩:=h;exact⟨a,C,e1,e2,e _ _ e3⟩
 | .fn _,_,h=>by unfold Rep at h ⊢;exact h
 | .lam m cs,_,h=>by unfold Rep at h ⊢;obtain⟨f,pr,bd,sc,q,cl,l,ws,e1,e2,e3,e4,e5,e6⟩:=h;exact⟨f,pr,bd,sc,q,cl,l,ws,e1,e2.mono e,e3,e4,RepL.mono e e5,e6.mono e⟩
 | .scr _,_,h=>by unfold Rep at h ⊢;obtain⟨a,e1,e2⟩:=h;exact⟨a,e1,e.sqs e2⟩
theorem RepL.mono(e:Same H H'):∀{ds:List DV} {xs:List V},RepL D H ds xs->RepL D H' ds xs
 | [],_,h=>by unfold RepL at h ⊢;exact h
 | d::ds,_,h=>by unfold RepL at h ⊢;obtain⟨v,vs,e1,e2,e3⟩:=h;exact⟨v,vs,e1,Rep.mono e e2,RepL.mono e e3⟩
end
section
variable {D:Dm} {H H':Hp} {v:V} {xs ys:List V} {ds es:List DV} {d:DV}
theorem A4:Rep D H (.int i) v↔v=.int i:=by unfold Rep;exact H9
theorem O0:Rep D H (.bl i) v↔v=.bl i:=by unfold Rep;exact H9
theorem y7:Rep D H (.str i) v↔(v=.str i/\i.length<=sizeLine):=by unfold Rep;exact H9
theorem Q8:Rep D H .non v↔v=.non:=by unfold Rep;exact H9
theorem A5:Rep D H (.tup ds) v↔∃a xs,v=.ref a/\SqT D.K H a xs/\RepL D H ds xs:=by unfold Rep;exact H9
theorem x3:Rep D H (.lst ds) v↔∃a xs,v=.ref a/\H a=some (.lst xs)/\RepL D H ds xs:=by unfold Rep;exact H9
theorem q8e:Rep D H (.exc c) v↔∃a C,v=.ref a/\D.mg c=some C/\H a=some (excO a C):=by unfold Rep;exact H9
theorem q4U:Rep D H (.lam m cs) v↔∃f pr bd sc q cl l ws,v=.ref f/\N9 H q pr bd sc cl f/\Z8 m pr bd sc=true/\LamScope m.N (m.N.take m.np) sc cl l/\RepL D H cs ws/\z0T H m.N m.np cl l ws:=by unfold Rep;exact H9
theorem z4H:Rep D H (.fn x) v↔∃f,v=.ref f/\D.mg x=some (.ref f):=by unfold Rep;exact H9
theorem L8:Rep D H (.scr ns) v↔∃a,v=.ref a/\SqS D.K H a (ns.map V.int):=by unfold Rep;exact H9
theorem Z9:Rep D H (.dct ks vs) v↔((∃a o kvs,v=.ref a/\H a=some (.frz o (.dK kvs))/\kvs.map (λp=>dKey p.1)=ks/\RepL D H vs (kvs.map (·.2)))\/∃a o kvs,v=.ref a/\H a=some (.frz o (.dT kvs))/\kvs.map (λp=>DKey.t p.1)=ks/\RepL D H vs (kvs.map (·.2))):=by unfold Rep;exact H9
theorem A6:RepL D H [] xs↔xs=[]:=by unfold RepL;exact H9
theorem t9:RepL D H (d::ds) xs↔∃v vs,xs=v::vs/\Rep D H d v/\RepL D H ds vs:=by
 constructor
 ·intro h;unfold RepL at h;exact h
 ·intro h;unfold RepL;exact h
end
theorem RepL.length:∀{ds:List DV} {xs:List V},RepL D H ds xs->xs.length=ds.length
 | [],_,h=>by rw[A6.mp h];rfl
 | d::ds,_,h=>by obtain⟨v,vs,e1,_,e3⟩:=t9.mp h;rw[e1,y9,y9,RepL.length e3]
theorem RepL.get:∀{ds:List DV} {xs:List V} {i:Nat} {d:DV},RepL D H ds xs->ds[i]? = some d->∃v,xs[i]? = some v/\Rep D H d v
 | [],_,_,_,_,e=>by simp at e
 | d::ds,_,i,d',h,e=>by
  obtain⟨v,vs,e1,e2,e3⟩:=t9.mp h;subst e1;cases i with
  | zero=>simp at e;subst e;exact⟨v,rfl,e2⟩
  | succ i=>simpa using RepL.get (i:=i) e3 (by simpa using e)
theorem RepL.append:∀{ds es:List DV} {xs ys:List V},RepL D H ds xs->RepL D H es ys->RepL D H (ds++es) (xs++ys)
 | [],_,_,_,h,h'=>by rw[A6.mp h];exact h'
 | d::ds,_,_,_,h,h'=>by obtain⟨v,vs,e1,e2,e3⟩:=t9.mp h;subst e1;exact t9.mpr ⟨v,_,rfl,e2,RepL.append e3 h'⟩
theorem RepL.one(h:Rep D H d v):RepL D H [d] [v]:=t9.mpr ⟨v,[],rfl,h,A6.mpr rfl⟩
theorem RepL.take:∀{ds:List DV} {xs:List V} (n:Nat),RepL D H ds xs->RepL D H (ds.take n) (xs.take n)
 | _,_,0,_=>A6.mpr rfl
 | [],_,n+1,h=>by rw[A6.mp h];exact A6.mpr rfl
 | d::ds,_,n+1,h=>by obtain⟨v,vs,e1,e2,e3⟩:=t9.mp h;subst e1;exact t9.mpr ⟨v,_,rfl,e2,RepL.take n e3⟩
theorem RepL.drop:∀{ds:List DV} {xs:List V} (n:Nat),RepL D H ds xs->RepL D H (ds.drop n) (xs.drop n)
 | _,_,0,h=>h
 | [],_,n+1,h=>by rw[A6.mp h];exact A6.mpr rfl
 | d::ds,_,n+1,h=>by obtain⟨v,vs,e1,e2,e3⟩:=t9.mp h;subst e1;exact RepL.drop n e3
theorem RepL.rep(h:RepL D H ds xs):∀k:Nat,RepL D H (List.replicate k ds).flatten (List.replicate k xs).flatten
 | 0=>A6.mpr rfl
 | k+1=>by rw[U2,U2,Y1,Y1];exact h.append (RepL.rep h k)
theorem q2n:∀(ns:List Int),RepL D H (ns.map DV.int) (ns.map V.int)
 | []=>A6.mpr rfl
 | n::ns=>t9.mpr ⟨_,_,rfl,A4.mpr rfl,q2n ns⟩
def wo(O:List Addr)(H:Hp):Hp:=λb=>if b∈O then none else H b
theorem q9I(h:b∈O):wo O H b=none:=d4 h
theorem f7(h:b∉O):wo O H b=H b:=d6 h
theorem x6(h:wo O H b=some o):b∉O/\H b=some o:=by
 by_cases hb:b∈O
 ·rw[q9I hb]at h;cases h
 ·rw[f7 hb]at h;exact⟨hb,h⟩
theorem Same.wo(e:Same H H'):Same (wo O H) (wo O H'):=λb o h=>by
 obtain⟨hb,h⟩:=x6 h;rw[f7 hb];exact e b o h
theorem q9:Same (L2.wo O H) H:=λb o h=>(x6 h).2
theorem v6(h:∀b∈O',b∈O):Same (L2.wo O H) (L2.wo O' H):=λb o e=>by
 obtain⟨hb,e⟩:=x6 e;rw[f7 λz=>hb (h b z)];exact e
theorem v7(h:H p=none):Same H (upd H p o):=λb u q=>by rw[j6 (B3 q h)];exact q
structure Hid(O W:List Addr)(H0 H:Hp):Prop where
 ot:∀a∈O++W,H0 a≠none
 same:Same H0 H
 wl:∀a∈W,∃o,H0 a=some o/\mutO o=true
 dj:∀a∈W,a∉O
 om:∀a∈O,∃o,H0 a=some o/\mutO o=true
def Hdn(O:List Addr)(H:Hp):Prop:=∀a∈O,∃o,H a=some o/\mutO o=true
theorem Hdn.ne(h:Hdn O H):∀a∈O,H a≠none:=λa ha q=>by obtain⟨o,e,_⟩:=h a ha;rw[q]at e;cases e
theorem Hid.omS(h:Hid O W H0 H)(e:Same H0 H'):Hdn O H':=λa ha=>by obtain⟨o,q,m⟩:=h.om a ha;exact⟨o,e _ _ q,m⟩
theorem Hid.omW(h:Hid O W H0 H)(hp:p∈W):Hdn O (upd H0 p x):=λa ha=>by
 obtain⟨o,q,m⟩:=h.om a ha;exact⟨o,by rw[j6 λz=>h.dj p hp (by rw[←z];exact ha)];exact q,m⟩
theorem Hid.hdO(h:Hid O W H0 H):Hdn O H:=h.omS h.same
theorem Hid.hdA(h:Hid O W H0 H):Hdn (O++W) H:=λa ha=>by
 rcases C8.mp ha with z | z
 ·exact h.hdO a z
 ·obtain⟨o,q,m⟩:=h.wl a z;exact⟨o,h.same _ _ q,m⟩
theorem Hid.mono(h:Hid O W H0 H)(e:Same H H'):Hid O W H0 H':=⟨h.ot,h.same.trans e,h.wl,h.dj,h.om⟩
theorem Hid.newOut(h:Hid O W H0 H)(hp:H p=none):p∉O++W:=λz=>h.ot p z (h.same.free hp)
mutual
theorem Rep.immut(hw:∀a∈W,∃o,H a=some o/\mutO o=true):∀{d:DV} {v:V},d.immut=true->Rep D (L2.wo O H) d v->Rep D (L2.wo (O++W) H) d v
 | .non,_,_,h=>by unfold Rep at h ⊢;exact h
 | .bl _,_,_,h=>by unfold Rep at h ⊢;exact h
 | .int _,_,_,h=>by unfold Rep at h ⊢;exact h
 | .str _,_,_,h=>by unfold Rep at h ⊢;exact h
 | .tup ds,_,m,h=>by
  unfold Rep at h ⊢;obtain⟨a,xs,e1,e2,e3⟩:=h;have m':DV.immuts ds=true:=by unfold DV.immut at m;exact m
  refine⟨a,xs,e1,?_,RepL.immut hw m' e3⟩;rcases e2 with(h | ⟨o,h⟩) | h
  ·obtain⟨ha,h⟩:=x6 h;refine .inl (.inl ?_);rw[f7 λz=>?_]
   ·exact h
   ·rcases C8.mp z with z | z
    ·exact ha z
    ·obtain⟨ys,q,m⟩:=hw a z;rw[h]at q;cases q;cases m
  ·obtain⟨ha,h⟩:=x6 h;refine .inl (.inr ⟨o,?_⟩);rw[f7 λz=>?_]
   ·exact h
   ·rcases C8.mp z with z | z
    ·exact ha z
    ·obtain⟨ys,q,m⟩:=hw a z;rw[h]at q;cases q;cases m
  ·exact .inr h
 | .lst ds,_,m,_=>by unfold DV.immut at m;cases m
 | .dct ks vs,_,m,h=>by
  have m':DV.immuts vs=true:=by unfold DV.immut at m;exact m
  have ou:∀{a:Addr} {o:Obj} {u:HO},L2.wo O H a=some (.frz o u)->L2.wo (O++W) H a=some (.frz o u):=λ{a o u} e=>by
   obtain⟨ha,h⟩:=x6 e;rw[f7 λz=>?_]
   ·exact h
   ·rcases C8.mp z with z | z
    ·exact ha z
    ·obtain⟨ys,q,m⟩:=hw a z;rw[h]at q;cases q;cases m
  rcases Z9.mp h with⟨a,o,kvs,e1,e2,e3,e4⟩ | ⟨a,o,kvs,e1,e2,e3,e4⟩
  ·exact Z9.mpr (.inl ⟨a,o,kvs,e1,ou e2,e3,RepL.immut hw m' e4⟩)
  ·exact Z9.mpr (.inr ⟨a,o,kvs,e1,ou e2,e3,RepL.immut hw m' e4⟩)
 | .exc C,_,_,h=>by
  unfold Rep at h ⊢;obtain⟨a,C,e1,e2,e3⟩:=h;obtain⟨ha,h⟩:=x6 e3;refine⟨a,C,e1,e2,?_⟩;rw[f7 λz=>?_]
  ·exact h
  ·rcases C8.mp z with z | z
   ·exact ha z
   ·obtain⟨ys,q,m⟩:=hw a z;rw[h]at q;cases q;cases m
 | .fn _,_,_,h=>by unfold Rep at h ⊢;exact h
 | .lam _ _,_,m,_=>by unfold DV.immut at m;cases m
 | .scr ns,_,_,h=>by
  unfold Rep at h ⊢;obtain⟨a,e1,e2⟩:=h;refine⟨a,e1,?_⟩;rcases e2 with⟨o,h⟩ | h
  ·obtain⟨ha,h⟩:=x6 h;refine .inl ⟨o,?_⟩;rw[f7 λz=>?_]
   ·exact h
   ·rcases C8.mp z with z | z
    ·exact ha z
    ·obtain⟨ys,q,m⟩:=hw a z;rw[h]at q;cases q;cases m
  ·exact .inr h
theorem RepL.immut(hw:∀a∈W,∃o,H a=some o/\mutO o=true):∀{ds:List DV} {xs:List V},DV.immuts ds=true->RepL D (L2.wo O H) ds xs->RepL D (L2.wo (O++W) H) ds xs
 | [],_,_,h=>by unfold RepL at h ⊢;exact h
 | d::ds,_,m,h=>by unfold RepL at h ⊢;obtain⟨v,vs,e1,e2,e3⟩:=h;unfold DV.immuts at m;rw[b8]at m;exact⟨v,vs,e1,Rep.immut hw m.1 e2,RepL.immut hw m.2 e3⟩
end
def RepT(D:Dm)(W:List Addr)(Ht H:Hp)(d:DV)(v:V):Prop:=match d with
 | .lst ds=>∃a xs,v=.ref a/\a∈W/\Ht a=some (.lst xs)/\RepL D H ds xs
 | d=>Rep D H d v
theorem RepT.mono(et:Same Ht Ht')(e:Same H H')(h:RepT D W Ht H d v):RepT D W Ht' H' d v:=by
 cases d with
 | lst ds=>obtain⟨a,xs,e1,e0,e2,e3⟩:=h;exact⟨a,xs,e1,e0,et _ _ e2,e3.mono e⟩
 | non=>exact Rep.mono (D:=D) (d:=.non) (v:=v) e h
 | bl b=>exact Rep.mono (D:=D) (d:=.bl b) (v:=v) e h
 | int b=>exact Rep.mono (D:=D) (d:=.int b) (v:=v) e h
 | str b=>exact Rep.mono (D:=D) (d:=.str b) (v:=v) e h
 | tup b=>exact Rep.mono (D:=D) (d:=.tup b) (v:=v) e h
 | dct b c=>exact Rep.mono (D:=D) (d:=.dct b c) (v:=v) e h
 | exc b=>exact Rep.mono (D:=D) (d:=.exc b) (v:=v) e h
 | fn b=>exact Rep.mono (D:=D) (d:=.fn b) (v:=v) e h
 | lam b c=>exact Rep.mono (D:=D) (d:=.lam b c) (v:=v) e h
 | scr b=>exact Rep.mono (D:=D) (d:=.scr b) (v:=v) e h
theorem RepT.rep(e:Same H Ht)(h:RepT D W Ht H d v):Rep D Ht d v:=by
 cases d with
 | lst ds=>obtain⟨a,xs,e1,e0,e2,e3⟩:=h;exact x3.mpr ⟨a,xs,e1,e2,e3.mono e⟩
 | non=>exact Rep.mono (D:=D) (d:=.non) (v:=v) e h
 | bl b=>exact Rep.mono (D:=D) (d:=.bl b) (v:=v) e h
 | int b=>exact Rep.mono (D:=D) (d:=.int b) (v:=v) e h
 | str b=>exact Rep.mono (D:=D) (d:=.str b) (v:=v) e h
 | tup b=>exact Rep.mono (D:=D) (d:=.tup b) (v:=v) e h
 | dct b c=>exact Rep.mono (D:=D) (d:=.dct b c) (v:=v) e h
 | exc b=>exact Rep.mono (D:=D) (d:=.exc b) (v:=v) e h
 | fn b=>exact Rep.mono (D:=D) (d:=.fn b) (v:=v) e h
 | lam b c=>exact Rep.mono (D:=D) (d:=.lam b c) (v:=v) e h
 | scr b=>exact Rep.mono (D:=D) (d:=.scr b) (v:=v) e h
def Got(D:Dm)(O W:List Addr)(H0 H:Hp)(d:DV)(c:Cl)(v:V):Prop:=match c with
 | .weak=>Rep D (L2.wo O H) d v
 | .top=>RepT D W (L2.wo O H) (L2.wo (O++W) H) d v
 | .strong=>Rep D (L2.wo (O++W) H) d v
 | .fresh=>∃p xs ds,v=.ref p/\d=.lst ds/\H0 p=none/\H p=some (.lst xs)/\RepL D (L2.wo (p::(O++W)) H) ds xs
 | .ft=>∃t ts p xs ds es,v=.ref t/\d=.tup (.lst ds::es)/\SqT D.K (L2.wo (O++W) H) t (.ref p::ts)/\H0 p=none/\H p=some (.lst xs)/\RepL D (L2.wo (p::(O++W)) H) ds xs/\RepL D (L2.wo (p::(O++W)) H) es ts
section
variable {D:Dm} {O W:List Addr} {H0 H H':Hp} {d:DV} {ds:List DV} {c:Cl} {v:V}
theorem Q9:∀b∈O,b∈O++W:=λ_ h=>y0 _ h
theorem Got.mono(h:Got D O W H0 H d c v)(e:Same H H'):Got D O W H0 H' d c v:=by
 cases c with
 | weak=>exact Rep.mono e.wo h
 | top=>exact RepT.mono e.wo e.wo h
 | strong=>exact Rep.mono e.wo h
 | fresh=>
  obtain⟨p,xs,ds,e1,e2,e3,e4,e5⟩:=h;exact⟨p,xs,ds,e1,e2,e3,e _ _ e4,e5.mono e.wo⟩
 | ft=>
  obtain⟨t,ts,p,xs,ds,es,e1,e2,e0,e3,e4,e5,e6⟩:=h;exact⟨t,ts,p,xs,ds,es,e1,e2,e.wo.tseq e0,e3,e _ _ e4,e5.mono e.wo,e6.mono e.wo⟩
theorem Got.since(h:Got D O W H1 H d c v)(e:Same H0 H1):Got D O W H0 H d c v:=by
 cases c with
 | weak=>exact h
 | top=>exact h
 | strong=>exact h
 | fresh=>
  obtain⟨p,xs,ds,e1,e2,e3,e4,e5⟩:=h;exact⟨p,xs,ds,e1,e2,e.free e3,e4,e5⟩
 | ft=>
  obtain⟨t,ts,p,xs,ds,es,e1,e2,e0,e3,e4,e5,e6⟩:=h;exact⟨t,ts,p,xs,ds,es,e1,e2,e0,e.free e3,e4,e5,e6⟩
theorem Got.ft(h:Got D O W H0 H d .ft v)(hd:Hid O W H0 H):Rep D (L2.wo (O++W) H) d v:=by
 obtain⟨t,ts,p,xs,ds,es,e1,e2,e0,e3,e4,e5,e6⟩:=h;have hp:p∉O++W:=λz=>hd.ot p z e3
 have up:Same (L2.wo (p::(O++W)) H) (L2.wo (O++W) H):=v6 λb hb=>f9 _ hb;rw[e2];exact A5.mpr ⟨t,_,e1,e0,t9.mpr ⟨_,_,rfl,x3.mpr ⟨p,xs,rfl,by rw[f7 hp];exact e4,e5.mono up⟩,e6.mono up⟩⟩
theorem Got.strong(h:Got D O W H0 H d .fresh v)(hd:Hid O W H0 H):Rep D (L2.wo (O++W) H) d v:=by
 obtain⟨p,xs,ds,e1,e2,e3,e4,e5⟩:=h;have hp:p∉O++W:=λz=>hd.ot p z e3
 rw[e2];exact x3.mpr ⟨p,xs,e1,by rw[f7 hp];exact e4,e5.mono (v6 λb hb=>f9 _ hb)⟩
theorem Got.weak(h:Got D O W H0 H d c v)(hd:Hid O W H0 H):Rep D (L2.wo O H) d v:=by
 cases c with
 | weak=>exact h
 | top=>exact RepT.rep (v6 Q9) h
 | strong=>exact Rep.mono (v6 Q9) h
 | fresh=>exact Rep.mono (v6 Q9) (h.strong hd)
 | ft=>exact Rep.mono (v6 Q9) (h.ft hd)
theorem Got.all(h:Got D O W H0 H d c v)(hd:Hid O W H0 H):Rep D H d v:=Rep.mono q9 (h.weak hd)
theorem Got.stro(h:Got D O W H0 H d c v)(hd:Hid O W H0 H)(hs:L2.stro d c=true):Rep D (L2.wo (O++W) H) d v:=by
 cases c with
 | strong=>exact h
 | fresh=>exact h.strong hd
 | ft=>exact h.ft hd
 | weak=>exact Rep.immut (λa ha=>by obtain⟨xs,e,m⟩:=hd.wl a ha;exact⟨xs,hd.same _ _ e,m⟩) hs (h.weak hd)
 | top=>exact Rep.immut (λa ha=>by obtain⟨xs,e,m⟩:=hd.wl a ha;exact⟨xs,hd.same _ _ e,m⟩) hs (h.weak hd)
theorem Got.items(h:Got D O W H0 H (.lst ds) c v)(hd:Hid O W H0 H)(hc:c ≠ .weak):∃a xs,v=.ref a/\H a=some (.lst xs)/\RepL D (L2.wo (O++W) H) ds xs:=by
 cases c with
 | weak=>exact absurd rfl hc
 | top=>
  obtain⟨a,xs,e1,e0,e2,e3⟩:=h;exact⟨a,xs,e1,q9 _ _ e2,e3⟩
 | strong=>
  obtain⟨a,xs,e1,e2,e3⟩:=x3.mp h;exact⟨a,xs,e1,q9 _ _ e2,e3⟩
 | fresh=>
  obtain⟨a,xs,e1,e2,e3⟩:=x3.mp (h.strong hd);exact⟨a,xs,e1,q9 _ _ e2,e3⟩
 | ft=>
  obtain⟨a,xs,e1,e2,e3⟩:=x3.mp (h.ft hd);exact⟨a,xs,e1,q9 _ _ e2,e3⟩
theorem Got.itemsT(h:Got D O W H0 H (.tup ds) c v)(hd:Hid O W H0 H)(hc:c ≠ .weak):∃a xs,v=.ref a/\SqT D.K H a xs/\RepL D (L2.wo (O++W) H) ds xs:=by
 cases c with
 | weak=>exact absurd rfl hc
 | top=>
  obtain⟨a,xs,e1,e2,e3⟩:=A5.mp (show Rep D (L2.wo (O++W) H) (.tup ds) v from h);exact⟨a,xs,e1,q9.tseq e2,e3⟩
 | strong=>
  obtain⟨a,xs,e1,e2,e3⟩:=A5.mp h;exact⟨a,xs,e1,q9.tseq e2,e3⟩
 | fresh=>
  obtain⟨p,xs,ds,e1,e2,e3,e4,e5⟩:=h;cases e2
 | ft=>
  obtain⟨a,xs,e1,e2,e3⟩:=A5.mp (h.ft hd);exact⟨a,xs,e1,q9.tseq e2,e3⟩
theorem Got.lst(h:Got D O W H0 H (.lst ds) c v)(hd:Hid O W H0 H):∃a xs,v=.ref a/\H a=some (.lst xs)/\RepL D (L2.wo O H) ds xs:=by
 obtain⟨a,xs,e1,e2,e3⟩:=x3.mp (h.weak hd);exact⟨a,xs,e1,q9 _ _ e2,e3⟩
theorem Got.tup(h:Got D O W H0 H (.tup ds) c v)(hd:Hid O W H0 H):∃a xs,v=.ref a/\SqT D.K H a xs/\RepL D (L2.wo O H) ds xs:=by
 obtain⟨a,xs,e1,e2,e3⟩:=A5.mp (h.weak hd);exact⟨a,xs,e1,q9.tseq e2,e3⟩
def D7(O W:List Addr):Cl->List Addr
 | .weak=>O
 | _=>O++W
theorem Got.lstC(h:Got D O W H0 H (.lst ds) c v)(hd:Hid O W H0 H):∃a xs,v=.ref a/\H a=some (.lst xs)/\RepL D (L2.wo (D7 O W c) H) ds xs:=by
 cases c with
 | weak=>exact h.lst hd
 | top=>exact h.items hd (by intro z;cases z)
 | strong=>exact h.items hd (by intro z;cases z)
 | fresh=>exact h.items hd (by intro z;cases z)
 | ft=>exact h.items hd (by intro z;cases z)
theorem Got.tupC(h:Got D O W H0 H (.tup ds) c v)(hd:Hid O W H0 H):∃a xs,v=.ref a/\SqT D.K H a xs/\RepL D (L2.wo (D7 O W c) H) ds xs:=by
 cases c with
 | weak=>exact h.tup hd
 | top=>exact h.itemsT hd (by intro z;cases z)
 | strong=>exact h.itemsT hd (by intro z;cases z)
 | fresh=>exact h.itemsT hd (by intro z;cases z)
 | ft=>exact h.itemsT hd (by intro z;cases z)
theorem Got.item(h:Rep D (L2.wo (D7 O W c) H) d v):Got D O W H0 H d c.item v:=by
 cases c<;>exact h
theorem x8(hc:c ≠ .fresh:=by intro z;cases z)(hc':c ≠ .ft:=by intro z;cases z):Got D O W H0 H (.int i) c (.int i):=by
 have q:∀H,Rep D H (.int i) (.int i):=λH=>A4.mpr rfl;cases c with
 | fresh=>exact absurd rfl hc
 | ft=>exact absurd rfl hc'
 | weak=>exact q (L2.wo O H)
 | strong=>exact q (L2.wo (O++W) H)
 | top=>exact q (L2.wo (O++W) H)
theorem K2:Got D O W H0 H (.bl i) .strong (.bl i):=(O0.mpr rfl:Rep D (L2.wo (O++W) H) (.bl i) (.bl i))
theorem z5v:Got D O W H0 H .non .strong .non:=(Q8.mpr rfl:Rep D (L2.wo (O++W) H) .non .non)
theorem Got.int(h:Got D O W H0 H (.int i) c v)(hd:Hid O W H0 H):v=.int i:=A4.mp (h.weak hd)
theorem Got.bl(h:Got D O W H0 H (.bl i) c v)(hd:Hid O W H0 H):v=.bl i:=O0.mp (h.weak hd)
theorem Got.str(h:Got D O W H0 H (.str x) c v)(hd:Hid O W H0 H):v=.str x/\x.length<=sizeLine:=y7.mp (h.weak hd)
theorem K3(hd:Hid O W H0 H)(hp:H p=none)(r:RepL D (L2.wo (O++W) H) ds xs):Got D O W H0 (upd H p (.lst xs)) (.lst ds) .fresh (.ref p):=by
 refine⟨p,xs,ds,rfl,rfl,hd.same.free hp,E2,r.mono λb o e=>?_⟩;obtain⟨hb,e⟩:=x6 e;have hbp:b≠p:=B3 e hp;rw[f7 (by intro z;rcases d9.mp z with z | z;exact hbp z;exact hb z),j6 hbp];exact e
theorem q5U(hd:Hid O W H0 H)(hp:H p=none)(r:RepL D (L2.wo O H) ds xs):Got D O W H0 (upd H p (.lst xs)) (.lst ds) .weak (.ref p):=by
 have hpo:p∉O:=λz=>hd.newOut hp (y0 _ z);exact x3.mpr ⟨p,xs,rfl,by rw[f7 hpo];exact E2,r.mono (v7 hp).wo⟩
theorem q4w(hd:Hid O W H0 H)(hp:H p=none)(r:RepL D (L2.wo (D7 O W c) H) ds xs):Got D O W H0 (upd H p (.lst xs)) (.lst ds) (Cl.anew c c) (.ref p):=by
 cases c with
 | weak=>exact q5U hd hp r
 | top=>exact K3 hd hp r
 | strong=>exact K3 hd hp r
 | fresh=>exact K3 hd hp r
 | ft=>exact K3 hd hp r
theorem q3R(hd:Hid O W H0 H)(hp:H p=none)(r:RepL D (L2.wo (O++W) H) ds xs):Got D O W H0 (upd H p (.tup xs)) (.tup ds) .strong (.ref p):=
 A5.mpr ⟨p,xs,rfl,SqT.of (by rw[f7 (hd.newOut hp)];exact E2),r.mono (v7 hp).wo⟩
theorem q5W(hd:Hid O W H0 H)(hp:H p=none)(r:RepL D (L2.wo O H) ds xs):Got D O W H0 (upd H p (.tup xs)) (.tup ds) .weak (.ref p):=
 A5.mpr ⟨p,xs,rfl,SqT.of (by rw[f7 λz=>hd.newOut hp (y0 _ z)];exact E2),r.mono (v7 hp).wo⟩
theorem q9j(hd:Hid O W H0 H)(hp:H p=none)(r:RepL D (L2.wo (D7 O W c) H) ds xs):Got D O W H0 (upd H p (.tup xs)) (.tup ds) c.item (.ref p):=by
 cases c with
 | weak=>exact q5W hd hp r
 | top=>exact q3R hd hp r
 | strong=>exact q3R hd hp r
 | fresh=>exact q3R hd hp r
 | ft=>exact q3R hd hp r
end
inductive GotL (D:Dm) (O W:List Addr) (H0 H:Hp):List (DV×Cl)->List V->Prop where
 | nil:GotL D O W H0 H [] []
 | cons {d:DV} {c:Cl} {v:V} {l:List (DV×Cl)} {vs:List V}:Got D O W H0 H d c v->GotL D O W H0 H l vs->GotL D O W H0 H ((d,c)::l) (v::vs)
section
variable {D:Dm} {O W:List Addr} {H0 H H':Hp}
theorem GotL.repL(h:GotL D O W H0 H l vs)(hd:Hid O W H0 H):RepL D (L2.wo O H) (l.map (·.1)) vs:=by
 induction h with
 | nil=>exact A6.mpr rfl
 | cons h _ ih=>exact t9.mpr ⟨_,_,rfl,h.weak hd,ih⟩
theorem GotL.stros(h:GotL D O W H0 H l vs)(hd:Hid O W H0 H)(hs:L2.stros l=true):RepL D (L2.wo (O++W) H) (l.map (·.1)) vs:=by
 induction h with
 | nil=>exact A6.mpr rfl
 | cons h _ ih=>
  unfold L2.stros at hs;rw[N0,b8]at hs;exact t9.mpr ⟨_,_,rfl,h.stro hd hs.1,ih hs.2⟩
theorem GotL.length(h:GotL D O W H0 H l vs):vs.length=l.length:=by
 induction h with
 | nil=>rfl
 | cons _ _ ih=>rw[y9,y9,ih]
theorem GotL.strong(h:GotL D O W H0 H l vs)(hd:Hid O W H0 H)(hs:(l.all λp=>p.2 == .strong||p.2 == .fresh)=true):RepL D (L2.wo (O++W) H) (l.map (·.1)) vs:=by
 refine h.stros hd ?_;unfold L2.stros;rw[o7]at hs ⊢;intro p hp;have:=hs p hp;unfold L2.stro;cases e:p.2<;>rw[e]at this<;>first | rfl | cases this
theorem GotL.one(h:GotL D O W H0 H [(d,c)] vs):∃v,vs=[v]/\Got D O W H0 H d c v:=by
 cases h with
 | cons h t=>cases t;exact⟨_,rfl,h⟩
theorem GotL.two(h:GotL D O W H0 H [(d,c),(d',c')] vs):∃v v',vs=[v,v']/\Got D O W H0 H d c v/\Got D O W H0 H d' c' v':=by
 cases h with
 | cons h t=>obtain⟨v',e,h'⟩:=t.one;subst e;exact⟨_,_,rfl,h,h'⟩
end
def O2At(H:Hp)(W:List Addr)(p:Addr)(L:List (Addr×List Int)):Prop:=p∈W/\H p=some (.lst (L.map λq=>.ref q.1))/\(∀q∈L,q.1∈W/\H q.1=some (.lst (q.2.map V.int)))/\(p::L.map (·.1)).Nodup
def o2D(L:List (Addr×List Int)):DV:=.lst (L.map λq=>.lst (q.2.map DV.int))
theorem O2At.mono(h:O2At H W p L)(e:Same H H'):O2At H' W p L:=⟨h.1,e _ _ h.2.1,λq hq=>⟨(h.2.2.1 q hq).1,e _ _ (h.2.2.1 q hq).2⟩,h.2.2.2⟩
theorem O2At.sub(h:O2At H W p L)(e:∀a∈p::L.map (·.1),a∈W->a∈W'):O2At H W' p L:=
 ⟨e _ (i5 ..) h.1,h.2.1,λq hq=>⟨e _ (f9 _ (j9.mpr ⟨q,hq,rfl⟩)) (h.2.2.1 q hq).1,(h.2.2.1 q hq).2⟩,h.2.2.2⟩
theorem O2At.dom(h:O2At H W p L)(ha:a∈p::L.map (·.1)):a∈W/\∃xs,H a=some (.lst xs):=by
 rcases d9.mp ha with z | z
 ·rw[z];exact⟨h.1,_,h.2.1⟩
 ·obtain⟨q,hq,rfl⟩:=j9.mp z;exact⟨(h.2.2.1 q hq).1,_,(h.2.2.1 q hq).2⟩
theorem O2At.write(h:O2At H W p L)(ha:a∉p::L.map (·.1)):O2At (upd H a o) W p L:=
 ⟨h.1,by rw[j6 λz=>ha (by rw[←z];exact i5 ..)];exact h.2.1,λq hq=>⟨(h.2.2.1 q hq).1,by rw[j6 λz=>ha (by rw[←z];exact f9 _ (j9.mpr ⟨q,hq,rfl⟩))];exact(h.2.2.1 q hq).2⟩,h.2.2.2⟩
def odD(L:List (Int×Int)):DV:=.dct (L.map λp=>.i p.1) (L.map λp=>.int p.2)
def odK(L:List (Int×Int)):List (Key×V):=L.map λp=>(.inl p.1,.int p.2)
def oeD(L:List ((Int×Int)×Int)):DV:=.dct (L.map λp=>.t [.inl p.1.1,.inl p.1.2]) (L.map λp=>.int p.2)
def oeK(L:List ((Int×Int)×Int)):List (List Key×V):=L.map λp=>([.inl p.1.1,.inl p.1.2],.int p.2)
def dicO:HO->Bool
 | .dK _=>true
 | .dT _=>true
 | _=>false
def OdOk(d:DV)(o:HO):Prop:=(∃L,d=odD L/\o=.dK (odK L))\/∃L,d=.tup [oeD L]/\o=.dT (oeK L)
theorem OdOk.dic(h:OdOk d o):dicO o=true:=by rcases h with⟨L,_,e⟩ | ⟨L,_,e⟩<;>rw[e]<;>rfl
def OdAt(H:Hp)(σ:St)(δ:List Sv)(W:List Addr):Prop:=∀(i:Nat) d,δ[i]? = some (.od d)->(∃a o,OdOk d o/\σ[i]? = some (some (.ref a))/\a∈W/\H a=some o)/\∀(j:Nat) d',δ[j]? = some (.od d')->j=i
theorem OdAt.step(h:OdAt H σ δ W)(hδ:∀(j:Nat) d,δ'[j]? = some (.od d)->δ[j]? = some (.od d)/\σ'[j]? = σ[j]?)(hW:∀a∈W,(∃o,H a=some o/\dicO o=true)->a∈W')(hH:∀a o,a∈W->H a=some o->dicO o=true->H' a=some o):OdAt H' σ' δ' W':=λi d q=>by
 obtain⟨q1,q2⟩:=hδ i d q;obtain⟨⟨a,L,e0,e1,e2,e3⟩,u⟩:=h i d q1;exact⟨⟨a,L,e0,by rw[q2];exact e1,hW a e2 ⟨_,e3,e0.dic⟩,hH a _ e2 e3 e0.dic⟩,λj d' z=>u j d' (hδ j d' z).1⟩
theorem q7t{σ:St}{δ:List Sv}{i:Nat}{X:Sv}(x:Option V)(hX:∀d,X ≠ .od d):∀(j:Nat) d,(δ.set i X)[j]? = some (.od d)->δ[j]? = some (.od d)/\(σ.set i x)[j]? = σ[j]?:=λj d h=>by
 have hj:j≠i:=λz=>by
  subst z;have hl:j<δ.length:=by have:=(u9.mp h).1;rw[A0]at this;exact this
  rw[C7 hl]at h;exact hX d (x4 h)
 rw[d8 (Ne.symm hj)]at h ⊢;exact⟨h,rfl⟩
theorem z0H{σ:St}{δ:List Sv}{i:Nat}{X:Sv}(hX:∀d,X ≠ .od d):∀(j:Nat) d,(δ.set i X)[j]? = some (.od d)->δ[j]? = some (.od d)/\σ[j]? = σ[j]?:=λj d h=>⟨(q7t (σ:=σ) none hX j d h).1,rfl⟩
def itD:Option Addr×List Int->DV
 | (none,ns)=>.int (ns.headD 0)
 | (some _,ns)=>.lst (ns.map DV.int)
def itV:Option Addr×List Int->V
 | (none,ns)=>.int (ns.headD 0)
 | (some p,_)=>.ref p
def ItAt(H:Hp)(M:List (Option Addr×List Int)):Prop:=∀p ns,(some p,ns)∈M->H p=some (.lst (ns.map V.int))
def OtV(D:Dm)(Hs H:Hp)(d:DV)(ts:List V)(L:List Addr):Prop:=(∃p xs ds es us,d=.tup (.lst ds::es)/\ts=.ref p::us/\L=[p]/\H p=some (.lst xs)/\RepL D Hs ds xs/\RepL D Hs es us)\/∃M,d=.dct [] (M.map itD)/\ts=M.map itV/\L=M.filterMap (·.1)/\L.Nodup/\ItAt H M
def OtL(σ:St)(δ:List Sv)(H:Hp)(W L:List Addr):Prop:=∀p∈L,p∈W/\(∃xs,H p=some (.lst xs))/\∀(j:Nat) d',δ[j]? = some (.own d')->σ[j]? ≠ some (some (.ref p))
theorem OtV.mono(h:OtV D Hs H d ts L)(e:Same Hs Hs')(f:∀p∈L,∀xs,H p=some (.lst xs)->H' p=some (.lst xs)):OtV D Hs' H' d ts L:=by
 rcases h with⟨p,xs,ds,es,us,e0,e1,e2,e3,e4,e5⟩ | ⟨M,e0,e1,e2,e3,e4⟩
 ·exact .inl ⟨p,xs,ds,es,us,e0,e1,e2,f p (by rw[e2];exact E9.mpr rfl) _ e3,e4.mono e,e5.mono e⟩
 ·exact .inr ⟨M,e0,e1,e2,e3,λp ns hm=>f p (by rw[e2];exact G6.mpr ⟨_,hm,rfl⟩) _ (e4 p ns hm)⟩
structure RSt(D:Dm)(H:Hp)(σ:St)(δ:List Sv)(O W:List Addr):Prop where
 val:∀(i:Nat) d,δ[i]? = some (.val d)->∃v,σ[i]? = some (some v)/\Rep D (L2.wo (O++W) H) d v
 own:∀(i:Nat) d,δ[i]? = some (.own d)->∃a xs ds,d=.lst ds/\σ[i]? = some (some (.ref a))/\a∈W/\H a=some (.lst xs)/\RepL D (L2.wo (O++W) H) ds xs
 inj:∀(i j:Nat) a d d',δ[i]? = some (.own d)->δ[j]? = some (.own d')->σ[i]? = some (some (.ref a))->σ[j]? = some (some (.ref a))->i=j
 ot:∃P:Nat->List Addr,(∀(i:Nat) d,δ[i]? = some (.ot d)->∃t ts,σ[i]? = some (some (.ref t))/\SqT D.K (L2.wo (O++W) H) t ts/\OtV D (L2.wo (O++W) H) H d ts (P i)/\OtL σ δ H W (P i))/\∀(i j:Nat) d d',δ[i]? = some (.ot d)->δ[j]? = some (.ot d')->i≠j->∀p∈P i,p∉P j
 o2:∀(i:Nat) d,δ[i]? = some (.o2 d)->(∃p L,d=o2D L/\σ[i]? = some (some (.ref p))/\O2At H W p L/\∀(j:Nat) d' a,δ[j]? = some (.own d')->σ[j]? = some (some (.ref a))->a∉p::L.map (·.1))/\(∀(j:Nat) d',δ[j]? = some (.o2 d')->j=i)/\∀(j:Nat) d',δ[j]? ≠ some (.ot d')
 od:OdAt H σ δ W
 len:σ.length=δ.length
 hid:Hid O W H H
theorem RSt.noot(h:∀(i:Nat) d,δ[i]? ≠ some (.ot d)):∃P:Nat->List Addr,(∀(i:Nat) d,δ[i]? = some (.ot d)->∃t ts,σ[i]? = some (some (.ref t))/\SqT D.K (L2.wo (O++W) H) t ts/\OtV D (L2.wo (O++W) H) H d ts (P i)/\OtL σ δ H W (P i))/\∀(i j:Nat) d d',δ[i]? = some (.ot d)->δ[j]? = some (.ot d')->i≠j->∀p∈P i,p∉P j:=⟨λ_=>[],λi d q=>absurd q (h i d),λi j d d' q=>absurd q (h i d)⟩
theorem Hid.later(h:Hid O W H H)(e:Same H H'):Hid O W H' H':=⟨λa ha q=>h.ot a ha (e.free q),Same.refl _,λa ha=>by obtain⟨xs,q,m⟩:=h.wl a ha;exact⟨xs,e _ _ q,m⟩,h.dj,h.omS e⟩
theorem RSt.mono(R:RSt D H σ δ O W)(e:Same H H'):RSt D H' σ δ O W where
 val:=λi d h=>by obtain⟨v,e1,e2⟩:=R.val i d h;exact⟨v,e1,e2.mono e.wo⟩
 own:=λi ds h=>by obtain⟨a,xs,ds,e0,e1,e2,e3,e4⟩:=R.own i ds h;exact⟨a,xs,ds,e0,e1,e2,e _ _ e3,e4.mono e.wo⟩
 inj:=R.inj
 ot:=by obtain⟨P,f,u⟩:=R.ot;refine⟨P,λi d h=>?_,u⟩;obtain⟨t,ts,e1,e2,e3,e4⟩:=f i d h;exact⟨t,ts,e1,e.wo.tseq e2,e3.mono e.wo λp _ xs q=>e _ _ q,λp hp=>⟨(e4 p hp).1,(e4 p hp).2.1.imp λxs q=>e _ _ q,(e4 p hp).2.2⟩⟩
 o2:=λi d h=>by obtain⟨⟨p,L,e0,e1,e2,e3⟩,u,n⟩:=R.o2 i d h;exact⟨⟨p,L,e0,e1,e2.mono e,e3⟩,u,n⟩
 od:=R.od.step (λj d h=>⟨h,rfl⟩) (λ_ h _=>h) (λa kvs _ h _=>e _ _ h)
 len:=R.len
 hid:=R.hid.later e
def Post(D:Dm)(E:St->XK)(σ:St)(O W:List Addr)(H0 H:Hp)(Q:VK):Re->Prop
 | .ok d c=>∀v H',Same H H'->Got D O W H0 H' d c v->Q v H'
 | .ex c=>∀H' C,D.mg c=some C->Same H H'->E σ C none H'
def dE(D:Dm)(E:St->XK)(δ:List Sv)(r:Re):TE:=λσ H Q=>∃O W,RSt D H σ δ O W/\Post D E σ O W H H Q r
def y1z(D:Dm)(E:St->XK)(σ:St)(O W:List Addr)(H0 H:Hp)(Q:List V->Hp->Prop):Rs->Prop
 | .ok l=>∀vs H',Same H H'->GotL D O W H0 H' l vs->Q vs H'
 | .ex c=>∀H' C,D.mg c=some C->Same H H'->E σ C none H'
def dA(D:Dm)(E:St->XK)(δ:List Sv)(r:Rs):TA:=λσ H Q=>∃O W,RSt D H σ δ O W/\y1z D E σ O W H H Q r
def z3t(D:Dm)(E:St->XK)(σ:St)(H:Hp)(Q:Bool->Hp->Prop):Rt->Prop
 | .ok b=>∀H',Same H H'->Q b H'
 | .ex c=>∀H' C,D.mg c=some C->Same H H'->E σ C none H'
def dT(D:Dm)(E:St->XK)(δ:List Sv)(r:Rt):TT:=λσ H Q=>∃O W,RSt D H σ δ O W/\z3t D E σ H Q r
theorem Post.step(h:Post D E σ O W H0 H Q r)(e:Same H H1):Post D E σ O W H0 H1 Q r:=by
 cases r with
 | ok d c=>exact λv H' s g=>h v H' (e.trans s) g
 | ex c=>exact λH' C m s=>h H' C m (e.trans s)
theorem Post.later(h:Post D E σ O W H0 H Q r)(e:Same H H1)(e0:Same H0 H1):Post D E σ O W H1 H1 Q r:=by
 cases r with
 | ok d c=>exact λv H' s g=>h v H' (e.trans s) (g.since e0)
 | ex c=>exact λH' C m s=>h H' C m (e.trans s)
theorem GotL.since(h:GotL D O W H1 H l vs)(e:Same H0 H1):GotL D O W H0 H l vs:=by
 induction h with
 | nil=>exact .nil
 | cons g _ ih=>exact .cons (g.since e) ih
theorem z3t.later(h:z3t D E σ H Q r)(e:Same H H1):z3t D E σ H1 Q r:=by
 cases r with
 | ok b=>exact λH' s=>h H' (e.trans s)
 | ex c=>exact λH' C m s=>h H' C m (e.trans s)
theorem PE.weak(h:PE X e t)(k:∀σ H Q,t' σ H Q->t σ H Q):PE X e t':=λpins s σ H Q I q=>h pins s σ H Q I (k σ H Q q)
theorem PT.weak(h:PT X e t)(k:∀σ H Q,t' σ H Q->t σ H Q):PT X e t':=λpins s σ H Q I q=>h pins s σ H Q I (k σ H Q q)
theorem PW.weak(h:PW X e t)(k:∀σ H Q,t' σ H Q->t σ H Q):PW X e t':=λwhole pins s σ H Q I q=>h whole pins s σ H Q I (k σ H Q q)
theorem PA.weak(h:PA X e t)(k:∀σ H Q,t' σ H Q->t σ H Q):PA X e t':=λpos pins s σ H Q I q=>h pos pins s σ H Q I (k σ H Q q)
theorem PS.weak(h:PS X e t)(k:∀D σ H,t' D σ H->t D σ H):PS X e t':=λpins s σ H D I q=>h pins s σ H D I (k D σ H q)
theorem PSs.weak(h:PSs X e t)(k:∀D σ H,t' D σ H->t D σ H):PSs X e t':=λpins s σ H D I q=>h pins s σ H D I (k D σ H q)
theorem q6u:PW X e (λ_ _ _=>False):=λ_ _ _ _ _ _ _ h=>h.elim
theorem q5S:PT X e (λ_ _ _=>False):=λ_ _ _ _ _ _ h=>h.elim
theorem E6:PE X e (λ_ _ _=>False):=λ_ _ _ _ _ _ h=>h.elim
theorem z5N:PA X e (λ_ _ _=>False):=λ_ _ _ _ _ _ _ h=>h.elim
end
section
theorem L9(h:n<=mostLen):n<=sizeLine:=m7 h (by decide)
section
variable {X:Cx} {E:St->XK} {δ:List Sv} {a b c e:Expr} {es:List Expr}
theorem z4w(hop:∀ta,PE X a ta->PE X e (tUn r ta))(ha:∀q,ra=some q->PE X a (dE X.D E δ q))(h:Re.thn ra k=some re)
  (hr:∀O W H0 H x Q dx cx σ,k dx cx=some re->Hid O W H0 H->Got X.D O W H0 H dx cx x->Post X.D E σ O W H0 H Q re->r x H Q):PE X e (dE X.D E δ re):=by
 cases hra:ra with
 | none=>rw[hra]at h;cases h
 | some q=>
  rw[hra]at h;have A:=ha q hra;cases q with
  | ex c=>
   cases h;exact(hop _ A).weak λσ H Q ⟨O,W,R,p⟩=>⟨O,W,R,p⟩
  | ok dx cx=>
   have h':k dx cx=some re:=h;exact(hop _ A).weak λσ H Q ⟨O,W,R,p⟩=>⟨O,W,R,λx H1 s1 g1=>hr O W H H1 x Q dx cx σ h' (R.hid.mono s1) g1 (p.step s1)⟩
theorem q8K{r:R2}{k:DV->Cl->DV->Cl->Option Re}{ra rb:Option Re}{re:Re}(ha:∀q,ra=some q->PE X a (dE X.D E δ q))(hb:∀q,rb=some q->PE X b (dE X.D E δ q))
  (h:(Re.thn ra λx cx=>Re.thn rb λy cy=>k x cx y cy)=some re)
  (hr:∀O W H0 H x y Q dx cx dy cy σ,k dx cx dy cy=some re->Hid O W H0 H->Got X.D O W H0 H dx cx x->Got X.D O W H0 H dy cy y->Post X.D E σ O W H0 H Q re->r x y H Q) :
  ∃ta tb,PE X a ta/\PE X b tb/\∀σ H Q,dE X.D E δ re σ H Q->tOp r ta tb σ H Q:=by
 cases hra:ra with
 | none=>rw[hra]at h;cases h
 | some q=>
  rw[hra]at h;have A:=ha q hra;cases q with
  | ex c=>
   cases h;exact⟨_,_,A,E6,λσ H Q ⟨O,W,R,p⟩=>⟨O,W,R,p⟩⟩
  | ok dx cx=>
   have h':(Re.thn rb λy cy=>k dx cx y cy)=some re:=h;cases hrb:rb with
   | none=>rw[hrb]at h';cases h'
   | some q=>
    rw[hrb]at h';have B:=hb q hrb;cases q with
    | ex c=>
     cases h';exact⟨_,_,A,B,λσ H Q ⟨O,W,R,p⟩=>⟨O,W,R,λx H1 s1 g1=>⟨O,W,R.mono s1,λH' C m s=>p H' C m (s1.trans s)⟩⟩⟩
    | ok dy cy=>
     have h2:k dx cx dy cy=some re:=h';exact⟨_,_,A,B,λσ H Q ⟨O,W,R,p⟩=>⟨O,W,R,λx H1 s1 g1=>⟨O,W,R.mono s1,λy H2 s2 g2=>
      hr O W H H2 x y Q dx cx dy cy σ h2 ((R.hid.mono s1).mono s2) (g1.mono s2) (g2.since s1) (p.step (s1.trans s2))⟩⟩⟩
theorem q9b{r:R2}{k:DV->Cl->DV->Cl->Option Re}{ra rb:Option Re}{re:Re}(hop:∀ta tb,PE X a ta->PE X b tb->PE X e (tOp r ta tb))(ha:∀q,ra=some q->PE X a (dE X.D E δ q))(hb:∀q,rb=some q->PE X b (dE X.D E δ q))
  (h:(Re.thn ra λx cx=>Re.thn rb λy cy=>k x cx y cy)=some re)
  (hr:∀O W H0 H x y Q dx cx dy cy σ,k dx cx dy cy=some re->Hid O W H0 H->Got X.D O W H0 H dx cx x->Got X.D O W H0 H dy cy y->Post X.D E σ O W H0 H Q re->r x y H Q):PE X e (dE X.D E δ re):=by
 obtain⟨ta,tb,A,B,q⟩:=q8K ha hb h hr;exact(hop _ _ A B).weak q
theorem q4p(hop:∀t,PA X es t->PE X e (tCB r t))(ha:∀q,ra=some q->PA X es (dA X.D E δ q))(h:Rs.thn ra k=some re)
  (hr:∀O W H0 H vs Q l σ,k l=some re->Hid O W H0 H->GotL X.D O W H0 H l vs->Post X.D E σ O W H0 H Q re->r vs H Q):PE X e (dE X.D E δ re):=by
 cases hra:ra with
 | none=>rw[hra]at h;cases h
 | some q=>
  rw[hra]at h;have A:=ha q hra;cases q with
  | ex c=>
   cases h;exact(hop _ A).weak λσ H Q ⟨O,W,R,p⟩=>⟨O,W,R,p⟩
  | ok l=>
   have h':k l=some re:=h;exact(hop _ A).weak λσ H Q ⟨O,W,R,p⟩=>⟨O,W,R,λvs H1 s1 g1=>hr O W H H1 vs Q l σ h' (R.hid.mono s1) g1 (p.step s1)⟩
end
theorem q7O:∀{L:List (Addr×List Int)},(∀q∈L,H q.1=some (.lst (q.2.map V.int)))->RepL D H (L.map λq=>.lst (q.2.map DV.int)) (L.map λq=>.ref q.1)
 | [],_=>A6.mpr rfl
 | q::L,h=>t9.mpr ⟨_,_,rfl,x3.mpr ⟨q.1,_,rfl,h q (i5 ..),q2n _⟩,q7O λq' hq=>h q' (f9 _ hq)⟩
theorem q5Q:∀{M:List (Option Addr×List Int)},ItAt H M->RepL D H (M.map itD) (M.map itV)
 | [],_=>A6.mpr rfl
 | (none,ns)::M,h=>t9.mpr ⟨_,_,rfl,A4.mpr rfl,q5Q λp ns hm=>h p ns (f9 _ hm)⟩
 | (some q,ns)::M,h=>t9.mpr ⟨_,_,rfl,x3.mpr ⟨q,_,rfl,h q ns (i5 ..),q2n _⟩,q5Q λp ns hm=>h p ns (f9 _ hm)⟩
section
variable {X:Cx} {E:St->XK} {δ:List Sv} {pos:Pos}
theorem z5y{i:Nat}{x:Str}{r:Re}(hN:X.N[i]? = some x)(hv:Vis X.env.scope x)(hd:(x==("__debug__" : Str))=false)(hcd:(x==("__classdict__" : Str))=false)
  (h:(match δ[i]? with | some (.val d)=>some (Re.ok d .strong) | some (.own d)=>some (.ok d .top) | some (.ot d)=>some (.ok (otD d) .weak) | some (.o2 d)=>some (.ok d .weak) | _=>none)=some r):PE X (.Name x pos) (dE X.D E δ r):=
 (Y7 hN hv hd hcd).weak λσ H Q ⟨O,W,R,p⟩=>by
  split at h
  ·rename_i d q;cases h;obtain⟨v,e1,e2⟩:=R.val i d q;exact⟨v,e1,p v H (Same.refl H) e2⟩
  ·rename_i d q;cases h;obtain⟨a,xs,ds,e0,e1,e2,e3,e4⟩:=R.own i d q;subst e0;refine⟨.ref a,e1,p _ H (Same.refl H) ⟨a,xs,rfl,e2,?_,e4⟩⟩;rw[f7 (R.hid.dj a e2)];exact e3
  ·rename_i d q;cases h;obtain⟨P,f,_⟩:=R.ot;obtain⟨t,ts,e1,e2,e3,e4⟩:=f i d q;have up:Same (L2.wo (O++W) H) (L2.wo O H):=v6 Q9;refine⟨.ref t,e1,p _ H (Same.refl H) ?_⟩;rcases e3 with⟨p1,xs,ds,es,us,f0,f1,f2,f3,f4,f5⟩ | ⟨M,f0,f1,f2,f3,f4⟩
   ·rw[f2]at e4;subst f0 f1;exact(A5.mpr ⟨t,_,rfl,up.tseq e2,t9.mpr ⟨_,_,rfl,x3.mpr ⟨p1,xs,rfl,by rw[f7 (R.hid.dj p1 (e4 p1 (E9.mpr rfl)).1)];exact f3,f4.mono up⟩,f5.mono up⟩⟩:Rep X.D (L2.wo O H) (.tup (.lst ds::es)) (.ref t))
   ·rw[f2]at e4;subst f0 f1;exact(A5.mpr ⟨t,_,rfl,up.tseq e2,q5Q λp ns hm=>by rw[f7 (R.hid.dj p (e4 p (G6.mpr ⟨_,hm,rfl⟩)).1)];exact f4 p ns hm⟩:Rep X.D (L2.wo O H) (.tup (M.map itD)) (.ref t))
  ·rename_i d q;cases h;obtain⟨⟨a,L,e0,e1,e2,_⟩,_,_⟩:=R.o2 i d q;subst e0;refine⟨.ref a,e1,p _ H (Same.refl H) (x3.mpr ⟨a,_,rfl,by rw[f7 (R.hid.dj a e2.1)];exact e2.2.1,?_⟩:Rep X.D (L2.wo O H) (o2D L) (.ref a))⟩;exact q7O λq hq=>by rw[f7 (R.hid.dj q.1 (e2.2.2.1 q hq).1)];exact(e2.2.2.1 q hq).2
  ·cases h
theorem z6B:PE X (.Constant (.int i) j pos) (dE X.D E δ (.ok (.int i) .strong)):=z9p.weak λσ H Q ⟨O,W,R,p⟩=>p _ H (Same.refl H) x8
theorem z8A:PE X (.Constant (.bool i) j pos) (dE X.D E δ (.ok (.bl i) .strong)):=y1D.weak λσ H Q ⟨O,W,R,p⟩=>p _ H (Same.refl H) K2
theorem z7h(h:i.length<=sizeLine):PE X (.Constant (.str i) j pos) (dE X.D E δ (.ok (.str i) .strong)):=z9W.weak λσ H Q ⟨O,W,R,p⟩=>p _ H (Same.refl H) (y7.mpr ⟨rfl,h⟩:Rep X.D (L2.wo (O++W) H) (.str i) (.str i))
theorem z7q:PE X (.Constant .none j pos) (dE X.D E δ (.ok .non .strong)):=z9F.weak λσ H Q ⟨O,W,R,p⟩=>p _ H (Same.refl H) z5v
end
section
variable {X:Cx} {E:St->XK} {δ:List Sv} {a b c e:Expr} {pos:Pos} {ra rb:Option Re} {re:Re}
theorem q9v(hd:Hid O W H0 H)(gx:Got D O W H0 H (.int i) ca x)(gy:Got D O W H0 H (.int j) cb y)(hc:C i j)(q:Q (g i j) H):rI C g x y H Q:=
 ⟨i,j,gx.int hd,gy.int hd,hc,q⟩
theorem z0d(hd:Hid O W H0 H)(gx:Got D O W H0 H (.int i) ca x)(gy:Got D O W H0 H (.int j) cb y)(q:Q (g i j) H):rI0 g x y H Q:=
 ⟨i,j,gx.int hd,gy.int hd,q⟩
theorem z1A(h:ca ≠ .weak)(h':cb ≠ .weak):Cl.anew ca cb=.fresh:=by
 cases ca<;>cases cb<;>first | rfl | exact absurd rfl h | exact absurd rfl h'
def z3Q(i j:Int):Prop:=CMul i j\/(i.natAbs<2^2000/\j.natAbs<2^2000)
theorem z2h(h:i.natAbs<2^n):Builtin.Int.intBits i<=n:=by
 unfold Builtin.Int.intBits;by_cases hi:i=0
 ·subst hi;exact G9 n
 ·rw[d6 (by simpa using hi)];have:i.natAbs≠0:=λz=>hi (Int.natAbs_eq_zero.mp z)
  exact(w3d this).mpr h
theorem z3Q.ok(h:z3Q i j):IntMulOk i j:=by
 rcases h with h | ⟨h1,h2⟩
 ·exact h.ok
 ·unfold IntMulOk;have b1:=z2h h1;have b2:=z2h h2;have:Builtin.Int.intTooBig ((Builtin.Int.intBits i:Int)+(Builtin.Int.intBits j:Int))=false:=by
   unfold Builtin.Int.intTooBig;rw[m6];have:((bitsLine:Nat):Int)=134217728:=by decide
   omega
  rw[this,w3h];exact G5
theorem z6i:OpR X (binaryOp .Mult) (rI z3Q λi j=>.int (i*j)):=opI λ_ _ _ _ _ _ _ hc q=>mul_int q hc.ok
theorem z2F:OpR X (binaryOp .FloorDiv) (rI (λ_ j=>0<j/\j<2^200) λi j=>.int (i/j)):=opI λi j _ _ _ _ _ hc q=>by
 have h1:(0:Int)<j:=hc.1;have h2:j.natAbs<2^200:=by have:=hc.2;omega
 refine floordiv_int (by omega) (by rw[w2G i (by omega)];exact q) (.inl (PyProof.noPylong_of_log2 ?_));exact p5 ((w3d (by omega)).mpr h2) (by decide)
def binR(X:Cx):Operator->R2
 | .Add=>λx y H Q=>rI0 (λi j=>.int (i+j)) x y H Q\/rCat x y H Q\/z7T X.K x y H Q
 | .Sub=>rI0 λi j=>.int (i - j)
 | .Mult=>λx y H Q=>rI z3Q (λi j=>.int (i*j)) x y H Q\/rRep x y H Q
 | .Mod=>λx y H Q=>rI (λ_ j=>0<j) (λi j=>.int (i%j)) x y H Q\/rI (λ_ j=>j≠0) (λi j=>.int (i.fmod j)) x y H Q
 | .FloorDiv=>rI (λ_ j=>0<j/\j<2^200) λi j=>.int (i/j)
 | .LShift=>rI CPow λi j=>.int (i*2^j.toNat)
 | .RShift=>rI (λ_ j=>0<=j) λi j=>.int (i/2^j.toNat)
 | .BitAnd=>rI0 λi j=>.int (Builtin.bitAnd i j)
 | _=>λ_ _ _ _=>False
theorem z8H:OpR X (binaryOp op) (binR X op):=by
 cases op with
 | Add=>exact z8D.or (z9e.or z6W)
 | Sub=>exact z7B
 | Mult=>exact z6i.or z8d
 | Mod=>exact z8F.or z6b
 | FloorDiv=>exact z2F
 | LShift=>exact z7D
 | RShift=>exact z9s
 | BitAnd=>exact z7K
 | BitOr=>exact λ_ _ _ _ _ _ _ _ _ _ _ _ h=>h.elim
 | BitXor=>exact λ_ _ _ _ _ _ _ _ _ _ _ _ h=>h.elim
 | MatMult=>exact λ_ _ _ _ _ _ _ _ _ _ _ _ h=>h.elim
 | Div=>exact λ_ _ _ _ _ _ _ _ _ _ _ _ h=>h.elim
 | Pow=>exact λ_ _ _ _ _ _ _ _ _ _ _ _ h=>h.elim
theorem z9k(h:binD op dx dy cx cy=some re)(hd:Hid O W H0 H)(gx:Got X.D O W H0 H dx cx x)(gy:Got X.D O W H0 H dy cy y)
  (p:Post X.D E σ O W H0 H Q re):binR X op x y H Q:=by
 unfold binD at h;split at h
 ·cases h;exact .inl (z0d hd gx gy (p _ H (Same.refl H) x8))
 ·cases h;exact z0d hd gx gy (p _ H (Same.refl H) x8)
 ·split at h
  ·rename_i m;cases h;refine .inl (q9v hd gx gy ?_ (p _ H (Same.refl H) x8));unfold L4 at m;simp only[B2,b8,U5]at m;exact m
  ·cases h
 ·split at h
  ·rename_i m;cases h;exact .inl (q9v hd gx gy m (p _ H (Same.refl H) x8))
  ·split at h
   ·rename_i m;cases h;exact .inr (q9v hd gx gy m (p _ H (Same.refl H) x8))
   ·cases h
 ·split at h
  ·rename_i m;cases h;exact q9v hd gx gy m (p _ H (Same.refl H) x8)
  ·cases h
 ·split at h
  ·rename_i m;cases h;exact q9v hd gx gy m (p _ H (Same.refl H) x8)
  ·cases h
 ·split at h
  ·rename_i m;cases h;exact q9v hd gx gy m (p _ H (Same.refl H) x8)
  ·cases h
 ·cases h;exact z0d hd gx gy (p _ H (Same.refl H) x8)
 ·rename_i xs ys;split at h
  ·rename_i m;cases h;by_cases hw:cx ≠ .weak/\cy ≠ .weak
   ·obtain⟨l1,v1,e1,k1,r1⟩:=gx.items hd hw.1;obtain⟨l2,v2,e2,k2,r2⟩:=gy.items hd hw.2;refine .inr (.inl ⟨l1,l2,v1,v2,e1,e2,k1,k2,by rw[r1.length,r2.length];exact L9 m,λq hq=>p _ _ (v7 hq) ?_⟩);rw[z1A hw.1 hw.2];exact K3 hd hq (r1.append r2)
   ·obtain⟨l1,v1,e1,k1,r1⟩:=gx.lst hd;obtain⟨l2,v2,e2,k2,r2⟩:=gy.lst hd;refine .inr (.inl ⟨l1,l2,v1,v2,e1,e2,k1,k2,by rw[r1.length,r2.length];exact L9 m,λq hq=>p _ _ (v7 hq) ?_⟩);have:Cl.anew cx cy=.weak:=(by cases cx<;>cases cy<;>first | rfl | exact absurd ⟨(by intro z;cases z),(by intro z;cases z)⟩ hw);rw[this];exact q5U hd hq (r1.append r2)
  ·cases h
 ·rename_i xs ys;split at h
  ·rename_i m;cases h;by_cases hw:cx ≠ .weak/\cy ≠ .weak
   ·obtain⟨l1,v1,e1,k1,r1⟩:=gx.itemsT hd hw.1;obtain⟨l2,v2,e2,k2,r2⟩:=gy.itemsT hd hw.2;have cl:(Cl.anew cx cy).notF=.strong:=by rw[z1A hw.1 hw.2];rfl
    rw[cl]at p;refine .inr (.inr ⟨l1,l2,v1,v2,e1,e2,k1,k2,λz=>m.2 (by have:=r1.length;rw[z]at this;exact X5.mp this.symm),by rw[r1.length,r2.length];exact L9 m.1,λz=>?_,λ_ q hq=>p _ _ (v7 hq) (q3R hd hq (r1.append r2))⟩);refine p _ _ (Same.refl _) ?_;have z2:ys=[]:=by have:=r2.length;rw[z]at this;exact X5.mp this.symm
    subst z2;rw[z9];cases cx with
    | weak=>exact absurd rfl hw.1
    | top=>rw[←e1];exact gx
    | strong=>rw[←e1];exact gx
    | fresh=>obtain⟨_,_,_,_,q,_⟩:=gx;cases q
    | ft=>rw[←e1];exact gx.ft hd
   ·obtain⟨l1,v1,e1,k1,r1⟩:=gx.tup hd;obtain⟨l2,v2,e2,k2,r2⟩:=gy.tup hd;have cl:(Cl.anew cx cy).notF=.weak:=(by cases cx<;>cases cy<;>first | rfl | exact absurd ⟨(by intro z;cases z),(by intro z;cases z)⟩ hw);rw[cl]at p;refine .inr (.inr ⟨l1,l2,v1,v2,e1,e2,k1,k2,λz=>m.2 (by have:=r1.length;rw[z]at this;exact X5.mp this.symm),by rw[r1.length,r2.length];exact L9 m.1,λz=>?_,λ_ q hq=>p _ _ (v7 hq) (q5W hd hq (r1.append r2))⟩);refine p _ _ (Same.refl _) ?_;have z2:ys=[]:=by have:=r2.length;rw[z]at this;exact X5.mp this.symm
    subst z2;rw[z9,←e1];exact gx.weak hd
  ·cases h
 ·rename_i xs k;split at h
  ·rename_i m;cases h;obtain⟨l1,v1,e1,k1,r1⟩:=gx.lstC hd;refine .inr ⟨l1,k,v1,e1,gy.int hd,k1,m.2.1,m.2.2,by rw[r1.length];exact L9 m.1,λq hq=>p _ _ (v7 hq) (q4w hd hq (r1.rep _))⟩
  ·cases h
 ·cases h
theorem z7u(ha:∀q,ra=some q->PE X a (dE X.D E δ q))(hb:∀q,rb=some q->PE X b (dE X.D E δ q))(h:(Re.thn ra λx cx=>Re.thn rb λy cy=>binD op x y cx cy)=some re):PE X (.BinOp a op b pos) (dE X.D E δ re):=
 q9b (λ_ _=>z9O z8H) ha hb h λO W H0 H x y Q dx cx dy cy σ k hd gx gy p=>z9k k hd gx gy p
theorem z5h(ha:∀q,ra=some q->PE X a (dE X.D E δ q))(h:(Re.thn ra λx _=>match x with | .int i=>some (.ok (.int (-i)) .strong) | _=>none)=some re):PE X (.UnaryOp .USub a pos) (dE X.D E δ re):=
 z4w (λ_=>y0B z8Z) ha h λO W H0 H x Q dx cx σ k hd gx p=>by
  split at k
  ·cases k;exact⟨_,gx.int hd,p _ H (Same.refl H) x8⟩
  ·cases k
theorem z7J:atD ds i=L2.atI ds i:=rfl
theorem RepL.atI(h:RepL D H ds xs)(e:atD ds i=some d):∃v,L2.atI xs i=some v/\Rep D H d v:=by
 rw[z7J]at e;unfold L2.atI at e ⊢;rw[h.length];cases q:ixN ds.length i with
 | none=>rw[q]at e;cases e
 | some j=>
  rw[q]at e;exact h.get e
theorem y0m(h:((ixD dx dy).map λd=>Re.ok d cx.item)=some re)(hd:Hid O W H0 H)(gx:Got X.D O W H0 H dx cx x)(gy:Got X.D O W H0 H dy cy y)
  (p:Post X.D E σ O W H0 H Q re):rIx X.K x y H Q:=by
 obtain⟨d,h1,h2⟩:=j8.mp h;cases h2;unfold ixD at h1;split at h1
 ·rename_i ns i;obtain⟨a,e1,e2⟩:=L8.mp (gx.all hd);obtain⟨n,h3,h4⟩:=j8.mp h1;cases h4;have q:L2.atI (ns.map V.int) i=some (.int n):=by
   unfold L2.atI;rw[g9];have h3':((ixN ns.length i).bind λj=>ns[j]?)=some n:=h3;cases z:ixN ns.length i with
   | none=>rw[z]at h3';cases h3'
   | some j=>
    rw[z]at h3';have h5:ns[j]? = some n:=h3';show(ns.map V.int)[j]? = _;rw[B5,h5];rfl
  refine .inl ⟨a,_,i,_,e1,gy.int hd,e2.sq,q,p _ H (Same.refl H) ?_⟩;cases cx<;>exact x8
 ·obtain⟨a,xs,e1,e2,e3⟩:=gx.lstC hd;obtain⟨v,q1,q2⟩:=e3.atI h1;exact .inl ⟨a,xs,_,v,e1,gy.int hd,SqL.of e2,q1,p _ H (Same.refl H) (Got.item q2)⟩
 ·obtain⟨a,xs,e1,e2,e3⟩:=gx.tupC hd;obtain⟨v,q1,q2⟩:=e3.atI h1;exact .inr (.inl ⟨a,xs,_,v,e1,gy.int hd,e2,q1,p _ H (Same.refl H) (Got.item q2)⟩)
 ·rename_i z i;obtain⟨e1,e2⟩:=gx.str hd;cases q:F9 z.cps.size i with
  | none=>rw[q]at h1;cases h1
  | some j=>
   rw[q]at h1;obtain⟨ch,h3,h4⟩:=j8.mp (show((z.cps[j]?).map λc=>DV.str ⟨#[c]⟩)=some d from h1);cases h4;refine .inr (.inr ⟨z,i,ch,e1,gy.int hd,e2,?_,p _ H (Same.refl H) ?_⟩)
   ·unfold L2.atI;have:ixN z.cps.toList.length i=some j:=by rw[F5];exact q
    rw[this];show z.cps.toList[j]? = some ch;rw[w1X];exact h3
   ·have one:Rep X.D (L2.wo (O++W) H) (.str ⟨#[ch]⟩) (.str ⟨#[ch]⟩):=y7.mpr ⟨rfl,by show(1:Nat)<=sizeLine;decide⟩;have one':Rep X.D (L2.wo O H) (.str ⟨#[ch]⟩) (.str ⟨#[ch]⟩):=y7.mpr ⟨rfl,by show(1:Nat)<=sizeLine;decide⟩;cases cx<;>first | exact one | exact one'
 ·cases h1
theorem z8m(ha:∀q,ra=some q->PE X a (dE X.D E δ q))(hb:∀q,rb=some q->PE X b (dE X.D E δ q))(hs:z1e b=false)(h:(Re.thn ra λx cx=>Re.thn rb λy _=>(ixD x y).map λd=>.ok d cx.item)=some re):PE X (.Subscript a b pos) (dE X.D E δ re):=
 q9b (λ_ _ h1 h2=>y1G z8x h1 h2 (by cases b<;>first | (intro _ _;rfl) | cases hs)) ha hb h λO W H0 H x y Q dx cx dy cy σ k hd gx gy p=>y0m k hd gx gy p
theorem q5P(n d:Nat)(o:Option Int):slIx n d o=HT.sIx n d o:=by cases o<;>rfl
theorem RepL.cut(h:RepL D H ds xs)(lo hi:Option Int):RepL D H (cutD ds lo hi) (cutV xs lo hi):=by
 unfold cutD cutV;rw[q5P,q5P,←h.length];exact(h.drop _).take _
theorem z6g{O W:List Addr}{H0 H:Hp}{x:V}{dx:DV}{cx:Cl}{Q:VK}{σ:St}{lo hi:Option Int}(h:((slD dx lo hi).map λd=>Re.ok d (slCl dx cx))=some re)(hd:Hid O W H0 H)(gx:Got X.D O W H0 H dx cx x)
  (p:Post X.D E σ O W H0 H Q re):rSlL X.K x lo hi H Q\/rSlT X.K x lo hi H Q:=by
 obtain⟨d,h1,h2⟩:=j8.mp h;cases h2;unfold slD at h1;split at h1
 ·rename_i ns;cases h1;obtain⟨a,e1,e2⟩:=L8.mp (gx.all hd);exact .inl ⟨a,_,e1,e2.sq,λq hq=>p _ _ (v7 hq) (K3 hd hq ((q2n ns).cut lo hi))⟩
 ·cases h1;obtain⟨a,xs,e1,e2,e3⟩:=gx.lstC hd;exact .inl ⟨a,xs,e1,SqL.of e2,λq hq=>p _ _ (v7 hq) (q4w hd hq (e3.cut lo hi))⟩
 ·rename_i ds;split at h1
  ·cases h1
  ·rename_i m;cases h1;obtain⟨a,xs,e1,e2,e3⟩:=gx.tupC hd;refine .inr ⟨a,xs,e1,e2,?_,λq hq=>p _ _ (v7 hq) (q9j hd hq (e3.cut lo hi))⟩;rw[q5P,q5P,←e3.length]at m;exact m
 ·cases h1
theorem M0:SlR X (λx lo hi H Q=>rSlL X.K x lo hi H Q\/rSlT X.K x lo hi H Q):=z5r.or z9c
theorem W0(h:PE X b (dE X.D E δ (.ok (.int i) cl))):PO X (some b) (λσ H Q=>∃O W,RSt X.D H σ δ O W/\∀H',Same H H'->Q (some i) H'):=λpins s σ H Q I ⟨O,W,R,p⟩=>
 z1L h pins s σ H Q I ⟨O,W,R,λv H' s1 g=>⟨i,g.int (R.hid.mono s1),p H' s1⟩⟩
theorem q9q{c:Str}(h:PE X b (dE X.D E δ (.ex c))):PO X (some b) (λσ H Q=>∃O W,RSt X.D H σ δ O W/\Post X.D E σ O W H H (λ_ _=>False) (.ex c)):=λpins s σ H Q I ⟨O,W,R,p⟩=>
 z1L h pins s σ H Q I ⟨O,W,R,p⟩
theorem W1:PO X o (λ_ _ _=>False):=λ_ _ _ _ _ _ h=>h.elim
theorem z6S(ha:∀q,ra=some q->PE X a (dE X.D E δ q))(hb:∀q,rb=some q->PE X b (dE X.D E δ q))(h:(Re.thn ra λx cx=>Re.thn rb λl _=>match l with
  | .int l=>(slD x (some l) none).map λd=>.ok d (slCl x cx) | _=>none)=some re):PE X (.Subscript a (.Slice (some b) none none p2) pos) (dE X.D E δ re):=by
 cases hra:ra with
 | none=>rw[hra]at h;cases h
 | some q=>
  rw[hra]at h;have A:=ha q hra;cases q with
  | ex c=>cases h;exact(E3 M0 A W1 I0).weak λσ H Q ⟨O,W,R,p⟩=>⟨O,W,R,p⟩
  | ok dx cx=>
   cases hrb:rb with
   | none=>rw[hrb]at h;cases h
   | some q=>
    rw[hrb]at h;have B:=hb q hrb;cases q with
    | ex c=>cases h;exact(E3 M0 A (q9q B) I0).weak λσ H Q ⟨O,W,R,p⟩=>⟨O,W,R,λx H1 s1 g1=>⟨O,W,R.mono s1,λH' C m s=>p H' C m (s1.trans s)⟩⟩
    | ok dy cy=>
     have h':(match(generalizing:=false) dy with | .int l=>(slD dx (some l) none).map λd=>Re.ok d (slCl dx cx) | _=>none)=some re:=h;split at h'
     ·rename_i l;exact(E3 M0 A (W0 B) I0).weak λσ H Q ⟨O,W,R,p⟩=>⟨O,W,R,λx H1 s1 g1=>⟨O,W,R.mono s1,λH2 s2=>z6g h' ((R.hid.mono s1).mono s2) (g1.mono s2) (p.step (s1.trans s2))⟩⟩
     ·cases h'
theorem z4U(ha:∀q,ra=some q->PE X a (dE X.D E δ q))(hb:∀q,rb=some q->PE X b (dE X.D E δ q))(h:(Re.thn ra λx cx=>Re.thn rb λl _=>match l with
  | .int l=>(slD x none (some l)).map λd=>.ok d (slCl x cx) | _=>none)=some re):PE X (.Subscript a (.Slice none (some b) none p2) pos) (dE X.D E δ re):=by
 cases hra:ra with
 | none=>rw[hra]at h;cases h
 | some q=>
  rw[hra]at h;have A:=ha q hra;cases q with
  | ex c=>cases h;exact(E3 M0 A I0 W1).weak λσ H Q ⟨O,W,R,p⟩=>⟨O,W,R,p⟩
  | ok dx cx=>
   cases hrb:rb with
   | none=>rw[hrb]at h;cases h
   | some q=>
    rw[hrb]at h;have B:=hb q hrb;cases q with
    | ex c=>cases h;exact(E3 M0 A I0 (q9q B)).weak λσ H Q ⟨O,W,R,p⟩=>⟨O,W,R,λx H1 s1 g1=>⟨O,W,R.mono s1,λH' C m s=>p H' C m (s1.trans s)⟩⟩
    | ok dy cy=>
     have h':(match(generalizing:=false) dy with | .int l=>(slD dx none (some l)).map λd=>Re.ok d (slCl dx cx) | _=>none)=some re:=h;split at h'
     ·rename_i l;exact(E3 M0 A I0 (W0 B)).weak λσ H Q ⟨O,W,R,p⟩=>⟨O,W,R,λx H1 s1 g1=>⟨O,W,R.mono s1,λH2 s2=>z6g h' ((R.hid.mono s1).mono s2) (g1.mono s2) (p.step (s1.trans s2))⟩⟩
     ·cases h'
theorem z8I(ha:∀q,ra=some q->PE X a (dE X.D E δ q))(hb:∀q,rb=some q->PE X b (dE X.D E δ q))(hc:∀q,rc=some q->PE X c (dE X.D E δ q))(h:(Re.thn ra λx cx=>Re.thn rb λl _=>match l with
  | .int l=>Re.thn rc λu _=>(match u with
   | .int u=>(slD x (some l) (some u)).map λd=>.ok d (slCl x cx) | _=>none) | _=>none)=some re):PE X (.Subscript a (.Slice (some b) (some c) none p2) pos) (dE X.D E δ re):=by
 cases hra:ra with
 | none=>rw[hra]at h;cases h
 | some q=>
  rw[hra]at h;have A:=ha q hra;cases q with
  | ex c=>cases h;exact(E3 M0 A W1 W1).weak λσ H Q ⟨O,W,R,p⟩=>⟨O,W,R,p⟩
  | ok dx cx=>
   cases hrb:rb with
   | none=>rw[hrb]at h;cases h
   | some q=>
    rw[hrb]at h;have B:=hb q hrb;cases q with
    | ex c=>cases h;exact(E3 M0 A (q9q B) W1).weak λσ H Q ⟨O,W,R,p⟩=>⟨O,W,R,λx H1 s1 g1=>⟨O,W,R.mono s1,λH' C m s=>p H' C m (s1.trans s)⟩⟩
    | ok dy cy=>
     have h':(match(generalizing:=false) dy with | .int l=>Re.thn rc λu _=>(match u with | .int u=>(slD dx (some l) (some u)).map λd=>Re.ok d (slCl dx cx) | _=>none) | _=>none)=some re:=h;split at h'
     ·rename_i l;cases hrc:rc with
      | none=>rw[hrc]at h';cases h'
      | some q=>
       rw[hrc]at h';have C:=hc q hrc;cases q with
       | ex c'=>
        cases h';exact(E3 M0 A (W0 B) (q9q C)).weak λσ H Q ⟨O,W,R,p⟩=>⟨O,W,R,λx H1 s1 g1=>⟨O,W,R.mono s1,λH2 s2=>⟨O,W,(R.mono s1).mono s2,λH' C m s=>p H' C m (s1.trans (s2.trans s))⟩⟩⟩
       | ok dz cz=>
        have h2:(match(generalizing:=false) dz with | .int u=>(slD dx (some l) (some u)).map λd=>Re.ok d (slCl dx cx) | _=>none)=some re:=h';split at h2
        ·rename_i u;exact(E3 M0 A (W0 B) (W0 C)).weak λσ H Q ⟨O,W,R,p⟩=>⟨O,W,R,λx H1 s1 g1=>⟨O,W,R.mono s1,λH2 s2=>⟨O,W,(R.mono s1).mono s2,λH3 s3=>z6g h2 (((R.hid.mono s1).mono s2).mono s3) ((g1.mono s2).mono s3) (p.step (s1.trans (s2.trans s3)))⟩⟩⟩
        ·cases h2
     ·cases h'
end
end
section
theorem W3(c:Nat):∀l:List Nat,splL c l≠[]
 | []=>by unfold splL;simp
 | a::r=>by
  unfold splL;split
  ·simp
  ·split<;>simp
theorem q3D(c:Nat):∀l:List Nat,∀p∈splL c l,c∉p
 | [],p,h=>by unfold splL at h;rw[E9]at h;rw[h];simp
 | a::r,p,h=>by
  unfold splL at h;split at h
  ·rcases d9.mp h with e | e
   ·rw[e];simp
   ·exact q3D c r p e
  ·rename_i hac;have ih:=q3D c r;split at h
   ·rename_i x t e;rcases d9.mp h with q | q
    ·rw[q];intro z;rcases d9.mp z with z | z
     ·exact hac z.symm
     ·exact ih x (by rw[e];exact i5 ..) z
    ·exact ih p (by rw[e];exact f9 _ q)
   ·rename_i e;exact absurd e (W3 c r)
def jnL(c:Nat):List (List Nat)->List Nat
 | []=>[]
 | [a]=>a
 | a::b::r=>a++c::jnL c (b::r)
theorem q3W(c:Nat):∀l:List Nat,jnL c (splL c l)=l
 | []=>rfl
 | a::r=>by
  have ih:=q3W c r;unfold splL;split
  ·rename_i e;cases q:splL c r with
   | nil=>exact absurd q (W3 c r)
   | cons x t=>
    rw[q]at ih;show[]++c::jnL c (x::t)=_;rw[ih,e];rfl
  ·split
   ·rename_i x t e;rw[e]at ih;cases t with
    | nil=>show a::x=_;rw[show x=r from ih]
    | cons y t=>show(a::x)++c::jnL c (y::t)=_;rw[←ih];rfl
   ·rename_i e;exact absurd e (W3 c r)
theorem z7M(c:Nat):∀(x y u v:List Nat),c∉x->c∉y->x++c::u=y++c::v->x=y/\u=v:=by
 intro x
 induction x with
 | nil=>
  intro y u v _ hy h;cases y with
  | nil=>exact⟨rfl,by simpa using h⟩
  | cons b y=>rw[w2r,Y2]at h;injection h with h1 _;exact absurd (by rw[h1];exact i5 ..) hy
 | cons a x ih=>
  intro y u v hx hy h;cases y with
  | nil=>rw[w2r,Y2]at h;injection h with h1 _;exact absurd (by rw[←h1];exact i5 ..) hx
  | cons b y=>
   rw[Y2,Y2]at h;injection h with h1 h2
   obtain⟨e1,e2⟩:=ih y u v (λz=>hx (f9 _ z)) (λz=>hy (f9 _ z)) h2;exact⟨by rw[h1,e1],e2⟩
theorem z4p(c:Nat):∀(p q:List (List Nat)),p≠[]->q≠[]->(∀x∈p,c∉x)->(∀x∈q,c∉x)->jnL c p=jnL c q->p=q:=by
 intro p
 induction p with
 | nil=>intro q h;exact absurd rfl h
 | cons x p ih=>
  intro q _ hq hp1 hq1 h;cases q with
  | nil=>exact absurd rfl hq
  | cons y q=>
   have hx:=hp1 x (i5 ..);have hy:=hq1 y (i5 ..);cases p with
   | nil=>
    cases q with
    | nil=>rw[show x=y from h]
    | cons y2 q=>
     have h':x=y++c::jnL c (y2::q):=h;exact absurd (by rw[h'];simp) hx
   | cons x2 p=>
    cases q with
    | nil=>
     have h':x++c::jnL c (x2::p)=y:=h;exact absurd (by rw[←h'];simp) hy
    | cons y2 q=>
     obtain⟨e1,e2⟩:=z7M c x y _ _ hx hy h;rw[e1,ih (y2::q) (by simp) (by simp) (λz hz=>hp1 z (f9 _ hz)) (λz hz=>hq1 z (f9 _ hz)) e2]
theorem q5V(c:Nat):∀l:List Str,(Str.join ⟨#[c]⟩ l).cps.toList=jnL c (l.map λx=>x.cps.toList)
 | []=>rfl
 | [x]=>rfl
 | x::y::r=>by have ih:=q5V c (y::r);show(x++⟨#[c]⟩++Str.join ⟨#[c]⟩ (y::r)).cps.toList=x.cps.toList++c::jnL c (y.cps.toList::r.map λx=>x.cps.toList);have e:(x++⟨#[c]⟩++Str.join ⟨#[c]⟩ (y::r)).cps=x.cps ++ #[c]++(Str.join ⟨#[c]⟩ (y::r)).cps:=rfl;rw[e,X8,X8,ih,U4];rfl
theorem z3C(x y:Str):Txt.split x y≠[]:=λz=>by
 have:=split_pos x y;rw[z]at this;exact absurd this (by simp)
theorem z3J(x:Str)(c:Nat):(Txt.split x ⟨#[c]⟩).map (λp=>p.cps.toList)=splL c x.cps.toList:=by
 refine z4p c _ _ (by simpa using z3C x _) (W3 c _) (λp hp=>?_) (q3D c _) ?_
 ·obtain⟨q,hq,rfl⟩:=j9.mp hp;exact StrLaws.split_free x c q hq
 ·rw[←q5V,StrLaws.join_split,q3W]
section
variable {X:Cx}
theorem q4o{y:Str}{c:Nat}(h:y.cps.toList=[c]):y=⟨#[c]⟩:=by
 obtain⟨⟨l⟩⟩:=y;simp only at h;rw[h]
theorem z5P(x:Str)(c:Nat):(match Builtin.Str.occurrences x ⟨#[c]⟩ 0 x.length 1 with | i::_=>(i:Int) | []=>-1)=P9 c x.cps.toList:=by
 unfold P9;have at1:∀i,StrLaws.At x ⟨#[c]⟩ x.length i↔x.cps.toList[i]? = some c:=λi=>StrLaws.subAt_one x c i
 rcases StrLaws.occ_head x ⟨#[c]⟩ 1 (j1 1)with⟨e,hn⟩ | ⟨i,r,e,ha,hm⟩
 ·rw[e];have:c∉x.cps.toList:=λz=>by
   obtain⟨i,hi,q⟩:=w2x z;exact hn i ((at1 i).mpr (by rw[x9 hi,q]))
  rw[List.idxOf_eq_length this,d6 (K0 _)]
 ·rw[e];have hi:=(at1 i).mp ha;have hl:=(u9.mp hi).1;have q:x.cps.toList.idxOf c=i:=by
   have hmem:c∈x.cps.toList:=O9 hi;have hlt:=List.idxOf_lt_length_of_mem hmem;have hg:x.cps.toList[x.cps.toList.idxOf c]? = some c:=by rw[x9 hlt,List.getElem_idxOf hlt]
   rcases Nat.lt_trichotomy (x.cps.toList.idxOf c) i with z | z | z
   ·exact absurd ((at1 _).mpr hg) (hm _ z)
   ·exact z
   ·exfalso;have:=List.not_of_lt_findIdx (p:=(· == c)) (xs:=x.cps.toList) (i:=i) (by unfold List.idxOf at z;exact z);rw[x9 hl]at hi;have hi':=x4 hi;rw[hi']at this;simp at this
  rw[q,d4 hl]
theorem z4S:MtR X "str.find" (λx xs H Q=>∃(y z:Str) (c:Nat),x=.str y/\xs=[.str z]/\z.cps.toList=[c]/\Q (.int (P9 c y.cps.toList)) H):=by
 intro pins s σ H x xs v us Q I rx rv h;obtain⟨y,z,c,rfl,rfl,hz,q⟩:=h;obtain⟨t,rfl⟩:=(show ∃t,v=Value.str y t from rx);obtain⟨u,rfl,r1⟩:=F7 rv;obtain⟨t',rfl⟩:=r1;rw[q4o hz];have g:Gives (Builtin.«str.find» ⟨[.str y t,.str ⟨#[c]⟩ t'],[]⟩) (.int (match Builtin.Str.occurrences y ⟨#[c]⟩ 0 y.length 1 with | i::_=>(i:Int) | []=>-1)):=gives_str_find y ⟨#[c]⟩ t t';rw[z5P]at g;exact call_gives F.slot_str_find (U9 _ _ _) F.entry_str_find (F.args_str_find_2 _ _) g ⟨.int _,H,I.tok _,⟨_,rfl⟩,q⟩
theorem z1Y(hy:(y.length==0)=false)
  (hq:∀(l:List (Str×Tok)) tk,l.map (·.1)=Txt.split x y->Q (.ref s.heap.objs.size) {s with heap:=s.heap.push {cls:=.type "list",data:=.seq (strValues l).toArray},toks:=tk})
  (hsz:x.length<=sizeLine) (hsz2:(Builtin.Str.partsBetween x (Builtin.Str.occurrences x y 0 x.length (x.length+1)) y.length).length<=sizeLine) :
  wpAny (model prog w) A (call (.builtin "str.split") [.str x t,.str y u]) Q E s:=by
 cases h1:(decide (x.length<y.length)||decide (Builtin.Str.strKind x<Builtin.Str.strKind y))
 ·cases hf:(Builtin.Str.occurrences x y 0 x.length (x.length+1)).isEmpty
  ·refine Y6 w2U (U9 _ _ _) w2J (w2D _ _) (meets_str_split_sep x y t u h1 hy hf hsz hsz2) ?_;show wants Q E _ {s with toks:=_,heap:=s.heap.push {cls:=.type "list",data:=.seq (strsFrom s.toks (Builtin.Str.partsBetween x (Builtin.Str.occurrences x y 0 x.length (x.length+1)) y.length)).toArray}};rw[strsFrom_eq];exact hq (numbered s.toks _) _ ((numbered_texts _ _).trans ((d6 (w2y h1)).trans (d6 (w2y hf))).symm)
  ·exact Y6 w2U (U9 _ _ _) w2J (w2D _ _) (meets_str_split_not_found x y t u h1 hy hf)
    (hq [(x,t)] s.toks ((d6 (w2y h1)).trans (d4 hf)).symm)
 ·exact Y6 w2U (U9 _ _ _) w2J (w2D _ _) (meets_str_split_cannot_occur x y t u h1)
   (hq [(x,t)] s.toks (d4 h1).symm)
theorem q6H:∀{l:List (Str×Tok)} {ps:List (List Nat)},l.map (λp=>p.1.cps.toList)=ps->Vals (ps.map λp=>V.str ⟨p.toArray⟩) (strValues l)
 | [],ps,h=>by cases h;exact .nil
 | (x,t)::l,ps,h=>by cases h;obtain⟨⟨cl⟩⟩:=x;exact .cons ⟨t,rfl⟩ (q6H rfl)
theorem q3K(c:Nat):∀l:List Nat,(splL c l).length<=l.length+1
 | []=>by unfold splL;simp
 | a::r=>by
  have ih:=q3K c r;unfold splL;split
  ·simp;omega
  ·split
   ·rename_i x t e;rw[e]at ih;simp at ih ⊢;omega
   ·simp
theorem z2N:MtR X "str.split" (λx xs H Q=>∃(y z:Str) (c:Nat),x=.str y/\xs=[.str z]/\z.cps.toList=[c]/\y.length<=mostLen/\∀p,H p=none->Q (.ref p) (upd H p (.lst ((splL c y.cps.toList).map λp=>V.str ⟨p.toArray⟩)))):=by
 intro pins s σ H x xs v us Q I rx rv h;obtain⟨y,z,c,rfl,rfl,hz,hl,q⟩:=h;obtain⟨t,rfl⟩:=(show ∃t,v=Value.str y t from rx);obtain⟨u,rfl,r1⟩:=F7 rv;obtain⟨t',rfl⟩:=r1;rw[q4o hz];have hy:y.length<=1000000:=hl;have hsp:=StrLaws.occ_length_le_len y ⟨#[c]⟩ 0 y.length (y.length+1);have e24:sizeLine=16777216:=by decide
 refine z1Y (by rfl) (λl tk hl'=>?_) (by omega) (by rw[len_partsBetween];omega);have hv:Vals ((splL c y.cps.toList).map λp=>V.str ⟨p.toArray⟩) (strValues l):=q6H (by rw[←z3J,←hl',B8];rfl);have hlen:=q3K c y.cps.toList;have hll:y.cps.toList.length=y.length:=rfl;exact⟨.ref s.heap.objs.size,_,I.laid (t':=tk) (λb o e=>j5 _ e) (j1 _) (show x5 X.prog X.w _ _ _ (.lst ((splL c y.cps.toList).map λp=>V.str ⟨p.toArray⟩))from⟨by rw[g9];omega,strValues l,_,hv,v9 _ rfl⟩),rfl,q _ (I.hok.fresh (j1 _))⟩
theorem q5x:∀{ys:List Str} {its:List Value},Vals (ys.map V.str) its->StrsAre its ys
 | [],its,h=>by cases h;exact .nil
 | y::ys,its,h=>by
  cases h with
  | cons r h=>
   obtain⟨t,rfl⟩:=r;exact .cons y t (q5x h)
theorem z6m:MtR X "str.join" (λx xs H Q=>∃(y:Str) (a:Addr) (ys:List Str),x=.str y/\xs=[.ref a]/\SqL X.K H a (ys.map V.str)/\(ys.map (·.length)).sum+ys.length*y.length<=mostLen/\Q (.str (Str.join y ys)) H):=by
 intro pins s σ H x xs v us Q I rx rv h;obtain⟨y,a,ys,rfl,rfl,hq,hl,q⟩:=h;obtain⟨t,rfl⟩:=(show ∃t,v=Value.str y t from rx);obtain⟨u,rfl,r1⟩:=F7 rv;cases r1;obtain⟨its,r',pl,hz⟩:=I.list hq;refine PyProof.Rows.join_list pl.isList (by simpa using q5x r') (m7 hl (by decide)) λt' k=>?_
 have e:Txt.join y ys=Str.join y ys:=StrLaws.glued_eq_join y ys;rw[e];exact⟨.str _,H,I.tok _,⟨_,rfl⟩,q⟩
theorem q9B:∀a,a<10->PySem.intText? ⟨#[48+a]⟩=some (a:Int):=by decide +kernel
theorem q7V:∀a,a<10->∀b,b<10->PySem.intText? ⟨#[48+a,48+b]⟩=some ((a*10+b:Nat):Int):=by decide +kernel
theorem z0s(h:dnum x=some n):PySem.intText? x=some n/\x.length<=640:=by
 obtain⟨⟨l⟩⟩:=x;unfold dnum at h;simp only at h;split at h
 ·rename_i a;split at h
  ·rename_i hh;cases h;have:=q9B (a - 48) (by omega);rw[show 48+(a - 48)=a by omega]at this;exact⟨this,by show 1<=640;decide⟩
  ·cases h
 ·rename_i a b;split at h
  ·rename_i hh;cases h;have:=q7V (a - 48) (by omega) (b - 48) (by omega);rw[show 48+(a - 48)=a by omega,show 48+(b - 48)=b by omega]at this;exact⟨this,by show 2<=640;decide⟩
  ·cases h
 ·cases h
theorem q6U:w9 X (.type "int") (λxs H Q=>∃(y:Str) (n:Int),xs=[.str y]/\dnum y=some n/\Q (.int n) H):=by
 intro pins s σ H xs us Q I r h;obtain⟨y,n,rfl,hn,q⟩:=h;obtain⟨u,rfl,r1⟩:=F7 r;obtain⟨t,rfl⟩:=r1;obtain⟨h1,h2⟩:=z0s hn;exact PySem.W.KIN.call_text h1 h2 ⟨.int _,H,I.tok _,⟨_,rfl⟩,q⟩
theorem q7z{i:Int}(hi:i.natAbs<2^64):i.natAbs.log2<1920:=by
 by_cases z:i.natAbs=0
 ·rw[z];decide
 ·exact p5 ((w3d z).mpr hi) (by decide)
def Its(x:Str):It:=⟨λi _=>i<x.cps.size,λi H v H'=>H'=H/\∃c,x.cps[i]? = some c/\v=.str ⟨#[c]⟩,λi _=>x.cps.size<=i⟩
theorem q9p{P:Program}{w:World}{K:PySem.W.Frag}{tg:Expr}(it:Addr)(x:Str)(t:Tok):Turn P w K tg (Its x) [it] it (λi h=>h.IsStrIter it "str_ascii_iterator" x t i) where
 mem:=by simp
 obj:=λi h st b hb=>by
  have e:b=it:=by simpa using hb
  subst e;obtain⟨o,e,c,d⟩:=st;exact⟨o,e,λv z=>by rw[d]at z;cases z⟩
 keep:=λi h h' st k=>by obtain⟨o,e,r⟩:=st;exact⟨o,k it (by simp) o e,r⟩
 item:=by
  intro X hP hw hK hc i pins s σ H E I hf st hg;subst hP hw hK;obtain⟨f0,f1,f2,f3,f4,f5⟩:=hf it (by simp);have hi:i<x.cps.size:=hg;refine wpAny_pyNext_ascii_item st (c:=x.cps[i]) (by simp[hi]) λh' st' sb=>?_
  have I1:Inv X pins σ H {s with heap:=h',toks:=s.toks+1}:=I.turned (λb o hb e=>(sb.2 b hb).trans e) f0 f1 f3 f4 f5;obtain⟨o,e,c,d⟩:=id st';exact⟨_,rfl,z0o (s:={s with heap:=h',toks:=s.toks+1}) e c d (by decide) ⟨.str ⟨#[x.cps[i]]⟩,H,I1,⟨_,rfl⟩,⟨rfl,_,by simp[hi],rfl⟩,st',λb hb=>(hf b hb).1⟩⟩
 done:=by
  intro X hP hw hK hc i pins s σ H E I hf st hg;subst hP hw hK;obtain⟨f0,f1,f2,f3,f4,f5⟩:=hf it (by simp);have hi:x.cps.size<=i:=hg;exact wpAny_pyNext_ascii_end (I.ok.hd hc) st (by simp[hi]) λh' eb=>⟨rfl,I.turned (t':=s.toks) (λb o hb e=>eb b o hb e) f0 f1 f3 f4 f5⟩
 self:=λ_ _ _ _ _ st h=>wpAny_pyIter_striter_ascii st h
theorem z1O{P:Program}{w:World}{K:PySem.W.Frag}{tg:Expr}(it:Addr)(x:Str)(t:Tok):Turn P w K tg (Its x) [it] it (λi h=>h.IsStrIter it "str_iterator" x t i) where
 mem:=by simp
 obj:=λi h st b hb=>by
  have e:b=it:=by simpa using hb
  subst e;obtain⟨o,e,c,d⟩:=st;exact⟨o,e,λv z=>by rw[d]at z;cases z⟩
 keep:=λi h h' st k=>by obtain⟨o,e,r⟩:=st;exact⟨o,k it (by simp) o e,r⟩
 item:=by
  intro X hP hw hK hc i pins s σ H E I hf st hg;subst hP hw hK;obtain⟨f0,f1,f2,f3,f4,f5⟩:=hf it (by simp);have hi:i<x.cps.size:=hg;refine wpAny_pyNext_wide_item st (c:=x.cps[i]) (by simp[hi]) λh' st' sb=>?_
  have I1:Inv X pins σ H {s with heap:=h',toks:=s.toks+1}:=I.turned (λb o hb e=>(sb.2 b hb).trans e) f0 f1 f3 f4 f5;obtain⟨o,e,c,d⟩:=id st';exact⟨_,rfl,z0o (s:={s with heap:=h',toks:=s.toks+1}) e c d (by decide) ⟨.str ⟨#[x.cps[i]]⟩,H,I1,⟨_,rfl⟩,⟨rfl,_,by simp[hi],rfl⟩,st',λb hb=>(hf b hb).1⟩⟩
 done:=by
  intro X hP hw hK hc i pins s σ H E I hf st hg;subst hP hw hK;obtain⟨f0,f1,f2,f3,f4,f5⟩:=hf it (by simp);have hi:x.cps.size<=i:=hg;exact wpAny_pyNext_wide_end (I.ok.hd hc) st (by simp[hi]) λh' eb=>⟨rfl,I.turned (t':=s.toks) (λb o hb e=>eb b o hb e) f0 f1 f3 f4 f5⟩
 self:=λ_ _ _ _ _ st h=>wpAny_pyIter_striter_wide st h
def iStr(tl:TE):TI:=λσ H R=>tl σ H λv H1=>∃x:Str,v=.str x/\R (Its x) H1
theorem z7S(hl:PE X l tl):PI X tg l (iStr tl):=by
 intro pins s σ H R I h;refine thn (hl pins s σ H _ I h) λv s1 ⟨x,H1,I1,r1,q1⟩=>?_
 obtain⟨y,e,q⟩:=q1;subst e;obtain⟨t,rfl⟩:=(show ∃t,v=Value.str y t from r1);have fp:∀(o:Obj),∀b∈[s1.heap.objs.size],FpOk X pins H1 b:=λo b hb=>by
  have e:b=s1.heap.objs.size:=by simpa using hb
  subst e;exact I1.fpOk (j1 _) (I1.hok.fresh (j1 _))
 cases ha:y.cps.all (· < 128)with
 | false=>exact wpAny_pyIter_wide ha ⟨s1.heap.objs.size,[s1.heap.objs.size],_,_,H1,rfl,I1.kept (t':=s1.toks) λb o e=>j5 _ e,z1O _ y t,⟨_,v9 _ rfl,rfl,rfl⟩,fp default,q⟩
 | true=>exact wpAny_pyIter_ascii ha ⟨s1.heap.objs.size,[s1.heap.objs.size],_,_,H1,rfl,I1.kept (t':=s1.toks) λb o e=>j5 _ e,q9p _ y t,⟨_,v9 _ rfl,rfl,rfl⟩,fp default,q⟩
end
end
section
section
variable {X:Cx} {E:St->XK} {δ:List Sv} {a b:Expr} {pos p2:Pos} {ra rb:Option Re} {re:Re}
def rSlS:V->Option Int->Option Int->Hp->VK->Prop:=λx lo hi H Q=>∃(z:Str) (i j:Nat),x=.str z/\z.length<=sizeLine/\lo.getD 0=(i:Int)/\hi.getD (z.length:Int)=(j:Int)/\i<=j/\j<=z.length/\Q (.str (cutS z i j)) H
theorem q9Y{z:Str}{lo hi:Option Int}{i j:Nat}(h1:lo.getD 0=(i:Int))(h2:hi.getD (z.length:Int)=(j:Int))(hij:i<=j)(hj:j<=z.length):(Builtin.Str.strSliceIndices lo hi 1 z.length).filterMap (z.cps[·]?)=(z.cps.toList.drop i).take (j - i):=by
 have e:Builtin.Str.strSliceIndices lo hi 1 z.length=Builtin.Str.strSliceIndices (some (i:Int)) (some (j:Int)) 1 z.length:=by
  cases lo with
  | none=>
   have:(i:Int)=0:=h1.symm;rw[w2V,this];cases hi with
   | none=>rw[w1N];rw[show(j:Int)=(z.length:Int)from h2.symm]
   | some v=>rw[show(j:Int)=v from h2.symm]
  | some u=>
   rw[show(i:Int)=u from h1.symm];cases hi with
   | none=>rw[w1N];rw[show(j:Int)=(z.length:Int)from h2.symm]
   | some v=>rw[show(j:Int)=v from h2.symm]
 rw[e];exact StrLaws.sliced_plain z hij hj
theorem q8f:(cutS z i j).length<=z.length:=by
 show((z.cps.toList.drop i).take (j - i)).toArray.size<=z.cps.size;rw[u5,G7,U6,F5];omega
theorem z2b(h:n<=mostLen):n<=sizeLine:=m7 h (by decide)
theorem q5M:SlR X rSlS:=by
 intro pins s σ H x v vl vu lo hi sl Q I rx hs pl pu h;obtain⟨z,i,j,rfl,hz,h1,h2,hij,hj,q⟩:=h;obtain⟨t,rfl⟩:=rx;refine⟨"str",_,F.slot_str_getitem.lookup,U9 s z t,?_⟩;have part:∀{w:Value} {o:Option Int},IsPart w o->∃l:Option (Int×Tok),w=partValue l/\l.map (·.1)=o:=λ{w o} p=>by
  cases p with
  | none=>exact⟨none,rfl,rfl⟩
  | int i t=>exact⟨some (i,t),rfl,rfl⟩
 obtain⟨l,rfl,hl⟩:=part pl;obtain⟨u,rfl,hu⟩:=part pu;refine wpAny_getItem_str_slice (l:=l) (u:=u) (st:=none) hs rfl ?_;have pk:(slicePicked z l u none).filterMap (z.cps[·]?)=(z.cps.toList.drop i).take (j - i):=by unfold slicePicked;rw[hl,hu];exact q9Y h1 h2 hij hj
 unfold sliceMade;split
 ·rename_i w;have e:cutS z i j=z:=by
   simp only[b8,d5]at w;have w2:=w.2;have:(slicePicked z l u none).length=j - i:=by
    unfold slicePicked;rw[hl,hu];have e:Builtin.Str.strSliceIndices lo hi 1 z.length=Builtin.Str.strSliceIndices (some (i:Int)) (some (j:Int)) 1 z.length:=by
     cases lo with
     | none=>
      have:(i:Int)=0:=h1.symm;rw[w2V,this];cases hi with
      | none=>rw[w1N];rw[show(j:Int)=(z.length:Int)from h2.symm]
      | some v=>rw[show(j:Int)=v from h2.symm]
     | some u=>
      rw[show(i:Int)=u from h1.symm];cases hi with
      | none=>rw[w1N];rw[show(j:Int)=(z.length:Int)from h2.symm]
      | some v=>rw[show(j:Int)=v from h2.symm]
    show(Builtin.Str.strSliceIndices lo hi 1 z.length).length=_;rw[e,StrLaws.strSliceIndices_plain hij hj,g9,K6]
   have i0:i=0:=by omega
   have j0:j=z.length:=by omega
   subst i0;unfold cutS;rw[j0,Nat.sub_zero,w3i,w3e (by rw[F5];exact j1 _)]
  rw[e]at q;exact⟨.str z,H,I,⟨t,rfl⟩,q⟩
 ·rw[pk];exact⟨m7 q8f hz,.str (cutS z i j),H,I.tok _,⟨_,rfl⟩,q⟩
theorem q8g(h:z.length<=sizeLine):Got D O W H0 H (.str z) .strong (.str z):=(y7.mpr ⟨rfl,h⟩:Rep D (L2.wo (O++W) H) _ _)
theorem z5s(ha:∀q,ra=some q->PE X a (dE X.D E δ q))(hb:∀q,rb=some q->PE X b (dE X.D E δ q))(h:(Re.thn ra λx _=>Re.thn rb λl _=>(stfD x l).map λd=>.ok d .strong)=some re):PE X (.Subscript a (.Slice (some b) none none p2) pos) (dE X.D E δ re):=by
 cases hra:ra with
 | none=>rw[hra]at h;cases h
 | some q=>
  rw[hra]at h;have A:=ha q hra;cases q with
  | ex c=>cases h;exact(E3 q5M A W1 I0).weak λσ H Q ⟨O,W,R,p⟩=>⟨O,W,R,p⟩
  | ok dx cx=>
   cases hrb:rb with
   | none=>rw[hrb]at h;cases h
   | some q=>
    rw[hrb]at h;have B:=hb q hrb;cases q with
    | ex c=>cases h;exact(E3 q5M A (q9q B) I0).weak λσ H Q ⟨O,W,R,p⟩=>⟨O,W,R,λx H1 s1 g1=>⟨O,W,R.mono s1,λH' C m s=>p H' C m (s1.trans s)⟩⟩
    | ok dy cy=>
     have h':((stfD dx dy).map λd=>Re.ok d .strong)=some re:=h;obtain⟨d,h1,h2⟩:=j8.mp h';unfold stfD at h1;split at h1
     ·rename_i z i;split at h1
      ·rename_i m;cases h1;cases h2;refine(E3 q5M A (W0 B) I0).weak λσ H Q ⟨O,W,R,p⟩=>⟨O,W,R,λx H1 s1 g1=>⟨O,W,R.mono s1,λH2 s2=>?_⟩⟩
       obtain⟨e1,e2⟩:=g1.str (R.hid.mono s1);exact⟨z,i.toNat,z.length,e1,e2,by show i=_;omega,rfl,by omega,j1 _,p _ H2 (s1.trans s2) (q8g (m7 q8f e2))⟩
      ·cases h1
     ·cases h1
theorem z5B(ha:∀q,ra=some q->PE X a (dE X.D E δ q))(hb:∀q,rb=some q->PE X b (dE X.D E δ q))(h:(Re.thn ra λx _=>Re.thn rb λl _=>(sttD x l).map λd=>.ok d .strong)=some re):PE X (.Subscript a (.Slice none (some b) none p2) pos) (dE X.D E δ re):=by
 cases hra:ra with
 | none=>rw[hra]at h;cases h
 | some q=>
  rw[hra]at h;have A:=ha q hra;cases q with
  | ex c=>cases h;exact(E3 q5M A I0 W1).weak λσ H Q ⟨O,W,R,p⟩=>⟨O,W,R,p⟩
  | ok dx cx=>
   cases hrb:rb with
   | none=>rw[hrb]at h;cases h
   | some q=>
    rw[hrb]at h;have B:=hb q hrb;cases q with
    | ex c=>cases h;exact(E3 q5M A I0 (q9q B)).weak λσ H Q ⟨O,W,R,p⟩=>⟨O,W,R,λx H1 s1 g1=>⟨O,W,R.mono s1,λH' C m s=>p H' C m (s1.trans s)⟩⟩
    | ok dy cy=>
     have h':((sttD dx dy).map λd=>Re.ok d .strong)=some re:=h;obtain⟨d,h1,h2⟩:=j8.mp h';unfold sttD at h1;split at h1
     ·rename_i z i;split at h1
      ·rename_i m;cases h1;cases h2;refine(E3 q5M A I0 (W0 B)).weak λσ H Q ⟨O,W,R,p⟩=>⟨O,W,R,λx H1 s1 g1=>⟨O,W,R.mono s1,λH2 s2=>?_⟩⟩
       obtain⟨e1,e2⟩:=g1.str (R.hid.mono s1);exact⟨z,0,i.toNat,e1,e2,rfl,by show i=_;omega,G9 _,by omega,p _ H2 (s1.trans s2) (q8g (m7 q8f e2))⟩
      ·cases h1
     ·cases h1
theorem z2u(ha:∀q,ra=some q->PE X a (dE X.D E δ q))(hb:∀q,rb=some q->PE X b (dE X.D E δ q))(h:(Re.thn ra λx _=>Re.thn rb λy _=>(catS x y).map λd=>.ok d .strong)=some re):PE X (.BinOp a .Add b pos) (dE X.D E δ re):=
 q9b (k:=λx _ y _=>(catS x y).map λd=>.ok d .strong) (λ_ _=>z9O q9u) ha hb h λO W H0 H x y Q dx cx dy cy σ k hd gx gy p=>by
  obtain⟨d,h1,h2⟩:=j8.mp k;unfold catS at h1;split at h1
  ·rename_i i j;split at h1
   ·rename_i m;cases h1;cases h2;exact⟨i,j,(gx.str hd).1,(gy.str hd).1,z2b m,p _ H (Same.refl H) (q8g (by rw[w2I];exact z2b m))⟩
   ·cases h1
  ·cases h1
end
end
section
mutual
def toP:DV->PyData
 | .non=>.none | .bl b=>.bool b | .int i=>.int i | .str x=>.str x
 | .tup ds=>.tuple (toPs ds) | .lst ds=>.list (toPs ds)
 | _=>.none
def toPs:List DV->List PyData
 | []=>[]
 | d::r=>toP d::toPs r
end
mutual
theorem q4R:∀(n m:Nat) (d e:DV),d.plain n=true->e.plain m=true->PyData.eqv (toP d) (toP e)=deq d e
 | n,m,.non,e,_,h=>by cases e<;>first | (cases m<;>simp[DV.plain]at h;done) | (simp only[toP,PyData.eqv,deq])
 | n,m,.bl _,e,_,h=>by cases e<;>first | (cases m<;>simp[DV.plain]at h;done) | (simp only[toP,PyData.eqv,deq])
 | n,m,.int _,e,_,h=>by cases e<;>first | (cases m<;>simp[DV.plain]at h;done) | (simp only[toP,PyData.eqv,deq])
 | n,m,.str x,e,_,h=>by
  cases e with
  | str y=>simp only[toP,PyData.eqv,deq];rfl
  | non=>simp only[toP,PyData.eqv,deq]
  | bl _=>simp only[toP,PyData.eqv,deq]
  | int _=>simp only[toP,PyData.eqv,deq]
  | tup _=>simp only[toP,PyData.eqv,deq]
  | lst _=>simp only[toP,PyData.eqv,deq]
  | dct _ _=>cases m<;>simp[DV.plain]at h
  | exc _=>cases m<;>simp[DV.plain]at h
  | fn _=>cases m<;>simp[DV.plain]at h
  | lam _ _=>cases m<;>simp[DV.plain]at h
  | scr _=>cases m<;>simp[DV.plain]at h
 | 0,_,.tup _,_,h,_=>by simp[DV.plain]at h
 | 0,_,.lst _,_,h,_=>by simp[DV.plain]at h
 | n+1,m,.tup ds,e,h,h'=>by
  cases e with
  | tup es=>
   cases m with
   | zero=>simp[DV.plain]at h'
   | succ m=>
    simp only[toP,PyData.eqv,deq];exact q6z n m ds es (by simpa[DV.plain]using h) (by simpa[DV.plain]using h')
  | non=>simp only[toP,PyData.eqv,deq]
  | bl _=>simp only[toP,PyData.eqv,deq]
  | int _=>simp only[toP,PyData.eqv,deq]
  | str _=>simp only[toP,PyData.eqv,deq]
  | lst _=>simp only[toP,PyData.eqv,deq]
  | dct _ _=>cases m<;>simp[DV.plain]at h'
  | exc _=>cases m<;>simp[DV.plain]at h'
  | fn _=>cases m<;>simp[DV.plain]at h'
  | lam _ _=>cases m<;>simp[DV.plain]at h'
  | scr _=>cases m<;>simp[DV.plain]at h'
 | n+1,m,.lst ds,e,h,h'=>by
  cases e with
  | lst es=>
   cases m with
   | zero=>simp[DV.plain]at h'
   | succ m=>
    simp only[toP,PyData.eqv,deq];exact q6z n m ds es (by simpa[DV.plain]using h) (by simpa[DV.plain]using h')
  | non=>simp only[toP,PyData.eqv,deq]
  | bl _=>simp only[toP,PyData.eqv,deq]
  | int _=>simp only[toP,PyData.eqv,deq]
  | str _=>simp only[toP,PyData.eqv,deq]
  | tup _=>simp only[toP,PyData.eqv,deq]
  | dct _ _=>cases m<;>simp[DV.plain]at h'
  | exc _=>cases m<;>simp[DV.plain]at h'
  | fn _=>cases m<;>simp[DV.plain]at h'
  | lam _ _=>cases m<;>simp[DV.plain]at h'
  | scr _=>cases m<;>simp[DV.plain]at h'
 | n,_,.dct _ _,_,h,_=>by cases n<;>simp[DV.plain]at h
 | n,_,.exc _,_,h,_=>by cases n<;>simp[DV.plain]at h
 | n,_,.fn _,_,h,_=>by cases n<;>simp[DV.plain]at h
 | n,_,.lam _ _,_,h,_=>by cases n<;>simp[DV.plain]at h
 | n,_,.scr _,_,h,_=>by cases n<;>simp[DV.plain]at h
theorem q6z:∀(n m:Nat) (ds es:List DV),DV.plains n ds=true->DV.plains m es=true->PyData.eqvAll (toPs ds) (toPs es)=deqs ds es
 | _,_,[],[],_,_=>by simp only[toPs,PyData.eqvAll,deqs]
 | _,_,[],_::_,_,_=>by simp only[toPs,PyData.eqvAll,deqs]
 | _,_,_::_,[],_,_=>by simp only[toPs,PyData.eqvAll,deqs]
 | n,m,d::ds,e::es,h,h'=>by simp only[DV.plains,b8]at h h';simp only[toPs,PyData.eqvAll,deqs,q4R n m d e h.1 h'.1,q6z n m ds es h.2 h'.2]
end
mutual
theorem R0:∀(n:Nat) (d:DV),d.plain n=true->(toP d).canLay0=true/\(toP d).depth<=n
 | n,.non,_=>by simp[toP,PyData.canLay0,PyData.depth]
 | n,.bl _,_=>by simp[toP,PyData.canLay0,PyData.depth]
 | n,.int _,_=>by simp[toP,PyData.canLay0,PyData.depth]
 | n,.str x,h=>by
  have h':(x.cps.all (· < 0x110000))=true:=by cases n<;>simpa[DV.plain]using h
  simp only[toP,PyData.canLay0,PyData.depth];exact⟨h',G9 _⟩
 | 0,.tup _,h=>by simp[DV.plain]at h
 | 0,.lst _,h=>by simp[DV.plain]at h
 | n+1,.tup ds,h=>by have q:=O6 n ds (by simpa[DV.plain]using h);simp only[toP,PyData.canLay0,PyData.depth,q.1,true_and];have:=q.2;omega
 | n+1,.lst ds,h=>by have q:=O6 n ds (by simpa[DV.plain]using h);simp only[toP,PyData.canLay0,PyData.depth,q.1,true_and];have:=q.2;omega
 | n,.dct _ _,h=>by cases n<;>simp[DV.plain]at h
 | n,.exc _,h=>by cases n<;>simp[DV.plain]at h
 | n,.fn _,h=>by cases n<;>simp[DV.plain]at h
 | n,.lam _ _,h=>by cases n<;>simp[DV.plain]at h
 | n,.scr _,h=>by cases n<;>simp[DV.plain]at h
theorem O6:∀(n:Nat) (ds:List DV),DV.plains n ds=true->PyData.canLayAll0 (toPs ds)=true/\PyData.depthAll (toPs ds)<=n
 | _,[],_=>by simp[toPs,PyData.canLayAll0,PyData.depthAll]
 | n,d::ds,h=>by simp only[DV.plains,b8]at h;have q:=R0 n d h.1;have q':=O6 n ds h.2;simp only[toPs,PyData.canLayAll0,PyData.depthAll,q.1,q'.1,Bool.and_self,true_and];have a:=q.2;have b:=q'.2;omega
end
section
variable {X:Cx} {pins:List (Addr×Obj)} {σ:St} {H:Hp} {s:Shared}
mutual
theorem D8(I:Inv X pins σ H s):∀(n:Nat) {d:DV} {v:V} {u:Value},d.plain n=true->Rep X.D H d v->RelV v u->∃as,Reads s.heap u (toP d) as
 | _,.non,_,_,_,h,r=>by rw[Q8.mp h]at r;cases r;exact⟨_,Reads.none⟩
 | _,.bl b,_,_,_,h,r=>by rw[O0.mp h]at r;cases r;exact⟨_,Reads.bool b⟩
 | _,.int i,_,_,_,h,r=>by rw[A4.mp h]at r;obtain⟨t,rfl⟩:=r;exact⟨_,Reads.int i t⟩
 | _,.str x,_,_,_,h,r=>by rw[(y7.mp h).1]at r;obtain⟨t,rfl⟩:=r;exact⟨_,Reads.str x t⟩
 | 0,.tup _,_,_,p,_,_=>by simp[DV.plain]at p
 | 0,.lst _,_,_,p,_,_=>by simp[DV.plain]at p
 | n+1,.tup ds,_,_,p,h,r=>by obtain⟨a,xs,e1,e2,e3⟩:=A5.mp h;rw[e1]at r;cases r;obtain⟨its,rv,⟨o,h1,h2,k,h3⟩,_⟩:=I.tuple e2;obtain⟨as,q⟩:=q5i I n (by simpa[DV.plain]using p) e3 rv;rw[toP];exact⟨as,Reads.tuple h1 h2 h3 (by simpa using q)⟩
 | n+1,.lst ds,_,_,p,h,r=>by obtain⟨a,xs,e1,e2,e3⟩:=x3.mp h;rw[e1]at r;cases r;obtain⟨_,its,k,rv,_,h1⟩:=I.lstM e2;obtain⟨as,q⟩:=q5i I n (by simpa[DV.plain]using p) e3 rv;rw[toP];exact⟨_,Reads.list h1 rfl rfl (by simpa using q)⟩
 | n,.dct _ _,_,_,h,_,_=>by cases n<;>simp[DV.plain]at h
 | n,.exc _,_,_,h,_,_=>by cases n<;>simp[DV.plain]at h
 | n,.fn _,_,_,h,_,_=>by cases n<;>simp[DV.plain]at h
 | n,.lam _ _,_,_,h,_,_=>by cases n<;>simp[DV.plain]at h
 | n,.scr _,_,_,h,_,_=>by cases n<;>simp[DV.plain]at h
theorem q5i(I:Inv X pins σ H s):∀(n:Nat) {ds:List DV} {vs:List V} {us:List Value},DV.plains n ds=true->RepL X.D H ds vs->Vals vs us->∃as,ReadsAll s.heap us (toPs ds) as
 | _,[],_,_,_,h,r=>by rw[A6.mp h]at r;cases r;exact⟨_,ReadsAll.nil⟩
 | n,d::ds,_,_,p,h,r=>by
  simp only[DV.plains,b8]at p;obtain⟨v,vs,e1,e2,e3⟩:=t9.mp h;subst e1;cases r with
  | cons r1 r2=>
   obtain⟨as,q⟩:=D8 I n p.1 e2 r1;obtain⟨bs,q'⟩:=q5i I n p.2 e3 r2;rw[toPs];exact⟨_,ReadsAll.cons q q'⟩
end
theorem q3z(h:d.plain 60=true):SeqAt.shaped (toP d)=true:=by
 have q:=R0 60 d h;unfold SeqAt.shaped;rw[q.1,P6];exact r9 (m7 q.2 (by decide))
theorem q4C(h:d.plain 60=true):∀(ds:List DV),DV.plains 60 ds=true->((toPs ds).any λy=>PyData.eqv y (toP d))=ds.any λx=>deq x d
 | [],_=>rfl
 | e::ds,p=>by simp only[DV.plains,b8]at p;rw[toPs,N1,N1,q4R 60 60 e d p.1 h,q4C h ds p.2]
end
section
variable {X:Cx} {E:St->XK} {δ:List Sv} {a b c e:Expr} {pos:Pos} {ra rb rc:Option Re} {re:Re}
def cmpR(X:Cx)(op:CmpOp):R2:=λx y H Q=>∃dx dy k,cmpD op dx dy=some k/\Rep X.D H dx x/\Rep X.D H dy y/\Q (.bl k) H
theorem z4h(r:Rep D H d v):decide (v=.non)=isN d:=by
 cases d with
 | non=>rw[Q8.mp r];rfl
 | bl _=>rw[O0.mp r];rfl
 | int _=>rw[A4.mp r];rfl
 | str _=>rw[(y7.mp r).1];rfl
 | tup _=>obtain⟨a,xs,e,_⟩:=A5.mp r;rw[e];rfl
 | lst _=>obtain⟨a,xs,e,_⟩:=x3.mp r;rw[e];rfl
 | exc _=>obtain⟨a,C,e,_⟩:=q8e.mp r;rw[e];rfl
 | fn _=>obtain⟨a,e,_⟩:=z4H.mp r;rw[e];rfl
 | lam _ _=>obtain⟨a,_,_,_,_,_,_,_,e,_⟩:=q4U.mp r;rw[e];rfl
 | scr _=>obtain⟨a,e,_⟩:=L8.mp r;rw[e];rfl
 | dct _ _=>rcases Z9.mp r with⟨a,o,kvs,e,_⟩ | ⟨a,o,kvs,e,_⟩<;>rw[e]<;>rfl
theorem q5y(hu:X.A.units+64<cLine):OpR X (compareOp op) (cmpR X op):=by
 intro pins s σ H x y v u Q I rx ry h;obtain⟨dx,dy,k,hk,r1,r2,q⟩:=h;have fin:∀{k':Bool},k'=k->EP X pins σ Q (.bool k') s:=λ{k'} e=>⟨.bl k',H,I,rfl,by rw[e];exact q⟩
 unfold cmpD at hk;split at hk
 ·cases hk;exact y1t pins s σ H x y v u Q I rx ry ⟨_,_,A4.mp r1,A4.mp r2,q⟩
 ·cases hk;exact y1e pins s σ H x y v u Q I rx ry ⟨_,_,A4.mp r1,A4.mp r2,q⟩
 ·cases hk;exact y1k pins s σ H x y v u Q I rx ry ⟨_,_,A4.mp r1,A4.mp r2,q⟩
 ·split at hk
  ·rename_i p;rw[b8]at p;cases hk;obtain⟨as,q1⟩:=D8 I 60 p.1 r1 rx;obtain⟨bs,q2⟩:=D8 I 60 p.2 r2 ry;exact eq_dataH q1 q2 (q3z p.1) (q3z p.2) hu (fin (q4R 60 60 _ _ p.1 p.2))
  ·cases hk
 ·split at hk
  ·rename_i p;rw[b8]at p;cases hk;obtain⟨as,q1⟩:=D8 I 60 p.1 r1 rx;obtain⟨bs,q2⟩:=D8 I 60 p.2 r2 ry;exact ne_dataH q1 q2 (q3z p.1) (q3z p.2) hu (fin (by rw[q4R 60 60 _ _ p.1 p.2]))
  ·cases hk
 ·cases hk;exact z7I pins s σ H x y v u Q I rx ry ⟨Q8.mp r2,by rw[z4h r1];exact q⟩
 ·cases hk;exact z6Z pins s σ H x y v u Q I rx ry ⟨Q8.mp r2,by rw[z4h r1];exact q⟩
 ·rename_i ds;split at hk
  ·rename_i p;rw[b8]at p;cases hk;obtain⟨as,q1⟩:=D8 I 60 p.1 r1 rx;obtain⟨bs,q2⟩:=D8 I 61 (d:=.lst ds) (by simpa[DV.plain]using p.2) r2 ry;rw[toP]at q2;have l1:=R0 60 _ p.1;have l2:=O6 60 ds p.2;have l3:=l1.2;exact SeqAt.in_list_reads q2 q1 l2.1 l1.1 (by omega) (fin (q4C p.1 ds p.2))
  ·cases hk
 ·rename_i ds;split at hk
  ·rename_i p;rw[b8]at p;cases hk;obtain⟨as,q1⟩:=D8 I 60 p.1 r1 rx;obtain⟨bs,q2⟩:=D8 I 61 (d:=.lst ds) (by simpa[DV.plain]using p.2) r2 ry;rw[toP]at q2;have l1:=R0 60 _ p.1;have l2:=O6 60 ds p.2;have l3:=l1.2;exact SeqAt.notIn_list_reads q2 q1 l2.1 l1.1 (by omega) (fin (by rw[q4C p.1 ds p.2]))
  ·cases hk
 ·rename_i ds;split at hk
  ·rename_i p;rw[b8]at p;cases hk;obtain⟨as,q1⟩:=D8 I 60 p.1 r1 rx;obtain⟨bs,q2⟩:=D8 I 61 (d:=.tup ds) (by simpa[DV.plain]using p.2) r2 ry;rw[toP]at q2;have l1:=R0 60 _ p.1;have l2:=O6 60 ds p.2;have l3:=l1.2;exact SeqAt.in_tuple_reads q2 q1 l2.1 l1.1 (by omega) (fin (q4C p.1 ds p.2))
  ·cases hk
 ·rename_i ds;split at hk
  ·rename_i p;rw[b8]at p;cases hk;obtain⟨as,q1⟩:=D8 I 60 p.1 r1 rx;obtain⟨bs,q2⟩:=D8 I 61 (d:=.tup ds) (by simpa[DV.plain]using p.2) r2 ry;rw[toP]at q2;have l1:=R0 60 _ p.1;have l2:=O6 60 ds p.2;have l3:=l1.2;exact SeqAt.notIn_tuple_reads q2 q1 l2.1 l1.1 (by omega) (fin (by rw[q4C p.1 ds p.2]))
  ·cases hk
 ·rename_i yy xx;unfold inS at hk;split at hk
  ·rename_i c hc;cases hk;have e1:=(y7.mp r1).1;have e2:=(y7.mp r2).1;subst e1 e2;obtain⟨t,rfl⟩:=(show ∃t,v=Value.str yy t from rx);obtain⟨t',rfl⟩:=(show ∃t,u=Value.str xx t from ry);have:=q4o hc;subst this;exact PySem.P.in_str (fin (StrLaws.found_one xx c))
  ·cases hk
 ·rename_i yy xx;unfold inS at hk;split at hk
  ·rename_i c hc;cases hk;have e1:=(y7.mp r1).1;have e2:=(y7.mp r2).1;subst e1 e2;obtain⟨t,rfl⟩:=(show ∃t,v=Value.str yy t from rx);obtain⟨t',rfl⟩:=(show ∃t,u=Value.str xx t from ry);have:=q4o hc;subst this;exact PySem.P.notIn_str (fin (by rw[StrLaws.found_one xx c]))
  ·cases hk
 ·cases hk
theorem q4X(h:D5 b=false):behindInMarks op b=false:=by
 cases b<;>first | rfl | cases h
theorem z5Y(hu:X.A.units+64<cLine)(ha:∀q,ra=some q->PE X a (dE X.D E δ q))(hb:∀q,rb=some q->PE X b (dE X.D E δ q))(hs:D5 b=false)
  (h:(Re.thn ra λx _=>Re.thn rb λy _=>(cmpD op x y).map λk=>.ok (.bl k) .strong)=some re):PE X (.Compare a [op] [b] pos) (dE X.D E δ re):=
 q9b (λ_ _ h1 h2=>z7s (q5y hu) h1 h2 (q4X hs)) ha hb h λO W H0 H x y Q dx cx dy cy σ k hd gx gy p=>by obtain⟨k',e1,e2⟩:=j8.mp k;cases e2;exact⟨dx,dy,k',e1,gx.all hd,gy.all hd,p _ H (Same.refl H) K2⟩
theorem z1u(ha:∀q,ra=some q->PE X a (dE X.D E δ q))(hb:∀q,rb=some q->PE X b (dE X.D E δ q))
  (h:(Re.thn ra λx _=>Re.thn rb λy _=>(cmpD op x y).map λk=>.ok (.bl k) .strong)=some re):∃ta tb,PE X a ta/\PE X b tb/\∀σ H Q,dE X.D E δ re σ H Q->tOp (cmpR X op) ta tb σ H Q:=
 q8K ha hb h λO W H0 H x y Q dx cx dy cy σ k hd gx gy p=>by obtain⟨k',e1,e2⟩:=j8.mp k;cases e2;exact⟨dx,dy,k',e1,gx.all hd,gy.all hd,p _ H (Same.refl H) K2⟩
theorem z4G(hb:∀d c,re=.ok d c->∃k,d=.bl k)(h:tstD (some re)=some r)(q:dT X.D E δ r σ H Q):dE X.D E δ re σ H (λx H'=>∃k,x=.bl k/\Q k H'):=by
 obtain⟨O,W,R,p⟩:=q;cases re with
 | ex c=>cases h;exact⟨O,W,R,p⟩
 | ok d c=>
  obtain⟨k,rfl⟩:=hb d c rfl;cases h;exact⟨O,W,R,λv H' s g=>⟨k,g.bl (R.hid.mono s),p H' s⟩⟩
theorem z7Y(h:(Re.thn ra λx _=>Re.thn rb λy _=>(cmpD op x y).map λk=>.ok (.bl k) .strong)=some re):∀d c,re=.ok d c->∃k,d=.bl k:=by
 intro d c e;subst e;cases ra with
 | none=>cases h
 | some q=>
  cases q with
  | ex c=>cases h
  | ok d c=>
   cases rb with
   | none=>cases h
   | some q=>
    cases q with
    | ex c=>cases h
    | ok d' c'=>
     obtain⟨k,_,e⟩:=j8.mp (show((cmpD op d d').map λk=>Re.ok (.bl k) .strong)=_ from h);cases e;exact⟨k,rfl⟩
theorem z3v(hu:X.A.units+64<cLine)(ha:∀q,ra=some q->PE X a (dE X.D E δ q))(hb:∀q,rb=some q->PE X b (dE X.D E δ q))(hs:D5 b=false)
  (h:tstD (Re.thn ra λx _=>Re.thn rb λy _=>(cmpD op x y).map λk=>.ok (.bl k) .strong)=some r):PT X (.Compare a [op] [b] pos) (dT X.D E δ r):=by
 cases q:(Re.thn ra λx _=>Re.thn rb λy _=>(cmpD op x y).map λk=>Re.ok (.bl k) .strong)with
 | none=>rw[q]at h;cases h
 | some re=>
  rw[q]at h;obtain⟨ta,tb,A,B,w⟩:=z1u ha hb q;exact(z5V (q5y hu) A B (q4X hs)).weak λσ H Q z=>w σ H _ (z4G (z7Y q) h z)
theorem q4i(h:D5 c=false):lastMarks [op,op'] [b,c]=false:=by
 show behindInMarks op' c=false;exact q4X h
theorem q4Z(ha:∀q,ra=some q->PE X a (dE X.D E δ q))(hb:∀q,rb=some q->PE X b (dE X.D E δ q))(hc:∀q,rc=some q->PE X c (dE X.D E δ q))
  (h:(Re.thn ra λx _=>Re.thn rb λy _=>match cmpD op x y with
   | none=>none
   | some false=>some (.ok (.bl false) .strong)
   | some true=>Re.thn rc λz _=>(cmpD op' y z).map λk=>.ok (.bl k) .strong)=some re):∃ta tb tc,PE X a ta/\PE X b tb/\PE X c tc/\(∀σ H Q,dE X.D E δ re σ H Q->z0e (cmpR X op) (cmpR X op') ta tb tc σ H Q)/\∀d cl,re=.ok d cl->∃k,d=.bl k:=by
 cases hra:ra with
 | none=>rw[hra]at h;cases h
 | some q=>
  rw[hra]at h;have A:=ha q hra;cases q with
  | ex c=>cases h;exact⟨_,_,_,A,E6,E6,λσ H Q ⟨O,W,R,p⟩=>⟨O,W,R,p⟩,λd cl z=>nomatch z⟩
  | ok dx cx=>
   cases hrb:rb with
   | none=>rw[hrb]at h;cases h
   | some q=>
    rw[hrb]at h;have B:=hb q hrb;cases q with
    | ex c=>cases h;exact⟨_,_,_,A,B,E6,λσ H Q ⟨O,W,R,p⟩=>⟨O,W,R,λx H1 s1 g1=>⟨O,W,R.mono s1,λH' C m s=>p H' C m (s1.trans s)⟩⟩,λd cl z=>nomatch z⟩
    | ok dy cy=>
     have h':(match(generalizing:=false) cmpD op dx dy with
      | none=>none
      | some false=>some (Re.ok (.bl false) .strong)
      | some true=>Re.thn rc λz _=>(cmpD op' dy z).map λk=>.ok (.bl k) .strong)=some re:=h
     split at h'
     ·cases h'
     ·rename_i e1;cases h';exact⟨_,_,_,A,B,E6,λσ H Q ⟨O,W,R,p⟩=>⟨O,W,R,λx H1 s1 g1=>⟨O,W,R.mono s1,λy H2 s2 g2=>
       ⟨dx,dy,false,e1,(g1.mono s2).all ((R.hid.mono s1).mono s2),g2.all ((R.mono s1).hid.mono s2),false,rfl,by rw[d6 G5];exact p _ _ (s1.trans s2) K2⟩⟩⟩,λd cl z=>by cases z;exact⟨_,rfl⟩⟩
     ·rename_i e1;cases hrc:rc with
      | none=>rw[hrc]at h';cases h'
      | some q=>
       rw[hrc]at h';have C:=hc q hrc;cases q with
       | ex c'=>
        cases h';exact⟨_,_,_,A,B,C,λσ H Q ⟨O,W,R,p⟩=>⟨O,W,R,λx H1 s1 g1=>⟨O,W,R.mono s1,λy H2 s2 g2=>
         ⟨dx,dy,true,e1,(g1.mono s2).all ((R.hid.mono s1).mono s2),g2.all ((R.mono s1).hid.mono s2),true,rfl,by rw[d4 rfl];exact⟨O,W,(R.mono s1).mono s2,λH' C m s=>p H' C m (s1.trans (s2.trans s))⟩⟩⟩⟩,λd cl z=>nomatch z⟩
       | ok dz cz=>
        obtain⟨k,e2,e3⟩:=j8.mp (show((cmpD op' dy dz).map λk=>Re.ok (.bl k) .strong)=some re from h');cases e3;exact⟨_,_,_,A,B,C,λσ H Q ⟨O,W,R,p⟩=>⟨O,W,R,λx H1 s1 g1=>⟨O,W,R.mono s1,λy H2 s2 g2=>
         ⟨dx,dy,true,e1,(g1.mono s2).all ((R.hid.mono s1).mono s2),g2.all ((R.mono s1).hid.mono s2),true,rfl,by
          rw[d4 rfl];exact⟨O,W,(R.mono s1).mono s2,λz H3 s3 g3=>⟨dy,dz,k,e2,(g2.mono s3).all (((R.mono s1).hid.mono s2).mono s3),g3.all (((R.mono s1).mono s2).hid.mono s3),p _ _ (s1.trans (s2.trans s3)) K2⟩⟩⟩⟩⟩,λd cl z=>by cases z;exact⟨_,rfl⟩⟩
theorem z1E(hu:X.A.units+64<cLine)(ha:∀q,ra=some q->PE X a (dE X.D E δ q))(hb:∀q,rb=some q->PE X b (dE X.D E δ q))(hc:∀q,rc=some q->PE X c (dE X.D E δ q))(hs:D5 c=false)
  (h:(Re.thn ra λx _=>Re.thn rb λy _=>match cmpD op x y with
   | none=>none
   | some false=>some (.ok (.bl false) .strong)
   | some true=>Re.thn rc λz _=>(cmpD op' y z).map λk=>.ok (.bl k) .strong)=some re):PE X (.Compare a [op,op'] [b,c] pos) (dE X.D E δ re):=by
 obtain⟨ta,tb,tc,A,B,C,w,_⟩:=q4Z ha hb hc h;exact(z2S (q5y hu) (q5y hu) A B C (q4i hs)).weak w
theorem z0a(hu:X.A.units+64<cLine)(ha:∀q,ra=some q->PE X a (dE X.D E δ q))(hb:∀q,rb=some q->PE X b (dE X.D E δ q))(hc:∀q,rc=some q->PE X c (dE X.D E δ q))(hs:D5 c=false)
  (h:tstD (Re.thn ra λx _=>Re.thn rb λy _=>match cmpD op x y with
   | none=>none
   | some false=>some (.ok (.bl false) .strong)
   | some true=>Re.thn rc λz _=>(cmpD op' y z).map λk=>.ok (.bl k) .strong)=some r):PT X (.Compare a [op,op'] [b,c] pos) (dT X.D E δ r):=by
 cases q:(Re.thn ra λx _=>Re.thn rb λy _=>match cmpD op x y with
   | none=>none
   | some false=>some (Re.ok (.bl false) .strong)
   | some true=>Re.thn rc λz _=>(cmpD op' y z).map λk=>.ok (.bl k) .strong)with
 | none=>rw[q]at h;cases h
 | some re=>
  rw[q]at h;obtain⟨ta,tb,tc,A,B,C,w,hbl⟩:=q4Z ha hb hc q;exact(z3l (q5y hu) (q5y hu) A B C (q4i hs)).weak λσ H Q z=>w σ H _ (z4G hbl h z)
end
section
variable {X:Cx} {E:St->XK} {δ:List Sv} {a b c e:Expr} {es:List Expr} {pos:Pos} {ra:Option Re} {rt ru:Option Rt} {r:Rt} {re:Re}
theorem q5E(h:D2 d=some k)(r:Rep D H d v):TruV D.K v H k:=by
 cases d with
 | non=>cases h;rw[Q8.mp r];rfl
 | bl b=>cases h;rw[O0.mp r];rfl
 | int i=>cases h;rw[A4.mp r];rfl
 | str x=>
  cases h;obtain⟨e1,e2⟩:=y7.mp r;rw[e1];refine⟨e2,?_⟩;show(x.cps.size != 0)=(((x.cps.size:Nat):Int) != 0);cases x.cps.size with
  | zero=>rfl
  | succ n=>simp only[bne,Nat.add_eq_zero_iff];rw[J9];simp;omega
 | tup ds=>
  cases h;obtain⟨a,xs,e1,e2,e3⟩:=A5.mp r;rw[e1];refine .inr (.inl ⟨xs,e2,?_⟩);have:=e3.length;cases xs<;>cases ds<;>first | rfl | cases this
 | lst ds=>
  cases h;obtain⟨a,xs,e1,e2,e3⟩:=x3.mp r;rw[e1];refine .inl ⟨xs,SqL.of e2,?_⟩;have:=e3.length;cases xs<;>cases ds<;>first | rfl | cases this
 | dct _ _=>cases h
 | exc _=>cases h
 | fn _=>cases h
 | lam _ _=>cases h
 | scr _=>cases h
theorem z0I(ha:∀q,ra=some q->PE X e (dE X.D E δ q))(he:∀whole,isTrue e X.env whole=(do let v ←whole;standAt e.pos;holding [v] (truthy v)))(h:tstD ra=some r):PT X e (dT X.D E δ r):=by
 cases hra:ra with
 | none=>rw[hra]at h;cases h
 | some q=>
  rw[hra]at h;have A:=ha q hra;cases q with
  | ex c=>cases h;exact(q8M A he).weak λσ H Q ⟨O,W,R,p⟩=>⟨O,W,R,p⟩
  | ok d cl=>
   obtain⟨k,e1,e2⟩:=j8.mp (show(D2 d).map Rt.ok=some r from h);cases e2;exact(q8M A he).weak λσ H Q ⟨O,W,R,p⟩=>⟨O,W,R,λx H1 s1 g1=>⟨k,q5E e1 (g1.all (R.hid.mono s1)),p H1 s1⟩⟩
theorem z5i(ha:PE X a ta):PE X (.UnaryOp .Not a pos) (tUn (λx H Q=>∃k,TruV X.K x H k/\Q (.bl (!k)) H) ta):=by
 intro pins s σ H Q I h;refine UnaryOp_ (thn (ha pins s σ H _ I h) λv s1 ⟨x,H1,I1,r1,q1⟩=>?_);obtain⟨k,t,q1⟩:=q1;exact not_of (thn (q8Z pins s1 σ H1 x v (λb H'=>b=k/\H'=H1) I1 r1 ⟨k,t,rfl,rfl⟩) λb s2 ⟨H2,I2,e1,e2⟩=>by
  subst e1 e2;exact⟨.bl (!b),H2,I2,rfl,q1⟩)
theorem z6X(ha:∀q,ra=some q->PE X a (dE X.D E δ q))(h:(Re.thn ra λx _=>(D2 x).map λk=>.ok (.bl (!k)) .strong)=some re):PE X (.UnaryOp .Not a pos) (dE X.D E δ re):=
 z4w (λ_=>z5i) ha h λO W H0 H x Q dx cx σ k hd gx p=>by obtain⟨b,e1,e2⟩:=j8.mp k;cases e2;exact⟨b,q5E e1 (gx.all hd),p _ H (Same.refl H) K2⟩
theorem q8y(ha:PE X a ta)(hb:PE X (.BoolOp .And (b::es) pos) tb):PE X (.BoolOp .And (a::b::es) pos) (λσ H Q=>ta σ H λx H1=>∃k,TruV X.K x H1 k/\if k=true then tb σ H1 Q else Q x H1):=by
 intro pins s σ H Q I h;refine BoolOp_and (thn (ha pins s σ H _ I h) λv s1 ⟨x,H1,I1,r1,q1⟩=>?_);obtain⟨k,t,q1⟩:=q1;refine thn (q8Z pins s1 σ H1 x v (λb H'=>b=k/\H'=H1) I1 r1 ⟨k,t,rfl,rfl⟩) λc s2 ⟨H2,I2,e1,e2⟩=>?_
 subst e1 e2;cases c with
 | true=>exact hb pins s2 σ H2 Q I2 q1
 | false=>exact⟨x,H2,I2,r1,q1⟩
theorem z1I(ha:PE X a ta)(hb:PE X (.BoolOp .Or (b::es) pos) tb):PE X (.BoolOp .Or (a::b::es) pos) (λσ H Q=>ta σ H λx H1=>∃k,TruV X.K x H1 k/\if k=true then Q x H1 else tb σ H1 Q):=by
 intro pins s σ H Q I h;refine BoolOp_or (thn (ha pins s σ H _ I h) λv s1 ⟨x,H1,I1,r1,q1⟩=>?_);obtain⟨k,t,q1⟩:=q1;refine thn (q8Z pins s1 σ H1 x v (λb H'=>b=k/\H'=H1) I1 r1 ⟨k,t,rfl,rfl⟩) λc s2 ⟨H2,I2,e1,e2⟩=>?_
 subst e1 e2;cases c with
 | false=>exact hb pins s2 σ H2 Q I2 q1
 | true=>exact⟨x,H2,I2,r1,q1⟩
theorem z6D(ha:∀q,ra=some q->PE X a (dE X.D E δ q))(hb:∀q,rb=some q->PE X (.BoolOp .And (b::es) pos) (dE X.D E δ q))(h:(Re.thn ra λx c=>andD x c rb)=some re):PE X (.BoolOp .And (a::b::es) pos) (dE X.D E δ re):=by
 cases hra:ra with
 | none=>rw[hra]at h;cases h
 | some q=>
  rw[hra]at h;have A:=ha q hra;cases q with
  | ex c=>cases h;exact(q8y A E6).weak λσ H Q ⟨O,W,R,p⟩=>⟨O,W,R,p⟩
  | ok d cl=>
   have h':andD d cl rb=some re:=h;unfold andD at h';split at h'
   ·cases h'
   ·rename_i t;exact(q8y A (hb re h')).weak λσ H Q ⟨O,W,R,p⟩=>⟨O,W,R,λx H1 s1 g1=>⟨true,q5E t (g1.all (R.hid.mono s1)),iteT ⟨O,W,R.mono s1,p.later s1 s1⟩⟩⟩
   ·rename_i t;cases h';exact(q8y A E6).weak λσ H Q ⟨O,W,R,p⟩=>⟨O,W,R,λx H1 s1 g1=>⟨false,q5E t (g1.all (R.hid.mono s1)),iteF (p _ H1 s1 g1)⟩⟩
theorem z7N(ha:∀q,ra=some q->PE X a (dE X.D E δ q))(hb:∀q,rb=some q->PE X (.BoolOp .Or (b::es) pos) (dE X.D E δ q))(h:(Re.thn ra λx c=>orD x c rb)=some re):PE X (.BoolOp .Or (a::b::es) pos) (dE X.D E δ re):=by
 cases hra:ra with
 | none=>rw[hra]at h;cases h
 | some q=>
  rw[hra]at h;have A:=ha q hra;cases q with
  | ex c=>cases h;exact(z1I A E6).weak λσ H Q ⟨O,W,R,p⟩=>⟨O,W,R,p⟩
  | ok d cl=>
   have h':orD d cl rb=some re:=h;unfold orD at h';split at h'
   ·cases h'
   ·rename_i t;cases h';exact(z1I A E6).weak λσ H Q ⟨O,W,R,p⟩=>⟨O,W,R,λx H1 s1 g1=>⟨true,q5E t (g1.all (R.hid.mono s1)),iteT (p _ H1 s1 g1)⟩⟩
   ·rename_i t;exact(z1I A (hb re h')).weak λσ H Q ⟨O,W,R,p⟩=>⟨O,W,R,λx H1 s1 g1=>⟨false,q5E t (g1.all (R.hid.mono s1)),iteF ⟨O,W,R.mono s1,p.later s1 s1⟩⟩⟩
theorem q8c(h:tstD (Re.thn ra k)=some r):(ra=none/\False)\/(∃c,ra=some (.ex c)/\r=.ex c)\/∃d c,ra=some (.ok d c)/\tstD (k d c)=some r:=by
 cases hra:ra with
 | none=>rw[hra]at h;cases h
 | some q=>
  rw[hra]at h;cases q with
  | ex c=>cases h;exact .inr (.inl ⟨c,rfl,rfl⟩)
  | ok d c=>exact .inr (.inr ⟨d,c,rfl,h⟩)
theorem z4s{d:DV}{c:Cl}{r:Rt}(h:tstD (some (.ok d c))=some r):∃k,D2 d=some k/\r=.ok k:=by
 obtain⟨k,e1,e2⟩:=j8.mp (show(D2 d).map Rt.ok=some r from h);exact⟨k,e1,e2.symm⟩
theorem z3s(ha:∀q,tstD ra=some q->PT X a (dT X.D E δ q))(h:tstD (Re.thn ra λx _=>(D2 x).map λk=>.ok (.bl (!k)) .strong)=some r):PT X (.UnaryOp .Not a pos) (dT X.D E δ r):=by
 rcases q8c h with⟨_,z⟩ | ⟨c,e1,e2⟩ | ⟨d,c,e1,e2⟩
 ·exact z.elim
 ·subst e1 e2;exact(z4u (ha (.ex c) rfl)).weak λσ H Q ⟨O,W,R,p⟩=>⟨O,W,R,p⟩
 ·cases t:D2 d with
  | none=>rw[t]at e2;cases e2
  | some k=>
   rw[t]at e2;cases e2;have A:=ha (.ok k) (by rw[e1];show(D2 d).map Rt.ok=_;rw[t];rfl);exact(z4u A).weak λσ H Q ⟨O,W,R,p⟩=>⟨O,W,R,λH1 s1=>p H1 s1⟩
theorem z3B(ha:∀q,tstD ra=some q->PT X a (dT X.D E δ q))(hb:∀q,tstD rb=some q->PW X (.BoolOp .And (b::es) pos) (dT X.D E δ q))(h:tstD (Re.thn ra λx c=>andD x c rb)=some r):PW X (.BoolOp .And (a::b::es) pos) (dT X.D E δ r):=by
 rcases q8c h with⟨_,z⟩ | ⟨c,e1,e2⟩ | ⟨d,c,e1,e2⟩
 ·exact z.elim
 ·subst e1 e2;exact(z2f (ha (.ex c) rfl) q6u).weak λσ H Q ⟨O,W,R,p⟩=>⟨O,W,R,p⟩
 ·unfold andD at e2;cases t:D2 d with
  | none=>rw[t]at e2;cases e2
  | some k=>
   rw[t]at e2;have A:=ha (.ok k) (by rw[e1];show(D2 d).map Rt.ok=_;rw[t];rfl);cases k with
   | true=>exact(z2f A (hb r e2)).weak λσ H Q ⟨O,W,R,p⟩=>⟨O,W,R,λH1 s1=>iteT ⟨O,W,R.mono s1,p.later s1⟩⟩
   | false=>
    obtain⟨k,t',rfl⟩:=z4s e2;rw[t]at t';cases t';exact(z2f A q6u).weak λσ H Q ⟨O,W,R,p⟩=>⟨O,W,R,λH1 s1=>iteF (p H1 s1)⟩
theorem z6Q(ha:∀q,tstD ra=some q->PT X a (dT X.D E δ q))(hb:∀q,tstD rb=some q->PW X (.BoolOp .Or (b::es) pos) (dT X.D E δ q))(h:tstD (Re.thn ra λx c=>orD x c rb)=some r):PW X (.BoolOp .Or (a::b::es) pos) (dT X.D E δ r):=by
 rcases q8c h with⟨_,z⟩ | ⟨c,e1,e2⟩ | ⟨d,c,e1,e2⟩
 ·exact z.elim
 ·subst e1 e2;exact(z7d (ha (.ex c) rfl) q6u).weak λσ H Q ⟨O,W,R,p⟩=>⟨O,W,R,p⟩
 ·unfold orD at e2;cases t:D2 d with
  | none=>rw[t]at e2;cases e2
  | some k=>
   rw[t]at e2;have A:=ha (.ok k) (by rw[e1];show(D2 d).map Rt.ok=_;rw[t];rfl);cases k with
   | false=>exact(z7d A (hb r e2)).weak λσ H Q ⟨O,W,R,p⟩=>⟨O,W,R,λH1 s1=>iteF ⟨O,W,R.mono s1,p.later s1⟩⟩
   | true=>
    obtain⟨k,t',rfl⟩:=z4s e2;rw[t]at t';cases t';exact(z7d A q6u).weak λσ H Q ⟨O,W,R,p⟩=>⟨O,W,R,λH1 s1=>iteT (p H1 s1)⟩
theorem q6c(hc:PT X c tc)(ha:PT X a t)(hb:PT X b u):PT X (.IfExp c a b pos) (λσ H Q=>tc σ H λk H1=>if k=true then t σ H1 Q else u σ H1 Q):=by
 intro pins s σ H Q I h;refine isTrue_IfExp (thn (hc pins s σ H _ I h) λk s1 ⟨H1,I1,q1⟩=>?_);cases k with
 | true=>exact ha pins s1 σ H1 Q I1 q1
 | false=>exact hb pins s1 σ H1 Q I1 q1
theorem z2G(hc:∀q,rt=some q->PT X c (dT X.D E δ q))(ha:∀q,tstD ra=some q->PT X a (dT X.D E δ q))(hb:∀q,tstD rb=some q->PT X b (dT X.D E δ q))(h:tstD (Rt.thn rt λk=>if k then ra else rb)=some r):PT X (.IfExp c a b pos) (dT X.D E δ r):=by
 cases hrt:rt with
 | none=>rw[hrt]at h;cases h
 | some q=>
  rw[hrt]at h;have C:=hc q hrt;cases q with
  | ex c=>cases h;exact(q6c C q5S q5S).weak λσ H Q ⟨O,W,R,p⟩=>⟨O,W,R,p⟩
  | ok k=>
   cases k with
   | true=>exact(q6c C (ha r h) q5S).weak λσ H Q ⟨O,W,R,p⟩=>⟨O,W,R,λH1 s1=>iteT ⟨O,W,R.mono s1,p.later s1⟩⟩
   | false=>exact(q6c C q5S (hb r h)).weak λσ H Q ⟨O,W,R,p⟩=>⟨O,W,R,λH1 s1=>iteF ⟨O,W,R.mono s1,p.later s1⟩⟩
theorem z6K(hc:∀q,rt=some q->PT X c (dT X.D E δ q))(ha:∀q,rb=some q->PE X a (dE X.D E δ q))(hb:∀q,rc=some q->PE X b (dE X.D E δ q))
  (h:(Rt.thn rt λk=>if k then rb else rc)=some re):PE X (.IfExp c a b pos) (dE X.D E δ re):=by
 cases hrt:rt with
 | none=>rw[hrt]at h;cases h
 | some q=>
  rw[hrt]at h;have C:=hc q hrt;cases q with
  | ex c=>cases h;exact(q6m C E6 E6).weak λσ H Q ⟨O,W,R,p⟩=>⟨O,W,R,p⟩
  | ok k=>
   cases k with
   | true=>
    have h':rb=some re:=h;exact(q6m C (ha re h') E6).weak λσ H Q ⟨O,W,R,p⟩=>⟨O,W,R,λH1 s1=>iteT ⟨O,W,R.mono s1,p.later s1 s1⟩⟩
   | false=>
    have h':rc=some re:=h;exact(q6m C E6 (hb re h')).weak λσ H Q ⟨O,W,R,p⟩=>⟨O,W,R,λH1 s1=>iteF ⟨O,W,R.mono s1,p.later s1 s1⟩⟩
theorem o9(h:i9 e=false):starEach (e::es) env=(false,eval e env)::starEach es env:=by
 cases e<;>first | rfl | cases h
theorem z2J:PA X [] (dA X.D E δ (.ok [])):=L3.weak λσ H Q ⟨O,W,R,p⟩=>p [] H (Same.refl H) .nil
theorem z2p(hs:i9 e=false)(ha:∀q,ra=some q->PE X e (dE X.D E δ q))(hb:∀q,rs=some q->PA X es (dA X.D E δ q))
  (h:(match(generalizing:=false) ra with | none=>none | some (.ex c)=>some (Rs.ex c) | some (.ok d c)=>(match(generalizing:=false) rs with | none=>none | some (.ex c)=>some (.ex c) | some (.ok l)=>some (.ok ((d,c)::l))))=some q):PA X (e::es) (dA X.D E δ q):=by
 cases hra:ra with
 | none=>rw[hra]at h;cases h
 | some z=>
  rw[hra]at h;have A:=ha z hra;cases z with
  | ex c=>cases h;exact(C2 A z5N (o9 hs)).weak λσ H Q ⟨O,W,R,p⟩=>⟨O,W,R,p⟩
  | ok d cl=>
   cases hrs:rs with
   | none=>rw[hrs]at h;cases h
   | some y=>
    rw[hrs]at h;have B:=hb y hrs;cases y with
    | ex c=>cases h;exact(C2 A B (o9 hs)).weak λσ H Q ⟨O,W,R,p⟩=>⟨O,W,R,λx H1 s1 g1=>⟨O,W,R.mono s1,λH' C m s=>p H' C m (s1.trans s)⟩⟩
    | ok l=>
     cases h;exact(C2 A B (o9 hs)).weak λσ H Q ⟨O,W,R,p⟩=>⟨O,W,R,λx H1 s1 g1=>⟨O,W,R.mono s1,λvs H2 s2 g2=>p _ H2 (s1.trans s2) (.cons (g1.mono s2) (g2.since s1))⟩⟩
theorem z6h(ha:∀q,rs=some q->PA X es (dA X.D E δ q))(h:(Rs.thn rs λl=>if l.length<=mostLen then some (.ok (.lst (l.map (·.1))) (if stros l then .fresh else .weak))else none)=some re):PE X (.List es pos) (dE X.D E δ re):=
 q4p (r:=λvs H Q=>vs.length<=sizeLine/\∀p,H p=none->Q (.ref p) (upd H p (.lst vs))) (λ_=>z7E) ha h λO W H0 H vs Q l σ k hd g p=>by
  split at k
  ·rename_i m;cases k;refine⟨by rw[g.length];exact L9 m,λq hq=>p _ _ (v7 hq) ?_⟩;by_cases z:stros l=true
   ·rw[d4 z];exact K3 hd hq (g.stros hd z)
   ·rw[d6 z];exact q5U hd hq (g.repL hd)
  ·cases k
theorem z6k(ha:∀q,rs=some q->PA X es (dA X.D E δ q))(h:(Rs.thn rs λl=>if l.length<=mostLen then some (.ok (.tup (l.map (·.1))) (if stros l then .strong else .weak))else none)=some re):PE X (.Tuple es x1 pos) (dE X.D E δ re):=
 q4p (r:=λvs H Q=>vs.length<=sizeLine/\∀p,H p=none->Q (.ref p) (upd H p (.tup vs))) (λ_=>z4k) ha h λO W H0 H vs Q l σ k hd g p=>by
  split at k
  ·rename_i m;cases k;refine⟨by rw[g.length];exact L9 m,λq hq=>p _ _ (v7 hq) ?_⟩;by_cases z:stros l=true
   ·rw[d4 z];exact q3R hd hq (g.stros hd z)
   ·rw[d6 z];exact q5W hd hq (g.repL hd)
  ·cases k
end
end
section
theorem q6f:∀ds:List DV,toPs ds=ds.map toP
 | []=>by rw[toPs];rfl
 | d::r=>by rw[toPs,q6f r];rfl
theorem q8w:∀{ds:List DV} {j:Nat},L5 y ds=some j->∃h:j<ds.length,deq ds[j] y=true/\∀m (hm:m<ds.length),m<j->deq ds[m] y=false
 | [],j,h=>by cases h
 | d::r,j,h=>by
  unfold L5 at h;split at h
  ·rename_i e;cases h;exact⟨Nat.succ_pos _,e,λm _ hm=>absurd hm (Nat.not_lt_zero _)⟩
  ·rename_i e;obtain⟨k,h1,rfl⟩:=j8.mp h;obtain⟨hk,h2,h3⟩:=q8w h1;refine⟨Nat.succ_lt_succ hk,h2,λm hm hlt=>?_⟩;cases m with
   | zero=>exact Bool.eq_false_iff.mpr e
   | succ m=>exact h3 m (w2g hm) (w2g hlt)
theorem q7n:∀{ds:List DV} {m:Nat} (h:m<ds.length),DV.plains n ds=true->(ds[m]).plain n=true
 | d::r,0,_,p=>by simp only[DV.plains,b8]at p;exact p.1
 | d::r,m+1,h,p=>by simp only[DV.plains,b8]at p;exact q7n (ds:=r) (w2g h) p.2
section
variable {X:Cx} {pins:List (Addr×Obj)} {σ:St} {H:Hp} {s:Shared} {E:St->XK} {δ:List Sv} {o e:Expr} {to te:TE} {apos cpos:Pos} {ra rb:Option Re} {re:Re}
theorem q9e(p:y.plain 60=true)(q:DV.plains 60 ds=true)(h:L5 y ds=some j) :
  ∃h:j<(toPs ds).length,PyData.eqv (toPs ds)[j] (toP y)=true/\∀m (hm:m<(toPs ds).length),m<j->PyData.eqv (toPs ds)[m] (toP y)=false:=by
 obtain⟨hj,h1,h2⟩:=q8w h;have hl:(toPs ds).length=ds.length:=by rw[q6f,g9]
 have ha:∀m (h1:m<(toPs ds).length) (h2:m<ds.length),PyData.eqv (toPs ds)[m] (toP y)=deq ds[m] y:=λm h1 h2=>by
  rw[←q4R 60 60 ds[m] y (q7n h2 q) p]
  congr 1
  simp only[q6f,List.getElem_map]
 exact⟨by omega,(ha j (by omega) hj).trans h1,λm hm hlt=>(ha m hm (by omega)).trans (h2 m (by omega) hlt)⟩
theorem z5I(hu:X.A.units+64<cLine)(I:Inv X pins σ H s)(rx:RelV x v)(ry:RelV y u)(r1:Rep X.D H (.lst ds) x)(r2:Rep X.D H dy y)(p:dy.plain 60=true)(q:DV.plains 60 ds=true)(hl:ds.length<=mostLen)
  (h:L5 dy ds=some j) (k:Q (.int j) H):wpAny (model X.prog X.w) X.A (call (.builtin "list.index") [v,u]) (EP X pins σ Q) X.xe s:=by
 obtain⟨as,q1⟩:=D8 I 60 p r2 ry;obtain⟨bs,q2⟩:=D8 I 61 (d:=.lst ds) (by simpa[DV.plain]using q) r1 rx;rw[toP]at q2;have l1:=R0 60 _ p;have l2:=O6 60 ds q;have l3:=l1.2;obtain⟨hj,f1,f2⟩:=q9e p q h;have hj2:=(q8w h).1;exact SeqAt.index_list_reads q2 q1 l2.1 l1.1 (by omega) hj (by have:mostLen=1000000:=rfl;omega) f1 f2 ⟨.int j,H,I.tok _,⟨_,rfl⟩,k⟩
theorem z5A(hu:X.A.units+64<cLine)(I:Inv X pins σ H s)(rx:RelV x v)(ry:RelV y u)(r1:Rep X.D H (.tup ds) x)(r2:Rep X.D H dy y)(p:dy.plain 60=true)(q:DV.plains 60 ds=true)
  (h:L5 dy ds=some j) (k:Q (.int j) H):wpAny (model X.prog X.w) X.A (call (.builtin "tuple.index") [v,u]) (EP X pins σ Q) X.xe s:=by
 obtain⟨as,q1⟩:=D8 I 60 p r2 ry;obtain⟨bs,q2⟩:=D8 I 61 (d:=.tup ds) (by simpa[DV.plain]using q) r1 rx;rw[toP]at q2;have l1:=R0 60 _ p;have l2:=O6 60 ds q;have l3:=l1.2;obtain⟨hj,f1,f2⟩:=q9e p q h;exact SeqAt.index_tuple_reads q2 q1 l2.1 l1.1 (by omega) hj f1 f2 ⟨.int j,H,I.tok _,⟨_,rfl⟩,k⟩
def tIdx(X:Cx)(to te:TE):TE:=λσ H Q=>to σ H λx H1=>(∃ds,Rep X.D H1 (.lst ds) x/\te σ H1 λy H2=>∃ds dy j,Rep X.D H2 (.lst ds) x/\Rep X.D H2 dy y/\dy.plain 60=true/\DV.plains 60 ds=true/\ds.length<=mostLen/\L5 dy ds=some j/\Q (.int j) H2) \/
 (∃ds,Rep X.D H1 (.tup ds) x/\te σ H1 λy H2=>∃ds dy j,Rep X.D H2 (.tup ds) x/\Rep X.D H2 dy y/\dy.plain 60=true/\DV.plains 60 ds=true/\L5 dy ds=some j/\Q (.int j) H2)
theorem z4J(hu:X.A.units+64<cLine)(ho:PE X o to)(ha:PE X e te)(hbase:attributeBase o "index" X.env (eval o X.env)=eval o X.env)(hline:(apos.endLine==cpos.line)=true)(hs:starEach [e] X.env=[(false,eval e X.env)]) :
  PE X (.Call (.Attribute o "index" apos) [e] [] cpos) (tIdx X to te):=by
 intro pins s σ H Q I h;refine w3b hbase (by rw[hs];rfl) hline rfl (thn (ho pins s σ H _ I h) λv s1 ⟨x,H1,I1,r1,q1⟩=>?_);rcases q1 with⟨ds,d1,q1⟩ | ⟨ds,d1,q1⟩
 ·obtain⟨a,xs,e1,e2,e3⟩:=x3.mp d1;subst e1;cases(show v=Value.ref a from r1);obtain⟨its,_,pl,_⟩:=I1.list (SqL.of e2);refine⟨"list","list.index",w2Z,w2Y,PySem.F.type_list_index,pl.isList.typeIs,λb eb=>?_,?_⟩
  ·cases eb;obtain⟨o,n,e,c,hd,_⟩:=pl;exact⟨o,e,hd⟩
  ·rw[hs];refine w1T rfl (w1J (w19 (thn (ha pins s1 σ H1 _ I1 q1) λu s2 ⟨y,H2,I2,r2,ds',dy,j,d2,d3,p1,p2,p3,p4,k⟩=>w2d ?_)));exact z5I hu I2 (show RelV (.ref a) (Value.ref a)from rfl) r2 d2 d3 p1 p2 p3 p4 k
 ·obtain⟨a,xs,e1,e2,e3⟩:=A5.mp d1;subst e1;cases(show v=Value.ref a from r1);obtain⟨ob,n1,n2,n3⟩:=I1.tupleN e2;refine⟨"tuple","tuple.index",PySem.F.plainAttrs_tuple,w2S,PySem.F.type_tuple_index,⟨ob,n1,n2⟩,λb eb=>?_,?_⟩
  ·cases eb;exact⟨ob,n1,n3⟩
  ·rw[hs];refine w1T rfl (w1J (w19 (thn (ha pins s1 σ H1 _ I1 q1) λu s2 ⟨y,H2,I2,r2,ds',dy,j,d2,d3,p1,p2,p3,k⟩=>w2d ?_)));exact z5A hu I2 (show RelV (.ref a) (Value.ref a)from rfl) r2 d2 d3 p1 p2 p3 k
theorem z5t(hu:X.A.units+64<cLine)(ha:∀q,ra=some q->PE X o (dE X.D E δ q))(hb:∀q,rb=some q->PE X e (dE X.D E δ q))(hbase:attributeBase o "index" X.env (eval o X.env)=eval o X.env)(hline:(apos.endLine==cpos.line)=true)(hs:starEach [e] X.env=[(false,eval e X.env)])
  (h:(Re.thn ra λx _=>if seqB x then Re.thn rb λy _=>(idxD x y).map λd=>.ok d .strong else none)=some re):PE X (.Call (.Attribute o "index" apos) [e] [] cpos) (dE X.D E δ re):=by
 cases hra:ra with
 | none=>rw[hra]at h;cases h
 | some q=>
  rw[hra]at h;have A:=ha q hra;cases q with
  | ex c=>
   cases h;exact(z4J hu A E6 hbase hline hs).weak λσ H Q ⟨O,W,R,p⟩=>⟨O,W,R,p⟩
  | ok dx cx=>
   have h0:(if seqB dx then Re.thn rb λy _=>(idxD dx y).map λd=>Re.ok d .strong else none)=some re:=h;have hsq:seqB dx=true:=by
    cases z:seqB dx with
    | true=>rfl
    | false=>rw[z]at h0;cases h0
   rw[d4 hsq]at h0;have h':(Re.thn rb λy _=>(idxD dx y).map λd=>.ok d .strong)=some re:=h0;cases hrb:rb with
   | none=>rw[hrb]at h';cases h'
   | some q=>
    rw[hrb]at h';have B:=hb q hrb;have C:=z4J hu A B hbase hline hs (apos:=apos) (cpos:=cpos);cases q with
    | ex c=>
     cases h';cases dx with
     | lst ds=>exact C.weak λσ H Q ⟨O,W,R,p⟩=>⟨O,W,R,λx H1 s1 g1=>.inl ⟨ds,g1.all (R.hid.mono s1),O,W,R.mono s1,λH' C m s=>p H' C m (s1.trans s)⟩⟩
     | tup ds=>exact C.weak λσ H Q ⟨O,W,R,p⟩=>⟨O,W,R,λx H1 s1 g1=>.inr ⟨ds,g1.all (R.hid.mono s1),O,W,R.mono s1,λH' C m s=>p H' C m (s1.trans s)⟩⟩
     | _=>cases hsq
    | ok dy cy=>
     have h2:((idxD dx dy).map λd=>Re.ok d .strong)=some re:=h';obtain⟨d,h3,h4⟩:=j8.mp h2;subst h4;unfold idxD at h3;split at h3
     ·rename_i ds;split at h3
      ·rename_i m;obtain⟨j,f1,rfl⟩:=j8.mp h3;rw[b8,b8,U5]at m;exact C.weak λσ H Q ⟨O,W,R,p⟩=>⟨O,W,R,λx H1 s1 g1=>.inl ⟨ds,g1.all (R.hid.mono s1),O,W,R.mono s1,λy H2 s2 g2=>
        ⟨ds,dy,j,(g1.mono s2).all ((R.hid.mono s1).mono s2),(g2.since s1).all ((R.hid.mono s1).mono s2),m.1.1,m.1.2,m.2,f1,p _ H2 (s1.trans s2) x8⟩⟩⟩
      ·cases h3
     ·rename_i ds;split at h3
      ·rename_i m;obtain⟨j,f1,rfl⟩:=j8.mp h3;rw[b8,b8,U5]at m;exact C.weak λσ H Q ⟨O,W,R,p⟩=>⟨O,W,R,λx H1 s1 g1=>.inr ⟨ds,g1.all (R.hid.mono s1),O,W,R.mono s1,λy H2 s2 g2=>
        ⟨ds,dy,j,(g1.mono s2).all ((R.hid.mono s1).mono s2),(g2.since s1).all ((R.hid.mono s1).mono s2),m.1.1,m.1.2,f1,p _ H2 (s1.trans s2) x8⟩⟩⟩
      ·cases h3
     ·cases h3
end
end
section
def GotR(D:Dm)(O:List Addr)(H0 H:Hp)(d:DV)(fr:Bool)(v:V):Prop:=match fr with
 | false=>Rep D (L2.wo O H) d v
 | true=>∃p xs ds,v=.ref p/\d=.lst ds/\H0 p=none/\H p=some (.lst xs)/\RepL D (L2.wo (p::O) H) ds xs
def GotF(H H':Hp)(xs:List DV)(v:V):Prop:=∃(p:Addr) (L:List (Addr×List Int)),v=.ref p/\xs=L.map (λq=>.lst (q.2.map DV.int))/\H p=none/\H' p=some (.lst (L.map λq=>.ref q.1))/\(∀q∈L,H q.1=none/\H' q.1=some (.lst (q.2.map V.int)))/\(p::L.map (·.1)).Nodup
theorem GotF.since(g:GotF H1 H xs v)(f:∀a,H1 a=none->H0 a=none):GotF H0 H xs v:=by
 obtain⟨p,L,e1,e2,e3,e4,e5,e6⟩:=g;exact⟨p,L,e1,e2,f _ e3,e4,λq hq=>⟨f _ (e5 q hq).1,(e5 q hq).2⟩,e6⟩
theorem GotF.items(g:GotF H0 H xs v)(hz:∀a∈Z,H0 a≠none):∃p vs,v=.ref p/\H0 p=none/\H p=some (.lst vs)/\RepL D (L2.wo (p::Z) H) xs vs:=by
 obtain⟨p,L,e1,e2,e3,e4,e5,e6⟩:=g;refine⟨p,_,e1,e3,e4,?_⟩;rw[e2];refine q7O λq hq=>?_
 rw[f7 λz=>?_]
 ·exact(e5 q hq).2
 ·rcases d9.mp z with z | z
  ·exact(M9.mp e6).1 (j9.mpr ⟨q,hq,z⟩)
  ·exact hz _ z (e5 q hq).1
theorem GotF.fresh(g:GotF H0 H xs v)(hd:Hid O W H0 H1):Got D O W H0 H (.lst xs) .fresh v:=by
 obtain⟨p,vs,e1,e2,e3,e4⟩:=g.items (D:=D) (Z:=O++W) hd.ot;exact⟨p,vs,xs,e1,rfl,e2,e3,e4⟩
theorem SqT.immut{K:PySem.W.Frag}{O W:List Addr}{H:Hp}{t:Addr}{ts:List V}(hw:∀a∈W,∃o,H a=some o/\mutO o=true)(h:SqT K (L2.wo O H) t ts):SqT K (L2.wo (O++W) H) t ts:=by
 have ou:∀{u:HO},mutO u=false->L2.wo O H t=some u->L2.wo (O++W) H t=some u:=λ{u} hu e=>by
  obtain⟨ha,h⟩:=x6 e;rw[f7 λz=>?_]
  ·exact h
  ·rcases C8.mp z with z | z
   ·exact ha z
   ·obtain⟨ys,q,m⟩:=hw t z;rw[h]at q;cases q;rw[hu]at m;cases m
 rcases h with(h | ⟨o,h⟩) | h
 ·exact .inl (.inl (ou rfl h))
 ·exact .inl (.inr ⟨o,ou rfl h⟩)
 ·exact .inr h
def GotP(D:Dm)(O:List Addr)(H0 H:Hp)(d:DV)(v:V):Prop:=∃t M,v=.ref t/\d=.dct [] (M.map itD)/\SqT D.K (L2.wo O H) t (M.map itV)/\(M.filterMap (·.1)).Nodup/\(∀p∈M.filterMap (·.1),H0 p=none)/\ItAt H M
theorem GotP.since(g:GotP D O H0 H d v)(f:∀a,H0 a=none->H1 a=none):GotP D O H1 H d v:=by
 obtain⟨t,M,e1,e2,e3,e4,e5,e6⟩:=g;exact⟨t,M,e1,e2,e3,e4,λp hp=>f _ (e5 p hp),e6⟩
theorem GotP.rep(g:GotP D O H0 H (.dct ks ds) v)(hw:∀a∈W,∃o,H a=some o/\mutO o=true)(hz:∀a∈O++W,H0 a≠none):Rep D (L2.wo (O++W) H) (.tup ds) v:=by
 obtain⟨t,M,e1,e2,e3,e4,e5,e6⟩:=g;cases e2;exact A5.mpr ⟨t,_,e1,e3.immut hw,q5Q λp ns hm=>by rw[f7 λz=>hz p z (e5 p (G6.mpr ⟨_,hm,rfl⟩))];exact e6 p ns hm⟩
def GotT(D:Dm)(O:List Addr)(H0 H:Hp)(d:DV)(v:V):Prop:=(∃t ts p xs ds es,v=.ref t/\d=.tup (.lst ds::es)/\SqT D.K (L2.wo O H) t (.ref p::ts)/\H0 p=none/\H p=some (.lst xs)/\RepL D (L2.wo (p::O) H) ds xs/\RepL D (L2.wo (p::O) H) es ts)\/(∃xs,d=.lst xs/\GotF H0 H xs v)\/GotP D O H0 H d v
theorem z8N(g:GotT D O H0 H (.dct ks ds) v):GotP D O H0 H (.dct ks ds) v:=by
 rcases g with⟨_,_,_,_,_,_,_,e,_⟩ | ⟨_,e,_⟩ | g
 ·cases e
 ·cases e
 ·exact g
def spF(D:Dm)(n:Nat)(f:List DV->Option Ou):Sp:=λvs H Q E=>∃O ds o,Hdn O H/\ds.length=n/\RepL D (L2.wo O H) ds vs/\f ds=some o /\
 (match o with | .v d fr=>∀v H',Same H H'->GotR D O H H' d fr v->Q v H' | .t d=>∀v H',Same H H'->GotT D O H H' d v->Q v H' | .x c=>∀H' C,D.mg c=some C->Same H H'->E C none H')
def spH(D:Dm)(f:DV->List DV->Option (DV×List DV)):Sp:=λvs H Q _=>∃O p v d ds xs r,vs=[v,.ref p]/\Hdn O H/\p∉O/\H p=some (.lst xs)/\Rep D (L2.wo (O++[p]) H) d v/\RepL D (L2.wo (O++[p]) H) ds xs/\f d ds=some r /\
 ∀v' H' xs',Same (L2.wo [p] H) H'->H' p=some (.lst xs')->Rep D (L2.wo (O++[p]) H') r.1 v'->RepL D (L2.wo (O++[p]) H') r.2 xs'->Q v' H'
section
variable {X:Cx} {E:St->XK} {δ:List Sv} {e:Expr} {es:List Expr} {pos p:Pos} {re:Re} {rs:Option Rs} {k:Nat} {fa:Addr} {fd:FuncData} {ps:List Str} {x:Str}
theorem q6D{F:Nat->List DV->Option Ou}{f:Nat}{e0:Expr}{Pre:St->Hp->Prop}(hn:∀ds o,F f ds=some o->ds.length=ps.length)(C:∀t,PA X (e::es) t->PE X e0 (λσ H Q=>Pre σ H/\z1d (spF X.D ps.length (F f)) [] E t σ H Q))(pre:∀σ H O W,RSt X.D H σ δ O W->Pre σ H)(ha:∀q,rs=some q->PA X (e::es) (dA X.D E δ q))
  (h:(Rs.thn rs λl=>G1 F f l)=some re):PE X e0 (dE X.D E δ re):=by
 cases hrs:rs with
 | none=>rw[hrs]at h;cases h
 | some q=>
  rw[hrs]at h;have A:=ha q hrs;cases q with
  | ex c=>cases h;exact(C _ A).weak λσ H Q ⟨O,W,R,p⟩=>⟨pre _ _ _ _ R,O,W,R,p⟩
  | ok l=>
   have h':G1 F f l=some re:=h;unfold G1 at h';split at h'
   ·cases h'
   ·rename_i c e1;cases h';refine(C _ A).weak λσ H Q ⟨O,W,R,p⟩=>⟨pre _ _ _ _ R,O,W,R,λvs H1 s1 g1=>?_⟩
    have hd:=R.hid.mono s1;show spF X.D ps.length (F f) (vs++[]) H1 Q (E σ);rw[z9];exact⟨O,_,_,hd.hdO,hn _ _ e1,g1.repL hd,e1,λH' C m s=>p H' C m (s1.trans s)⟩
   ·rename_i ks ds e1;cases h';refine(C _ A).weak λσ H Q ⟨O,W,R,p⟩=>⟨pre _ _ _ _ R,O,W,R,λvs H1 s1 g1=>?_⟩
    have hd:=R.hid.mono s1;show spF X.D ps.length (F f) (vs++[]) H1 Q (E σ);rw[z9];refine⟨O,_,_,hd.hdO,hn _ _ e1,g1.repL hd,e1,λv H' s g=>p v H' (s1.trans s) ?_⟩;exact(z8N g).rep (λa ha=>by obtain⟨o,e,m⟩:=hd.wl a ha;exact⟨o,s _ _ (hd.same _ _ e),m⟩) λa ha q=>hd.ot a ha (s1.free q)
   ·rename_i d hne e1;cases h';refine(C _ A).weak λσ H Q ⟨O,W,R,p⟩=>⟨pre _ _ _ _ R,O,W,R,λvs H1 s1 g1=>?_⟩
    have hd:=R.hid.mono s1;show spF X.D ps.length (F f) (vs++[]) H1 Q (E σ);rw[z9];by_cases z:(l.all λp=>p.2 == .strong||p.2 == .fresh)=true
    ·rw[d4 z]at p;refine⟨O++W,_,_,hd.hdA,hn _ _ e1,g1.strong hd z,e1,λv H' s g=>p v H' (s1.trans s) ?_⟩;rcases g with⟨t,ts,q,xs,ds,es,f1,f2,f0,f3,f4,f5,f6⟩ | ⟨xs,f1,f2⟩ | ⟨_,_,_,f2,_⟩
     ·subst f2;exact⟨t,ts,q,xs,ds,es,f1,rfl,f0,s1.free f3,f4,f5,f6⟩
     ·subst f1;exact(f2.since λa ha=>s1.free ha).fresh hd
     ·exact absurd f2 (hne _ _)
    ·rw[d6 z]at p;refine⟨O,_,_,hd.hdO,hn _ _ e1,g1.repL hd,e1,λv H' s g=>p v H' (s1.trans s) ?_⟩;rcases g with⟨t,ts,q,xs,ds,es,f1,f2,f0,f3,f4,f5,f6⟩ | ⟨xs,f1,f2⟩ | ⟨_,_,_,f2,_⟩
     ·have hq:q∉O:=λz=>hd.ot q (y0 _ z) (s1.free f3);have up:Same (L2.wo (q::O) H') (L2.wo O H'):=v6 λb hb=>f9 _ hb;rw[f2];exact A5.mpr ⟨t,_,f1,f0,t9.mpr ⟨_,_,rfl,x3.mpr ⟨q,xs,rfl,by rw[f7 hq];exact f4,f5.mono up⟩,f6.mono up⟩⟩
     ·subst f1;have hO:∀a∈O,H1 a≠none:=λa ha q=>hd.ot a (y0 _ ha) (s1.free q)
      obtain⟨q,vs,g1',g2',g3',g4'⟩:=f2.items (D:=X.D) hO;have hq:q∉O:=λz=>hO q z g2'
      exact x3.mpr ⟨q,vs,g1',by rw[f7 hq];exact g3',g4'.mono (v6 λb hb=>f9 _ hb)⟩
     ·exact absurd f2 (hne _ _)
   ·rename_i d fr e1;cases h';refine(C _ A).weak λσ H Q ⟨O,W,R,p⟩=>⟨pre _ _ _ _ R,O,W,R,λvs H1 s1 g1=>?_⟩
    have hd:=R.hid.mono s1;show spF X.D ps.length (F f) (vs++[]) H1 Q (E σ);rw[z9];by_cases z:(l.all λp=>p.2 == .strong||p.2 == .fresh)=true
    ·rw[d4 z]at p;refine⟨O++W,_,_,hd.hdA,hn _ _ e1,g1.strong hd z,e1,λv H' s g=>p v H' (s1.trans s) ?_⟩;cases fr with
     | false=>exact g
     | true=>
      obtain⟨q,xs,ds,e1,e2,e3,e4,e5⟩:=g;exact⟨q,xs,ds,e1,e2,s1.free e3,e4,e5⟩
    ·rw[d6 z]at p;refine⟨O,_,_,hd.hdO,hn _ _ e1,g1.repL hd,e1,λv H' s g=>p v H' (s1.trans s) ?_⟩;cases fr with
     | false=>exact g
     | true=>
      obtain⟨q,xs,ds,u1,e2,e3,e4,e5⟩:=g;subst e2;rw[P6];cases y:imL (.lst ds)with
      | true=>exact⟨q,xs,ds,u1,rfl,s1.free e3,e4,RepL.immut (O:=q::O) (λa ha=>by obtain⟨o,e,m⟩:=hd.wl a ha;exact⟨o,s _ _ (hd.same _ _ e),m⟩) y e5⟩
      | false=>
       have hq:q∉O:=λz=>hd.ot q (y0 _ z) (s1.free e3);exact x3.mpr ⟨q,xs,u1,by rw[f7 hq];exact e4,e5.mono (v6 λb hb=>f9 _ hb)⟩
theorem z4a(fo:FnOk X.prog X.w X.K X.mg X.base (CXx X.prog X.w X.base) k fa fd ps (spF X.D ps.length (F f)))(hn:∀ds o,F f ds=some o->ds.length=ps.length)(hr:Room k X.A)(hg:Gl X x)(hm:X.mg x=some (.ref fa))(hk:PySem.W.keepIn X.K (.ref fa)=true)
  (hb:C3 X.K fd ps []) (hx:P7 (CXx X.prog X.w X.base) X E) (ha:∀q,rs=some q->PA X (e::es) (dA X.D E δ q)) (hdb:(x==("__debug__" : Str))=false) (hs:i9 e=false) (hss:es.any i9=false)
  (h:(Rs.thn rs λl=>G1 F f l)=some re):PE X (.Call (.Name x p) (e::es) [] pos) (dE X.D E δ re):=by
 have plain:∀(es:List Expr),es.any i9=false->(backTo pos (starEach es X.env)).any (·.1)=false:=by
  intro es
  induction es with
  | nil=>intro _;rfl
  | cons y ys ih=>
   intro q;rw[N1,X7]at q;rw[o9 q.1];show(false||(backTo pos (starEach ys X.env)).any (·.1))=false;rw[ih q.2];rfl
 exact q6D (Pre:=λ_ _=>True) hn (λt hA=>(z3G (p:=p) (pos:=pos) fo hr hg hm hk hb .nil hx hA hdb (o9 hs) (plain es hss)).weak λσ H Q h=>h.2) (λ_ _ _ _ _=>trivial) ha h
end
section
variable {X:Cx} {E:St->XK} {δ:List Sv} {e:Expr} {es:List Expr} {pos p:Pos} {re:Re} {rs:Option Rs}
theorem q1T:∀(es:List Expr),es.any i9=false->(backTo pos (starEach es env)).any (·.1)=false
 | [],_=>rfl
 | y::ys,q=>by rw[N1,X7]at q;rw[o9 q.1];show(false||(backTo pos (starEach ys env)).any (·.1))=false;rw[q1T ys q.2];rfl
theorem z2B(fo:FnOk X.prog X.w X.K X.mg X.base CX k fa fd ps sp)(hr:Room k X.A)(hv:PE X (.Name x p) (tVar i))(hk:PySem.W.keepIn X.K (.ref fa)=true)(hb:C3 X.K fd ps ds)(hd:Vals dvs ds)(hx:P7 CX X E)
  (ha:PA X (e::es) t) (he:starEach (e::es) X.env=(false,eval e X.env)::starEach es X.env:=by rfl) (hpl:(backTo pos (starEach es X.env)).any (·.1)=false:=by rfl) :
  PE X (.Call (.Name x p) (e::es) [] pos) (λσ H Q=>σ[i]? = some (some (.ref fa))/\z1d sp dvs E t σ H Q):=by
 intro pins s σ H Q I h;obtain⟨h0,h⟩:=h;refine X9 (thn (hv pins s σ H (λv H1=>v=.ref fa/\H1=H) I ⟨_,h0,rfl,rfl⟩) λu s1 ⟨v,H1,I1,r1,q1,q2⟩=>?_);subst q1 q2;obtain rfl:u=Value.ref fa:=r1;refine w2A (h₀:=X.base) I.ok.mod.kin hk (thn (ha pos pins s1 σ H1 _ I1 h) λus s2 ⟨vs,H2,I2,r,q⟩=>⟨I2.kIn,?_⟩) he hpl;exact z0k fo hr hb hd hx I2 r q
theorem z0D(fo:FnOk X.prog X.w X.K X.mg X.base (CXx X.prog X.w X.base) k fa fd ps (spF X.D ps.length (F f)))(hn:∀ds o,F f ds=some o->ds.length=ps.length)(hr:Room k X.A)(hv:PE X (.Name x p) (tVar i))(hm:X.mg y=some (.ref fa))(hk:PySem.W.keepIn X.K (.ref fa)=true)
  (hb:C3 X.K fd ps []) (hx:P7 (CXx X.prog X.w X.base) X E) (hi:δ[i]? = some (.val (.fn y))) (ha:∀q,rs=some q->PA X (e::es) (dA X.D E δ q)) (hs:i9 e=false) (hss:es.any i9=false)
  (h:(Rs.thn rs λl=>G1 F f l)=some re):PE X (.Call (.Name x p) (e::es) [] pos) (dE X.D E δ re):=by
 refine q6D (Pre:=λσ _=>σ[i]? = some (some (.ref fa))) hn (λt hA=>z2B (p:=p) (pos:=pos) fo hr hv hk hb .nil hx hA (o9 hs) (q1T es hss)) (λσ H O W R=>?_) ha h;obtain⟨v,e1,e2⟩:=R.val i _ hi;obtain⟨g,q1,q2⟩:=z4H.mp e2;have q3:X.mg y=some (.ref g):=q2;rw[hm]at q3;cases q3;rw[e1,q1]
def biR(X:Cx)(k:List (DV×Cl)->Option Re):List V->Hp->VK->Prop:=λvs H Q=>∃l re O W H0,k l=some re/\Hid O W H0 H/\GotL X.D O W H0 H l vs/\∃d c,re=.ok d c/\∀v H',Same H H'->Got X.D O W H0 H' d c v->Q v H'
theorem q9a{k:List (DV×Cl)->Option Re}{x:Str}{id:String}(hc:w9 X (.builtin id) (biR X k))(hk:∀l re,k l=some re->∃d c,re=.ok d c)(hg:Gl X x)(hm:X.mg x=none)(hv:bootBuiltins x=some (.builtin id))(hn:x ≠ "__name__")(hdb:(x==("__debug__" : Str))=false)
  (ha:∀q,rs=some q->PA X (e::es) (dA X.D E δ q)) (hs:i9 e=false) (hss:es.any i9=false) (h:Rs.thn rs k=some re):PE X (.Call (.Name x p) (e::es) [] pos) (dE X.D E δ re):=
 q4p (λ_ hA=>q4n hc hg hm hv hA hn hdb (o9 hs) (q1T es hss)) ha h λO W H0 H vs Q l σ hl hd g p=>by obtain⟨d,c,rfl⟩:=hk l re hl;exact⟨l,_,O,W,H0,hl,hd,g,d,c,rfl,p⟩
theorem q6b(hc:w9 X (.type T) (biR X k))(hk:∀l re,k l=some re->∃d c,re=.ok d c)(hg:Gl X x)(hm:X.mg x=none)(hv:bootBuiltins x=some (.type T))(hn:x ≠ "__name__")(hdb:(x==("__debug__" : Str))=false)
  (ha:∀q,rs=some q->PA X (e::es) (dA X.D E δ q)) (hs:i9 e=false) (hss:es.any i9=false) (h:Rs.thn rs k=some re):PE X (.Call (.Name x p) (e::es) [] pos) (dE X.D E δ re):=
 q4p (λ_ hA=>z1a hc hg hm hv hA hn hdb (o9 hs) (q1T es hss)) ha h λO W H0 H vs Q l σ hl hd g p=>by obtain⟨d,c,rfl⟩:=hk l re hl;exact⟨l,_,O,W,H0,hl,hd,g,d,c,rfl,p⟩
theorem z7x:∀l re,lenD l=some re->∃d c,re=.ok d c:=λl re h=>by unfold lenD at h;split at h<;>cases h<;>exact⟨_,_,rfl⟩
theorem z6u:∀l re,minD l=some re->∃d c,re=.ok d c:=λl re h=>by
 unfold minD at h;split at h
 ·cases h;exact⟨_,_,rfl⟩
 ·split at h
  ·cases h;exact⟨_,_,rfl⟩
  ·cases h
 ·cases h
theorem q8S:∀{ds:List DV} {ns:List Int} {xs:List V},ints? ds=some ns->RepL D H ds xs->xs=ns.map V.int
 | [],ns,xs,h,r=>by cases h;exact A6.mp r
 | .int i::ds,ns,xs,h,r=>by have h':(ints? ds).map (i :: ·)=some ns:=h;obtain⟨ms,e1,e2⟩:=j8.mp h';obtain⟨v,vs,e3,e4,e5⟩:=t9.mp r;have q:=q8S e1 e5;rw[←e2,e3,B7,A4.mp e4,q]
 | .non::ds,ns,xs,h,_=>by cases h
 | .bl _::ds,ns,xs,h,_=>by cases h
 | .str _::ds,ns,xs,h,_=>by cases h
 | .tup _::ds,ns,xs,h,_=>by cases h
 | .lst _::ds,ns,xs,h,_=>by cases h
 | .dct _ _::ds,ns,xs,h,_=>by cases h
 | .exc _::ds,ns,xs,h,_=>by cases h
 | .fn _::ds,ns,xs,h,_=>by cases h
 | .lam _ _::ds,ns,xs,h,_=>by cases h
 | .scr _::ds,ns,xs,h,_=>by cases h
theorem q9g:∀(r:List Int) (m:Int),(minI m r=m\/minI m r∈r)/\minI m r<=m/\∀x∈r,minI m r<=x
 | [],m=>⟨.inl rfl,Int.le_refl _,λx h=>by cases h⟩
 | y::r,m=>by
  obtain⟨h0,h1,h2⟩:=q9g r (if y<m then y else m);unfold minI;by_cases q:y<m
  ·rw[d4 q]at h0 h1 h2 ⊢;refine⟨.inr ?_,by omega,λx hx=>?_⟩
   ·rcases h0 with z | z
    ·rw[z];exact i5 ..
    ·exact f9 _ z
   ·rcases d9.mp hx with z | z
    ·rw[z];exact h1
    ·exact h2 x z
  ·rw[d6 q]at h0 h1 h2 ⊢;refine⟨h0.imp id (f9 _),h1,λx hx=>?_⟩;rcases d9.mp hx with z | z
   ·rw[z];omega
   ·exact h2 x z
theorem z2I(h1:M∈n::r)(h2:∀x∈n::r,M<=x):M=minI n r:=by
 obtain⟨a,b,c⟩:=q9g r n;have d:minI n r∈n::r:=a.elim (λz=>by rw[z];exact i5 ..) (f9 _);have e:=h2 _ d;have f:minI n r<=M:=by
  rcases d9.mp h1 with z | z
  ·rw[z];exact b
  ·exact c M z
 omega
theorem z4X:∀l re,intD l=some re->∃d c,re=.ok d c:=λl re h=>by
 unfold intD at h;split at h
 ·cases h;exact⟨_,_,rfl⟩
 ·cases h;exact⟨_,_,rfl⟩
 ·obtain⟨n,_,e⟩:=j8.mp h;exact⟨_,_,e.symm⟩
 ·cases h
theorem z7i:∀l re,strD l=some re->∃d c,re=.ok d c:=λl re h=>by
 unfold strD at h;split at h
 ·split at h
  ·cases h;exact⟨_,_,rfl⟩
  ·cases h
 ·cases h
theorem z3q:∀l re,z1x l=some re->∃d c,re=.ok d c:=λl re h=>by unfold z1x at h;split at h<;>cases h<;>exact⟨_,_,rfl⟩
theorem z1H:∀l re,Z2 l=some re->∃d c,re=.ok d c:=λl re h=>by unfold Z2 at h;split at h<;>cases h<;>exact⟨_,_,rfl⟩
theorem z9Q:w9 X (.builtin "len") (biR X lenD):=by
 intro pins s σ H xs us Q I r h;obtain⟨l,re,O,W,H0,hb,hd,g,d,c,rfl,p⟩:=h;unfold lenD at hb;split at hb
 ·cases hb;obtain⟨v,rfl,gv⟩:=g.one;obtain⟨a,ys,e1,e2,e3⟩:=gv.lst hd;exact q2N pins s σ H _ us Q I r ⟨a,ys,by rw[e1],.inl (SqL.of e2),by rw[e3.length];exact p _ H (Same.refl H) x8⟩
 ·cases hb;obtain⟨v,rfl,gv⟩:=g.one;obtain⟨a,ys,e1,e2,e3⟩:=gv.tup hd;exact q2N pins s σ H _ us Q I r ⟨a,ys,by rw[e1],.inr e2,by rw[e3.length];exact p _ H (Same.refl H) x8⟩
 ·cases hb;obtain⟨v,rfl,gv⟩:=g.one;obtain⟨a,e1,e2⟩:=L8.mp (gv.all hd);exact q2N pins s σ H _ us Q I r ⟨a,_,by rw[e1],.inl e2.sq,by rw[g9];exact p _ H (Same.refl H) x8⟩
 ·cases hb;obtain⟨v,rfl,gv⟩:=g.one;obtain⟨e1,e2⟩:=gv.str hd;exact q7h pins s σ H _ us Q I r ⟨_,by rw[e1],e2,p _ H (Same.refl H) x8⟩
 ·cases hb
theorem z9i(hc:X.calm=true)(hu:X.A.units+1<cLine):w9 X (.builtin "min") (biR X minD):=by
 intro pins s σ H xs us Q I r h;obtain⟨l,re,O,W,H0,hb,hd,g,d,c,rfl,p⟩:=h;unfold minD at hb;split at hb
 ·cases hb;obtain⟨v,v',rfl,gv,gv'⟩:=g.two;exact z1P hc pins s σ H _ us Q I r ⟨_,_,by rw[gv.int hd,gv'.int hd],p _ H (Same.refl H) x8⟩
 ·split at hb
  ·rename_i n r' hq;cases hb;obtain⟨v,rfl,gv⟩:=g.one;obtain⟨a,ys,e1,e2,e3⟩:=gv.lst hd;have e4:=q8S hq e3;subst e4;exact z0h hc pins s σ H _ us Q I r ⟨a,n::r',by rw[e1],SqL.of e2,by simp,λM m1 m2=>by rw[z2I m1 m2];exact p _ H (Same.refl H) x8⟩
  ·cases hb
 ·cases hb
theorem q4H:∀{ds:List DV} {bs:List Bool} {xs:List V},bools? ds=some bs->RepL D H ds xs->xs=bs.map V.bl
 | [],bs,xs,h,r=>by cases h;exact A6.mp r
 | .bl i::ds,bs,xs,h,r=>by have h':(bools? ds).map (i :: ·)=some bs:=h;obtain⟨ms,e1,e2⟩:=j8.mp h';obtain⟨v,vs,e3,e4,e5⟩:=t9.mp r;have q:=q4H e1 e5;subst e2 e3 q;rw[O0.mp e4];rfl
 | .non::_,_,_,h,_=>by cases h
 | .int _::_,_,_,h,_=>by cases h
 | .str _::_,_,_,h,_=>by cases h
 | .tup _::_,_,_,h,_=>by cases h
 | .lst _::_,_,_,h,_=>by cases h
 | .exc _::_,_,_,h,_=>by cases h
 | .fn _::_,_,_,h,_=>by cases h
 | .lam _ _::_,_,_,h,_=>by cases h
 | .scr _::_,_,_,h,_=>by cases h
 | .dct _ _::_,_,_,h,_=>by cases h
theorem z8J(hc:X.calm=true):w9 X (.builtin "all") (biR X allD):=by
 intro pins s σ H xs us Q I r h;obtain⟨l,re,O,W,H0,hb,hd,g,d,c,rfl,p⟩:=h;unfold allD at hb;split at hb
 ·obtain⟨bs,hq,e⟩:=j8.mp hb;cases e;obtain⟨v,rfl,gv⟩:=g.one;obtain⟨a,ys,e1,e2,e3⟩:=gv.lst hd;have e4:=q4H hq e3;subst e4;exact z0f hc pins s σ H _ us Q I r ⟨a,bs,by rw[e1],SqL.of e2,p _ H (Same.refl H) K2⟩
 ·cases hb
theorem z8O(hc:X.calm=true):w9 X (.builtin "any") (biR X anyD):=by
 intro pins s σ H xs us Q I r h;obtain⟨l,re,O,W,H0,hb,hd,g,d,c,rfl,p⟩:=h;unfold anyD at hb;split at hb
 ·obtain⟨bs,hq,e⟩:=j8.mp hb;cases e;obtain⟨v,rfl,gv⟩:=g.one;obtain⟨a,ys,e1,e2,e3⟩:=gv.lst hd;have e4:=q4H hq e3;subst e4;exact z1y hc pins s σ H _ us Q I r ⟨a,bs,by rw[e1],SqL.of e2,p _ H (Same.refl H) K2⟩
 ·cases hb
theorem z2g:bootBuiltins "all" = some (.builtin "all"):=by decide +kernel
theorem z1J:bootBuiltins "any" = some (.builtin "any"):=by decide +kernel
theorem z6w:∀l re,allD l=some re->∃d c,re=.ok d c:=by
 intro l re h;unfold allD at h;split at h
 ·obtain⟨_,_,e⟩:=j8.mp h;cases e;exact⟨_,_,rfl⟩
 ·cases h
theorem z7p:∀l re,anyD l=some re->∃d c,re=.ok d c:=by
 intro l re h;unfold anyD at h;split at h
 ·obtain⟨_,_,e⟩:=j8.mp h;cases e;exact⟨_,_,rfl⟩
 ·cases h
theorem z8M:w9 X (.type "int") (biR X intD):=by
 intro pins s σ H xs us Q I r h;obtain⟨l,re,O,W,H0,hb,hd,g,d,c,rfl,p⟩:=h;unfold intD at hb;split at hb
 ·cases hb;obtain⟨v,rfl,gv⟩:=g.one;exact q7f pins s σ H _ us Q I r (.inl ⟨_,by rw[gv.int hd],p _ H (Same.refl H) x8⟩)
 ·cases hb;obtain⟨v,rfl,gv⟩:=g.one;exact q7f pins s σ H _ us Q I r (.inr ⟨_,by rw[gv.bl hd],p _ H (Same.refl H) x8⟩)
 ·rename_i z cz;obtain⟨n,hn,e⟩:=j8.mp hb;cases e;obtain⟨v,rfl,gv⟩:=g.one;exact q6U pins s σ H _ us Q I r ⟨z,n,by rw[(gv.str hd).1],hn,p _ H (Same.refl H) x8⟩
 ·cases hb
theorem z9H:w9 X (.type "str") (biR X strD):=by
 intro pins s σ H xs us Q I r h;obtain⟨l,re,O,W,H0,hb,hd,g,d,c,rfl,p⟩:=h;unfold strD at hb;split at hb
 ·split at hb
  ·rename_i hi;cases hb;obtain⟨v,rfl,gv⟩:=g.one;exact q7E pins s σ H _ us Q I r ⟨_,by rw[gv.int hd],q7z hi,p _ H (Same.refl H) (y7.mpr ⟨rfl,int_text_fits (q7z hi)⟩:Rep X.D (L2.wo (O++W) H) _ _)⟩
  ·cases hb
 ·cases hb
theorem z4W:w9 X (.type "list") (biR X z1x):=by
 intro pins s σ H xs us Q I r h;obtain⟨l,re,O,W,H0,hb,hd,g,d,c,rfl,p⟩:=h;unfold z1x at hb;split at hb
 ·cases hb;obtain⟨v,rfl,gv⟩:=g.one;obtain⟨a,e1,e2⟩:=L8.mp (gv.all hd);exact q2O pins s σ H _ us Q I r ⟨a,_,by rw[e1],.inl e2.sq,λq hq=>p _ _ (v7 hq) (K3 hd hq (q2n _))⟩
 ·cases hb;obtain⟨v,rfl,gv⟩:=g.one;obtain⟨a,ys,e1,e2,e3⟩:=gv.lstC hd;exact q2O pins s σ H _ us Q I r ⟨a,ys,by rw[e1],.inl (SqL.of e2),λq hq=>p _ _ (v7 hq) (q4w hd hq e3)⟩
 ·cases hb;obtain⟨v,rfl,gv⟩:=g.one;obtain⟨a,ys,e1,e2,e3⟩:=gv.tupC hd;exact q2O pins s σ H _ us Q I r ⟨a,ys,by rw[e1],.inr e2,λq hq=>p _ _ (v7 hq) (q4w hd hq e3)⟩
 ·cases hb
theorem z3T:w9 X (.type "tuple") (biR X Z2):=by
 intro pins s σ H xs us Q I r h;obtain⟨l,re,O,W,H0,hb,hd,g,d,c,rfl,p⟩:=h;unfold Z2 at hb;split at hb
 ·cases hb;obtain⟨v,rfl,gv⟩:=g.one;obtain⟨a,ys,e1,e2,e3⟩:=gv.lstC hd;exact q3M pins s σ H _ us Q I r ⟨a,ys,by rw[e1],.inl ⟨SqL.of e2,λq hq=>p _ _ (v7 hq) (q9j hd hq e3)⟩⟩
 ·cases hb;obtain⟨v,rfl,gv⟩:=g.one;obtain⟨a,ys,e1,e2,e3⟩:=gv.tupC hd;exact q3M pins s σ H _ us Q I r ⟨a,ys,by rw[e1],.inr ⟨e2,p _ _ (Same.refl H) (by rw[←e1];exact gv)⟩⟩
 ·cases hb
end
def tyS:DV->Option String
 | .non=>some "NoneType" | .bl _=>some "bool" | .int _=>some "int" | .str _=>some "str" | .tup _=>some "tuple" | .lst _=>some "list" | .dct _ _=>some "dict"
 | _=>none
def z8k(T t:String):Option Bool:=if(Value.type T==Value.type t)=true then some true else if PySem.W.kitMeta t=true then(fastBuiltinMro T).map (·.contains (.type t))else none
theorem z0B:(["NoneType","bool","int","str","tuple","list","dict"]:List String).all (λT=>(["int","bool","str","list","tuple","dict"]:List String).all λt=>z8k T t==some (T==t||(T == "bool" && t == "int")))=true:=by decide +kernel
theorem M1{K:PySem.W.Frag}(T t:String)(h1:T∈["NoneType","bool","int","str","tuple","list","dict"])(h2:t∈["int","bool","str","list","tuple","dict"]) :
  PySem.W.kitOne K (.type T) (.type t)=some (T==t||(T == "bool" && t == "int")):=by
 have q:=o7.mp (o7.mp z0B T h1) t h2;exact(show z8k T t=_ from by simpa using q)
section
variable {X:Cx} {E:St->XK} {δ:List Sv} {e e':Expr} {pos p p':Pos} {re:Re} {ra:Option Re}
theorem z9o(I:Inv X pins σ H s)(r:Rep X.D H d v)(rv:RelV v u)(hT:tyS d=some T)(ht:t∈["int","bool","str","list","tuple","dict"])
  (h:∀tk,Q (.bool (T==t||(T == "bool" && t == "int"))) {s with toks:=tk}):wpAny (model X.prog X.w) X.A (call (.builtin "isinstance") [u,.type t]) Q EE s:=by
 cases d with
 | non=>cases hT;rw[Q8.mp r]at rv;cases rv;exact P2 PySem.W.kitx_none I.kIn True.intro (M1 _ _ (by simp) ht) (λz=>nomatch z) h
 | bl b=>cases hT;rw[O0.mp r]at rv;cases rv;exact P2 PySem.W.kitx_bool I.kIn True.intro (M1 _ _ (by simp) ht) (λz=>nomatch z) h
 | int b=>cases hT;rw[A4.mp r]at rv;obtain⟨tk,rfl⟩:=rv;exact P2 PySem.W.kitx_int I.kIn True.intro (M1 _ _ (by simp) ht) (λz=>nomatch z) h
 | str b=>cases hT;rw[(y7.mp r).1]at rv;obtain⟨tk,rfl⟩:=rv;exact P2 PySem.W.kitx_str I.kIn True.intro (M1 _ _ (by simp) ht) (λz=>nomatch z) h
 | tup ds=>
  cases hT;obtain⟨a,xs,e1,e2,e3⟩:=A5.mp r;rw[e1]at rv;cases rv;obtain⟨its,_,⟨o,h1,h2,_⟩,_⟩:=I.tuple e2;exact P2 PySem.W.kitx_tuple I.kIn ⟨o,h1,h2⟩ (M1 _ _ (by simp) ht) (λz=>nomatch z) h
 | lst ds=>
  cases hT;obtain⟨a,xs,e1,e2,e3⟩:=x3.mp r;rw[e1]at rv;cases rv;obtain⟨_,its,n,_,_,h1⟩:=I.lstM e2;exact P2 PySem.W.kitx_list I.kIn ⟨_,h1,rfl⟩ (M1 _ _ (by simp) ht) (λz=>nomatch z) h
 | dct ks vs=>
  cases hT;rcases Z9.mp r with⟨a,ob,kvs,e1,e2,_⟩ | ⟨a,ob,kvs,e1,e2,_⟩
  ·rw[e1]at rv;cases rv;obtain⟨_,_,_,_,_,⟨o,_,_,h1,h2,_⟩⟩:=(show x5 X.prog X.w H s.heap a (.frz ob (.dK kvs))from I.hok a _ e2);exact P2 w2f I.kIn ⟨o,h1,h2.1⟩ (M1 _ _ (by simp) ht) (λz=>nomatch z) h
  ·rw[e1]at rv;cases rv;obtain⟨_,_,_,_,_,o,_,_,h1,h2,_⟩:=(show x5 X.prog X.w H s.heap a (.frz ob (.dT kvs))from I.hok a _ e2);exact P2 w2f I.kIn ⟨o,h1,h2.1⟩ (M1 _ _ (by simp) ht) (λz=>nomatch z) h
 | exc _=>cases hT
 | fn _=>cases hT
 | lam _ _=>cases hT
 | scr _=>cases hT
def rIsi(X:Cx):List V->Hp->VK->Prop:=λxs H Q=>∃d T t x,xs=[x,.ty t]/\Rep X.D H d x/\tyS d=some T/\t∈["int","bool","str","list","tuple","dict"]/\Q (.bl (T==t||(T == "bool" && t == "int"))) H
theorem z2x:w9 X (.builtin "isinstance") (rIsi X):=by
 intro pins s σ H xs us Q I r h;obtain⟨d,T,t,x,rfl,r1,hT,ht,q⟩:=h;obtain⟨u,w',rfl,ru,rw'⟩:=z2j r;cases rw';exact z9o I r1 ru hT ht λtk=>⟨.bl _,H,I.tok tk,rfl,q⟩
def R4:Str->Option String:=λx=>(["int","bool","str","list","tuple","dict"]:List String).find? λt=>Str.ofString t==x
theorem q5Z(h:R4 x=some t):bootBuiltins x=some (.type t)/\t∈["int","bool","str","list","tuple","dict"]/\Str.ofString t=x:=by
 unfold R4 at h;have h1:=List.find?_some h;have h2:=List.mem_of_find?_eq_some h;have h3:Str.ofString t=x:=by simpa using h1
 refine⟨?_,h2,h3⟩;subst h3;simp only[d9,K7,K9]at h2;rcases h2 with rfl | rfl | rfl | rfl | rfl | rfl
 ·exact boot_int
 ·exact boot_bool
 ·exact boot_str
 ·exact boot_list
 ·exact boot_tuple
 ·exact boot_dict
def z1g:String->List Str
 | "NoneType"=>["NoneType"] | "bool"=>["bool","int"] | "int"=>["int"] | "str"=>["str"] | "tuple"=>["tuple"] | "list"=>["list"] | "dict"=>["dict"]
 | _=>[]
theorem q8u:(["NoneType","bool","int","str","tuple","list","dict"]:List String).all (λT=>(["int","bool","str","list","tuple","dict"]:List String).all λt=>(z1g T).contains (Str.ofString t)==(T==t||(T == "bool" && t == "int")))=true:=by decide +kernel
theorem z0y(h:R4 x=some t)(hT:tyS d=some T):(tyOf d).contains x=(T==t||(T == "bool" && t == "int")):=by
 obtain⟨_,h2,h3⟩:=q5Z h;subst h3;have key:∀T∈(["NoneType","bool","int","str","tuple","list","dict"]:List String),(z1g T).contains (Str.ofString t)=(T==t||(T == "bool" && t == "int")):=λT hT=>by have q:=o7.mp (o7.mp q8u T hT) t h2;simpa using q
 cases d<;>cases hT
 ·exact key "NoneType" (by simp)
 ·exact key "bool" (by simp)
 ·exact key "int" (by simp)
 ·exact key "str" (by simp)
 ·exact key "tuple" (by simp)
 ·exact key "list" (by simp)
 ·exact key "dict" (by simp)
theorem z6l(ht:R4 x=some t)(hg:Gl X "isinstance")(hm:X.mg "isinstance" = none)(hgx:Gl X x)(hmx:X.mg x=none)(hnx:x ≠ "__name__")(hdx:(x==("__debug__" : Str))=false)
  (ha:∀q,ra=some q->PE X e (dE X.D E δ q)) (hs:i9 e=false) (h:(Re.thn ra λy _=>(isiD G y [x]).map λk=>.ok (.bl k) .strong)=some re):PE X (.Call (.Name "isinstance" p) [e,.Name x p'] [] pos) (dE X.D E δ re):=by
 obtain⟨b1,b2,b3⟩:=q5Z ht;have T:PE X (.Name x p') (tC (.ty t)):=q6p hgx hmx b1 rfl hnx hdx;have C:=λta (hA:PE X e ta)=>q4n (p:=p) (pos:=pos) z2x hg hm w26 (C2 hA (C2 T L3) (o9 hs)) (by decide) (by decide) (o9 hs)
 cases hra:ra with
 | none=>rw[hra]at h;cases h
 | some q=>
  rw[hra]at h;have A:=ha q hra;cases q with
  | ex c=>cases h;exact(C _ A).weak λσ H Q ⟨O,W,R,p⟩=>⟨O,W,R,p⟩
  | ok d cl=>
   obtain⟨k,e1,e2⟩:=j8.mp (show((isiD G d [x]).map λk=>Re.ok (.bl k) .strong)=some re from h);cases e2;have key:∃T,tyS d=some T/\k=(tyOf d).contains x:=by
    unfold isiD at e1;have px:G0.contains x=true:=by
     rw[←b3];simp only[d9,K7,K9]at b2;rcases b2 with rfl | rfl | rfl | rfl | rfl | rfl<;>decide +kernel
    cases d<;>first
     | (simp only[px,if_true]at e1;cases e1;exact⟨_,rfl,rfl⟩)
     | cases e1
   obtain⟨T,hT,hk⟩:=key;exact(C _ A).weak λσ H Q ⟨O,W,R,p⟩=>⟨O,W,R,λv H1 s1 g1=>⟨d,T,t,v,rfl,g1.all (R.hid.mono s1),hT,b2,by rw[←z0y ht hT,←hk];exact p _ H1 s1 K2⟩⟩
end
end
section
theorem q7s:∀(l:List Value),TriplesOk l->(∃i t,a=.int i t)->(∃i t,b=.int i t)->codeAmong pos' (l++[a,b,c])=some cv->codeAmong pos' l=some cv\/cv=c
 | [],_,⟨i,t,ea⟩,⟨j,u,eb⟩,h=>by
  subst ea eb;have h':(if i==pos'.line&&j==pos'.col then some c else codeAmong pos' [])=some cv:=h;split at h'
  ·exact .inr (x4 h').symm
  ·cases h'
 | .int i t :: .int j u::x::r,ok,ha,hb,h=>by
  have h':(if i==pos'.line&&j==pos'.col then some x else codeAmong pos' (r++[a,b,c]))=some cv:=h;show(if i==pos'.line&&j==pos'.col then some x else codeAmong pos' r)=some cv\/cv=c;split at h'
  ·rename_i z;rw[d4 z];exact .inl h'
  ·rename_i z;rw[d6 z];exact q7s r ok ha hb h'
theorem q4Y(ha:∃i t,a=.int i t)(hb:∃i t,b=.int i t):∀(l:List Value),TriplesOk l->TriplesOk (l++[a,b,c])
 | [],_=>by obtain⟨i,t,rfl⟩:=ha;obtain⟨j,u,rfl⟩:=hb;exact trivial
 | .int i t :: .int j u::x::r,ok=>q4Y ha hb r ok
structure LamAt(X:Cx)(scope:Scope)(c P:Addr):Prop where
 code:X.env.code=.ref c
 hd:∀h:Heap,X.K.In h->PySem.W.CodeHd h c P
 tab:(P,X.env.qual ++ "<lambda>")∈u0 X.K
 fre:∀y∈scope.names,y.2=NameKind.free->X.env.kindOf y.1=some .cell
theorem LamAt.has(L:LamAt X scope c P)(ok:X.Ok):∀y∈scope.names,y.2=NameKind.free->∃a,X.env.cells.lookup y.1=some a:=λy hy hf=>ok.has y.1 (.inl (L.fre y hy hf))
section
variable {X:Cx} {pins:List (Addr×Obj)} {σ:St} {H:Hp} {s:Shared} {params:Arguments} {body:Expr} {scope:Scope} {pos:Pos} {c P:Addr} {M:Model} {A:Around} {E:Value->Shared->Prop} {Q:Value->Shared->Prop}
theorem z2Y(I:Inv X pins σ H s)(L:LamAt X scope c P)(hdef:defaultsOf params X.env=([],[]))
  (h:∀f H' s',Inv X pins σ H' s'->Same H H'->H f=none->N9 H' (X.env.qual ++ "<lambda>") params body scope (o4 X.env.cells scope.names []) f->Q (.ref f) s') :
  wpAny M A (eval (.Lambda params body scope pos) X.env) Q E s:=by
 refine PySem.W.kla_eval hdef ?_;have hP:=I.tabs _ L.tab;obtain⟨ps,hp,ht,good⟩:=I.hok _ _ hP;have hcl:=q1W (scope:=scope) (env:=X.env) (L.has I.ok);have hg:s.heap.Ns mainGlobals X.mg:=I.ok.mod.glob.keeps I.bk;have hgP:mainGlobals≠P:=λz=>by obtain⟨o,es,ep,e,d,_⟩:=hg;rw[z,hp]at e;cases e;cases d
 obtain⟨bm,ob,b1,b2,b3,b4,b5,b6⟩:=I.ok.mod.bmod;have b3':=I.bs _ _ b3;have hbP:bm≠P:=λz=>by rw[z,hP]at b3';cases b3'.2
 have hbG:bm≠mainGlobals:=λz=>by obtain⟨o,es,ep,e,d,_⟩:=hg;rw[←z,b3'.1]at e;cases e;rw[b6]at d;cases d
 have hb:s.heap.BuiltinsAt X.mg P:=⟨bm,ob,b1,b2,hbG,hbP,b3'.1,b4,b5,b6⟩;have C:=L.hd s.heap I.kIn;cases hf:codeAmong pos ps.toList with
 | some cv=>
  obtain⟨c',oc,u,vs,t,e1,e2,e3,e4⟩:=good pos cv hf;subst e1;refine PySem.W.kla_makeFunctionHit (mg:=X.mg) hcl I.ok.glob hg L.code C hp ht hf hb λctv h' tk hk hsz=>?_
  have hn:H h'.objs.size=none:=I.hok.fresh hsz;refine h _ (upd H h'.objs.size (.frz _ (.own h'.objs.size))) _ (I.laid (t':=tk) (λb u e=>j5 _ (hk b u e)) hsz ⟨v9 _ rfl,_,v9 _ rfl⟩) (v7 hn) hn ?_;refine⟨c',oc,u,vs,t,_,ctv,E2,?_,e3,e4⟩;rw[j6 (B3 e2 hn)];exact e2
 | none=>
  refine PySem.W.kla_makeFunction (mg:=X.mg) hcl I.ok.glob hg L.code C hp ht hf hgP hb λc' ctv h' tk hx hge hlt hrec htb=>?_;obtain⟨c₂,oc,vs,t,e2,hoc,hd,hv⟩:=hrec;cases e2;have hnc:H c'=none:=I.hok.fresh hge;have hnf:H h'.objs.size=none:=I.hok.fresh (m7 hge (w2o hlt));have hcf:c'≠h'.objs.size:=w6 hlt;have old:∀{b:Addr} {u:HO},H b=some u->b≠c'/\b≠h'.objs.size:=λe=>⟨B3 e hnc,B3 e hnf⟩;have oldh:∀{b:Addr} {o:Obj},s.heap.get? b=some o->b≠c'/\b≠h'.objs.size:=λ{b o} e=>⟨w6 (p5 (i7 e) hge),w6 (p5 (i7 e) (m7 hge (w2o hlt)))⟩;generalize hfo:PySem.W.kla_obj "<lambda>" (X.env.qual ++ "<lambda>") params body scope (o4 X.env.cells scope.names []) ((X.mg "__name__").getD .none) c' ctv=fo;have hfr:fo.isFreed=false:=by rw[←hfo];rfl
  generalize hH':upd (upd H c' (.frz oc (.own c'))) h'.objs.size (.frz fo (.own h'.objs.size))=H';have at1:H' h'.objs.size=some (.frz fo (.own h'.objs.size)):=by rw[←hH'];exact E2
  have at2:H' c'=some (.frz oc (.own c')):=by rw[←hH',j6 hcf];exact E2
  have at3:∀{b:Addr},b≠c'->b≠h'.objs.size->H' b=H b:=λh1 h2=>by rw[←hH',j6 h2,j6 h1]
  have sm:Same H H':=λb o e=>by rw[at3 (old e).1 (old e).2];exact e
  have kp:∀b o,b≠P->s.heap.get? b=some o->(h'.push fo).get? b=some o:=λb o hb e=>j5 _ (hx b o hb e);have hPn:∀b,H b=none->b≠P:=λb n z=>by rw[z,hP]at n;cases n
  have un:Un X.fs [] H H' s.heap (h'.push fo):=by
   refine⟨λb o e n _ _=>kp b o (hPn b n) e,λb o e n _ _=>⟨o.slots,kp b o (hPn b n) e⟩,λb o e n _=>by rw[at3 (oldh e).1 (oldh e).2];exact n,λb o e _=>?_,λb xs e=>sm _ _ e,λb o u e=>sm _ _ e,λb q e=>sm _ _ e⟩;by_cases z:b=P
   ·subst z;exact⟨_,j5 _ htb⟩
   ·exact⟨o,kp b o z e⟩
  have hok:HOk X.prog X.w H' (h'.push fo):=λb u e=>by
   by_cases z1:b=h'.objs.size
   ·subst z1;rw[at1]at e;cases e;exact⟨v9 _ hfr,_,v9 _ hfr⟩
   ·by_cases z2:b=c'
    ·subst z2;rw[at2]at e;cases e;exact⟨j5 _ hoc,_,j5 _ hoc⟩
    ·rw[at3 z2 z1]at e;by_cases z3:b=P
     ·subst z3;rw[hP]at e;cases e;refine⟨_,j5 _ htb,?_,λpos' cv hcv=>?_⟩
      ·rw[X8];exact q4Y ⟨_,_,rfl⟩ ⟨_,_,rfl⟩ _ ht
      ·rw[X8]at hcv;rcases q7s (a:=rawInt pos.line) (b:=rawInt pos.col) (c:=.ref c') ps.toList ht ⟨_,_,rfl⟩ ⟨_,_,rfl⟩ hcv with w | w
       ·obtain⟨c2,oc2,u2,vs2,t2,f1,f2,f3,f4⟩:=good pos' cv w;exact⟨c2,oc2,u2,vs2,t2,f1,sm _ _ f2,f3,f4⟩
       ·exact⟨c',oc,_,vs,t,w,at2,hd,hv⟩
     ·refine(I.hok b u e).stay (λb' u' hb' q=>kp b' u' ?_ q) (λb' q=>sm _ _ q) (λb' xs q=>sm _ _ q) λb' _ _ _ _ q=>sm _ _ q;rcases hb' with w | w
      ·rw[w];exact z3
      ·intro z;rw[z,hP]at w;cases w
  refine h h'.objs.size H' _ (I.un (t':=tk) un hok) sm hnf ⟨c',oc,_,vs,t,(X.mg "__name__").getD .none,ctv,by rw[at1,←hfo],at2,hd,hv⟩
end
end
section
def trC(l:List Addr)(h:Heap)(H:Hp):Hp:=λb=>if b∈l then(h.get? b).map λo=>HO.frz o (.own b)else H b
theorem q6Y(hb:b∈l)(e:h.get? b=some o):trC l h H b=some (.frz o (.own b)):=by
 unfold trC;rw[d4 hb,e];rfl
theorem W4(hb:b∉l):trC l h H b=H b:=d6 hb
structure Cells(l:List Addr)(h:Heap)(H:Hp):Prop where
 none:∀c∈l,H c=none
 cel:∀c∈l,∃o v,h.get? c=some o/\o.data=.cell v
section
variable {P:Program} {w:World} {K:PySem.W.Frag} {mg:Str->Option Value} {base:Heap} {A:Around} {outer:List Env} {s s':Shared} {H:Hp} {l:List Addr} {Q Q':VK} {u:Value}
theorem Cells.same(C:Cells l s.heap H):Same H (trC l s.heap H):=λb o e=>by
 rw[W4 λz=>by rw[C.none b z]at e;cases e];exact e
theorem HOk.trC(C:Cells l s.heap H)(x:HOk P w H s.heap):HOk P w (trC l s.heap H) s.heap:=λb u e=>by
 by_cases hb:b∈l
 ·obtain⟨o,v,g,_⟩:=C.cel b hb;rw[q6Y hb g]at e;cases e;exact⟨g,o,g⟩
 ·rw[W4 hb]at e;exact(x b u e).stay (λ_ _ _ q=>q) (λ_ q=>C.same _ _ q) (λ_ _ q=>C.same _ _ q) λ_ _ _ _ _ q=>C.same _ _ q
theorem Env0.trC(C:Cells l s.heap H)(hb:∀c∈l,base.get? c=none)(hf:∀c∈l,c∉frs outer)(e:Env0 P w K mg base A outer s H):Env0 P w K mg base A outer s (trC l s.heap H):=
 ⟨e.frames,e.mod,λb o q=>⟨(e.bs b o q).1,by rw[W4 λz=>by rw[hb b z]at q;cases q];exact(e.bs b o q).2⟩,e.bsz,e.funs,⟨λb q=>by rw[W4 λz=>hf b z q];exact e.frf.1 b q,λp hp=>C.same _ _ (e.frf.2 p hp)⟩,HOk.trC C e.hok,e.bare⟩
theorem CE.trC(C:Cells l s.heap H)(h:CE outer P w (trC l s.heap H) s Q' u s')(hq:∀v H',Same (trC l s.heap H) H'->Q' v H'->Q v (L2.wo l H'))(hs:∀v H',Q' v H'->Same (trC l s.heap H) H'):CE outer P w H s Q u s':=by
 obtain⟨v,H',os,bare,un,hok,r,q⟩:=h;have at1:∀{b:Addr},b∈l->∃o v,s.heap.get? b=some o/\o.data=.cell v/\H' b=some (.frz o (.own b))/\s'.heap.get? b=some o:=λ{b} hb=>by obtain⟨o,v,g,d⟩:=C.cel b hb;have z:=un.frzs b o _ (q6Y hb g);exact⟨o,v,g,d,z,(hok b _ z).1⟩
 refine⟨v,L2.wo l H',os,bare,⟨λb o e n hf hx=>?_,λb o e n hf hx=>?_,λb o e n hx=>?_,un.there,λb xs e=>?_,λb o x e=>?_,λb x e=>?_⟩,λb x e=>?_,r,hq v H' (hs v H' q) q⟩
 ·by_cases hb:b∈l
  ·obtain⟨o',_,g,_,_,g'⟩:=at1 hb;rw[e]at g;cases g;exact g'
  ·exact un.keep b o e (by rw[W4 hb];exact n) hf hx
 ·by_cases hb:b∈l
  ·obtain⟨o',_,g,_,_,g'⟩:=at1 hb;rw[e]at g;cases g;exact⟨o.slots,g'⟩
  ·exact un.slot b o e (by rw[W4 hb];exact n) hf hx
 ·by_cases hb:b∈l
  ·exact q9I hb
  ·rw[f7 hb];exact un.free b o e (by rw[W4 hb];exact n) hx
 ·rw[f7 λz=>by rw[C.none b z]at e;cases e];exact un.tups b xs (C.same _ _ e)
 ·rw[f7 λz=>by rw[C.none b z]at e;cases e];exact un.frzs b o x (C.same _ _ e)
 ·rw[f7 λz=>by rw[C.none b z]at e;cases e];exact un.tbls b x (C.same _ _ e)
 ·obtain⟨hb,e⟩:=x6 e;refine(hok b x e).stay (λ_ _ _ q=>q) (λb' q=>?_) (λb' _ q=>?_) λb' o' _ vs d q=>?_
  ·rw[f7 λz=>by obtain⟨_,_,_,_,g,_⟩:=at1 z;rw[q]at g;cases g];exact q
  ·rw[f7 λz=>by obtain⟨_,_,_,_,g,_⟩:=at1 z;rw[q]at g;cases g];exact q
  ·rw[f7 λz=>by obtain⟨_,_,_,d',g,_⟩:=at1 z;rw[q]at g;cases g;rw[d]at d';cases d'];exact q
structure CellsT(l:List Addr)(h:Heap)(H:Hp):Prop where
 at_:∀c∈l,∃o v,H c=some (.frz o (.own c))/\h.get? c=some o/\o.data=.cell v
def ov(l:List Addr)(H H':Hp):Hp:=λb=>if b∈l then H b else H' b
theorem z6H(h:b∈l):ov l H H' b=H b:=d4 h
theorem R5(h:b∉l):ov l H H' b=H' b:=d6 h
theorem HOk.woC(C:CellsT l s.heap H)(x:HOk P w H s.heap):HOk P w (L2.wo l H) s.heap:=λb u e=>by
 obtain⟨hb,e⟩:=x6 e;refine(x b u e).stay (λ_ _ _ q=>q) (λb' q=>?_) (λb' _ q=>?_) λb' o' _ vs d q=>?_
 ·rw[f7 λz=>by obtain⟨_,_,g,_⟩:=C.at_ _ z;rw[q]at g;cases g];exact q
 ·rw[f7 λz=>by obtain⟨_,_,g,_⟩:=C.at_ _ z;rw[q]at g;cases g];exact q
 ·rw[f7 λz=>by obtain⟨_,_,g,_,d'⟩:=C.at_ _ z;rw[q]at g;cases g;rw[d]at d';cases d'];exact q
theorem CE.woC(C:CellsT l s.heap H)(hf:∀b∈frs outer,H b=none)(h:CE outer P w (L2.wo l H) s Q' u s')(hq:∀v H',(∀c∈l,H' c=none)->Q' v H'->Q v (ov l H H')):CE outer P w H s Q u s':=by
 obtain⟨v,H',os,bare,un,hok,r,q⟩:=h;have nf:∀c∈l,c∉frs outer:=λc hc z=>by obtain⟨_,_,g,_⟩:=C.at_ c hc;rw[hf c z]at g;cases g
 have gone:∀c∈l,H' c=none:=λc hc=>by obtain⟨o,_,_,g,_⟩:=C.at_ c hc;exact un.free c o g (q9I hc) (by simp)
 refine⟨v,ov l H H',os,bare,⟨λb o e n hf hx=>?_,λb o e n hf hx=>?_,λb o e n hx=>?_,un.there,λb xs e=>?_,λb o x e=>?_,λb x e=>?_⟩,λb x e=>?_,r,hq v H' gone q⟩
 ·have hb:b∉l:=λz=>by obtain⟨_,_,g,_⟩:=C.at_ b z;rw[n]at g;cases g
  exact un.keep b o e (by rw[f7 hb];exact n) hf hx
 ·have hb:b∉l:=λz=>by obtain⟨_,_,g,_⟩:=C.at_ b z;rw[n]at g;cases g
  exact un.slot b o e (by rw[f7 hb];exact n) hf hx
 ·have hb:b∉l:=λz=>by obtain⟨_,_,g,_⟩:=C.at_ b z;rw[n]at g;cases g
  rw[R5 hb];exact un.free b o e (by rw[f7 hb];exact n) hx
 ·have hb:b∉l:=λz=>by obtain⟨_,_,g,_⟩:=C.at_ b z;rw[e]at g;cases g
  rw[R5 hb];exact un.tups b xs (by rw[f7 hb];exact e)
 ·by_cases hb:b∈l
  ·rw[z6H hb];exact e
  ·rw[R5 hb];exact un.frzs b o x (by rw[f7 hb];exact e)
 ·have hb:b∉l:=λz=>by obtain⟨_,_,g,_⟩:=C.at_ b z;rw[e]at g;cases g
  rw[R5 hb];exact un.tbls b x (by rw[f7 hb];exact e)
 ·by_cases hb:b∈l
  ·rw[z6H hb]at e;obtain⟨o,_,g,g2,_⟩:=C.at_ b hb;rw[g]at e;cases e;have k:=un.keep b o g2 (q9I hb) (nf b hb) (by simp);exact⟨k,o,k⟩
  ·rw[R5 hb]at e;refine(hok b x e).stay (λ_ _ _ q=>q) (λb' q=>?_) (λb' _ q=>?_) λb' o' _ vs d q=>?_
   all_goals (rw[R5 λz=>by rw[gone _ z]at q;cases q];exact q)
end
end
section
def z3e(P:Program)(w:World)(K:PySem.W.Frag)(mg:Str->Option Value)(base:Heap)(N:List Str)(qual:Str)(scope:Scope)(f:Addr)(cd:Value)(cl:List (Str×Addr))(A:Around)(outer:List Env)(s:Shared)(H:Hp):Cx where
 prog:=P
 w:=w
 K:=K
 mg:=mg
 base:=base
 A:=A.deeper (PySem.W.envX qual scope s.heap.objs.size f cd cl)
 N:=N
 s₀:=s
 H₀:=H
 env:=PySem.W.envX qual scope s.heap.objs.size f cd cl
 outer:=outer
 stack:=PySem.W.envX qual scope s.heap.objs.size f cd cl::outer
 ex:=[]
 calm:=true
 fn:=λ_=>false
 pn:=[]
 xe:=λ_ _=>False
section
variable {P:Program} {w:World} {K:PySem.W.Frag} {mg:Str->Option Value} {base:Heap} {A:Around} {outer:List Env} {s:Shared} {H:Hp} {l:List Addr} {Q:VK} {E:XK} {CX:CXT} {k:Nat} {N ps:List Str} {q:Str} {params:Arguments} {body:Expr} {scope:Scope} {cl:List (Str×Addr)} {f:Addr} {us:List Value} {vs ws:List V}
theorem z5d(S:LamScope N ps scope cl l)(C:CellsT l s.heap H)(hd:A.handled=none)(e0:Env0 P w K mg base A outer s H)(hl:vs.length=ps.length)(r:Vals vs us)(hlen:N.length=ps.length+ws.length)
  (hw:∀i x v,N[ps.length+i]? = some x->ws[i]? = some v->∃c u,cl.lookup x=some c/\s.heap.IsCell c (some u)/\RelV v u)
  (hns:h₁.Ns s.heap.objs.size (λx=>(ps.zip us).reverse.lookup x)) (hk:∀b o,s.heap.get? b=some o->h₁.get? b=some o) :
  Inv (z3e P w K mg base N q scope f cd cl A outer s (L2.wo l H)) [] ((vs++ws).map some) (L2.wo l H) {s with heap:=h₁,toks:=tk}:=by
 have nl:∀{b:Addr},H b=none->b∉l:=λ{b} n z=>by obtain⟨_,_,g,_⟩:=C.at_ b z;rw[n]at g;cases g
 have noA:∀b:Addr,b∉(z3e P w K mg base N q scope f cd cl A outer s (L2.wo l H)).ex:=λb z=>absurd (show b∈([]:List Addr)from z) (by simp);have wn:∀{b:Addr},H b=none->L2.wo l H b=none:=λ{b} n=>by rw[f7 (nl n)];exact n
 have cellAt:∀x c,cl.lookup x=some c->∃v,h₁.IsCell c v:=λx c e=>by obtain⟨o,v,_,g,d⟩:=C.at_ c (S.mem x c e);exact⟨v,o,hk _ _ g,d⟩
 refine⟨⟨e0.mod,S.kind,rfl,rfl,j1 _,S.inj,λy hy=>?_,λy c z=>(nomatch z),λ_=>hd,Around.frames_deeper e0.frames,.inr ⟨rfl,rfl⟩,λb z=>absurd z (noA b),λb o e=>⟨(e0.bs b o e).1,wn (e0.bs b o e).2⟩,e0.bsz,λb _ _=>noA b,λb z=>absurd z (noA b),e0.funs,λb hb=>wn (e0.frf.1 b hb),λp hp=>?_⟩,
  rfl,e0.bare,Un.kept hk,⟨_,hns,λi y v h1 h2 h3=>?_⟩,cellAt,?_,λy c h=>q9I (S.mem y c h),λp hp=>absurd (show p∈([]:List (Addr×Obj))from hp) (by simp),(HOk.woC C e0.hok).kept hk,?_⟩
 ·have hy:scope.names.lookup y=some .cell\/scope.names.lookup y=some .free:=hy;rcases hy with hy | hy
  ·exact absurd rfl (S.nocell _ (D0 hy))
  ·exact S.has y hy
 ·have z:=e0.frf.2 p hp;show L2.wo l H p.1=_;rw[f7 λm=>by obtain⟨_,_,g,_⟩:=C.at_ _ m;rw[z]at g;cases g];exact z
 ·have h1:N[i]? = some y:=h1;rw[B5]at h2;have h2':(vs++ws)[i]? = some v:=by
   cases z:(vs++ws)[i]? with
   | none=>rw[z]at h2;cases h2
   | some a=>rw[z]at h2;exact congrArg some (x4 (x4 h2))
  by_cases hi:i<ps.length
  ·rw[O8 (by omega)]at h2';obtain⟨u,hu,rv⟩:=r.get h2';have hp:ps[i]? = some y:=by rw[←S.pre,w2P hi];exact h1
   have ndP:ps.Nodup:=by rw[←S.pre];exact S.nd.sublist (List.take_sublist _ _)
   refine⟨u,rv,.inl ⟨S.par y (O9 hp),?_⟩⟩;show(ps.zip us).reverse.lookup y=some u;have nd2:((ps.zip us).reverse.map (·.1)).Nodup:=by rw[List.map_reverse,List.map_fst_zip (by have:=r.length;omega)];exact List.pairwise_reverse.mpr (List.Pairwise.imp (λh=>Ne.symm h) ndP)
   refine V2 nd2 (List.mem_reverse.mpr ?_);have hz:(ps.zip us)[i]? = some (y,u):=by rw[w16];exact⟨hp,hu⟩
   exact O9 hz
  ·rw[T9 (by omega)]at h2';obtain⟨c,u,e1,e2,e3⟩:=hw (i - vs.length) y v (by rw[show ps.length+(i - vs.length)=i by omega];exact h1) h2';exact⟨u,e3,.inr ⟨.inr (S.fre i y (by omega) h1),c,e1,e2.keeps hk⟩⟩
 ·show L2.wo l H s.heap.objs.size=none;exact wn (e0.hok.fresh (j1 _))
 ·show((vs++ws).map some).length=N.length;rw[g9,A7];omega
theorem z6f(S:LamScope N ps scope cl l)(C:CellsT l s.heap H)(hr:Room k A)(e0:Env0 P w K mg base A outer s H)(hf:N9 H q params body scope cl f)
  (hbind:∀pm c' ctv,bindArgs (PySem.W.kla_fn "<lambda>" q params body scope cl pm (.ref c') ctv) ⟨us,[]⟩=pure (ps.zip us)) (hl:vs.length=ps.length) (r:Vals vs us) (hlen:N.length=ps.length+ws.length)
  (hw:∀i x v,N[ps.length+i]? = some x->ws[i]? = some v->∃c u,cl.lookup x=some c/\s.heap.IsCell c (some u)/\RelV v u)
  (hbody:∀c',∃t,PE (z3e P w K mg base N q scope f (.ref c') cl A outer s (L2.wo l H)) body t/\t ((vs++ws).map some) (L2.wo l H) (λv H'=>(∀c∈l,H' c=none)->Q v (ov l H H'))) :
  codeAny (model P w) A (.call (.ref f) ⟨us,[]⟩) (CR CX outer P w H s Q E) s:=by
 obtain⟨c',oc,u,vs',t,pm,ctv,h1,h2,h3,h4⟩:=hf;have ho:=(e0.hok f _ h1).1;have hoc:=(e0.hok c' _ h2).1;have lim:s.heap.NoLimit:=e0.mod.nolimit.keeps λb o e=>(e0.bs b o e).1
 refine PySem.W.kla_callFunE hr.depth ho rfl S.co S.gen rfl ⟨c',oc,vs',t,rfl,hoc,h3,h4⟩ ?_;show wpAny _ _ (bindArgs (PySem.W.kla_fn "<lambda>" q params body scope cl pm (.ref c') ctv) ⟨us,[]⟩) _ _ s;rw[hbind pm c' ctv];refine f8 (wpAny_newFunctionEnv S.nocell (λx hx=>S.par x.1 (w2p hx).1) (λh₁ hns hsb=>⟨lim.fresh _ hsb,?_⟩) S.kind);have hk₁:∀b o,s.heap.get? b=some o->h₁.get? b=some o:=λb o e=>hsb.extBut b o (w6 (i7 e)) (j5 _ e);show codeAny _ _ (.expr body (PySem.W.envX q scope s.heap.objs.size f (.ref c') cl)) _ _;obtain⟨t,ht,hq⟩:=hbody c';have I:=z5d (q:=q) (f:=f) (cd:=.ref c') (tk:=s.toks+(ps.zip us).length) S C hr.hd e0 hl r hlen hw hns hk₁;exact PySem.W.kla_codeExpr (n6 (ht [] _ _ _ _ I hq) (λv s' ⟨v',H',J,rv,z⟩=>CE.woC (Q':=λv H'=>(∀c∈l,H' c=none)->Q v (ov l H H')) C e0.frf.1 ⟨v',H',J.os,J.bare,J.base,J.hok,rv,z⟩ λ_ _ z q=>q z) λe s' z=>(z:False).elim)
end
end
section
def z0p(P:Program)(w:World)(K:PySem.W.Frag)(mg:Str->Option Value)(base:Heap)(fn bl cl:List Str)(k:Nat)(Fl:List DV->Option Ou):Prop:=
 ∀(A:Around) (outer:List Env) (s:Shared) (H:Hp) (us:List Value) (vs:List V) (Q:VK) (E:XK) (O:List Addr) (f:Addr) (m:LamD) (cs ds:List DV) (d:DV),Room k A->Env0 P w K mg base A outer s H->Vals vs us->Hdn O H->m.fn=fn->m.bl=bl->m.cl=cl ->
  Rep ⟨K,mg⟩ (L2.wo O H) (.lam m cs) (.ref f)->RepL ⟨K,mg⟩ (L2.wo O H) ds vs->Fl (.lam m cs::ds)=some (.v d false)->(∀v H',Same H H'->Rep ⟨K,mg⟩ (L2.wo O H') d v->Q v H') ->
  codeAny (model P w) A (.call (.ref f) ⟨us,[]⟩) (CR (CXx P w base) outer P w H s Q E) s
section
variable {X:Cx} {E:St->XK} {δ:List Sv} {e:Expr} {es:List Expr} {pos p:Pos} {rs:Option Rs} {re:Re} {k i:Nat} {x:Str} {fn bl cl:List Str} {m:LamD} {cs:List DV}
theorem q8V(I:Inv X pins σ H s)(h:Rep X.D (L2.wo O H) (.lam m cs) (.ref f)):PySem.W.FnAt f s.heap:=by
 obtain⟨f',pr,bd,sc,q,cl,l,ws,e1,⟨c',oc,u,vs,t,pm,ctv,h1,_⟩,_⟩:=q4U.mp h;cases e1;exact⟨_,_,_,_,(I.hok _ _ (x6 h1).2).1⟩
theorem z2a(lo:z0p X.prog X.w X.K X.mg X.base fn bl cl k (F u6))(hr:Room k X.A)(hv:PE X (.Name x p) (tVar i))(h1:m.fn=fn)(h2:m.bl=bl)(h3:m.cl=cl)(hi:δ[i]? = some (.val (.lam m cs)))
  (ha:∀q,rs=some q->PA X (e::es) (dA X.D E δ q)) (hs:i9 e=false) (hss:es.any i9=false) (h:(Rs.thn rs λl=>Q2 F m cs l)=some re):PE X (.Call (.Name x p) (e::es) [] pos) (dE X.D E δ re):=by
 have C:∀{t:TA},PA X (e::es) t->PE X (.Call (.Name x p) (e::es) [] pos) (λσ H Q=>∃(O W:List Addr) (v:V),RSt X.D H σ δ O W/\σ[i]? = some (some v)/\t σ H λvs H1=>Same H H1/\∃ds d,RepL X.D (L2.wo (O++W) H1) ds vs/\F u6 (.lam m cs::ds)=some (.v d false)/\∀v H',Same H1 H'->Rep X.D (L2.wo (O++W) H') d v->Q v H'):=λ{t} A=>by
  intro pins s σ H Q I h;obtain⟨O,W,v,R,h0,h⟩:=h;obtain⟨v',e1,e2⟩:=R.val i _ hi;rw[h0]at e1;cases e1;have e2':=q4U.mp e2;obtain⟨f,_,_,_,_,_,_,_,ev,_⟩:=e2';subst ev;refine X9 (thn (hv pins s σ H (λv H1=>v=.ref f/\H1=H) I ⟨_,h0,rfl,rfl⟩) λu s1 ⟨v,H1,I1,r1,q1,q2⟩=>?_);subst q1 q2;obtain rfl:u=Value.ref f:=r1;refine PySem.W.callWith_F (q8V I1 e2) (thn (A pos pins s1 σ H1 _ I1 h) λus s2 ⟨vs,H2,I2,r,sm,ds,d,g1,g2,g3⟩=>?_) (o9 hs) (q1T es hss);have e3:Rep X.D (L2.wo (O++W) H2) (.lam m cs) (.ref f):=e2.mono sm.wo;refine⟨q8V I2 e3,?_⟩;refine wpAny_call (U8 (lo X.A X.stack s2 H2 us vs Q (λ_ _ _=>False) (O++W) f m cs ds d hr I2.env0 r (R.hid.mono sm).hdA h1 h2 h3 e3 g1 g2 g3) λr s' hq=>?_);cases r with
  | error e=>
   obtain⟨_,_,_,_,_,_,_,_,_,_,z⟩:=(hq:CXx X.prog X.w X.base X.stack H2 s2 (λ_ _ _=>False) e s');exact z.elim
  | ok fl=>
   cases fl with
   | ret u=>exact I2.after hq
   | next=>exact False.elim hq
   | brk=>exact False.elim hq
   | cont=>exact False.elim hq
 cases hrs:rs with
 | none=>rw[hrs]at h;cases h
 | some q=>
  rw[hrs]at h;have A:=ha q hrs;cases q with
  | ex c=>
   cases h;exact(C A).weak λσ H Q ⟨O,W,R,p⟩=>by obtain⟨v,e1,_⟩:=R.val i _ hi;exact⟨O,W,v,R,e1,O,W,R,p⟩
  | ok l=>
   have h':Q2 F m cs l=some re:=h;unfold Q2 at h';split at h'
   ·rename_i z;split at h'
    ·rename_i d e1;cases h';exact(C A).weak λσ H Q ⟨O,W,R,p⟩=>by obtain⟨v,e2,_⟩:=R.val i _ hi;exact⟨O,W,v,R,e2,O,W,R,λvs H1 s1 g1=>⟨s1,_,d,g1.strong (R.hid.mono s1) z,e1,λv H' s g=>p v H' (s1.trans s) g⟩⟩
    ·cases h'
   ·cases h'
end
end
section
section
variable {D:Dm} {O l:List Addr} {H:Hp}
theorem W5(hl:∀c∈l,∃o,H c=some (.frz o (.own c)))(h:L2.wo O H b=some u)(hu:∀o c,u ≠ .frz o (.own c)):L2.wo O (L2.wo l H) b=some u:=by
 obtain⟨hb,e⟩:=x6 h;rw[f7 hb,f7 λz=>by obtain⟨o,g⟩:=hl b z;rw[e]at g;cases g;exact hu _ _ rfl];exact e
mutual
theorem z4M(hl:∀c∈l,∃o,H c=some (.frz o (.own c))):∀{d:DV} {v:V},d.nolam=true->Rep D (L2.wo O H) d v->Rep D (L2.wo O (L2.wo l H)) d v
 | .non,_,_,h=>by unfold Rep at h ⊢;exact h
 | .bl _,_,_,h=>by unfold Rep at h ⊢;exact h
 | .int _,_,_,h=>by unfold Rep at h ⊢;exact h
 | .str _,_,_,h=>by unfold Rep at h ⊢;exact h
 | .tup ds,_,m,h=>by
  unfold Rep at h ⊢;obtain⟨a,xs,e1,e2,e3⟩:=h;unfold DV.nolam at m;refine⟨a,xs,e1,?_,W6 hl m e3⟩;rcases e2 with(h | ⟨o,h⟩) | h
  ·exact .inl (.inl (W5 hl h (by intro o c z;cases z)))
  ·exact .inl (.inr ⟨o,W5 hl h (by intro o c z;cases z)⟩)
  ·exact .inr h
 | .lst ds,_,m,h=>by unfold Rep at h ⊢;obtain⟨a,xs,e1,e2,e3⟩:=h;unfold DV.nolam at m;exact⟨a,xs,e1,W5 hl e2 (by intro o c z;cases z),W6 hl m e3⟩
 | .dct _ _,_,m,h=>by
  unfold Rep at h ⊢;unfold DV.nolam at m;rcases h with⟨a,ob,kvs,e1,e2,e3,e4⟩ | ⟨a,ob,kvs,e1,e2,e3,e4⟩
  ·exact .inl ⟨a,ob,kvs,e1,W5 hl e2 (by intro o c z;cases z),e3,W6 hl m e4⟩
  ·exact .inr ⟨a,ob,kvs,e1,W5 hl e2 (by intro o c z;cases z),e3,W6 hl m e4⟩
 | .exc C,_,_,h=>by unfold Rep at h ⊢;obtain⟨a,C,e1,e2,e3⟩:=h;exact⟨a,C,e1,e2,W5 hl e3 (by intro o c z;cases z)⟩
 | .fn _,_,_,h=>by unfold Rep at h ⊢;exact h
 | .lam _ _,_,m,_=>by unfold DV.nolam at m;cases m
 | .scr _,_,_,h=>by
  unfold Rep at h ⊢;obtain⟨a,e1,e2⟩:=h;refine⟨a,e1,?_⟩;rcases e2 with⟨o,h⟩ | h
  ·exact .inl ⟨o,W5 hl h (by intro o c z;cases z)⟩
  ·exact .inr h
theorem W6(hl:∀c∈l,∃o,H c=some (.frz o (.own c))):∀{ds:List DV} {xs:List V},DV.nolams ds=true->RepL D (L2.wo O H) ds xs->RepL D (L2.wo O (L2.wo l H)) ds xs
 | [],_,_,h=>by unfold RepL at h ⊢;exact h
 | d::ds,_,m,h=>by unfold RepL at h ⊢;obtain⟨v,vs,e1,e2,e3⟩:=h;unfold DV.nolams at m;rw[b8]at m;exact⟨v,vs,e1,z4M hl m.1 e2,W6 hl m.2 e3⟩
end
end
section
variable {X:Cx} {pins:List (Addr×Obj)} {σ:St} {H:Hp} {s:Shared} {sc:Scope} {N ps:List Str}
theorem z2l(hf:∀y∈sc.names,y.2=NameKind.free->∃a,cells.lookup y.1=some a)(h:(o4 cells sc.names []).lookup x=some c):cells.lookup x=some c/\(x,NameKind.free)∈sc.names:=by
 rcases q1z hf (D0 h)with z | z
 ·cases z
 ·exact z
theorem z4j(hf:∀y∈sc.names,y.2=NameKind.free->∃a,cells.lookup y.1=some a)(hm:(x,NameKind.free)∈sc.names)(hc:cells.lookup x=some c):(o4 cells sc.names []).lookup x=some c:=by
 obtain⟨c',e⟩:=q2h (q1R (acc:=[]) hm hc);have:=(z2l hf e).1;rw[hc]at this;cases this;exact e
structure LamTx(N ps:List Str)(sc:Scope):Prop where
 kind:sc.kind=.function
 co:sc.isCoroutine=false
 gen:sc.isGenerator=false
 nd:N.Nodup
 pre:N.take ps.length=ps
 par:∀x∈ps,sc.names.lookup x=some .local
 nocell:∀y∈sc.names,y.2 ≠ .cell
 fre:∀i x,ps.length<=i->N[i]? = some x->sc.names.lookup x=some .free
theorem LamTx.full(T:LamTx N ps sc)(I:Inv X pins σ H s)(hf:∀y∈sc.names,y.2=NameKind.free->∃a,X.env.cells.lookup y.1=some a):LamScope N ps sc (o4 X.env.cells sc.names []) ((o4 X.env.cells sc.names []).map (·.2)) where
 kind:=T.kind
 co:=T.co
 gen:=T.gen
 nd:=T.nd
 pre:=T.pre
 par:=T.par
 nocell:=T.nocell
 fre:=T.fre
 has:=λx h=>by have hm:=D0 h;obtain⟨c,e⟩:=hf _ hm rfl;exact⟨c,z4j hf hm e⟩
 inj:=λx y c h1 h2=>I.ok.inj x y c (z2l hf h1).1 (z2l hf h2).1
 mem:=λx c h=>j9.mpr ⟨_,D0 h,rfl⟩
theorem q6h(I:Inv X pins σ H s)(hf:∀y∈sc.names,y.2=NameKind.free->∃a,X.env.cells.lookup y.1=some a):∀c∈(o4 X.env.cells sc.names []).map (·.2),∃x,X.env.cells.lookup x=some c/\(x,NameKind.free)∈sc.names:=λc hc=>by
 obtain⟨⟨x,c'⟩,hm,rfl⟩:=j9.mp hc;rcases q1z hf hm with z | z
 ·cases z
 ·exact⟨x,z.1,z.2⟩
theorem Cells.of(I:Inv X pins σ H s)(hf:∀y∈sc.names,y.2=NameKind.free->∃a,X.env.cells.lookup y.1=some a):Cells ((o4 X.env.cells sc.names []).map (·.2)) s.heap H where
 none:=λc hc=>by obtain⟨x,e,_⟩:=q6h I hf c hc;exact I.freeC x c e
 cel:=λc hc=>by obtain⟨x,e,_⟩:=q6h I hf c hc;obtain⟨v,o,g,d⟩:=I.cell x c e;exact⟨o,v,g,d⟩
theorem z0O(I:Inv X pins σ H s)(hf:∀y∈sc.names,y.2=NameKind.free->∃a,X.env.cells.lookup y.1=some a)(hw:∀y∈sc.names,y.2=NameKind.free->X.fn y.1=true):∀c∈(o4 X.env.cells sc.names []).map (·.2),X.base.get? c=none/\c∉frs X.stack:=λc hc=>by
 obtain⟨x,e,hm⟩:=q6h I hf c hc;have ge:=I.ok.cab x c (hw _ hm rfl) e;refine⟨w10 (m7 I.ok.bsz ge),λz=>?_⟩;rcases d9.mp (I.stkSub c z)with w | w
 ·exact I.cne x c e w
 ·obtain⟨_,o,ho,_⟩:=I.ok.funs.mem w
  exact absurd (p5 (i7 ho) ge) (K0 _)
end
end
section
section
variable {X:Cx} {E:St->XK} {δ:List Sv} {ea eb bd:Expr} {pos p lp:Pos} {re:Re} {k:Nat} {x:Str} {pr:Arguments} {sc:Scope} {c P:Addr} {m:LamD} {cs:List DV} {fr:List Nat}
def tLam(X:Cx)(pr:Arguments)(bd:Expr)(sc:Scope):TE:=λ_ H Q=>∀f H',Same H H'->H f=none->N9 H' (X.env.qual ++ "<lambda>") pr bd sc (o4 X.env.cells sc.names []) f->Q (.ref f) H'
theorem z9j(L:LamAt X sc c P)(hdef:defaultsOf pr X.env=([],[])):PE X (.Lambda pr bd sc lp) (tLam X pr bd sc):=by
 intro pins s σ H Q I h;exact z2Y I L hdef λf H' s' I' sm hn lf=>⟨.ref f,H',I',rfl,h f H' sm hn lf⟩
theorem z2c(R:RSt D H σ δ O W):∀{fr:List Nat} {cs:List DV},capD δ fr=some cs->∃ws:List V,ws.length=fr.length/\RepL D (L2.wo (O++W) H) cs ws/\∀(j i:Nat) v,fr[j]? = some i->ws[j]? = some v->σ[i]? = some (some v)
 | [],cs,h=>by cases h;exact⟨[],rfl,by unfold RepL;rfl,λj i v h=>by cases h⟩
 | i::r,cs,h=>by
  unfold capD at h;split at h
  ·rename_i d ds e1 e2;split at h
   ·cases h;obtain⟨ws,q1,q2,q3⟩:=z2c R e2;obtain⟨v,f1,f2⟩:=R.val i d e1;refine⟨v::ws,by rw[y9,y9,q1],t9.mpr ⟨v,ws,rfl,f2,q2⟩,λj i' v' h1 h2=>?_⟩;cases j with
    | zero=>cases h1;cases h2;exact f1
    | succ j=>exact q3 j i' v' h1 h2
   ·cases h
  ·cases h
def Q3(X:Cx)(δ:List Sv)(F:Nat->List DV->Option Ou)(f:Nat)(m:LamD)(cs:List DV)(pr:Arguments)(bd:Expr)(sc:Scope)(σ:St)(Q:VK):List V->Hp->Prop:=λvs H3=>∃va vb f' O W da db d,vs=[va,vb,.ref f']/\RSt X.D H3 σ δ O W/\f'∉O++W/\N9 H3 (X.env.qual ++ "<lambda>") pr bd sc (o4 X.env.cells sc.names []) f' /\
 RepL X.D (L2.wo (O++W) H3) [da,db] [va,vb]/\F f [da,db,.lam m cs]=some (.v d false)/\d.nolam=true/\∀v H',Same H3 H'->Rep X.D (L2.wo (O++W) H') d v->Q v H'
theorem z0Z(fo:FnOk X.prog X.w X.K X.mg X.base (CXx X.prog X.w X.base) k fa fd ps (spF X.D ps.length (F f)))(hn:∀ds o,F f ds=some o->ds.length=ps.length)(hr:Room k X.A)(hg:Gl X x)(hm:X.mg x=some (.ref fa))(hk:PySem.W.keepIn X.K (.ref fa)=true)
  (hb:C3 X.K fd ps []) (hdb:(x==("__debug__" : Str))=false) (hsa:i9 ea=false) (hsb:i9 eb=false)
  (L:LamAt X sc c P) (hdef:defaultsOf pr X.env=([],[])) (T:LamTx m.N (m.N.take m.np) sc) (hown:∀y∈sc.names,y.2=NameKind.free->X.fn y.1=true) (hcor:Z8 m pr bd sc=true) (hN:m.N.length=m.np+fr.length) (hslot:∀(j i:Nat),fr[j]? = some i->∃y,m.N[m.np+j]? = some y/\X.N[i]? = some y/\X.env.kindOf y=some .cell)
  (hcap:capD δ fr=some cs) (ha:PE X ea (dE X.D E δ ra)) (hB:∀q,rb=some q->PE X eb (dE X.D E δ q))
  (h:(Re.thn (some ra) λx cx=>Re.thn rb λy cy=>V3 F f [(x,cx),(y,cy)] (.lam m cs))=some re):PE X (.Call (.Name x p) [ea,eb,.Lambda pr bd sc lp] [] pos) (dE X.D E δ re):=by
 have C:∀{ta tb:TE},PE X ea ta->PE X eb tb->PE X (.Call (.Name x p) [ea,eb,.Lambda pr bd sc lp] [] pos) (λσ H Q=>z3E ta (z3E tb (z3E (tLam X pr bd sc) tNil)) σ H (Q3 X δ F f m cs pr bd sc σ Q)):=λ{ta tb} A B=>by
  intro pins s σ H Q I h;have pa:=C2 A (C2 B (C2 (z9j (bd:=bd) (lp:=lp) L hdef) (L3 (X:=X)) (by rfl)) (o9 hsb)) (o9 hsa);refine X9 (V0 I hg hm ?_ hdb);refine w2A (h₀:=X.base) I.ok.mod.kin hk (thn (pa pos pins s σ H _ I h) λus s1 ⟨vs,H3,I3,r,q⟩=>⟨I3.kIn,?_⟩) (o9 hsa) (by rw[o9 hsb];rfl);obtain⟨va,vb,f',O,W,da,db,d,e0,R,nO,lf,rp,hF,hd,hq⟩:=q;subst e0;generalize hl:(o4 X.env.cells sc.names []).map (·.2)=l;have Ce:=Cells.of (sc:=sc) I3 (L.has I3.ok);rw[hl]at Ce;have nw:=z0O (sc:=sc) I3 (L.has I3.ok) hown;rw[hl]at nw;have S:=T.full I3 (L.has I3.ok);rw[hl]at S;obtain⟨ws,w1,w2,w3⟩:=z2c R hcap;have same:=Ce.same;have hdA:=R.hid.hdA;have lamR:Rep X.D (L2.wo (O++W) (trC l s1.heap H3)) (.lam m cs) (.ref f'):=by
   have ou:∀{b:Addr} {o:Obj} {u:HO},H3 b=some (.frz o u)->b∉O++W:=λ{b o u} e z=>by obtain⟨o',q1,q2⟩:=hdA b z;rw[e]at q1;cases q1;cases q2
   have oc:∀{b:Addr},b∈l->b∉O++W:=λ{b} hb z=>by obtain⟨o',q1,q2⟩:=hdA b z;rw[Ce.none b hb]at q1;cases q1
   refine q4U.mpr ⟨f',pr,bd,sc,X.env.qual ++ "<lambda>",o4 X.env.cells sc.names [],l,ws,rfl,?_,hcor,S,w2.mono same.wo,by rw[hN,w1],λc hc=>?_,λi y v h1 h2=>?_⟩
   ·obtain⟨c',oc',u,vs,t,pm,ctv,h1,h2,h3⟩:=lf;exact⟨c',oc',u,vs,t,pm,ctv,by rw[f7 (ou h1)];exact same _ _ h1,by rw[f7 (ou h2)];exact same _ _ h2,h3⟩
   ·obtain⟨o,v,g,d'⟩:=Ce.cel c hc;exact⟨o,v,by rw[f7 (oc hc)];exact q6Y hc g,d'⟩
   ·have hi:i<fr.length:=by rw[←w1];exact(u9.mp h2).1
    have hj:fr[i]? = some fr[i]:=x9 hi;obtain⟨y',q1,q2,q3⟩:=hslot i _ hj;rw[h1]at q1;cases q1;have hv:=w3 i _ v hj h2;obtain⟨mm,hn',hl'⟩:=I3.loc;obtain⟨u,rv,lk⟩:=hl' _ y v q2 hv (.inr (.inl q3));rcases lk with⟨k1,_⟩ | ⟨k1,cc,k2,o,k3,k4⟩
    ·have k1:X.env.kindOf y=some .local:=k1;rw[q3]at k1;cases k1
    ·have hfre:(y,NameKind.free)∈sc.names:=D0 (T.fre (m.np+i) y (by rw[G7];exact m7 (Nat.min_le_left _ _) (w13 _ _)) h1);have hcl:=z4j (L.has I3.ok) hfre k2;have hcc:cc∈l:=S.mem y cc hcl;exact⟨cc,o,u,hcl,by rw[f7 (oc hcc)];exact q6Y hcc k3,k4,rv⟩
  have sp:spF X.D ps.length (F f) ([va,vb,.ref f']++[]) (trC l s1.heap H3) (λv H'=>Same (trC l s1.heap H3) H'/\Rep X.D (L2.wo (O++W) H') d v) (λ_ _ _=>False):=by
   rw[z9];refine⟨O++W,[da,db,.lam m cs],_,λa ha=>?_,hn _ _ hF,?_,hF,λv H' s g=>⟨s,g⟩⟩
   ·obtain⟨o,q1,q2⟩:=hdA a ha;exact⟨o,same _ _ q1,q2⟩
   ·obtain⟨v1,r1,e1,g1,g2⟩:=t9.mp rp;obtain⟨v2,r2,e2,g3,g4⟩:=t9.mp g2;cases e1;cases e2;exact t9.mpr ⟨_,_,rfl,g1.mono same.wo,t9.mpr ⟨_,_,rfl,g3.mono same.wo,t9.mpr ⟨_,_,rfl,lamR,A6.mpr rfl⟩⟩⟩
  have hl3:(us++[]).length=ps.length:=by rw[z9,←r.length];exact fo.len _ _ _ _ (by rw[z9]at sp;exact sp)
  have bi:=hb s1 us I3.kIn hl3;rw[z9]at bi;rw[z9]at sp;refine wpAny_call (U8 (fo.run X.A X.stack s1 (trC l s1.heap H3) ⟨us,[]⟩ us [va,vb,.ref f'] _ _ hr (Env0.trC Ce (λc hc=>(nw c hc).1) (λc hc=>(nw c hc).2) I3.env0) bi r sp) λr s' hq'=>?_);cases r with
  | error e=>
   obtain⟨_,_,_,_,_,_,_,_,_,_,z⟩:=(hq':CXx X.prog X.w X.base X.stack (trC l s1.heap H3) s1 (λ_ _ _=>False) e s');exact z.elim
  | ok fl=>
   cases fl with
   | ret u=>
    refine I3.after (Q:=Q) (CE.trC (Q:=Q) Ce hq' (λv H' sm z=>?_) λv H' z=>z.1);refine hq v _ (λb o e=>?_) (z4M (λc hc=>?_) hd z.2)
    ·rw[f7 λw=>by rw[Ce.none b w]at e;cases e];exact sm _ _ (same _ _ e)
    ·obtain⟨o,v,g,_⟩:=Ce.cel c hc;exact⟨o,sm _ _ (q6Y hc g)⟩
   | next=>exact False.elim hq'
   | brk=>exact False.elim hq'
   | cont=>exact False.elim hq'
 cases ra with
 | ex c=>cases h;exact(C ha (tb:=λ_ _ _=>False) λ_ _ _ _ _ _ z=>z.elim).weak λσ H Q ⟨O,W,R,p⟩=>⟨O,W,R,p⟩
 | ok dx cx=>
  cases hrb:rb with
  | none=>rw[hrb]at h;cases h
  | some rb'=>
  have hB':=hB _ hrb;rw[hrb]at h;cases rb' with
  | ex c=>cases h;exact(C ha hB').weak λσ H Q ⟨O,W,R,p⟩=>⟨O,W,R,λv H1 s1 g1=>⟨O,W,R.mono s1,λH' C' m' s'=>p H' C' m' (s1.trans s')⟩⟩
  | ok dy cy=>
   have h':V3 F f [(dx,cx),(dy,cy)] (.lam m cs)=some re:=h;unfold V3 at h';split at h'
   ·rename_i z;split at h'
    ·rename_i d e1;split at h'
     ·rename_i nl;cases h';refine(C ha hB').weak λσ H Q ⟨O,W,R,p⟩=>⟨O,W,R,λva H1 s1 g1=>⟨O,W,R.mono s1,λvb H2 s2 g2=>λf' H3 s3 hn3 lf=>?_⟩⟩
      have s13:=(s1.trans s2).trans s3;have hd3:=R.hid.mono s13;refine⟨va,vb,f',O,W,dx,dy,d,rfl,R.mono s13,λw=>R.hid.ot f' w ((s1.trans s2).free hn3),lf,?_,e1,nl,λv H' s g=>p v H' (s13.trans s) g⟩;have gl:GotL X.D O W H H3 [(dx,cx),(dy,cy)] [va,vb]:=.cons (g1.mono (s2.trans s3)) (.cons ((g2.since s1).mono s3) .nil);exact gl.strong hd3 z
     ·cases h'
    ·cases h'
   ·cases h'
end
end
section
def tyIs(T t:String):Bool:=T==t||(T == "bool" && t == "int")
theorem z5Z{K:PySem.W.Frag}{T t1 t2:String}(h:T∈["NoneType","bool","int","str","tuple","list","dict"])(h1:t1∈["int","bool","str","list","tuple","dict"])(h2:t2∈["int","bool","str","list","tuple","dict"]) :
  PySem.W.kitAny K (.type T) [.type t1,.type t2]=some (tyIs T t1||tyIs T t2):=by
 have e1:PySem.W.kitOne K (.type T) (.type t1)=some (tyIs T t1):=M1 T t1 h h1;have e2:PySem.W.kitOne K (.type T) (.type t2)=some (tyIs T t2):=M1 T t2 h h2;unfold PySem.W.kitAny;rw[e1];cases tyIs T t1 with
 | true=>rfl
 | false=>
  show PySem.W.kitAny K (.type T) [.type t2]=_;unfold PySem.W.kitAny;rw[e2];cases tyIs T t2<;>rfl
section
variable {X:Cx} {E:St->XK} {δ:List Sv} {e:Expr} {pos p:Pos} {ra:Option Re} {re:Re}
theorem z8t(I:Inv X pins σ H s)(r:Rep X.D H d v)(rv:RelV v u)(hT:tyS d=some T) :
  ∃HH:Heap->Prop,PySem.W.KitX X.K u (.type T) HH/\HH s.heap/\u ≠ .builtin "__main__.__loader__#opaque" /\ T∈["NoneType","bool","int","str","tuple","list","dict"]:=by
 cases d with
 | non=>cases hT;rw[Q8.mp r]at rv;cases rv;exact⟨_,PySem.W.kitx_none,True.intro,(λz=>nomatch z),by simp⟩
 | bl b=>cases hT;rw[O0.mp r]at rv;cases rv;exact⟨_,PySem.W.kitx_bool,True.intro,(λz=>nomatch z),by simp⟩
 | int b=>cases hT;rw[A4.mp r]at rv;obtain⟨tk,rfl⟩:=rv;exact⟨_,PySem.W.kitx_int,True.intro,(λz=>nomatch z),by simp⟩
 | str b=>cases hT;rw[(y7.mp r).1]at rv;obtain⟨tk,rfl⟩:=rv;exact⟨_,PySem.W.kitx_str,True.intro,(λz=>nomatch z),by simp⟩
 | tup ds=>
  cases hT;obtain⟨a,xs,e1,e2,e3⟩:=A5.mp r;rw[e1]at rv;cases rv;obtain⟨its,_,⟨o,h1,h2,_⟩,_⟩:=I.tuple e2;exact⟨_,PySem.W.kitx_tuple,⟨o,h1,h2⟩,(λz=>nomatch z),by simp⟩
 | lst ds=>
  cases hT;obtain⟨a,xs,e1,e2,e3⟩:=x3.mp r;rw[e1]at rv;cases rv;obtain⟨_,its,n,_,_,h1⟩:=I.lstM e2;exact⟨_,PySem.W.kitx_list,⟨_,h1,rfl⟩,(λz=>nomatch z),by simp⟩
 | dct ks vs=>
  cases hT;rcases Z9.mp r with⟨a,ob,kvs,e1,e2,_⟩ | ⟨a,ob,kvs,e1,e2,_⟩
  ·rw[e1]at rv;cases rv;obtain⟨_,_,_,_,_,⟨o,_,_,h1,h2,_⟩⟩:=(show x5 X.prog X.w H s.heap a (.frz ob (.dK kvs))from I.hok a _ e2);exact⟨_,w2f,⟨o,h1,h2.1⟩,(λz=>nomatch z),by simp⟩
  ·rw[e1]at rv;cases rv;obtain⟨_,_,_,_,_,o,_,_,h1,h2,_⟩:=(show x5 X.prog X.w H s.heap a (.frz ob (.dT kvs))from I.hok a _ e2);exact⟨_,w2f,⟨o,h1,h2.1⟩,(λz=>nomatch z),by simp⟩
 | exc _=>cases hT
 | fn _=>cases hT
 | lam _ _=>cases hT
 | scr _=>cases hT
def y0v(X:Cx):List V->Hp->VK->Prop:=λxs H Q=>∃d T t1 t2 x q,xs=[x,.ref q]/\Rep X.D H d x/\tyS d=some T/\t1∈["int","bool","str","list","tuple","dict"]/\t2∈["int","bool","str","list","tuple","dict"]/\H q=some (.tup [.ty t1,.ty t2])/\Q (.bl (tyIs T t1||tyIs T t2)) H
theorem z1N:w9 X (.builtin "isinstance") (y0v X):=by
 intro pins s σ H xs us Q I r h;obtain⟨d,T,t1,t2,x,q,rfl,r1,hT,h1,h2,hq,k⟩:=h;obtain⟨u,w',rfl,ru,rw'⟩:=z2j r;cases rw';obtain⟨HH,Z,z1,z2,z3⟩:=z8t I r1 ru hT;obtain⟨its,ri,⟨⟨oc,od,oda,osl⟩,o1,o2,n,o3⟩,_⟩:=I.tuple (SqT.of hq);obtain⟨u1,u2,e,v1,v2⟩:=z2j ri;have o2':oc=.type "tuple":=o2;have o3':oda=.seq its.toArray n:=o3;subst o2' o3';cases v1;cases v2;subst e;exact PySem.W.kia_tup Z I.kIn z1 o1 (z5Z z3 h1 h2) z2 λtk=>⟨.bl _,H,I.tok tk,rfl,k⟩
theorem z2W{x1 x2:Str}{t1 t2:String}{p1 p2 tp:Pos}{kk:Nat}{kf:DV->Option Bool}(h1:R4 x1=some t1)(h2:R4 x2=some t2)(hg:Gl X "isinstance")(hm:X.mg "isinstance" = none)
  (g1:Gl X x1) (m1:X.mg x1=none) (n1:x1 ≠ "__name__") (d1:(x1==("__debug__" : Str))=false) (g2:Gl X x2) (m2:X.mg x2=none) (n2:x2 ≠ "__name__") (d2:(x2==("__debug__" : Str))=false)
  (hkf:∀d k,kf d=some k->∃T,tyS d=some T/\k=((tyOf d).contains x1||(tyOf d).contains x2))
  (ha:∀q,ra=some q->PE X e (dE X.D E δ q)) (hs:i9 e=false) (h:(Re.thn ra λy _=>(kf y).map λk=>.ok (.bl k) .strong)=some re) :
  PE X (.Call (.Name "isinstance" p) [e,.Tuple [.Name x1 p1,.Name x2 p2] kk tp] [] pos) (dE X.D E δ re):=by
 obtain⟨b1,b2,b3⟩:=q5Z h1;obtain⟨c1,c2,c3⟩:=q5Z h2;have T1:PE X (.Name x1 p1) (tC (.ty t1)):=q6p g1 m1 b1 rfl n1 d1;have T2:PE X (.Name x2 p2) (tC (.ty t2)):=q6p g2 m2 c1 rfl n2 d2;have TT:=z4k (pos:=tp) (x1:=kk) (C2 T1 (C2 T2 L3));have C:=λta (hA:PE X e ta)=>q4n (p:=p) (pos:=pos) z1N hg hm w26 (C2 hA (C2 TT L3) (o9 hs)) (by decide) (by decide) (o9 hs)
 cases hra:ra with
 | none=>rw[hra]at h;cases h
 | some q=>
  rw[hra]at h;have A:=ha q hra;cases q with
  | ex c=>cases h;exact(C _ A).weak λσ H Q ⟨O,W,R,p⟩=>⟨O,W,R,p⟩
  | ok d cl=>
   obtain⟨k,e1,e2⟩:=j8.mp (show((kf d).map λk=>Re.ok (.bl k) .strong)=some re from h);cases e2;obtain⟨T,hT,hk⟩:=hkf d k e1;have ek:k=(tyIs T t1||tyIs T t2):=by rw[hk,z0y h1 hT,z0y h2 hT];rfl
   exact(C _ A).weak λσ H Q ⟨O,W,R,p⟩=>⟨O,W,R,λv H1 s1 g1=>⟨show(2:Nat)<=sizeLine by decide,λq hq=>⟨d,T,t1,t2,v,q,rfl,(g1.all (R.hid.mono s1)).mono (v7 hq),hT,b2,c2,E2,by rw[←ek];exact p _ _ (s1.trans (v7 hq)) K2⟩⟩⟩
end
end
section
section
variable {X:Cx} {E:St->XK} {δ:List Sv} {v:Expr} {te:TE} {pos kpos:Pos} {i:Int} {j:Nat}
end
end
section
structure Wk(D:Dm)(J:It)(ds:List DV)(Oc Oi:List Addr)(H1:Hp):Prop where
 go:∀i H,Same (L2.wo Oc H1) (L2.wo Oc H)->i<ds.length->J.go i H
 same:∀i H x H',J.yld i H x H'->Same H H'
 yld:∀i H x H' d O2,Same (L2.wo Oc H1) (L2.wo Oc H)->Same (L2.wo Oi H1) (L2.wo Oi H)->J.yld i H x H'->ds[i]? = some d->(∀a∈O2,H a≠none/\(a∈Oi\/H1 a=none))->Rep D (L2.wo O2 H') d x
 stop:∀H,Same (L2.wo Oc H1) (L2.wo Oc H)->J.stop ds.length H
def hidW(O W:List Addr):Cl->List Addr
 | .top=>O
 | .weak=>O
 | _=>O++W
def y0t(D:Dm)(E:St->XK)(σ:St)(O W:List Addr)(H:Hp)(R:It->Hp->Prop):Ri->Prop
 | .ok ds c=>∀J H',Same H H'->Wk D J ds (hidW O W c) (D7 O W c) H'->R J H'
 | .ex c=>∀H' C,D.mg c=some C->Same H H'->E σ C none H'
def dI(D:Dm)(E:St->XK)(δ:List Sv)(r:Ri):TI:=λσ H R=>∃O W,RSt D H σ δ O W/\y0t D E σ O W H R r
theorem PI.weak(h:PI X tg iter t)(k:∀σ H R,t' σ H R->t σ H R):PI X tg iter t':=λpins s σ H R I q=>h pins s σ H R I (k σ H R q)
theorem z1z(s:Same (L2.wo O H1) (L2.wo O H))(h:∀a∈O2,H a≠none/\(a∈O\/H1 a=none)):Same (L2.wo O H1) (L2.wo O2 H):=λb o e=>by
 have q:=s b o e;obtain⟨hb,e⟩:=x6 e;obtain⟨_,q⟩:=x6 q;rw[f7 λz=>?_]
 ·exact q
 ·rcases(h b z).2 with w | w
  ·exact hb w
  ·rw[w]at e;cases e
theorem Wk.list(h:SqL D.K (L2.wo Oc H1) a xs)(r:RepL D (L2.wo Oi H1) ds xs):Wk D (Itl D.K a) ds Oc Oi H1 where
 go:=λi H s hi=>⟨xs,xs[i]'(by rw[r.length];exact hi),q9.seq (s.seq h),x9 _⟩
 same:=λi H x H' y=>by rw[y.1];exact Same.refl _
 yld:=λi H x H' d O2 s s' y e ho=>by obtain⟨e1,y⟩:=y;subst e1;obtain⟨v,q1,q2⟩:=r.get e;have:=y xs (q9.seq (s.seq h));rw[q1]at this;cases this;exact q2.mono (z1z s' ho)
 stop:=λH s=>⟨xs,q9.seq (s.seq h),by rw[r.length];exact j1 _⟩
theorem Wk.tup(h:SqT D.K (L2.wo Oc H1) a xs)(r:RepL D (L2.wo Oi H1) ds xs):Wk D (Itt D.K a) ds Oc Oi H1 where
 go:=λi H s hi=>⟨xs,xs[i]'(by rw[r.length];exact hi),q9.tseq (s.tseq h),x9 _⟩
 same:=λi H x H' y=>by rw[y.1];exact Same.refl _
 yld:=λi H x H' d O2 s s' y e ho=>by obtain⟨e1,y⟩:=y;subst e1;obtain⟨v,q1,q2⟩:=r.get e;have:=y xs (q9.tseq (s.tseq h));rw[q1]at this;cases this;exact q2.mono (z1z s' ho)
 stop:=λH s=>⟨xs,q9.tseq (s.tseq h),by rw[r.length];exact j1 _⟩
theorem q3k(lo:Int)(n:Nat):(upTo lo n).length=n:=by unfold upTo;rw[g9,K6]
theorem z3N{lo:Int}{n i:Nat}{d:DV}(h:(upTo lo n)[i]? = some d):i<n/\d=.int (lo+i):=by
 have hl:i<n:=by have:=(u9.mp h).1;rw[q3k]at this;exact this
 unfold upTo at h;rw[B5,List.getElem?_range hl]at h;cases h;exact⟨hl,rfl⟩
theorem Wk.range(lo:Int)(n:Nat):Wk D (Itr lo n) (upTo lo n) Oc Oi H1 where
 go:=λi H s hi=>by rw[q3k]at hi;exact hi
 same:=λi H x H' y=>by rw[y.1];exact Same.refl _
 yld:=λi H x H' d O2 s s' y e ho=>by obtain⟨e1,y⟩:=y;subst e1;obtain⟨_,e2⟩:=z3N e;subst e2;exact A4.mpr y
 stop:=λH s=>by rw[q3k];exact j1 _
theorem Wk.str(x:Str):Wk D (Its x) (x.cps.toList.map λc=>.str ⟨#[c]⟩) Oc Oi H1 where
 go:=λi H s hi=>by rw[g9]at hi;exact hi
 same:=λi H v H' y=>by rw[y.1];exact Same.refl _
 yld:=λi H v H' d O2 s s' y e ho=>by obtain⟨e1,c,hc,rfl⟩:=y;subst e1;rw[B5,w1X,hc]at e;cases e;exact y7.mpr ⟨rfl,by show 1<=sizeLine;decide⟩
 stop:=λH s=>by rw[g9];exact j1 _
section
variable {X:Cx} {E:St->XK} {δ:List Sv} {tg e e':Expr} {es:List Expr} {pos p:Pos} {ra rb:Option Re} {rs:Option Rs} {ri:Ri}
theorem Got.walkL(g:Got D O W H0 H (.lst ds) c v)(hd:Hid O W H0 H):∃a xs,v=.ref a/\SqL D.K (L2.wo (hidW O W c) H) a xs/\RepL D (L2.wo (D7 O W c) H) ds xs:=by
 cases c with
 | weak=>obtain⟨a,xs,e1,e2,e3⟩:=x3.mp g;exact⟨a,xs,e1,SqL.of e2,e3⟩
 | top=>obtain⟨a,xs,e1,e0,e2,e3⟩:=g;exact⟨a,xs,e1,SqL.of e2,e3⟩
 | strong=>obtain⟨a,xs,e1,e2,e3⟩:=x3.mp g;exact⟨a,xs,e1,SqL.of e2,e3⟩
 | fresh=>obtain⟨a,xs,e1,e2,e3⟩:=x3.mp (g.strong hd);exact⟨a,xs,e1,SqL.of e2,e3⟩
 | ft=>obtain⟨a,xs,e1,e2,e3⟩:=x3.mp (g.ft hd);exact⟨a,xs,e1,SqL.of e2,e3⟩
theorem Got.walkT(g:Got D O W H0 H (.tup ds) c v)(hd:Hid O W H0 H):∃a xs,v=.ref a/\SqT D.K (L2.wo (hidW O W c) H) a xs/\RepL D (L2.wo (D7 O W c) H) ds xs:=by
 cases c with
 | weak=>exact A5.mp g
 | top=>
  obtain⟨a,xs,e1,e2,e3⟩:=A5.mp (show Rep D (L2.wo (O++W) H) (.tup ds) v from g);exact⟨a,xs,e1,(v6 Q9).tseq e2,e3⟩
 | strong=>exact A5.mp g
 | fresh=>obtain⟨_,_,_,_,q,_⟩:=g;cases q
 | ft=>exact A5.mp (g.ft hd)
theorem Got.walkS(g:Got D O W H0 H (.scr ns) c v)(hd:Hid O W H0 H):∃a,v=.ref a/\SqL D.K (L2.wo (hidW O W c) H) a (ns.map V.int):=by
 cases c with
 | weak=>obtain⟨a,e1,e2⟩:=L8.mp g;exact⟨a,e1,e2.sq⟩
 | top=>obtain⟨a,e1,e2⟩:=L8.mp (show Rep D (L2.wo (O++W) H) (.scr ns) v from g);exact⟨a,e1,(v6 Q9).seq e2.sq⟩
 | strong=>obtain⟨a,e1,e2⟩:=L8.mp g;exact⟨a,e1,e2.sq⟩
 | fresh=>obtain⟨_,_,_,_,q,_⟩:=g;cases q
 | ft=>obtain⟨a,e1,e2⟩:=L8.mp (g.ft hd);exact⟨a,e1,e2.sq⟩
theorem q8J(ha:∀q,ra=some q->PE X e (dE X.D E δ q))(h:t6 ra=some ri):PI X tg e (dI X.D E δ ri):=by
 cases hra:ra with
 | none=>rw[hra]at h;cases h
 | some q=>
  rw[hra]at h;have A:=ha q hra;cases q with
  | ex c=>cases h;exact(q8j A).weak λσ H R' ⟨O,W,R,p⟩=>⟨O,W,R,p⟩
  | ok d c=>
   obtain⟨ds,e1,e2⟩:=j8.mp (show((seqD d).map λds=>Ri.ok ds c)=some ri from h);cases e2;unfold seqD at e1;split at e1
   ·cases e1;exact(q8j A).weak λσ H R' ⟨O,W,R,p⟩=>⟨O,W,R,λv H1 s1 g1=>by
     obtain⟨a,e1,e2⟩:=g1.walkS (R.hid.mono s1);exact⟨a,e1,⟨_,q9.seq e2⟩,p _ H1 s1 (.list e2 (q2n _))⟩⟩
   ·cases e1;exact(q8j A).weak λσ H R' ⟨O,W,R,p⟩=>⟨O,W,R,λv H1 s1 g1=>by
     obtain⟨a,xs,e1,e2,e3⟩:=g1.walkL (R.hid.mono s1);exact⟨a,e1,⟨xs,q9.seq e2⟩,p _ H1 s1 (.list e2 e3)⟩⟩
   ·cases e1;exact(z9q A).weak λσ H R' ⟨O,W,R,p⟩=>⟨O,W,R,λv H1 s1 g1=>by
     obtain⟨a,xs,e1,e2,e3⟩:=g1.walkT (R.hid.mono s1);exact⟨a,e1,⟨xs,q9.tseq e2⟩,p _ H1 s1 (.tup e2 e3)⟩⟩
   ·cases e1;exact(z7S A).weak λσ H R' ⟨O,W,R,p⟩=>⟨O,W,R,λv H1 s1 g1=>⟨_,(g1.str (R.hid.mono s1)).1,p _ H1 s1 (Wk.str _)⟩⟩
   ·cases e1
theorem q9S(h:Z3 i=true) : -(2^62)<=i/\i<2^62:=by
 unfold Z3 at h;simpa[b8]using h
theorem z3r(h:t6 (o.map λds=>Re.ok (.lst ds) .fresh)=some ri):∃ds,o=some ds/\ri=.ok ds .fresh:=by
 cases o with
 | none=>cases h
 | some ds=>cases h;exact⟨ds,rfl,rfl⟩
theorem q9P(hg:Gl X "range")(hm:X.mg "range" = none)(ha:∀q,rs=some q->PA X [e] (dA X.D E δ q))(hs:i9 e=false)(h:t6 (Rs.thn rs λl=>(rngD l).map λds=>Re.ok (.lst ds) .fresh)=some ri)(hl:∀l,rs=some (.ok l)->l.length=1) :
  PI X tg (.Call (.Name "range" p) [e] [] pos) (dI X.D E δ ri):=by
 have C:=λt (hA:PA X [e] t)=>z1v (tg:=tg) (p:=p) (pos:=pos) hg hm hA (o9 hs);cases hrs:rs with
 | none=>rw[hrs]at h;cases h
 | some q=>
  rw[hrs]at h;have A:=ha q hrs;cases q with
  | ex c=>cases h;exact(C _ A).weak λσ H R' ⟨O,W,R,p⟩=>⟨O,W,R,p⟩
  | ok l=>
   have l1:=hl l hrs;obtain⟨ds,e1,e2⟩:=z3r (show t6 ((rngD l).map λds=>Re.ok (.lst ds) .fresh)=some ri from h);cases e2;unfold rngD at e1;split at e1
   ·rename_i j c;split at e1
    ·rename_i m;cases e1;rw[b8]at m;have q:=q9S m.1;exact(C _ A).weak λσ H R' ⟨O,W,R,p⟩=>⟨O,W,R,λvs H1 s1 g1=>by
      obtain⟨v,rfl,gv⟩:=g1.one;exact⟨j,by rw[gv.int (R.hid.mono s1)],q.1,q.2,p _ H1 s1 (.range _ _)⟩⟩
    ·cases e1
   ·cases e1
end
def q5J:List Nat->TGs
 | []=>gNil
 | i::is=>z8c (Y8 i) (q5J is)
def gT(K:PySem.W.Frag):Tg->TG
 | .one i=>Y8 i
 | .many is=>gTup K is.length (q5J is)
theorem RSt.setVal(R:RSt D H σ δ O W)(r:Rep D (L2.wo (O++W) H) d v)(i:Nat):RSt D H (σ.set i (some v)) (δ.set i (.val d)) O W where
 val:=λj d' h=>by
  by_cases hj:j=i
  ·subst hj;have hl:j<δ.length:=by
    have:=(u9.mp h).1;rw[A0]at this;exact this
   rw[C7 hl]at h;cases h;exact⟨v,C7 (by rw[R.len];exact hl),r⟩
  ·rw[d8 (Ne.symm hj)]at h ⊢;exact R.val j d' h
 own:=λj ds' h=>by
  by_cases hj:j=i
  ·subst hj;have hl:j<δ.length:=by
    have:=(u9.mp h).1;rw[A0]at this;exact this
   rw[C7 hl]at h;cases h
  ·rw[d8 (Ne.symm hj)]at h ⊢;exact R.own j ds' h
 inj:=λj k a d1 d2 h1 h2 e1 e2=>by
  have ne:∀{j:Nat} {d1:DV},(δ.set i (.val d))[j]? = some (.own d1)->j≠i:=λ{j d1} h1 z=>by
   subst z;have hl:j<δ.length:=by have:=(u9.mp h1).1;rw[A0]at this;exact this
   rw[C7 hl]at h1;cases h1
  have n1:=ne h1;have n2:=ne h2;rw[d8 (Ne.symm n1)]at h1 e1;rw[d8 (Ne.symm n2)]at h2 e2;exact R.inj j k a d1 d2 h1 h2 e1 e2
 ot:=by
  have ne:∀{j:Nat} {s:Sv},(∀d,s ≠ .val d)->(δ.set i (.val d))[j]? = some s->j≠i:=λ{j s} hs h1 z=>by
   subst z;have hl:j<δ.length:=by have:=(u9.mp h1).1;rw[A0]at this;exact this
   rw[C7 hl]at h1;cases h1;exact hs _ rfl
  obtain⟨P,f,u⟩:=R.ot;refine⟨P,λj d' h=>?_,λj k d1 d2 h1 h2=>?_⟩
  ·have nj:=ne (by intro d z;cases z) h;rw[d8 (Ne.symm nj)]at h ⊢;obtain⟨t,ts,e1,e2,e3,e4⟩:=f j d' h;refine⟨t,ts,e1,e2,e3,λp hp=>⟨(e4 p hp).1,(e4 p hp).2.1,λk d2 q=>?_⟩⟩;have nk:=ne (by intro d z;cases z) q;rw[d8 (Ne.symm nk)]at q ⊢;exact(e4 p hp).2.2 k d2 q
  ·rw[d8 (Ne.symm (ne (by intro d z;cases z) h1))]at h1;rw[d8 (Ne.symm (ne (by intro d z;cases z) h2))]at h2;exact u j k d1 d2 h1 h2
 o2:=λj d' h=>by
  have ne:∀{j:Nat} {s:Sv},(∀d,s ≠ .val d)->(δ.set i (.val d))[j]? = some s->j≠i:=λ{j s} hs h1 z=>by
   subst z;have hl:j<δ.length:=by have:=(u9.mp h1).1;rw[A0]at this;exact this
   rw[C7 hl]at h1;cases h1;exact hs _ rfl
  have nj:=ne (by intro d z;cases z) h;rw[d8 (Ne.symm nj)]at h ⊢;obtain⟨⟨p,L,e0,e1,e2,e3⟩,u,n⟩:=R.o2 j d' h;refine⟨⟨p,L,e0,e1,e2,λk d2 a q q2=>?_⟩,λk d2 q=>?_,λk d2 q=>?_⟩
  ·have nk:=ne (by intro d z;cases z) q;rw[d8 (Ne.symm nk)]at q q2;exact e3 k d2 a q q2
  ·have nk:=ne (by intro d z;cases z) q;rw[d8 (Ne.symm nk)]at q;exact u k d2 q
  ·have nk:=ne (by intro d z;cases z) q;rw[d8 (Ne.symm nk)]at q;exact n k d2 q
 od:=R.od.step (q7t _ (by intro d z;cases z)) (λ_ h _=>h) (λ_ _ _ h _=>h)
 len:=by rw[A0,A0];exact R.len
 hid:=R.hid
theorem q5e:∀{is:List Nat} {ds:List DV} {xs:List V} {σ:St} {δ δ':List Sv},RSt D H σ δ O W->RepL D (L2.wo (O++W) H) ds xs->N4 δ is ds=some δ'->(∀σ',RSt D H σ' δ' O W->Q σ' H)->q5J is xs σ H Q
 | [],[],xs,σ,δ,δ',R,r,h,q=>by cases h;exact⟨A6.mp r,q σ R⟩
 | i::is,d::ds,xs,σ,δ,δ',R,r,h,q=>by obtain⟨v,vs,e1,e2,e3⟩:=t9.mp r;exact⟨v,vs,e1,q5e (R.setVal e2 i) e3 h q⟩
 | [],_::_,_,_,_,_,_,_,h,_=>by cases h
 | _::_,[],_,_,_,_,_,_,h,_=>by cases h
theorem q1P:∀{is:List Nat} {ds:List DV} {δ δ':List Sv},N4 δ is ds=some δ'->is.length=ds.length/\δ'.length=δ.length
 | [],[],_,_,h=>by cases h;exact⟨rfl,rfl⟩
 | i::is,d::ds,δ,δ',h=>by obtain⟨a,b⟩:=q1P (is:=is) h;exact⟨by rw[y9,y9,a],by rw[b,A0]⟩
 | [],_::_,_,_,h=>by cases h
 | _::_,[],_,_,h=>by cases h
theorem q5h(R:RSt D H σ δ O W)(r:Rep D (L2.wo (O++W) H) d x)(h:tg.bind d δ=some δ')(q:∀σ',RSt D H σ' δ' O W->Q σ' H):gT D.K tg x σ H Q:=by
 cases tg with
 | one i=>cases h;exact q _ (R.setVal r i)
 | many is=>
  unfold Tg.bind at h;dsimp only at h;split at h
  ·rename_i ds;obtain⟨a,xs,e1,e2,e3⟩:=A5.mp r;exact⟨a,xs,e1,q9.tseq e2,by rw[e3.length,(q1P h).1],q5e R e3 h q⟩
  ·cases h
theorem RSt.less(R:RSt D H σ δ' O W)(hl:δ.length=δ'.length)(h:∀(i:Nat) sv,δ[i]? = some sv->sv=.no\/δ'[i]? = some sv):RSt D H σ δ O W where
 val:=λi d e=>by
  rcases h i _ e with z | z
  ·cases z
  ·exact R.val i d z
 own:=λi d e=>by
  rcases h i _ e with z | z
  ·cases z
  ·exact R.own i d z
 inj:=λi j a d d' e e'=>by
  rcases h i _ e with z | z
  ·cases z
  ·rcases h j _ e' with y | y
   ·cases y
   ·exact R.inj i j a d d' z y
 ot:=by
  obtain⟨P,f,u⟩:=R.ot;refine⟨P,λi d e=>?_,λi j d1 d2 h1 h2=>?_⟩
  ·rcases h i _ e with z | z
   ·cases z
   ·obtain⟨t,ts,e1,e2,e3,e4⟩:=f i d z;refine⟨t,ts,e1,e2,e3,λp hp=>⟨(e4 p hp).1,(e4 p hp).2.1,λk d2 q=>?_⟩⟩;rcases h k _ q with y | y
    ·cases y
    ·exact(e4 p hp).2.2 k d2 y
  ·rcases h i _ h1 with z | z
   ·cases z
   ·rcases h j _ h2 with y | y
    ·cases y
    ·exact u i j d1 d2 z y
 o2:=λi d e=>by
  rcases h i _ e with z | z
  ·cases z
  ·obtain⟨⟨p,L,e0,e1,e2,e3⟩,u,n⟩:=R.o2 i d z;refine⟨⟨p,L,e0,e1,e2,λk d2 a q q2=>?_⟩,λk d2 q=>?_,λk d2 q=>?_⟩
   ·rcases h k _ q with y | y
    ·cases y
    ·exact e3 k d2 a y q2
   ·rcases h k _ q with y | y
    ·cases y
    ·exact u k d2 y
   ·rcases h k _ q with y | y
    ·cases y
    ·exact n k d2 y
 od:=R.od.step (λj d e=>by
  rcases h j _ e with z | z
  ·cases z
  ·exact⟨z,rfl⟩) (λ_ h _=>h) (λ_ _ _ h _=>h)
 len:=by rw[hl];exact R.len
 hid:=R.hid
theorem q7Q:∀{is:List Nat} {ds:List DV} {δ δ':List Sv},N4 δ is ds=some δ'->(∀i∈is,δ[i]? = some .no\/δ[i]? = none)->∀(i:Nat) sv,δ[i]? = some sv->sv=.no\/δ'[i]? = some sv
 | [],[],_,_,h,_,i,sv,e=>by cases h;exact .inr e
 | j::is,d::ds,δ,δ',h,hn,i,sv,e=>by
  by_cases hij:i∈j::is
  ·rcases hn i hij with z | z
   ·rw[z]at e;cases e;exact .inl rfl
   ·rw[z]at e;cases e
  ·have hne:j≠i:=λz=>hij (by rw[z];exact i5);have hni:i∉is:=λz=>hij (f9 _ z);have key:∀{is:List Nat} {ds:List DV} {δ δ':List Sv},N4 δ is ds=some δ'->i∉is->δ[i]? = some sv->δ'[i]? = some sv:=by
    intro is
    induction is with
    | nil=>intro ds δ δ' h _ e;cases ds with
     | nil=>cases h;exact e
     | cons _ _=>cases h
    | cons k is ih=>intro ds δ δ' h hi e;cases ds with
     | nil=>cases h
     | cons d ds=>
      refine ih h (λz=>hi (f9 _ z)) ?_;rw[d8 (λz=>hi (by rw[z];exact i5))];exact e
   exact .inr (key h hij e)
 | [],_::_,_,_,h,_,_,_,_=>by cases h
 | _::_,[],_,_,h,_,_,_,_=>by cases h
theorem q4O(h:tg.bind d δ=some δ')(hn:∀i∈N8 tg,δ[i]? = some .no\/δ[i]? = none):δ.length=δ'.length/\∀(i:Nat) sv,δ[i]? = some sv->sv=.no\/δ'[i]? = some sv:=by
 cases tg with
 | one j=>
  cases h;refine⟨(A0 ..).symm,λi sv e=>?_⟩;by_cases hij:i=j
  ·subst hij;rcases hn i (by simp[N8])with z | z
   ·rw[z]at e;cases e;exact .inl rfl
   ·rw[z]at e;cases e
  ·exact .inr (by rw[d8 (Ne.symm hij)];exact e)
 | many is=>
  unfold Tg.bind at h;dsimp only at h;split at h
  ·exact⟨(q1P h).2.symm,q7Q h hn⟩
  ·cases h
theorem RSt.inner(R:RSt D H σ δ O W)(fr:List (Option Nat))(hnd:∀(j k i:Nat),fr[j]? = some (some i)->fr[k]? = some (some i)->j=k):RSt D H (L2.inner fr σ) (u3 fr δ) O W:=by
 have look:∀(j:Nat) sv,(u3 fr δ)[j]? = some sv->sv ≠ .no->∃i,fr[j]? = some (some i)/\δ[i]? = some sv:=λj sv h hn=>by
  unfold u3 at h;rw[B5]at h;cases q:fr[j]? with
  | none=>rw[q]at h;cases h
  | some o=>
   rw[q]at h;cases o with
   | none=>cases h;exact absurd rfl hn
   | some i=>
    refine⟨i,rfl,?_⟩;have h':(δ.getD i .no).plain=sv:=by simpa using h
    rw[U0]at h';cases z:δ[i]? with
    | none=>rw[z]at h';exact absurd h'.symm hn
    | some sv'=>
     rw[z]at h';cases sv' with
     | ot d=>exact absurd h'.symm hn
     | o2 d=>exact absurd h'.symm hn
     | od d=>exact congrArg some h'
     | no=>exact congrArg some h'
     | val d=>exact congrArg some h'
     | own d=>exact congrArg some h'
 have sig:∀(j i:Nat) (v:V),fr[j]? = some (some i)->σ[i]? = some (some v)->(L2.inner fr σ)[j]? = some (some v):=λj i v q e=>by unfold L2.inner;rw[B5,q];simp[e]
 have noot:∀(j:Nat) d,(u3 fr δ)[j]? ≠ some (.ot d):=λj d h=>by
  unfold u3 at h;rw[B5]at h;cases q:fr[j]? with
  | none=>rw[q]at h;cases h
  | some o=>
   rw[q]at h;cases o with
   | none=>cases h
   | some i=>
    have h':(δ.getD i .no).plain=.ot d:=by simpa using h
    cases z:δ.getD i .no with
    | ot d2=>rw[z]at h';cases h'
    | o2 d2=>rw[z]at h';cases h'
    | od d2=>rw[z]at h';cases h'
    | no=>rw[z]at h';cases h'
    | val d2=>rw[z]at h';cases h'
    | own d2=>rw[z]at h';cases h'
 have noo2:∀(j:Nat) d,(u3 fr δ)[j]? ≠ some (.o2 d):=λj d h=>by
  unfold u3 at h;rw[B5]at h;cases q:fr[j]? with
  | none=>rw[q]at h;cases h
  | some o=>
   rw[q]at h;cases o with
   | none=>cases h
   | some i=>
    have h':(δ.getD i .no).plain=.o2 d:=by simpa using h
    cases z:δ.getD i .no with
    | ot d2=>rw[z]at h';cases h'
    | o2 d2=>rw[z]at h';cases h'
    | od d2=>rw[z]at h';cases h'
    | no=>rw[z]at h';cases h'
    | val d2=>rw[z]at h';cases h'
    | own d2=>rw[z]at h';cases h'
 refine⟨λj d h=>?_,λj d h=>?_,λj k a d d' h1 h2 e1 e2=>?_,RSt.noot noot,λj d h=>absurd h (noo2 j d),λj d h=>?_,?_,R.hid⟩
 ·obtain⟨i,q1,q2⟩:=look j _ h (by intro z;cases z);obtain⟨v,e1,e2⟩:=R.val i d q2;exact⟨v,sig j i v q1 e1,e2⟩
 ·obtain⟨i,q1,q2⟩:=look j _ h (by intro z;cases z);obtain⟨a,xs,ds,e0,e1,e2⟩:=R.own i d q2;exact⟨a,xs,ds,e0,sig j i _ q1 e1,e2⟩
 ·obtain⟨i,q1,q2⟩:=look j _ h1 (by intro z;cases z);obtain⟨i',q1',q2'⟩:=look k _ h2 (by intro z;cases z);obtain⟨b,xs,ds,_,z1,_⟩:=R.own i d q2;obtain⟨b',xs',ds',_,z1',_⟩:=R.own i' d' q2';have y:=sig j i _ q1 z1;have y':=sig k i' _ q1' z1';rw[e1]at y;rw[e2]at y';cases y;cases y';have:=R.inj i i' a d d' q2 q2' z1 z1';subst this;exact hnd j k i q1 q1'
 ·obtain⟨i,q1,q2⟩:=look j _ h (by intro z;cases z);obtain⟨⟨a,o,e0,e1,e2⟩,u⟩:=R.od i d q2;refine⟨⟨a,o,e0,sig j i _ q1 e1,e2⟩,λk d' z=>?_⟩;obtain⟨i',q1',q2'⟩:=look k _ z (by intro z;cases z);rw[u i' d' q2']at q1';exact hnd k j i q1' q1
 ·unfold L2.inner u3;rw[g9,g9]
section
variable {X:Cx} {E:St->XK} {δ:List Sv} {iter elt tgE:Expr} {ifs:List Expr} {pos:Pos} {N':List Str} {scope:Scope} {fr:List (Option Nat)} {tg:Tg} {ri:Option Ri} {re:Re}
theorem q9h{D:Dm}{J:It}{ds:List DV}{O W:List Addr}{H H1:Hp}{σ:St}{c:Cl}{g:DV->Option Rc}{xs:List DV}{tc:TT}{te:TE}{δ0:List Sv}{Q:VK}(w:Wk D J ds (hidW O W c) (D7 O W c) H1)(hd0:Hid O W H H)(hc:c ≠ .weak)(R:RSt D H1 σ δ0 O W)
  (hn:∀i∈N8 tg,δ0[i]? = some .no\/δ0[i]? = none) (hz:ds.length<=sizeLine) (hx:A2 g ds=some xs) (s1:Same H H1)
  (step:∀d rc,d∈ds->g d=some rc->∃δ',tg.bind d δ0=some δ'/\∀σ' H2,Same H1 H2->RSt D H2 σ' δ' O W->∀K:Bool->Hp->Prop,(rc=.skip->∀H3,Same H2 H3->K false H3)->(∀x,rc=.item x->∀H3,Same H2 H3->K true H3)->tc σ' H2 K)
  (stepE:∀d x,d∈ds->g d=some (.item x)->∀δ',tg.bind d δ0=some δ'->∀σ' H2,Same H1 H2->RSt D H2 σ' δ' O W->∀K:VK,(∀v H3,Same H2 H3->Rep D (L2.wo (O++W) H3) x v->K v H3)->te σ' H2 K)
  (fin:∀v H',Same H H'->Got D O W H H' (.lst xs) .fresh v->Q v H') :
  z3o J (gT D.K tg) tc te (λys H'=>∀p,H' p=none->Q (.ref p) (upd H' p (.lst ys))) σ H1:=by
 have ci:D7 O W c=O++W:=by cases c<;>first | rfl | exact absurd rfl hc
 rw[ci]at w;refine⟨λi n ys σ' H'=>n=ds.length - i/\i<=ds.length/\ys.length<=i/\RSt D H' σ' δ0 O W/\Same H1 H'/\∃done rest,A2 g (ds.drop i)=some rest/\done++rest=xs/\RepL D (L2.wo (O++W) H') done ys,
  ⟨ds.length,rfl,G9 _,G9 _,R,Same.refl _,[],xs,hx,rfl,A6.mpr rfl⟩,?_⟩
 rintro i n ys σ2 H2 ⟨rfl,hi',hy,R2,s2,done,rest,h1,h2,r2⟩
 by_cases hlt:i<ds.length
 ·refine .inr ⟨w.go i H2 s2.wo hlt,Nat.lt_of_le_of_lt hy (p5 hlt hz),λx' H3 y=>?_⟩;have y1:=w.same i H2 x' H3 y;have y3:Rep D (L2.wo (O++W) H3) ds[i] x':=w.yld i H2 x' H3 _ (O++W) s2.wo s2.wo y (x9 hlt) λa ha=>⟨R2.hid.ot a ha,.inl ha⟩;rw[w1K hlt]at h1;have hm:ds[i]∈ds:=Y3 hlt;unfold A2 at h1;split at h1
  ·cases h1
  ·rename_i q;obtain⟨δ',b1,b2⟩:=step _ _ hm q;refine q5h (R2.mono y1) y3 b1 λσ3 R3=>?_
   have back:=q4O b1 hn;refine b2 σ3 H3 (s2.trans y1) R3 _ (λ_ H4 s4=>?_) (λx z=>nomatch z);show if false=true then _ else _
   rw[d6 G5];exact⟨ds.length - (i+1),by omega,rfl,hlt,Nat.le_succ_of_le hy,(R3.less back.1 back.2).mono s4,(s2.trans y1).trans s4,done,rest,h1,h2,r2.mono (y1.trans s4).wo⟩
  ·rename_i x q;split at h1
   ·cases h1
   ·rename_i rest' q';cases h1;obtain⟨δ',b1,b2⟩:=step _ _ hm q;refine q5h (R2.mono y1) y3 b1 λσ3 R3=>?_
    have back:=q4O b1 hn;refine b2 σ3 H3 (s2.trans y1) R3 _ (λz=>nomatch z) (λx' z H4 s4=>?_);cases z;show if true=true then _ else _
    rw[d4 rfl];refine stepE _ x hm q δ' b1 σ3 H4 ((s2.trans y1).trans s4) (R3.mono s4) _ λv H5 s5 rv=>?_
    exact⟨ds.length - (i+1),by omega,rfl,hlt,by rw[A7,w1D];omega,(R3.less back.1 back.2).mono (s4.trans s5),((s2.trans y1).trans s4).trans s5,done++[x],rest',q',by rw[U4];exact h2,
     (r2.mono ((y1.trans s4).trans s5).wo).append (RepL.one rv)⟩
 ·have e:i=ds.length:=by omega
  subst e;rw[w2W]at h1;cases h1;rw[z9]at h2;subst h2;have s0:=s1.trans s2;refine .inl ⟨w.stop H2 s2.wo,λp hp=>fin _ _ (s0.trans (v7 hp)) ?_⟩;have hd:Hid O W H H2:=hd0.mono s0;exact K3 hd hp r2
abbrev E0s:St->XK:=λ_ _ _ _=>False
theorem PE.any{Y:Cx}{e:Expr}{ι:Sort _}{t:ι->TE}(h:∀k,PE Y e (t k)):PE Y e (λσ H Q=>∃k,t k σ H Q):=λpins s σ H Q I ⟨k,q⟩=>h k pins s σ H Q I q
theorem PTs.any{Y:Cx}{ι:Sort _}{es:List Expr}{t:ι->TT}(h:∀k,PTs Y es (t k)):PTs Y es (λσ H Q=>∃k,t k σ H Q):=λpins s σ H Q I ⟨k,q⟩=>h k pins s σ H Q I q
theorem Rc.of_item(h:Rc.of r=some (.item x)):∃c,r=some (.ok x c)/\stro x c=true:=by
 unfold Rc.of at h;split at h
 ·rename_i d c;split at h
  ·rename_i m;cases h;exact⟨c,rfl,m⟩
  ·cases h
 ·cases h
theorem Rc.of_skip(h:Rc.of r=some .skip):False:=by
 unfold Rc.of at h;split at h
 ·split at h<;>cases h
 ·cases h
theorem q4N{fr:List (Option Nat)}{δ:List Sv}{i:Nat}(h:fr[i]? = some none):(u3 fr δ)[i]? = some .no:=by
 unfold u3;rw[B5,h];rfl
def M2(X:Cx)(E:St->XK)(δ:List Sv)(tgE iter:Expr)(ifs:List Expr)(elt:Expr)(scope:Scope)(N':List Str)(fr:List (Option Nat))(tg:Tg)(re:Re):Prop:=
 ∃(x:St->XK) (wi:TI) (tc:TT) (te:XK->TE),Z1 X x/\PI X tgE iter wi/\(∀C cells s₂ H₂ fp x1,PTs (m9 X scope N' C cells s₂ H₂ fp x1) ifs tc)/\(∀C cells s₂ H₂ fp x1,PE (m9 X scope N' C cells s₂ H₂ fp x1) elt (te x1)) /\
  ∀σ H Q,dE X.D E δ re σ H Q->z7b fr wi (gT X.K tg) tc (te (x σ)) σ H Q
theorem q6n(hset:D5 iter=false):∀x,foldedSetIterable iter env x=pure x:=by cases iter<;>first | (intro _;rfl) | cases hset
theorem M2.pe(P:M2 X E δ tgE iter ifs elt scope N' fr tg re)(S:CompScope X.N N' scope X.env.scope fr)(hc:X.calm=true)(hG:∀C cells s₂ H₂ fp x1,PG (m9 X scope N' C cells s₂ H₂ fp x1) tgE (gT X.K tg))(hset:D5 iter=false) :
  PE X (.ListComp elt [⟨tgE,iter,ifs,0⟩] scope pos) (dE X.D E δ re):=by
 obtain⟨x,wi,tc,te,hx,h1,h2,h3,h4⟩:=P;exact(z6V (pos:=pos) S hc hx h1 hG h2 h3 (q6n hset)).weak h4
theorem q5u{evElt:List Sv->Option Re}(S:CompScope X.N N' scope X.env.scope fr)(hc:X.calm=true)(hnd:∀(j k i:Nat),fr[j]? = some (some i)->fr[k]? = some (some i)->j=k)(hsl:∀i∈N8 tg,fr[i]? = some none)(hi:∀q,ri=some q->PI X tgE iter (dI X.D E δ q))
  (hG:∀C cells s₂ H₂ fp x1,PG (m9 X scope N' C cells s₂ H₂ fp x1) tgE (gT X.K tg)) (he:∀δ' r,evElt δ'=some r->∀C cells s₂ H₂ fp x1,PE (m9 X scope N' C cells s₂ H₂ fp x1) elt (dE X.D E0s δ' r))
  (h:(Ri.thn ri λds c=>if c=.weak\/mostLen<ds.length then none else K1 (A2 (λd=>(tg.bind d (u3 fr δ)).bind λδ'=>Rc.of (evElt δ')) ds))=some re):M2 X E δ tgE iter [] elt scope N' fr tg re:=by
 cases hri:ri with
 | none=>rw[hri]at h;cases h
 | some q=>
  rw[hri]at h;have A:=hi q hri;refine⟨_,_,_,λ_=>_,q5f,A,(λC cells s₂ H₂ fp x1=>z0N),(λC cells s₂ H₂ fp x1=>PE.any (ι:={p:List Sv×Re // evElt p.1=some p.2}) (t:=λk=>dE X.D E0s k.1.1 k.1.2) λk=>he k.1.1 k.1.2 k.2 C cells s₂ H₂ fp x1),?_⟩;cases q with
  | ex c=>cases h;exact λσ H Q ⟨O,W,R,p⟩=>⟨O,W,R,p⟩
  | ok ds c=>
   have h':(if c=.weak\/mostLen<ds.length then none else K1 (A2 (λd=>(tg.bind d (u3 fr δ)).bind λδ'=>Rc.of (evElt δ')) ds))=some re:=h;split at h'
   ·cases h'
   ·rename_i m;rw[not_or]at m;unfold K1 at h';split at h'
    ·cases h'
    ·rename_i xs hx;cases h';refine λσ H Q ⟨O,W,R,p⟩=>⟨O,W,R,λJ H1 s1 w=>?_⟩
     refine q9h (tg:=tg) (D:=X.D) w R.hid m.1 ((R.mono s1).inner fr hnd) (λi hi=>.inl (q4N (hsl i hi))) (L9 (by omega)) hx s1 (λd rc hm hg=>?_) (λd x hm hg δ' hb σ' H2 s2 R2 K hK=>?_) p
     ·cases hb:tg.bind d (u3 fr δ)with
      | none=>rw[hb]at hg;cases hg
      | some δ'=>
       rw[hb]at hg;refine⟨δ',rfl,λσ' H2 s2 R2 K k1 k2=>?_⟩;cases rc with
       | skip=>exact(Rc.of_skip hg).elim
       | item x=>exact k2 x rfl H2 (Same.refl _)
     ·rw[hb]at hg;obtain⟨cl,e1,e2⟩:=Rc.of_item hg;exact⟨⟨⟨δ',.ok x cl⟩,e1⟩,O,W,R2,λv H3 s3 g3=>hK v H3 s3 (g3.stro (R2.hid.mono s3) e2)⟩
theorem z5p{D:Dm}{J:It}{ds:List DV}{O W:List Addr}{H H1:Hp}{σ:St}{c:Cl}{g:DV->Option Re}{re:Re}{te:TE}{δ0:List Sv}{Q:VK}{x1:XK}(w:Wk D J ds (hidW O W c) (D7 O W c) H1)(hd0:Hid O W H H)(hc:c ≠ .weak)(R:RSt D H1 σ δ0 O W)
  (hn:∀i∈N8 tg,δ0[i]? = some .no\/δ0[i]? = none) (hz:ds.length<=sizeLine) (hx:L6 g ds []=some re) (s1:Same H H1)
  (step:∀d r,d∈ds->g d=some r->∃δ',tg.bind d δ0=some δ'/\∀σ' H2,Same H1 H2->RSt D H2 σ' δ' O W->∀K:VK,(∀x cl,r=.ok x cl->stro x cl=true->∀v H3,Same H2 H3->Rep D (L2.wo (O++W) H3) x v->K v H3)->(∀c,r=.ex c->∀H3 C,D.mg c=some C->Same H2 H3->x1 C none H3)->(∀x cl,r=.ok x cl->stro x cl=true)->te σ' H2 K)
  (fin:∀xs,re=.ok (.lst xs) .fresh->∀v H',Same H H'->Got D O W H H' (.lst xs) .fresh v->Q v H')
  (exc:∀c,re=.ex c->∀H' C,D.mg c=some C->Same H H'->x1 C none H') :
  z3o J (gT D.K tg) tYes te (λys H'=>∀p,H' p=none->Q (.ref p) (upd H' p (.lst ys))) σ H1:=by
 have ci:D7 O W c=O++W:=by cases c<;>first | rfl | exact absurd rfl hc
 rw[ci]at w;refine⟨λi n ys σ' H'=>n=ds.length - i/\i<=ds.length/\ys.length<=i/\RSt D H' σ' δ0 O W/\Same H1 H'/\∃done,L6 g (ds.drop i) done=some re/\RepL D (L2.wo (O++W) H') done ys,
  ⟨ds.length,rfl,G9 _,G9 _,R,Same.refl _,[],hx,A6.mpr rfl⟩,?_⟩
 rintro i n ys σ2 H2 ⟨rfl,hi',hy,R2,s2,done,h1,r2⟩
 by_cases hlt:i<ds.length
 ·refine .inr ⟨w.go i H2 s2.wo hlt,Nat.lt_of_le_of_lt hy (p5 hlt hz),λx' H3 y=>?_⟩;have y1:=w.same i H2 x' H3 y;have y3:Rep D (L2.wo (O++W) H3) ds[i] x':=w.yld i H2 x' H3 _ (O++W) s2.wo s2.wo y (x9 hlt) λa ha=>⟨R2.hid.ot a ha,.inl ha⟩;rw[w1K hlt]at h1;have hm:ds[i]∈ds:=Y3 hlt;unfold L6 at h1;split at h1
  ·cases h1
  ·rename_i ce q;cases h1;obtain⟨δ',b1,b2⟩:=step _ _ hm q;refine q5h (R2.mono y1) y3 b1 λσ3 R3=>?_
   exact b2 σ3 H3 (s2.trans y1) R3 _ (λx cl z=>nomatch z) (λc z H4 C m s4=>by cases z;exact exc _ rfl H4 C m (((s1.trans s2).trans y1).trans s4)) (λx cl z=>nomatch z)
  ·rename_i x cl q;split at h1
   ·rename_i hst;obtain⟨δ',b1,b2⟩:=step _ _ hm q;refine q5h (R2.mono y1) y3 b1 λσ3 R3=>?_
    have back:=q4O b1 hn;refine b2 σ3 H3 (s2.trans y1) R3 _ (λx' cl' z _ v H5 s5 rv=>?_) (λc z=>nomatch z) (λx' cl' z=>by cases z;exact hst);cases z;exact⟨ds.length - (i+1),by omega,rfl,hlt,by rw[A7,w1D];omega,(R3.less back.1 back.2).mono s5,(s2.trans y1).trans s5,done++[x],h1,(r2.mono (y1.trans s5).wo).append (RepL.one rv)⟩
   ·cases h1
 ·have e:i=ds.length:=by omega
  subst e;rw[w2W]at h1;cases h1;have s0:=s1.trans s2;refine .inl ⟨w.stop H2 s2.wo,λp hp=>fin _ rfl _ _ (s0.trans (v7 hp)) ?_⟩;have hd:Hid O W H H2:=hd0.mono s0;exact K3 hd hp r2
theorem q4W{evElt:List Sv->Option Re}(hX:Z1 X E)(hnd:∀(j k i:Nat),fr[j]? = some (some i)->fr[k]? = some (some i)->j=k)(hsl:∀i∈N8 tg,fr[i]? = some none)(hi:∀q,ri=some q->PI X tgE iter (dI X.D E δ q))
  (he:∀δ' r,evElt δ'=some r->∀C cells s₂ H₂ fp x1,PE (m9 X scope N' C cells s₂ H₂ fp x1) elt (dE X.D (λ_=>x1) δ' r))
  (h:(Ri.thn ri λds c=>if c=.weak\/mostLen<ds.length then none else L6 (λd=>(tg.bind d (u3 fr δ)).bind λδ'=>evElt δ') ds [])=some re):M2 X E δ tgE iter [] elt scope N' fr tg re:=by
 cases hri:ri with
 | none=>rw[hri]at h;cases h
 | some q=>
  rw[hri]at h;have A:=hi q hri;refine⟨E,_,_,λx1=>_,hX,A,(λC cells s₂ H₂ fp x1=>z0N),(λC cells s₂ H₂ fp x1=>PE.any (ι:={p:List Sv×Re // evElt p.1=some p.2}) (t:=λk=>dE X.D (λ_=>x1) k.1.1 k.1.2) λk=>he k.1.1 k.1.2 k.2 C cells s₂ H₂ fp x1),?_⟩;cases q with
  | ex c=>cases h;exact λσ H Q ⟨O,W,R,p⟩=>⟨O,W,R,p⟩
  | ok ds c=>
   have h':(if c=.weak\/mostLen<ds.length then none else L6 (λd=>(tg.bind d (u3 fr δ)).bind λδ'=>evElt δ') ds [])=some re:=h;split at h'
   ·cases h'
   ·rename_i m;rw[not_or]at m;refine λσ H Q ⟨O,W,R,p⟩=>⟨O,W,R,λJ H1 s1 w=>?_⟩
    refine z5p (x1:=E σ) (tg:=tg) (D:=X.D) w R.hid m.1 ((R.mono s1).inner fr hnd) (λi hi=>.inl (q4N (hsl i hi))) (L9 (by omega)) h' s1 (λd r hm hg=>?_) (λxs z v H' s' g=>?_) (λc z H' C m s'=>?_)
    ·cases hb:tg.bind d (u3 fr δ)with
     | none=>rw[hb]at hg;cases hg
     | some δ'=>
      rw[hb]at hg;refine⟨δ',rfl,λσ' H2 s2 R2 K k1 k2 k3=>⟨⟨⟨δ',r⟩,hg⟩,O,W,R2,?_⟩⟩;cases r with
      | ex c=>exact λH3 C mm s3=>k2 c rfl H3 C mm s3
      | ok x cl=>exact λv H3 s3 g3=>k1 x cl rfl (k3 x cl rfl) v H3 s3 (g3.stro (R2.hid.mono s3) (k3 x cl rfl))
    ·subst z;exact p v H' s' g
    ·subst z;exact p H' C m s'
theorem q4B{evElt:List Sv->Option Re}{evC:List Sv->Option Rt}{cond:Expr}(S:CompScope X.N N' scope X.env.scope fr)(hc:X.calm=true)(hnd:∀(j k i:Nat),fr[j]? = some (some i)->fr[k]? = some (some i)->j=k)(hsl:∀i∈N8 tg,fr[i]? = some none)(hi:∀q,ri=some q->PI X tgE iter (dI X.D E δ q))
  (hG:∀C cells s₂ H₂ fp x1,PG (m9 X scope N' C cells s₂ H₂ fp x1) tgE (gT X.K tg)) (he:∀δ' r,evElt δ'=some r->∀C cells s₂ H₂ fp x1,PE (m9 X scope N' C cells s₂ H₂ fp x1) elt (dE X.D E0s δ' r))
  (ht:∀δ' r,evC δ'=some r->∀C cells s₂ H₂ fp x1,PT (m9 X scope N' C cells s₂ H₂ fp x1) cond (dT X.D E0s δ' r))
  (h:(Ri.thn ri λds c=>if c=.weak\/mostLen<ds.length then none else K1 (A2 (λd=>(tg.bind d (u3 fr δ)).bind λδ'=>Rc.test (evC δ') (Rc.of (evElt δ'))) ds))=some re):M2 X E δ tgE iter [cond] elt scope N' fr tg re:=by
 cases hri:ri with
 | none=>rw[hri]at h;cases h
 | some q=>
  rw[hri]at h;have A:=hi q hri;refine⟨_,_,_,λ_=>_,q5f,A,(λC cells s₂ H₂ fp x1=>PTs.any (ι:={p:List Sv×Rt // evC p.1=some p.2}) (t:=λk=>dT X.D E0s k.1.1 k.1.2) λk=>z5w (ht k.1.1 k.1.2 k.2 C cells s₂ H₂ fp x1)),
   (λC cells s₂ H₂ fp x1=>PE.any (ι:={p:List Sv×Re // evElt p.1=some p.2}) (t:=λk=>dE X.D E0s k.1.1 k.1.2) λk=>he k.1.1 k.1.2 k.2 C cells s₂ H₂ fp x1),?_⟩
  cases q with
  | ex c=>cases h;exact λσ H Q ⟨O,W,R,p⟩=>⟨O,W,R,p⟩
  | ok ds c=>
   have h':(if c=.weak\/mostLen<ds.length then none else K1 (A2 (λd=>(tg.bind d (u3 fr δ)).bind λδ'=>Rc.test (evC δ') (Rc.of (evElt δ'))) ds))=some re:=h;split at h'
   ·cases h'
   ·rename_i m;rw[not_or]at m;unfold K1 at h';split at h'
    ·cases h'
    ·rename_i xs hx;cases h';refine λσ H Q ⟨O,W,R,p⟩=>⟨O,W,R,λJ H1 s1 w=>?_⟩
     refine q9h (tg:=tg) (D:=X.D) w R.hid m.1 ((R.mono s1).inner fr hnd) (λi hi=>.inl (q4N (hsl i hi))) (L9 (by omega)) hx s1 (λd rc hm hg=>?_) (λd x hm hg δ' hb σ' H2 s2 R2 K hK=>?_) p
     ·cases hb:tg.bind d (u3 fr δ)with
      | none=>rw[hb]at hg;cases hg
      | some δ'=>
       rw[hb]at hg;have hg':Rc.test (evC δ') (Rc.of (evElt δ'))=some rc:=hg;refine⟨δ',rfl,λσ' H2 s2 R2 K k1 k2=>?_⟩;unfold Rc.test at hg';split at hg'
       ·rename_i q;refine⟨⟨⟨δ',.ok true⟩,q⟩,O,W,R2,λH3 s3=>?_⟩;cases rc with
        | skip=>exact(Rc.of_skip hg').elim
        | item x=>exact k2 x rfl H3 s3
       ·rename_i q;cases hg';exact⟨⟨⟨δ',.ok false⟩,q⟩,O,W,R2,λH3 s3=>k1 rfl H3 s3⟩
       ·cases hg'
     ·rw[hb]at hg;have hg':Rc.test (evC δ') (Rc.of (evElt δ'))=some (.item x):=hg;unfold Rc.test at hg';split at hg'
      ·obtain⟨cl,e1,e2⟩:=Rc.of_item hg';exact⟨⟨⟨δ',.ok x cl⟩,e1⟩,O,W,R2,λv H3 s3 g3=>hK v H3 s3 (g3.stro (R2.hid.mono s3) e2)⟩
      ·cases hg'
      ·cases hg'
end
end
section
theorem Inv.turnedL{X:Cx}{pins:List (Addr×Obj)}{σ:St}{H:Hp}{s:Shared}{h':Heap}{t':Nat}{ch:List Addr}(I:Inv X pins σ H s)(k:∀b o,b∉ch->s.heap.get? b=some o->h'.get? b=some o)(hf:∀b∈ch,FpOk X pins H b):Inv X pins σ H {s with heap:=h',toks:=t'}:=by
 have nit:∀b u,H b=some u->b∉ch:=λb u e z=>by rw[(hf b z).1]at e;cases e
 refine I.step (g':=s.gens) (d':=s.drawn) (ch:=ch) (λb hb=>?_) (λb o _ _ hc e _=>k b o hc e) (λb o _ _ hc e _=>⟨o.slots,k b o hc e⟩) (λ_ _ _ _ n=>n)
  (λb o hc e=>⟨o,k b o hc e⟩) (λ_ _ e=>e) (λ_ _ _ e=>e) (λ_ _ e=>e) (λm hm=>?_) (λb u e=>?_) I.bare
 ·obtain⟨_,f1,_,f3,f4,f5⟩:=hf b hb;exact⟨f3,f1,f4,f5⟩
 ·obtain⟨o,es,ep,ho,r⟩:=hm;exact⟨o,es,ep,k _ o (λz=>(hf _ z).2.1 rfl) ho,r⟩
 ·refine(I.hok b u e).stay (λc v hc q=>k c v ?_ q) (λ_ q=>q) (λ_ _ q=>q) λ_ _ _ _ _ q=>q;rcases hc with z | z
  ·rw[z];exact nit b u e
  ·exact nit c _ z
def SqD(t:Bool)(K:PySem.W.Frag)(H:Hp)(a:Addr)(xs:List V):Prop:=match t with | false=>SqL K H a xs | true=>SqT K H a xs
theorem Same.sqd{t:Bool}{K:PySem.W.Frag}{H H':Hp}{a:Addr}{xs:List V}(e:Same H H')(h:SqD t K H a xs):SqD t K H' a xs:=by
 cases t
 ·exact e.seq h
 ·exact e.tseq h
theorem Inv.sqd(I:Inv X pins σ H s)(h:SqD t X.K H a xs):∃its:List Value,Vals xs its/\SqK t s.heap a its.toArray:=by
 cases t
 ·obtain⟨its,rv,p,_⟩:=I.list h;exact⟨its,rv,p.isList⟩
 ·obtain⟨its,rv,p,_⟩:=I.tuple h;exact⟨its,rv,p⟩
theorem Inv.sqd_inj(I:Inv X pins σ H s)(h:SqD t X.K H a xs)(h':SqD t X.K H a ys):xs=ys:=by
 cases t
 ·exact I.list_inj h h'
 ·exact I.tuple_inj h h'
def itK(t:Bool)(h:Heap)(ia la:Addr)(k:Nat):Prop:=match t with | false=>h.IsListIter ia la k | true=>h.IsTupleIter ia la k
theorem z2H(p:itK t h ia la k)(q:SqK t h la vs):sK t ia la vs k h:=by
 cases t<;>exact⟨p,q⟩
theorem z2V(p:sK t ia la vs k h):itK t h ia la k:=by
 cases t<;>exact p.1
theorem q8W(p:itK t h ia la k)(e:∀o,h.get? ia=some o->h'.get? ia=some o):itK t h' ia la k:=by
 cases t
 ·exact Heap.IsListIter.at p e
 ·obtain⟨o,z,r⟩:=p;exact⟨o,e o z,r⟩
theorem q3H(p:itK t h ia la k):∃o xs,h.get? ia=some o/\o.data=.fields xs:=by
 cases t
 ·obtain⟨o,e,_,d⟩:=p;exact⟨o,_,e,d⟩
 ·obtain⟨o,e,_,d⟩:=p;exact⟨o,_,e,d⟩
theorem SqK.lt{t:Bool}{h:Heap}{a:Addr}{vs:Array Value}(p:SqK t h a vs):a<h.objs.size:=by
 cases t
 ·obtain⟨o,e,_⟩:=p;exact i7 e
 ·obtain⟨o,e,_⟩:=p;exact i7 e
def Itz(K:PySem.W.Frag)(t1 t2:Bool)(a b:Addr):It:=
  ⟨λi H=>∃xs ys x y,SqD t1 K H a xs/\SqD t2 K H b ys/\xs[i]? = some x/\ys[i]? = some y,
   λi H x H'=>∃p v u,x=.ref p/\H p=none/\(∀xs,SqD t1 K H a xs->xs[i]? = some v)/\(∀ys,SqD t2 K H b ys->ys[i]? = some u)/\H'=upd H p (.tup [v,u]),
   λi H=>∃xs ys,SqD t1 K H a xs/\SqD t2 K H b ys/\(xs.length<=i\/ys.length<=i)⟩
theorem z3y{P:Program}{w:World}{K:PySem.W.Frag}{elts:List Expr}{k:Nat}{pos:Pos}{z TI TO i1 i2 l1 l2:Addr}(t1 t2:Bool)(D:ZipApart z TI TO i1 i2 l1 l2) :
  Turn P w K (.Tuple elts k pos) (Itz K t1 t2 l1 l2) [z,TI,TO,i1,i2] z (λi h=>IsZip h z TI TO .none/\IsPair h TI (.ref i1) (.ref i2)/\(∃a b,IsPair h TO a b)/\itK t1 h i1 l1 i/\itK t2 h i2 l2 i) where
 mem:=by simp
 obj:=λi h st b hb=>by
  obtain⟨hz,hTI,⟨a,a',hTO⟩,h1,h2⟩:=st;simp only[d9,K7,K9]at hb;rcases hb with rfl | rfl | rfl | rfl | rfl
  ·exact⟨_,hz,λv q=>by cases q⟩
  ·exact⟨_,hTI,λv q=>by cases q⟩
  ·exact⟨_,hTO,λv q=>by cases q⟩
  ·obtain⟨o,xs,e,d⟩:=q3H h1;exact⟨o,e,λv q=>by rw[d]at q;cases q⟩
  ·obtain⟨o,xs,e,d⟩:=q3H h2;exact⟨o,e,λv q=>by rw[d]at q;cases q⟩
 keep:=λi h h' st q=>by obtain⟨hz,hTI,⟨a,a',hTO⟩,h1,h2⟩:=st;exact⟨q z (by simp) _ hz,q TI (by simp) _ hTI,⟨a,a',q TO (by simp) _ hTO⟩,q8W h1 λo e=>q i1 (by simp) o e,q8W h2 λo e=>q i2 (by simp) o e⟩
 item:=by
  intro X hP hw hK hc i pins s σ H E I hf st hg;subst hP hw hK;obtain⟨hz,hTI,⟨a,a',hTO⟩,h1,h2⟩:=st;obtain⟨xs,ys,x,y,q1,q2,hx,hy⟩:=hg;obtain⟨its,rv,p⟩:=I.sqd q1;obtain⟨its2,rv2,p2⟩:=I.sqd q2;obtain⟨u,hu,ru⟩:=rv.get hx;obtain⟨u2,hu2,ru2⟩:=rv2.get hy;refine z2n D (z3b t1 D.l1i1) (z3b t2 D.l2i2) hz hTI hTO (z2H h1 p) (z2H h2 p2) (x:=u) (y:=u2) (by simpa using hu) (by simpa using hu2) λh' a1 a2 a3 a4 a5 a6 a7=>⟨_,rfl,?_⟩
  refine wpAny_letOwnedTupleGo_zip a1 λh2' hz' hs'=>?_;have hsz:s.heap.objs.size≠z:=w2O (i7 hz);have keep:∀b o,b∉[z,TI,TO,i1,i2]->s.heap.get? b=some o->h2'.get? b=some o:=λb o hb e=>
   hs'.extBut _ _ (λq=>hb (by simp[q])) (a7 b o (λq=>hb (by simp[q])) (λq=>hb (by simp[q])) (λq=>hb (by simp[q])) (λq=>hb (by simp[q])) e)
  have I1:Inv X pins σ H {s with heap:=h2'}:=I.turnedL (t':=s.toks) keep hf;have hn:H s.heap.objs.size=none:=I.hok.fresh (j1 _);have f5:=I.fpOk (j1 _) hn;have new:h2'.get? s.heap.objs.size=some {cls:=.type "tuple",data:=.seq #[u,u2]}:=hs'.extBut _ _ hsz a5;have h0:X.s₀.heap.get? s.heap.objs.size=none:=w10 I.sz;have I2:Inv X pins σ (upd H s.heap.objs.size (.tup [x,y])) {s with heap:=h2'}:=I1.track hn h0 f5.2.1 (λn c e=>f5.2.2.2.2.1 n c e) (λq hq=>f5.2.2.2.2.2 q hq)
   ⟨by show(2:Nat)<=sizeLine;decide,[u,u2],.cons ru (.cons ru2 .nil),_,new,⟨rfl,rfl⟩,_,rfl⟩
  refine⟨.ref s.heap.objs.size,_,I2,rfl,⟨_,x,y,rfl,hn,λxs' e=>by rw[I.sqd_inj e q1];exact hx,λys' e=>by rw[I.sqd_inj e q2];exact hy,rfl⟩,
   ⟨hz',hs'.extBut _ _ D.TIz (a7 _ _ D.TIz D.TITO D.TIi1 D.TIi2 hTI),⟨_,_,hs'.extBut _ _ D.TOz a2⟩,q8W (z2V a3) (λo e=>hs'.extBut _ _ D.i1z e),q8W (z2V a4) (λo e=>hs'.extBut _ _ D.i2z e)⟩,λb hb=>?_⟩
  have lt:∀b∈[z,TI,TO,i1,i2],b≠s.heap.objs.size:=λb hb=>by
   simp only[d9,K7,K9]at hb;rcases hb with rfl | rfl | rfl | rfl | rfl
   ·exact Ne.symm hsz
   ·exact w6 (i7 hTI)
   ·exact w6 (i7 hTO)
   ·obtain⟨o,_,e,_⟩:=q3H h1;exact w6 (i7 e)
   ·obtain⟨o,_,e,_⟩:=q3H h2;exact w6 (i7 e)
  rw[j6 (lt b hb)];exact(hf b hb).1
 done:=by
  intro X hP hw hK hc i pins s σ H E I hf st hg;subst hP hw hK;obtain⟨hz,hTI,⟨a,a',hTO⟩,h1,h2⟩:=st;obtain⟨xs,ys,q1,q2,hx⟩:=hg;obtain⟨its,rv,p⟩:=I.sqd q1;obtain⟨its2,rv2,p2⟩:=I.sqd q2;have e1:=rv.length;have e2:=rv2.length;refine z2k (I.ok.hd hc) D (z3b t1 D.l1i1) (z3b t2 D.l2i2) hz hTI hTO (z2H h1 p) (z2H h2 p2) (by
   rcases hx with q | q
   ·left;simp;omega
   ·right;simp;omega) λh' a7=>⟨rfl,I.turnedL (t':=s.toks) (ch:=[z,TI,TO,i1,i2]) (λb o hb e=>a7 b o (λq=>hb (by simp[q])) (λq=>hb (by simp[q])) (λq=>hb (by simp[q])) (λq=>hb (by simp[q])) e) hf⟩
 self:=λ_ _ _ _ _ st h=>wpAny_pyIter_zip st.1 h
theorem q3S:∀(xs ys:List DV),(zpD xs ys).length=min xs.length ys.length
 | [],ys=>by simp[zpD]
 | _::_,[]=>by simp[zpD]
 | x::xs,y::ys=>by rw[zpD,y9,q3S xs ys,y9,y9];omega
theorem z1s:∀{xs ys:List DV} {i:Nat} {d:DV},(zpD xs ys)[i]? = some d->∃x y,xs[i]? = some x/\ys[i]? = some y/\d=.tup [x,y]
 | [],_,_,_,h=>by simp[zpD]at h
 | _::_,[],_,_,h=>by simp[zpD]at h
 | x::xs,y::ys,0,d,h=>by simp[zpD]at h;exact⟨x,y,rfl,rfl,h.symm⟩
 | x::xs,y::ys,i+1,d,h=>by rw[zpD,List.getElem?_cons_succ]at h;simpa using z1s h
theorem q9z:∀b∈hidW O W (Cl.meet c c'),b∈hidW O W c:=by
 cases c<;>cases c'<;>intro b hb<;>first | exact hb | exact y0 _ hb
theorem q9O:∀b∈hidW O W (Cl.meet c c'),b∈hidW O W c':=by
 cases c<;>cases c'<;>intro b hb<;>first | exact hb | exact y0 _ hb
theorem q6A:∀b∈D7 O W (Cl.meet c c'),b∈D7 O W c:=by
 cases c<;>cases c'<;>intro b hb<;>first | exact hb | exact y0 _ hb
theorem q6x:∀b∈D7 O W (Cl.meet c c'),b∈D7 O W c':=by
 cases c<;>cases c'<;>intro b hb<;>first | exact hb | exact y0 _ hb
theorem Wk.zip(h:SqD t1 D.K (L2.wo Oc H1) a xs)(r:RepL D (L2.wo Oi H1) ds xs)(h':SqD t2 D.K (L2.wo Oc H1) b ys)(r':RepL D (L2.wo Oi H1) es ys):Wk D (Itz D.K t1 t2 a b) (zpD ds es) Oc Oi H1 where
 go:=λi H s hi=>by rw[q3S]at hi;exact⟨xs,ys,xs[i]'(by rw[r.length];omega),ys[i]'(by rw[r'.length];omega),q9.sqd (s.sqd h),q9.sqd (s.sqd h'),x9 _,x9 _⟩
 same:=λi H x H' y=>by obtain⟨p,v,u,_,hp,_,_,e⟩:=y;rw[e];exact v7 hp
 yld:=λi H x H' d O2 s s' y e ho=>by
  obtain⟨p,v,u,ex,hp,y1,y2,eH⟩:=y;obtain⟨d1,d2,q1,q2,rfl⟩:=z1s e;obtain⟨v1,z1,z2⟩:=r.get q1;obtain⟨v2,z3,z4⟩:=r'.get q2;have w1:=y1 xs (q9.sqd (s.sqd h));have w2:=y2 ys (q9.sqd (s.sqd h'));rw[z1]at w1;cases w1;rw[z3]at w2;cases w2;have hpo:p∉O2:=λz=>(ho p z).1 hp
  subst eH;refine A5.mpr ⟨p,_,ex,SqT.of (by rw[f7 hpo];exact E2),?_⟩;have up:Same (L2.wo Oi H1) (L2.wo O2 (upd H p (.tup [v,u]))):=(z1z s' ho).trans (v7 hp).wo;exact t9.mpr ⟨_,_,rfl,z2.mono up,RepL.one (z4.mono up)⟩
 stop:=λH s=>by refine⟨xs,ys,q9.sqd (s.sqd h),q9.sqd (s.sqd h'),?_⟩;rw[q3S,r.length,r'.length];omega
section
variable {X:Cx} {E:St->XK} {δ:List Sv} {e e':Expr} {elts:List Expr} {k:Nat} {tpos pos p:Pos} {ra rb:Option Re} {ri:Ri}
theorem q8n{n a b:Nat}(ha:a<n)(hb:b<n):ZipApart (n+4) (n+2) (n+3) n (n+1) a b:=by
 constructor<;>(show @Ne Nat _ _)<;>omega
theorem z7X(hg:Gl X "zip")(hm:X.mg "zip" = none)(ha:PA X [e,e'] ta)(hs:i9 e=false)(hs':i9 e'=false) :
  PI X (.Tuple elts k tpos) (.Call (.Name "zip" p) [e,e'] [] pos) (λσ H R=>ta σ H λvs H1=>∃t1 t2 a b,vs=[.ref a,.ref b]/\(∃xs,SqD t1 X.K H1 a xs)/\(∃ys,SqD t2 X.K H1 b ys)/\R (Itz X.K t1 t2 a b) H1):=by
 intro pins s σ H R I h;refine Call_ (q6V I hg hm boot_zip (w1Z (thn (ha pos pins s σ H _ I h) λus s1 ⟨vs,H1,I1,r1,q1⟩=>?_) (by rw[o9 hs]) (q1T [e'] (by simp[hs']))));obtain⟨t1,t2,a,b,e1,⟨xs,hx⟩,⟨ys,hy⟩,q⟩:=q1;subst e1;obtain⟨u,u',rfl,ru,ru'⟩:=r1.two;cases ru;cases ru';obtain⟨its,rv,p1⟩:=I1.sqd hx;obtain⟨its2,rv2,p2⟩:=I1.sqd hy;have la:=p1.lt;have lb:=p2.lt;refine z1c t1 t2 p1 p2 λh' z1 z2 z3 z4 z5 z6 z7=>?_
 have I2:Inv X pins σ H1 {s1 with heap:=h'}:=I1.kept (t':=s1.toks) z7;refine wpAny_pyIter_zip z1 ⟨s1.heap.objs.size+4,[s1.heap.objs.size+4,s1.heap.objs.size+2,s1.heap.objs.size+3,s1.heap.objs.size,s1.heap.objs.size+1],_,_,H1,rfl,I2,
  z3y (l1:=a) (l2:=b) t1 t2 (q8n la lb),⟨z1,z2,⟨_,_,z3⟩,z2V z4,z2V z5⟩,λc hc=>?_,q⟩
 have hc':s1.heap.objs.size<=c:=by
  simp only[d9,K7,K9]at hc;rcases hc with rfl | rfl | rfl | rfl | rfl
  ·exact w13 ..
  ·exact w13 ..
  ·exact w13 ..
  ·exact j1 _
  ·exact w13 ..
 exact I1.fpOk hc' (I1.hok.fresh hc')
theorem q7r(k:Q0 d=some (t,ds))(g:Got D O W H0 H d c v)(hd:Hid O W H0 H):∃a xs,v=.ref a/\SqD t D.K (L2.wo (hidW O W c) H) a xs/\RepL D (L2.wo (D7 O W c) H) ds xs:=by
 cases d<;>cases k
 ·exact g.walkT hd
 ·exact g.walkL hd
theorem z7g(hg:Gl X "zip")(hm:X.mg "zip" = none)(hs:i9 e=false)(hs':i9 e'=false)(ha:∀q,ra=some q->PE X e (dE X.D E δ q))(hb:∀q,rb=some q->PE X e' (dE X.D E δ q))
  (h:t6 (Re.thn ra λx c=>Re.thn rb λy c'=>zipD x y c c')=some ri):PI X (.Tuple elts k tpos) (.Call (.Name "zip" p) [e,e'] [] pos) (dI X.D E δ ri):=by
 have C:=λta tb (hA:PE X e ta) (hB:PE X e' tb)=>z7X (elts:=elts) (k:=k) (tpos:=tpos) (p:=p) (pos:=pos) hg hm (C2 hA (C2 hB L3 (o9 hs')) (o9 hs)) hs hs';cases hra:ra with
 | none=>rw[hra]at h;cases h
 | some q=>
  rw[hra]at h;have A:=ha q hra;cases q with
  | ex c=>cases h;exact(C _ _ A E6).weak λσ H R' ⟨O,W,R,p⟩=>⟨O,W,R,p⟩
  | ok dx cx=>
   cases hrb:rb with
   | none=>rw[hrb]at h;cases h
   | some q=>
    rw[hrb]at h;have B:=hb q hrb;cases q with
    | ex c=>cases h;exact(C _ _ A B).weak λσ H R' ⟨O,W,R,p⟩=>⟨O,W,R,λx H1 s1 g1=>⟨O,W,R.mono s1,λH' C m s=>p H' C m (s1.trans s)⟩⟩
    | ok dy cy=>
     have h':t6 (zipD dx dy cx cy)=some ri:=h;unfold zipD at h';split at h'
     ·rename_i t1 ds1 t2 ds2 k1 k2;cases h';exact(C _ _ A B).weak λσ H R' ⟨O,W,R,p⟩=>⟨O,W,R,λx H1 s1 g1=>⟨O,W,R.mono s1,λy H2 s2 g2=>by
       have hd:=(R.hid.mono s1).mono s2;obtain⟨a,xs,e1,e2,e3⟩:=q7r k1 (g1.mono s2) hd;obtain⟨b,ys,e1',e2',e3'⟩:=q7r k2 (g2.since s1) hd;refine⟨t1,t2,a,b,by rw[e1,e1'],⟨xs,q9.sqd e2⟩,⟨ys,q9.sqd e2'⟩,p _ H2 (s1.trans s2) (.zip ((v6 q9z).sqd e2) (e3.mono (v6 q6A)) ((v6 q9O).sqd e2') (e3'.mono (v6 q6x)))⟩⟩⟩
     ·cases h'
end
end
section
def dEnd(D:Dm)(E:St->XK)(H0:Hp)(O:List Addr)(Dn:Ends):Out->Prop
 | .nx δ=>∀σ H W,RSt D H σ δ O W->(∀a∈W,H0 a=none)->Same H0 H->Dn.nx σ H
 | .rt d fr=>∀v H,Same H0 H->GotR D O H0 H d fr v->Dn.rt v H
 | .rtt d=>∀v H,Same H0 H->GotT D O H0 H d v->Dn.rt v H
 | .ex c δ=>∀σ H W C,D.mg c=some C->RSt D H σ δ O W->(∀a∈W,H0 a=none)->Same H0 H->E σ C none H
def dS(D:Dm)(E:St->XK)(δ:List Sv)(o:Out):TS:=λDn σ H=>∃H0 O W,RSt D H σ δ O W/\(∀a∈W,H0 a=none)/\(∀a∈O,H0 a≠none)/\Same H0 H/\dEnd D E H0 O Dn o
section
variable {X:Cx} {E:St->XK} {δ δ1:List Sv} {st:Stmt} {rest body els:List Stmt} {o:Out} {e c:Expr} {pos pos':Pos} {ra:Option Re} {rt:Option Rt} {i:Nat} {x:Str}
theorem z7t:PSs X [] (dS X.D E δ (.nx δ)):=z6s.weak λDn σ H ⟨H0,O,W,R,fr,fo,sm,k⟩=>k σ H W R fr sm
theorem z3z(h1:PS X st (dS X.D E δ (.nx δ1)))(h2:PSs X rest (dS X.D E δ1 o)):PSs X (st::rest) (dS X.D E δ o):=
 (q4z h1 h2).weak λDn σ H ⟨H0,O,W,R,fr,fo,sm,k⟩=>⟨H0,O,W,R,fr,fo,sm,λσ' H' W' R' fr' sm'=>⟨H0,O,W',R',fr',fo,sm',k⟩⟩
theorem z8v(h1:PS X st (dS X.D E δ (.rt d fr))):PSs X (st::rest) (dS X.D E δ (.rt d fr)):=
 (q4z h1 V1).weak λDn σ H ⟨H0,O,W,R,fr,fo,sm,k⟩=>⟨H0,O,W,R,fr,fo,sm,k⟩
theorem z6Y(h1:PS X st (dS X.D E δ (.rtt d))):PSs X (st::rest) (dS X.D E δ (.rtt d)):=
 (q4z h1 V1).weak λDn σ H ⟨H0,O,W,R,fr,fo,sm,k⟩=>⟨H0,O,W,R,fr,fo,sm,k⟩
theorem z9u{c:Str}{δ':List Sv}(h1:PS X st (dS X.D E δ (.ex c δ'))):PSs X (st::rest) (dS X.D E δ (.ex c δ')):=
 (q4z h1 V1).weak λDn σ H ⟨H0,O,W,R,fr,fo,sm,k⟩=>⟨H0,O,W,R,fr,fo,sm,k⟩
theorem W7{D:Dm}{H0 H:Hp}{O W:List Addr}{σ:St}{Dn:Ends}{c:Str}{Q:VK}(R:RSt D H σ δ O W)(fr:∀a∈W,H0 a=none)(sm:Same H0 H)(k:dEnd D E H0 O Dn (.ex c δ)):Post D E σ O W H H Q (.ex c):=
 λH' C m s=>k σ H' W C m (R.mono s) fr (sm.trans s)
theorem z9V(hc:∀q,rt=some q->PT X c (dT X.D E δ q))(h1:∀q,ro=some q->PSs X body (dS X.D E δ q))(h2:∀q,rp=some q->PSs X els (dS X.D E δ q))(h:(Rt.thnS δ rt λk=>if k then ro else rp)=some o):PS X (.If c body els pos) (dS X.D E δ o):=by
 cases hrt:rt with
 | none=>rw[hrt]at h;cases h
 | some q=>
  rw[hrt]at h;have C:=hc q hrt;cases q with
  | ex c=>cases h;exact(z5K C V1 V1).weak λDn σ H ⟨H0,O,W,R,fr,fo,sm,k⟩=>⟨O,W,R,λH' C m s=>k σ H' W C m (R.mono s) fr (sm.trans s)⟩
  | ok b=>
   cases b with
   | true=>
    have h':ro=some o:=h;exact(z5K C (h1 o h') V1).weak λDn σ H ⟨H0,O,W,R,fr,fo,sm,k⟩=>⟨O,W,R,λH1 s1=>iteT ⟨H0,O,W,R.mono s1,fr,fo,sm.trans s1,k⟩⟩
   | false=>
    have h':rp=some o:=h;exact(z5K C V1 (h2 o h')).weak λDn σ H ⟨H0,O,W,R,fr,fo,sm,k⟩=>⟨O,W,R,λH1 s1=>iteF ⟨H0,O,W,R.mono s1,fr,fo,sm.trans s1,k⟩⟩
theorem z5o(ha:∀q,ra=some q->PE X e (dE X.D E δ q))(h:(Re.thnS δ ra λd c=>some (retD d c))=some o):PS X (.Return (some e) pos) (dS X.D E δ o):=by
 cases hra:ra with
 | none=>rw[hra]at h;cases h
 | some q=>
  rw[hra]at h;have A:=ha q hra;cases q with
  | ex c=>cases h;exact(z0w A).weak λDn σ H ⟨H0,O,W,R,fr,fo,sm,k⟩=>⟨O,W,R,W7 R fr sm k⟩
  | ok d cl=>
   have h2:some (retD d cl)=some o:=h;cases h2;by_cases hft:cl=.ft
   ·subst hft;refine(z0w A).weak λDn σ H ⟨H0,O,W,R,fr,fo,sm,k⟩=>⟨O,W,R,λv H1 s1 g=>(k:dEnd X.D E H0 O Dn (.rtt d)) v H1 (sm.trans s1) ?_⟩
    obtain⟨t,ts,p,xs,ds,es,e1,e2,e0,e3,e4,e5,e6⟩:=g;have up:Same (L2.wo (p::(O++W)) H1) (L2.wo (p::O) H1):=v6 λb hb=>by rcases d9.mp hb with z | z;exact d9.mpr (.inl z);exact f9 _ (y0 _ z)
    exact .inl ⟨t,ts,p,xs,ds,es,e1,e2,(v6 Q9).tseq e0,sm.free e3,e4,e5.mono up,e6.mono up⟩
   have hrt:retD d cl=.rt d (frD d cl):=by cases cl<;>first | rfl | exact absurd rfl hft
   rw[hrt];refine(z0w A).weak λDn σ H ⟨H0,O,W,R,fr,fo,sm,k⟩=>⟨O,W,R,λv H1 s1 g=>(k:dEnd X.D E H0 O Dn (.rt d (frD d cl))) v H1 (sm.trans s1) ?_⟩
   have hd:=R.hid.mono s1;cases hf:frD d cl with
   | false=>exact g.weak hd
   | true=>
    unfold frD at hf;split at hf
    ·obtain⟨p,xs,ds,e1,e2,e3,e4,e5⟩:=g;exact⟨p,xs,ds,e1,e2,sm.free e3,e4,e5.mono (v6 λb hb=>by rcases d9.mp hb with z | z;exact d9.mpr (.inl z);exact f9 _ (y0 _ z))⟩
    ·obtain⟨a,xs,e1,e0,e2,e3⟩:=g;exact⟨a,xs,_,e1,rfl,fr a e0,q9 _ _ e2,e3.mono (v6 λb hb=>by rcases d9.mp hb with z | z;rw[z];exact A8 _ e0;exact y0 _ z)⟩
    ·cases hf
theorem q2W(h:Q7 v=false):swapsWith v t l env=pure false:=by
 cases v<;>first | rfl | cases h
theorem z7y(ha:∀q,ra=some q->PE X e (dE X.D E δ q))(hc:Q7 e=false)(h:(Re.thnS δ ra λ_ _=>some (.nx δ))=some o):PS X (.Expr e pos) (dS X.D E δ o):=by
 cases hra:ra with
 | none=>rw[hra]at h;cases h
 | some q=>
  rw[hra]at h;have A:=ha q hra;cases q with
  | ex c=>cases h;exact(q7W A (q2W hc)).weak λDn σ H ⟨H0,O,W,R,fr,fo,sm,k⟩=>⟨O,W,R,W7 R fr sm k⟩
  | ok d cl=>cases h;exact(q7W A (q2W hc)).weak λDn σ H ⟨H0,O,W,R,fr,fo,sm,k⟩=>⟨O,W,R,λv H1 s1 g=>k σ H1 W (R.mono s1) fr (sm.trans s1)⟩
theorem W8:b∈O++p::W↔b∈p::(O++W):=by
 simp only[C8,d9];constructor
 ·rintro(h | h | h)
  ·exact .inr (.inl h)
  ·exact .inl h
  ·exact .inr (.inr h)
 ·rintro(h | h | h)
  ·exact .inr (.inl h)
  ·exact .inl h
  ·exact .inr (.inr h)
theorem n0{α:Type}{l:List α}{i j:Nat}{a b:α}(h:(l.set i a)[j]? = some b)(hn:a≠b):j≠i:=λz=>by
 subst z;have hl:j<l.length:=by have:=(u9.mp h).1;rw[A0]at this;exact this
 rw[C7 hl]at h;exact hn (x4 h)
theorem X0{α:Type}{l:List α}{i:Nat}{a b:α}(h:(l.set i a)[i]? = some b):i<l.length/\a=b:=by
 have hl:i<l.length:=(by have:=(u9.mp h).1;rw[A0]at this;exact this);rw[C7 hl]at h;exact⟨hl,x4 h⟩
theorem RSt.alloc(R:RSt D H σ δ O W)(s:Same H H')(hp:H p=none)(hp':H' p=some (.lst xs))(r:RepL D (L2.wo (p::(O++W)) H') ds xs)(i:Nat) :
  RSt D H' (σ.set i (some (.ref p))) (δ.set i (.own (.lst ds))) O (p::W):=by
 have old:Same (L2.wo (O++W) H) (L2.wo (O++p::W) H'):=λb o e=>by obtain⟨hb,e⟩:=x6 e;have hbp:b≠p:=B3 e hp;rw[f7 (λz=>by rcases d9.mp (W8.mp z)with z | z;exact hbp z;exact hb z)];exact s b o e
 have eqv:Same (L2.wo (p::(O++W)) H') (L2.wo (O++p::W) H'):=v6 λb hb=>W8.mp hb;refine⟨λj d h=>?_,λj ds' h=>?_,λj k a d1 d2 h1 h2 e1 e2=>?_,?_,λj d h=>by
   have hj:=n0 h (by intro z;cases z);rw[d8 (Ne.symm hj)]at h ⊢;obtain⟨⟨p1,L,e0,e1,e2,e3⟩,u,n⟩:=R.o2 j d h;refine⟨⟨p1,L,e0,e1,(e2.mono s).sub λa _ ha=>f9 _ ha,λk d2 a q q2=>?_⟩,λk d2 q=>?_,λk d2 q=>?_⟩
   ·by_cases hk:k=i
    ·subst hk;obtain⟨_,z⟩:=X0 q2;cases z;intro z;obtain⟨_,ys,w⟩:=e2.dom z;rw[hp]at w;cases w
    ·rw[d8 (Ne.symm hk)]at q q2;exact e3 k d2 a q q2
   ·have hk:=n0 q (by intro z;cases z);rw[d8 (Ne.symm hk)]at q;exact u k d2 q
   ·have hk:=n0 q (by intro z;cases z);rw[d8 (Ne.symm hk)]at q;exact n k d2 q,R.od.step (q7t _ (by intro d z;cases z)) (λ_ h _=>f9 _ h) (λa kvs _ h _=>s _ _ h),by rw[A0,A0];exact R.len,⟨λa ha=>?_,Same.refl _,λa ha=>?_,λa ha=>?_,R.hid.omS s⟩⟩
 ·have hj:=n0 h (by intro z;cases z);rw[d8 (Ne.symm hj)]at h ⊢;obtain⟨v,e1,e2⟩:=R.val j d h;exact⟨v,e1,e2.mono old⟩
 ·by_cases hj:j=i
  ·subst hj;obtain⟨hl,e⟩:=X0 h;cases e;exact⟨p,xs,ds,rfl,C7 (by rw[R.len];exact hl),i5,hp',r.mono eqv⟩
  ·rw[d8 (Ne.symm hj)]at h ⊢;obtain⟨a,ys,ds1,e0,e1,e2,e3,e4⟩:=R.own j ds' h;exact⟨a,ys,ds1,e0,e1,f9 _ e2,s _ _ e3,e4.mono old⟩
 ·have key:∀{j:Nat} {d1:DV},(δ.set i (.own (.lst ds)))[j]? = some (.own d1)->(σ.set i (some (.ref p)))[j]? = some (some (V.ref a))->(j=i/\a=p)\/(j≠i/\δ[j]? = some (.own d1)/\σ[j]? = some (some (V.ref a))/\a≠p):=λ{j d1} h e=>by
   by_cases hj:j=i
   ·subst hj;obtain⟨_,z⟩:=X0 e;cases z;exact .inl ⟨rfl,rfl⟩
   ·rw[d8 (Ne.symm hj)]at h e;refine .inr ⟨hj,h,e,λz=>?_⟩;obtain⟨a',ys,ds1,_,q1,_,q3,_⟩:=R.own j d1 h;rw[e]at q1;cases q1;rw[z,hp]at q3;cases q3
  rcases key h1 e1 with⟨z1,z2⟩ | ⟨z1,z2,z3,z4⟩<;>rcases key h2 e2 with⟨y1,y2⟩ | ⟨y1,y2,y3,y4⟩
  ·rw[z1,y1]
  ·exact absurd z2 y4
  ·exact absurd y2 z4
  ·exact R.inj j k a d1 d2 z2 y2 z3 y3
 ·obtain⟨P,f,u⟩:=R.ot;refine⟨P,λj d h=>?_,λj k d1 d2 h1 h2=>?_⟩
  ·have hj:=n0 h (by intro z;cases z);rw[d8 (Ne.symm hj)]at h ⊢;obtain⟨t,ts,e1,e2,e3,e4⟩:=f j d h;refine⟨t,ts,e1,old.tseq e2,e3.mono old λp1 _ ys q=>s _ _ q,λp1 hp1=>⟨f9 _ (e4 p1 hp1).1,(e4 p1 hp1).2.1.imp λys q=>s _ _ q,λk d2 q=>?_⟩⟩;by_cases hk:k=i
   ·subst hk;intro z;obtain⟨_,z⟩:=X0 z;obtain⟨ys,y⟩:=(e4 p1 hp1).2.1;cases z;rw[hp]at y;cases y
   ·rw[d8 (Ne.symm hk)]at q ⊢;exact(e4 p1 hp1).2.2 k d2 q
  ·rw[d8 (Ne.symm (n0 h1 (by intro z;cases z)))]at h1;rw[d8 (Ne.symm (n0 h2 (by intro z;cases z)))]at h2;exact u j k d1 d2 h1 h2
 ·rcases d9.mp (W8.mp ha)with z | z
  ·rw[z,hp'];intro q;cases q
  ·intro q;exact R.hid.ot a z (s.free q)
 ·rcases d9.mp ha with z | z
  ·exact⟨_,by rw[z];exact hp',rfl⟩
  ·obtain⟨ys,q,m⟩:=R.hid.wl a z;exact⟨ys,s _ _ q,m⟩
 ·rcases d9.mp ha with z | z
  ·intro q;exact R.hid.ot p (y0 _ (by rw[←z];exact q)) hp
  ·exact R.hid.dj a z
theorem z6A(h:noOt i δ=true)(q:δ[j]? = some (.ot d)):j=i:=by
 unfold noOt at h;rw[o7]at h;have hj:j<δ.length:=(u9.mp q).1;have:=h j (F0.mpr hj);rw[q]at this;simpa using this
theorem z6F(h:noOt i δ=true)(q:δ[j]? = some (.o2 d)):j=i:=by
 unfold noOt at h;rw[o7]at h;have hj:j<δ.length:=(u9.mp q).1;have:=h j (F0.mpr hj);rw[q]at this;simpa using this
theorem RSt.allocT(R:RSt D H σ δ O W)(s:Same H H')(ht:SqT D.K (L2.wo (O++W) H') t (.ref p::ts))(hp:H p=none)(hp':H' p=some (.lst xs))(r:RepL D (L2.wo (p::(O++W)) H') ds xs)(r2:RepL D (L2.wo (p::(O++W)) H') es ts)(i:Nat)(hno:noOt i δ=true) :
  RSt D H' (σ.set i (some (.ref t))) (δ.set i (.ot (.tup (.lst ds::es)))) O (p::W):=by
 have old:Same (L2.wo (O++W) H) (L2.wo (O++p::W) H'):=λb o e=>by obtain⟨hb,e⟩:=x6 e;have hbp:b≠p:=B3 e hp;rw[f7 (λz=>by rcases d9.mp (W8.mp z)with z | z;exact hbp z;exact hb z)];exact s b o e
 have eqv:Same (L2.wo (p::(O++W)) H') (L2.wo (O++p::W) H'):=v6 λb hb=>W8.mp hb;have ht':SqT D.K (L2.wo (O++p::W) H') t (.ref p::ts):=by
  have ne:∀{o:HO},L2.wo (O++W) H' t=some o->(∀ys,o ≠ .lst ys)->L2.wo (O++p::W) H' t=some o:=λ{o} e ho=>by
   obtain⟨hb,e⟩:=x6 e;rw[f7 (λz=>by
    rcases d9.mp (W8.mp z)with z | z
    ·rw[z,hp']at e;cases e;exact ho _ rfl
    ·exact hb z)]
   exact e
  rcases ht with(h | ⟨o,h⟩) | h
  ·exact .inl (.inl (ne h (by intro ys z;cases z)))
  ·exact .inl (.inr ⟨o,ne h (by intro ys z;cases z)⟩)
  ·exact .inr h
 refine⟨λj d h=>?_,λj ds' h=>?_,λj k a d1 d2 h1 h2 e1 e2=>?_,?_,λj d h=>absurd (z6F hno (by have hj:=n0 h (by intro z;cases z);rw[d8 (Ne.symm hj)]at h;exact h)) (n0 h (by intro z;cases z)),R.od.step (q7t _ (by intro d z;cases z)) (λ_ h _=>f9 _ h) (λa kvs _ h _=>s _ _ h),by rw[A0,A0];exact R.len,⟨λa ha=>?_,Same.refl _,λa ha=>?_,λa ha=>?_,R.hid.omS s⟩⟩
 ·have hj:=n0 h (by intro z;cases z);rw[d8 (Ne.symm hj)]at h ⊢;obtain⟨v,e1,e2⟩:=R.val j d h;exact⟨v,e1,e2.mono old⟩
 ·have hj:=n0 h (by intro z;cases z);rw[d8 (Ne.symm hj)]at h ⊢;obtain⟨a,ys,ds1,e0,e1,e2,e3,e4⟩:=R.own j ds' h;exact⟨a,ys,ds1,e0,e1,f9 _ e2,s _ _ e3,e4.mono old⟩
 ·have n1:=n0 h1 (by intro z;cases z);have n2:=n0 h2 (by intro z;cases z);rw[d8 (Ne.symm n1)]at h1 e1;rw[d8 (Ne.symm n2)]at h2 e2;exact R.inj j k a d1 d2 h1 h2 e1 e2
 ·have at':∀{j:Nat} {d:DV},(δ.set i (.ot (.tup (.lst ds::es))))[j]? = some (.ot d)->j=i:=λ{j d} h=>by
   by_cases hj:j=i
   ·exact hj
   ·rw[d8 (Ne.symm hj)]at h;exact z6A hno h
  refine⟨λ_=>[p],λj d h=>?_,λj k d1 d2 h1 h2 ne=>absurd ((at' h1).trans (at' h2).symm) ne⟩;have hj:=at' h;subst hj;obtain⟨hl,e⟩:=X0 h;cases e;refine⟨t,_,C7 (by rw[R.len];exact hl),ht',.inl ⟨p,xs,ds,es,ts,rfl,rfl,rfl,hp',r.mono eqv,r2.mono eqv⟩,λp1 hp1=>?_⟩;rw[E9.mp hp1];refine⟨i5,⟨xs,hp'⟩,λk d2 q=>?_⟩;have hk:=n0 q (by intro z;cases z);rw[d8 (Ne.symm hk)]at q ⊢;intro z;obtain⟨a,ys,ds1,f0,f1,f2,f3,f4⟩:=R.own k d2 q;rw[z]at f1;cases f1;rw[hp]at f3;cases f3
 ·rcases d9.mp (W8.mp ha)with z | z
  ·rw[z,hp'];intro q;cases q
  ·intro q;exact R.hid.ot a z (s.free q)
 ·rcases d9.mp ha with z | z
  ·exact⟨_,by rw[z];exact hp',rfl⟩
  ·obtain⟨ys,q,m⟩:=R.hid.wl a z;exact⟨ys,s _ _ q,m⟩
 ·rcases d9.mp ha with z | z
  ·intro q;exact R.hid.ot p (y0 _ (by rw[←z];exact q)) hp
  ·exact R.hid.dj a z
theorem RSt.write(R:RSt D H σ δ O W)(hi:δ[i]? = some (.own (.lst ds)))(ha:σ[i]? = some (some (.ref a)))(r:RepL D (L2.wo (O++W) H) ds' xs') :
  RSt D (upd H a (.lst xs')) σ (δ.set i (.own (.lst ds'))) O W:=by
 obtain⟨a',xs,ds0,e0,e1,e2,e3,e4⟩:=R.own i _ hi;rw[ha]at e1;cases e1;have old:Same (L2.wo (O++W) H) (L2.wo (O++W) (upd H a (.lst xs'))):=λb o e=>by obtain⟨hb,e⟩:=x6 e;rw[f7 hb,j6 λz=>hb (by rw[z];exact A8 _ e2)];exact e
 have hl:i<δ.length:=(u9.mp hi).1;refine⟨λj d h=>?_,λj ds'' h=>?_,λj k b d1 d2 h1 h2 q1 q2=>?_,?_,λj d h=>by
   have hj:=n0 h (by intro z;cases z);rw[d8 (Ne.symm hj)]at h;obtain⟨⟨p1,L,f0,f1,f2,f3⟩,u,n⟩:=R.o2 j d h;refine⟨⟨p1,L,f0,f1,f2.write (f3 i _ a hi ha),λk d2 b q q2=>?_⟩,λk d2 q=>?_,λk d2 q=>?_⟩
   ·by_cases hk:k=i
    ·subst hk;exact f3 k _ b hi q2
    ·rw[d8 (Ne.symm hk)]at q;exact f3 k d2 b q q2
   ·have hk:=n0 q (by intro z;cases z);rw[d8 (Ne.symm hk)]at q;exact u k d2 q
   ·have hk:=n0 q (by intro z;cases z);rw[d8 (Ne.symm hk)]at q;exact n k d2 q,R.od.step (z0H (by intro d z;cases z)) (λ_ h _=>h) (λb kvs _ h m=>by rw[j6 (λz=>by rw[z,e3]at h;cases h;cases m)];exact h),by rw[A0];exact R.len,⟨λb hb q=>?_,Same.refl _,λb hb=>?_,R.hid.dj,R.hid.omW (by assumption)⟩⟩
 ·have hj:=n0 h (by intro z;cases z);rw[d8 (Ne.symm hj)]at h;obtain⟨v,q1,q2⟩:=R.val j d h;exact⟨v,q1,q2.mono old⟩
 ·by_cases hj:j=i
  ·subst hj;obtain⟨_,e⟩:=X0 h;cases e;exact⟨a,xs',ds',rfl,ha,e2,E2,r.mono old⟩
  ·rw[d8 (Ne.symm hj)]at h;obtain⟨b,ys,ds1,q0,q1,q2,q3,q4⟩:=R.own j ds'' h;refine⟨b,ys,ds1,q0,q1,q2,?_,q4.mono old⟩;rw[j6 λz=>hj (R.inj j i a ds'' _ h hi (by rw[←z];exact q1) ha)];exact q3
 ·have key:∀{j:Nat} {d1:DV},(δ.set i (.own (.lst ds')))[j]? = some (.own d1)->∃d0,δ[j]? = some (.own d0):=λ{j d1} h=>by
   by_cases hj:j=i
   ·subst hj;exact⟨_,hi⟩
   ·rw[d8 (Ne.symm hj)]at h;exact⟨d1,h⟩
  obtain⟨d1',z1⟩:=key h1;obtain⟨d2',z2⟩:=key h2;exact R.inj j k b d1' d2' z1 z2 q1 q2
 ·obtain⟨P,f,u⟩:=R.ot;refine⟨P,λj d h=>?_,λj k d1 d2 h1 h2=>?_⟩
  ·have hj:=n0 h (by intro z;cases z);rw[d8 (Ne.symm hj)]at h;obtain⟨t,ts,f1,f2,f3,f4⟩:=f j d h;have un:∀p1∈P j,∀ys,H p1=some (.lst ys)->upd H a (.lst xs') p1=some (.lst ys):=λp1 hp1 ys q=>by
    rw[j6 λz=>(f4 p1 hp1).2.2 i _ hi (by rw[z];exact ha)];exact q
   refine⟨t,ts,f1,old.tseq f2,f3.mono old un,λp1 hp1=>⟨(f4 p1 hp1).1,(f4 p1 hp1).2.1.imp λys q=>un p1 hp1 ys q,λk d2 q=>?_⟩⟩;by_cases hk:k=i
   ·subst hk;exact(f4 p1 hp1).2.2 k _ hi
   ·rw[d8 (Ne.symm hk)]at q;exact(f4 p1 hp1).2.2 k d2 q
  ·rw[d8 (Ne.symm (n0 h1 (by intro z;cases z)))]at h1;rw[d8 (Ne.symm (n0 h2 (by intro z;cases z)))]at h2;exact u j k d1 d2 h1 h2
 ·by_cases hba:b=a
  ·rw[hba,E2]at q;cases q
  ·rw[j6 hba]at q;exact R.hid.ot b hb q
 ·by_cases hba:b=a
  ·exact⟨_,by rw[hba];exact E2,rfl⟩
  ·obtain⟨ys,q,m⟩:=R.hid.wl b hb;exact⟨ys,by rw[j6 hba];exact q,m⟩
theorem q9r{H0 H:Hp}{a:Addr}{o:HO}(h:Same H0 H)(ha:H0 a=none):Same H0 (upd H a o):=λb u e=>by
 rw[j6 (B3 e ha)];exact h b u e
theorem z4n{Dn:Ends}{σ:St}{H H0:Hp}{O W:List Addr}{own:Bool}{d:DV}{cl:Cl}{D:Dm}(h:(if own then V4 i δ d cl else(if stro d cl then some (.nx (δ.set i (.val d)))else none))=some o)
  (R:RSt D H σ δ O W) (fr:∀a∈W,H0 a=none) (sm:Same H0 H) (k:dEnd D E H0 O Dn o):∀v H',Same H H'->Got D O W H H' d cl v->Dn.nx (σ.set i (some v)) H':=λv H1 s1 g=>by
 cases own with
 | true=>
  simp only[if_true]at h;unfold V4 at h;split at h
  ·cases h;obtain⟨p,xs,ds,e1,e2,e3,e4,e5⟩:=g;subst e1 e2;exact k _ H1 (p::W) (R.alloc s1 e3 e4 e5 i) (λa ha=>by
    rcases d9.mp ha with z | z
    ·rw[z];exact sm.free e3
    ·exact fr a z) (sm.trans s1)
  ·split at h
   ·rename_i hno;cases h;obtain⟨t,ts,p,xs,ds,es,e1,e2,e0,e3,e4,e5,e6⟩:=g;subst e1 e2;exact k _ H1 (p::W) (R.allocT s1 e0 e3 e4 e5 e6 i hno) (λa ha=>by
     rcases d9.mp ha with z | z
     ·rw[z];exact sm.free e3
     ·exact fr a z) (sm.trans s1)
   ·cases h
  ·cases h
 | false=>
  simp only[w2C,if_false]at h;split at h
  ·rename_i m;cases h;exact k _ H1 W ((R.mono s1).setVal (g.stro (R.hid.mono s1) m) i) fr (sm.trans s1)
  ·cases h
theorem z0n{own:Bool}(hN:X.N.Nodup)(hi:X.N[i]? = some x)(hx:Loc X.env.scope x)(hf:X.fn x=true\/X.env.scope.names.lookup x=some .local)(ha:∀q,ra=some q->PE X e (dE X.D E δ q))(hc:swapsWith e (some (.Name x pos')) pos.line X.env=pure false)
  (h:(Re.thnS δ ra λd c=>if own then V4 i δ d c else(if stro d c then some (.nx (δ.set i (.val d)))else none))=some o):PS X (.Assign [.Name x pos'] e pos) (dS X.D E δ o):=by
 cases hra:ra with
 | none=>rw[hra]at h;cases h
 | some q=>
  rw[hra]at h;have A:=ha q hra;cases q with
  | ex c=>cases h;exact(z0q hN hi hx A hc hf).weak λDn σ H ⟨H0,O,W,R,fr,fo,sm,k⟩=>⟨O,W,R,W7 R fr sm k⟩
  | ok d cl=>exact(z0q hN hi hx A hc hf).weak λDn σ H ⟨H0,O,W,R,fr,fo,sm,k⟩=>⟨O,W,R,z4n h R fr sm k⟩
theorem q8x{own:Bool}{tgE iter elt:Expr}{ifs:List Expr}{scope:Scope}{N':List Str}{fr:List (Option Nat)}{tg:Tg}{re:Re}(S:CompScope X.N N' scope X.env.scope fr)(hc:X.calm=true)(hN:X.N.Nodup)(hi:X.N[i]? = some x)(hx:X.env.scope.names.lookup x=some .local)
  (P:M2 X E δ tgE iter ifs elt scope N' fr tg re) (hG:∀C cells s₂ H₂ fp x1,PG (m9 X scope N' C cells s₂ H₂ fp x1) tgE (gT X.K tg)) (hset:D5 iter=false) {cpos:Pos} (hsw:swapsWith (.ListComp elt [⟨tgE,iter,ifs,0⟩] scope cpos) (some (.Name x pos')) pos.line X.env=pure true)
  (h:(Re.thnS δ (some re) λd c=>if own then V4 i δ d c else(if stro d c then some (.nx (δ.set i (.val d)))else none))=some o):PS X (.Assign [.Name x pos'] (.ListComp elt [⟨tgE,iter,ifs,0⟩] scope cpos) pos) (dS X.D E δ o):=by
 obtain⟨xE,wi,tc,te,hX,h1,h2,h3,h4⟩:=P;refine(q9M S hc hX hN hi hx h1 hG h2 h3 hsw (q6n hset)).weak λDn σ H ⟨H0,O,W,R,fr,fo,sm,k⟩=>?_
 unfold tAsg;refine h4 σ H _ ⟨O,W,R,?_⟩;cases re with
 | ex c=>cases h;exact W7 R fr sm k
 | ok d cl=>exact z4n h R fr sm k
theorem q9A(hv:PE X (.Name x npos) (tVar i))(he:∀q,ra=some q->PE X e (dE X.D E δ q))(hs:i9 e=false)(hline:(apos.endLine==cpos.line)=true)
  (h:(match δ[i]? with
   | some (.own (.lst ds))=>Re.thnS δ ra λd c=>if stro d c/\ds.length<mostLen then some (.nx (δ.set i (.own (.lst (ds++[d])))))else none
   | _=>none)=some o):PS X (.Expr (.Call (.Attribute (.Name x npos) "append" apos) [e] [] cpos) pos) (dS X.D E δ o):=by
 split at h
 ·rename_i ds hi;have C:=λt (hA:PE X e t)=>q7W (pos:=pos) (z9L w2Z PySem.F.slot_list_append PySem.F.type_list_append z1U hv (C2 hA L3 (o9 hs)) rfl (by rw[o9 hs];rfl) hline (o9 hs) rfl) rfl
  cases hra:ra with
  | none=>rw[hra]at h;cases h
  | some q=>
   rw[hra]at h;have A:=he q hra;cases q with
   | ex c=>
    cases h;exact(C _ A).weak λDn σ H ⟨H0,O,W,R,fr,fo,sm,k⟩=>by obtain⟨a,xs,ds0,e0,e1,e2,e3,e4⟩:=R.own i _ hi;exact⟨.ref a,e1,.inl ⟨rfl,xs,SqL.of e3⟩,O,W,R,W7 (Q:=λ_ _=>False) R fr sm k⟩
   | ok d cl=>
    have h':(if stro d cl/\ds.length<mostLen then some (Out.nx (δ.set i (.own (.lst (ds++[d])))))else none)=some o:=h;split at h'
    ·rename_i m;cases h';exact(C _ A).weak λDn σ H ⟨H0,O,W,R,fr,fo,sm,k⟩=>by obtain⟨a,xs,ds0,e0,e1,e2,e3,e4⟩:=R.own i _ hi;cases e0;refine⟨.ref a,e1,.inl ⟨rfl,xs,SqL.of e3⟩,O,W,R,λv H1 s1 g=>?_⟩;have R1:=R.mono s1;refine⟨a,xs,v,rfl,rfl,s1 _ _ e3,by rw[e4.length];exact p5 m.2 (by decide),?_⟩;exact k σ _ W (R1.write hi e1 ((e4.mono s1.wo).append (RepL.one (g.stro (R.hid.mono s1) m.1)))) fr (q9r (sm.trans s1) (fr a e2))
    ·cases h'
 ·cases h
theorem RSt.freeze(R:RSt D H σ δ O W)(hi:δ[i]? = some (.own d)):∃W',(∀a∈W',a∈W)/\RSt D H σ (δ.set i (.val d)) O W':=by
 obtain⟨a,xs,ds,e0,e1,e2,e3,e4⟩:=R.own i d hi;subst e0;have hl:i<δ.length:=(u9.mp hi).1;have sub:∀b∈O++W.filter (λb=>decide (b≠a)),b∈O++W:=λb hb=>by
  rcases C8.mp hb with z | z
  ·exact y0 _ z
  ·exact A8 _ (G8.mp z).1
 have hao:a∉O++W.filter (λb=>decide (b≠a)):=λz=>by
  rcases C8.mp z with z | z
  ·exact R.hid.dj a e2 z
  ·exact absurd rfl (w2K (G8.mp z).2)
 refine⟨W.filter λb=>decide (b≠a),λb hb=>(G8.mp hb).1,⟨λj d h=>?_,λj ds' h=>?_,λj k b d1 d2 h1 h2 q1 q2=>?_,?_,λj d h=>by
   have hj:=n0 h (by intro z;cases z);rw[d8 (Ne.symm hj)]at h;obtain⟨⟨p1,L,f0,f1,f2,f3⟩,u,n⟩:=R.o2 j d h;refine⟨⟨p1,L,f0,f1,f2.sub λb hb hbw=>G8.mpr ⟨hbw,r9 λz=>f3 i _ a hi e1 (by rw[←z];exact hb)⟩,λk d2 b q q2=>?_⟩,λk d2 q=>?_,λk d2 q=>?_⟩
   ·have hk:=n0 q (by intro z;cases z);rw[d8 (Ne.symm hk)]at q;exact f3 k d2 b q q2
   ·have hk:=n0 q (by intro z;cases z);rw[d8 (Ne.symm hk)]at q;exact u k d2 q
   ·have hk:=n0 q (by intro z;cases z);rw[d8 (Ne.symm hk)]at q;exact n k d2 q,R.od.step (z0H (by intro d z;cases z)) (λb hb ⟨kvs,h,m⟩=>G8.mpr ⟨hb,r9 λz=>by rw[z,e3]at h;cases h;cases m⟩) (λ_ _ _ h _=>h),by rw[A0];exact R.len,
  ⟨λb hb=>R.hid.ot b (sub b hb),Same.refl _,λb hb=>R.hid.wl b (G8.mp hb).1,λb hb=>R.hid.dj b (G8.mp hb).1,R.hid.om⟩⟩⟩
 ·by_cases hj:j=i
  ·subst hj;obtain⟨_,e⟩:=X0 h;cases e;exact⟨.ref a,e1,x3.mpr ⟨a,xs,rfl,by rw[f7 hao];exact e3,e4.mono (v6 sub)⟩⟩
  ·rw[d8 (Ne.symm hj)]at h;obtain⟨v,q1,q2⟩:=R.val j d h;exact⟨v,q1,q2.mono (v6 sub)⟩
 ·have hj:=n0 h (by intro z;cases z);rw[d8 (Ne.symm hj)]at h;obtain⟨b,ys,ds1,q0,q1,q2,q3,q4⟩:=R.own j ds' h;refine⟨b,ys,ds1,q0,q1,G8.mpr ⟨q2,r9 λz=>hj (R.inj j i a ds' _ h hi (by rw[←z];exact q1) e1)⟩,q3,q4.mono (v6 sub)⟩
 ·have n1:=n0 h1 (by intro z;cases z);have n2:=n0 h2 (by intro z;cases z);rw[d8 (Ne.symm n1)]at h1;rw[d8 (Ne.symm n2)]at h2;exact R.inj j k b d1 d2 h1 h2 q1 q2
 ·obtain⟨P,f,u⟩:=R.ot;refine⟨P,λj d h=>?_,λj k d1 d2 h1 h2=>?_⟩
  ·have hj:=n0 h (by intro z;cases z);rw[d8 (Ne.symm hj)]at h;obtain⟨t,ts,f1,f2,f3,f4⟩:=f j d h;refine⟨t,ts,f1,(v6 sub).tseq f2,f3.mono (v6 sub) λ_ _ _ q=>q,λp1 hp1=>⟨G8.mpr ⟨(f4 p1 hp1).1,r9 λz=>(f4 p1 hp1).2.2 i _ hi (by rw[z];exact e1)⟩,(f4 p1 hp1).2.1,λk d2 q=>?_⟩⟩;have hk:=n0 q (by intro z;cases z);rw[d8 (Ne.symm hk)]at q;exact(f4 p1 hp1).2.2 k d2 q
  ·rw[d8 (Ne.symm (n0 h1 (by intro z;cases z)))]at h1;rw[d8 (Ne.symm (n0 h2 (by intro z;cases z)))]at h2;exact u j k d1 d2 h1 h2
theorem q9K(hi:δ[i]? = some (.own d))(h:PSs X rest (dS X.D E (δ.set i (.val d)) o)):PSs X rest (dS X.D E δ o):=h.weak λDn σ H ⟨H0,O,W,R,fr,fo,sm,k⟩=>by
 obtain⟨W',hs,R'⟩:=R.freeze hi;exact⟨H0,O,W',R',λa ha=>fr a (hs a ha),fo,sm,k⟩
end
end
section
section
variable {X:Cx} {E:St->XK} {δ δ1:List Sv} {o:Out} {e c:Expr} {pos pos':Pos} {ra:Option Re} {i:Nat} {x:Str}
theorem Got.seq{D:Dm}{O W:List Addr}{H0 H:Hp}{d:DV}{ys:List DV}{b:Bool}{c:Cl}{v:V}(g:Got D O W H0 H d c v)(hd:Hid O W H0 H)(hc:c=.strong\/c=.fresh)(hk:Q0 d=some (b,ys)):∃a xs,v=.ref a/\(SqL D.K H a xs\/SqT D.K H a xs)/\RepL D (L2.wo (O++W) H) ys xs:=by
 have hw:c ≠ .weak:=by rcases hc with z | z<;>(rw[z];intro q;cases q)
 unfold Q0 at hk;split at hk
 ·cases hk;obtain⟨a,xs,e1,e2,e3⟩:=g.items hd hw;exact⟨a,xs,e1,.inl (SqL.of e2),e3⟩
 ·cases hk;obtain⟨a,xs,e1,e2,e3⟩:=g.itemsT hd hw;exact⟨a,xs,e1,.inr e2,e3⟩
 ·cases hk
theorem q7u(h:z6L v=true):swappedStores [.Tuple ts k p] v env=pure none:=by
 cases q:C9 v with
 | none=>cases v<;>first | rfl | cases q
 | some vs=>
  obtain⟨k2,p2,rfl⟩:=V7 q;have h':vs.all (foldedForSure 8)=true:=h;unfold swappedStores;simp only[h']
  repeat (first | rfl | split)
theorem z3Y(hg:PG X (.Tuple ts kk tp) (gSeq X.K is.length (q5J is)))(he:∀q,ra=some q->PE X e (dE X.D E δ q))(hc:Q7 e=false)(ht:z6L e=true)
  (h:(Re.thnS δ ra λd c=>if c=.strong\/c=.fresh then(match Q0 d with
   | some (_,ds)=>(N4 δ is ds).map Out.nx
   | none=>none)else none)=some o):PS X (.Assign [.Tuple ts kk tp] e pos) (dS X.D E δ o):=by
 have C:=λt (hA:PE X e t)=>z8G (pos:=pos) hA hg (by show swapsWith e (some (.Tuple ts kk tp)) pos.line X.env=pure false;exact q2W hc) (q7u ht) rfl;cases hra:ra with
 | none=>rw[hra]at h;cases h
 | some q=>
  rw[hra]at h;have A:=he q hra;cases q with
  | ex c=>
   cases h;exact(C _ A).weak λDn σ H ⟨H0,O,W,R,fr,fo,sm,k⟩=>⟨O,W,R,W7 (Q:=λx H1=>gSeq X.K is.length (q5J is) x σ H1 Dn.nx) R fr sm k⟩
  | ok d cl=>
   have h':(if cl=.strong\/cl=.fresh then(match Q0 d with
    | some (_,ds)=>(N4 δ is ds).map Out.nx
    | none=>none)else none)=some o:=h
   split at h'
   ·rename_i hcl;split at h'
    ·rename_i b ds hk;obtain⟨δ',q1,q2⟩:=j8.mp h';subst q2;exact(C _ A).weak λDn σ H ⟨H0,O,W,R,fr,fo,sm,k⟩=>⟨O,W,R,λv H1 s1 g=>by
      obtain⟨a2,xs2,f1,f2,f3⟩:=g.seq (R.hid.mono s1) hcl hk;exact⟨a2,xs2,f1,f2,by rw[f3.length,(q1P q1).1],q5e (R.mono s1) f3 q1 λσ' R'=>k σ' H1 W R' fr (sm.trans s1)⟩⟩
    ·cases h'
   ·cases h'
end
end
section
theorem PSs.any{X:Cx}{body:List Stmt}{ι:Sort _}{t:ι->TS}(h:∀k,PSs X body (t k)):PSs X body (λD σ H=>∃k,t k D σ H):=λpins s σ H D I ⟨k,q⟩=>h k pins s σ H D I q
theorem PT.any{X:Cx}{e:Expr}{ι:Sort _}{t:ι->TT}(h:∀k,PT X e (t k)):PT X e (λσ H Q=>∃k,t k σ H Q):=λpins s σ H Q I ⟨k,q⟩=>h k pins s σ H Q I q
structure Lp(H0 H1:Hp)(O W:List Addr):Prop where
 out:∀{H:Hp},Same (L2.wo W H1) H->Same H0 H
 outW:∀{a:Addr},L2.wo W H1 a=none->H0 a=none
 in1:∀a∈W,L2.wo W H1 a=none
 in2:∀a∈O,L2.wo W H1 a≠none
 wsame:∀{H:Hp},Same (L2.wo W H1) H->Same (L2.wo (O++W) H1) (L2.wo (O++W) H)
theorem Lp.mk'(fr:∀a∈W,H0 a=none)(fo:∀a∈O,H0 a≠none)(sm:Same H0 H1):Lp H0 H1 O W where
 out:=λ{H} s b u e=>s b u (by
  rw[f7 λz=>by rw[fr b z]at e;cases e];exact sm b u e)
 outW:=λ{a} q=>by
  by_cases z:a∈W
  ·exact fr a z
  ·rw[f7 z]at q;exact sm.free q
 in1:=λa ha=>q9I ha
 in2:=λa ha=>by rw[f7 λz=>fo a ha (fr a z)];intro q;exact fo a ha (sm.free q)
 wsame:=λ{H} s b u e=>by obtain⟨hb,e⟩:=x6 e;rw[f7 hb];exact s b u (by rw[f7 λz=>hb (A8 _ z)];exact e)
theorem Lp.gotR(L:Lp H0 H1 O W)(g:GotR D O (L2.wo W H1) H d fr v):GotR D O H0 H d fr v:=by
 cases fr with
 | false=>exact g
 | true=>
  obtain⟨p,xs,ds,e1,e2,e3,e4,e5⟩:=g;exact⟨p,xs,ds,e1,e2,L.outW e3,e4,e5⟩
theorem Lp.gotT(L:Lp H0 H1 O W)(g:GotT D O (L2.wo W H1) H d v):GotT D O H0 H d v:=by
 rcases g with⟨t,ts,p,xs,ds,es,e1,e2,e0,e3,e4,e5,e6⟩ | ⟨xs,e1,e2⟩ | g
 ·exact .inl ⟨t,ts,p,xs,ds,es,e1,e2,e0,L.outW e3,e4,e5,e6⟩
 ·exact .inr (.inl ⟨xs,e1,e2.since λa ha=>L.outW ha⟩)
 ·exact .inr (.inr (g.since λa ha=>L.outW ha))
section
variable {X:Cx} {E:St->XK} {δ:List Sv} {tgE iter c:Expr} {body:List Stmt} {o:Out} {pos:Pos} {tg:Tg} {ri:Option Ri} {evB:List Sv->Option Out} {evC:List Sv->Option Rt}
theorem z5k(hp:PassesOwn (model X.prog X.w) X.A X.env X.xe)(hc:X.calm=true)(hi:∀q,ri=some q->PI X tgE iter (dI X.D E δ q))(hG:PG X tgE (gT X.K tg))(hb:∀δ' o,evB δ'=some o->PSs X body (dS X.D E δ' o))(hset:D5 iter=false)
  (h:(Ri.thnS δ ri λds c=>if c=.strong\/c=.fresh then n8 tg evB ds δ else none)=some o):PS X (.For tgE iter body [] pos) (dS X.D E δ o):=by
 have B:PSs X body (λD σ H=>∃k:{p:List Sv×Out // evB p.1=some p.2},dS X.D E k.1.1 k.1.2 D σ H):=PSs.any λk=>hb k.1.1 k.1.2 k.2;cases hri:ri with
 | none=>rw[hri]at h;cases h
 | some q=>
  rw[hri]at h;have A:=hi q hri;cases q with
  | ex c=>cases h;exact(z4f hp hc A hG B (q6n hset)).weak λDn σ H ⟨H0,O,W,R,fr,fo,sm,k⟩=>⟨O,W,R,λH' C m s=>k σ H' W C m (R.mono s) fr (sm.trans s)⟩
  | ok ds c=>
   have h':(if c=.strong\/c=.fresh then n8 tg evB ds δ else none)=some o:=h;split at h'
   ·rename_i m;refine(z4f hp hc A hG B (q6n hset)).weak λDn σ H ⟨H0,O,W,R,fr,fo,sm,k⟩=>⟨O,W,R,λJ H1 s1 w=>?_⟩
    have R1:=R.mono s1;have L:=Lp.mk' fr fo (sm.trans s1);have w:Wk X.D J ds (O++W) (O++W) H1:=(by rcases m with m | m<;>subst m<;>exact w);refine⟨λi n σ H=>n=ds.length - i/\i<=ds.length/\∃δi W',n8 tg evB (ds.drop i) δi=some o/\RSt X.D H σ δi O W'/\(∀a∈W',L2.wo W H1 a=none)/\Same (L2.wo W H1) H,
     ⟨ds.length,rfl,G9 _,δ,W,h',R1,L.in1,q9⟩,?_⟩
    rintro i n σ2 H2 ⟨rfl,hi,δi,W2,hgo,R2,b1,b2⟩
    by_cases hlt:i<ds.length
    ·refine .inr ⟨w.go i H2 (L.wsame b2) hlt,λσ H=>∃δi W',n8 tg evB (ds.drop (i+1)) δi=some o/\RSt X.D H σ δi O W'/\(∀a∈W',L2.wo W H1 a=none)/\Same (L2.wo W H1) H,
      λσ' H' q=>⟨ds.length - (i+1),by omega,rfl,hlt,q⟩,λx H3 y=>?_⟩
     have y1:=w.same i H2 x H3 y;have y3:Rep X.D (L2.wo (O++W2) H3) ds[i] x:=w.yld i H2 x H3 _ (O++W2) (L.wsame b2) (L.wsame b2) y (x9 hlt) λa ha=>⟨R2.hid.ot a ha,by
      rcases C8.mp ha with z | z
      ·exact .inl (y0 _ z)
      ·have q:=b1 a z;by_cases hw:a∈W
       ·exact .inl (A8 _ hw)
       ·rw[f7 hw]at q;exact .inr q⟩
     rw[w1K hlt]at hgo;unfold n8 at hgo;split at hgo
     ·cases hgo
     ·rename_i δ1 hb1;refine q5h (R2.mono y1) y3 hb1 λσ3 R3=>?_
      split at hgo
      ·rename_i δ2 hev;exact⟨⟨⟨δ1,.nx δ2⟩,hev⟩,L2.wo W H1,O,W2,R3,b1,L.in2,b2.trans y1,λσ' H' W' R' fr' sm'=>⟨δ2,W',hgo,R',fr',sm'⟩⟩
      ·rename_i hne;refine⟨⟨⟨δ1,o⟩,hgo⟩,L2.wo W H1,O,W2,R3,b1,L.in2,b2.trans y1,?_⟩;cases o with
       | nx δ2=>exact absurd hgo (hne δ2)
       | rt d fr'=>exact λv H' s' g=>k v H' (L.out s') (L.gotR g)
       | rtt d=>exact λv H' s' g=>k v H' (L.out s') (L.gotT g)
       | ex c' δ'=>exact λσ' H' W' C m R' fr' sm'=>k σ' H' W' C m R' (λa ha=>L.outW (fr' a ha)) (L.out sm')
    ·have e:i=ds.length:=by omega
     subst e;rw[w2W]at hgo;cases hgo;exact .inl ⟨w.stop H2 (L.wsame b2),k σ2 H2 W2 R2 (λa ha=>L.outW (b1 a ha)) (L.out b2)⟩
   ·cases h'
theorem z1l(hp:PassesOwn (model X.prog X.w) X.A X.env X.xe)(hc:∀δ' r,evC δ'=some r->PT X c (dT X.D E δ' r))(hb:∀δ' o,evB δ'=some o->PSs X body (dS X.D E δ' o))(h:Z4 evC evB n δ=some o):PS X (.While c body [] pos) (dS X.D E δ o):=by
 have B:PSs X body (λD σ H=>∃k:{p:List Sv×Out // evB p.1=some p.2},dS X.D E k.1.1 k.1.2 D σ H):=PSs.any λk=>hb k.1.1 k.1.2 k.2;have T:PT X c (λσ H Q=>∃k:{p:List Sv×Rt // evC p.1=some p.2},dT X.D E k.1.1 k.1.2 σ H Q):=PT.any λk=>hc k.1.1 k.1.2 k.2;refine(z3L hp T B).weak λDn σ H ⟨H0,O,W,R,fr,fo,sm,k⟩=>?_;have L:=Lp.mk' fr fo sm;refine⟨λm σ H2=>∃δi W',Z4 evC evB m δi=some o/\RSt X.D H2 σ δi O W'/\(∀a∈W',L2.wo W H a=none)/\Same (L2.wo W H) H2,⟨n,δ,W,h,R,L.in1,q9⟩,?_⟩
 rintro m σ2 H2 ⟨δi,W2,hgo,R2,b1,b2⟩
 cases m with
 | zero=>cases hgo
 | succ m=>
  unfold Z4 at hgo;split at hgo
  ·cases hgo
  ·rename_i c' hev;cases hgo;exact⟨⟨⟨δi,.ex c'⟩,hev⟩,O,W2,R2,λH' C m s=>k σ2 H' W2 C m (R2.mono s) (λa ha=>L.outW (b1 a ha)) (L.out (b2.trans s))⟩
  ·rename_i hev;cases hgo;refine⟨⟨⟨δi,.ok false⟩,hev⟩,O,W2,R2,λH' s=>iteF ?_⟩;exact k σ2 H' W2 (R2.mono s) (λa ha=>L.outW (b1 a ha)) (L.out (b2.trans s))
  ·rename_i hev;refine⟨⟨⟨δi,.ok true⟩,hev⟩,O,W2,R2,λH' s=>iteT ?_⟩;refine⟨λσ H2=>∃δi W',Z4 evC evB m δi=some o/\RSt X.D H2 σ δi O W'/\(∀a∈W',L2.wo W H a=none)/\Same (L2.wo W H) H2,λσ' H' q=>⟨m,Nat.lt_succ_self m,q⟩,?_⟩;split at hgo
   ·rename_i δ2 hev2;exact⟨⟨⟨δi,.nx δ2⟩,hev2⟩,L2.wo W H,O,W2,R2.mono s,b1,L.in2,b2.trans s,λσ' H' W' R' fr' sm'=>⟨δ2,W',hgo,R',fr',sm'⟩⟩
   ·rename_i hne;refine⟨⟨⟨δi,o⟩,hgo⟩,L2.wo W H,O,W2,R2.mono s,b1,L.in2,b2.trans s,?_⟩;cases o with
    | nx δ2=>exact absurd hgo (hne δ2)
    | rt d fr'=>exact λv H' s' g=>k v H' (L.out s') (L.gotR g)
    | rtt d=>exact λv H' s' g=>k v H' (L.out s') (L.gotT g)
    | ex c' δ'=>exact λσ' H' W' C m R' fr' sm'=>k σ' H' W' C m R' (λa ha=>L.outW (fr' a ha)) (L.out sm')
end
end
section
section
variable {X:Cx} {CX:CXT} {k:Nat} {f:Addr} {fd:FuncData} {ps ks:List Str} {sp:Sp} {E:St->XK} {x:Str} {p pos:Pos} {e:Expr} {es:List Expr} {kws:List Keyword} {t tk:TA} {g:List Value->List Value->List Value} {gV:List V->List V->List V}
end
section
variable {X:Cx} {E:St->XK} {δ:List Sv} {re:Re} {rs:Option Rs}
end
section
variable {X:Cx} {E:St->XK} {δ:List Sv} {e:Expr} {es:List Expr} {pos p:Pos} {re:Re} {rs rs':Option Rs} {k:Nat} {fa:Addr} {fd:FuncData} {ps:List Str} {x:Str}
def J3{α:Type}(m n:Nat)(us ws:List α):List α:=if us.length+m=n/\ws.length=m then us++ws else[]
end
end
section
def z8g(K:PySem.W.Frag)(C:Addr):Prop:=∃B newId initId bmB,ExcBaseFacts B newId initId bmB/\PySem.W.excIn K C bmB newId=true
structure XOne(K:PySem.W.Frag)(mg:Str->Option Value)(G:Gs)(cl:List Str)(c:Str)(C:Addr):Prop where
 mc:mg c=some (.ref C)
 ck:ClsK K C
 rk:z8g K C
 own:∀t∈cl,∀Ct,mg t=some (.ref Ct)->PySem.W.kitOne K (.ref C) (.ref Ct)=some (F1 G c t)/\PySem.W.exmOne K (.ref C) (.ref Ct)=some (F1 G c t)
 blt:PySem.W.kitOne K (.ref C) (.type "ValueError")=some (F1 G c "ValueError")
structure XFacts(K:PySem.W.Frag)(mg:Str->Option Value)(G:Gs)(cl:List Str):Prop where
 one:∀c,(G.cls.lookup c).isSome=true->∃C,XOne K mg G cl c C
 all:∀t∈cl,∃Ct,mg t=some (.ref Ct)
section
variable {X:Cx} {E:St->XK} {δ:List Sv} {e:Expr} {pos p p':Pos} {re:Re} {ra:Option Re} {G:Gs} {cl:List Str} {t:Str} {o:Out}
def rIsx(X:Cx):List V->Hp->VK->Prop:=λxs H Q=>∃(a C:Addr) (y:V) (c:Value) (b:Bool),xs=[.ref a,y]/\H a=some (excO a (.ref C))/\ClsK X.K C/\((∃Ct,y=.ref Ct/\c=.ref Ct)\/∃n,y=.ty n/\c=.type n)/\PySem.W.kitOne X.K (.ref C) c=some b/\Q (.bl b) H
theorem z3I:w9 X (.builtin "isinstance") (rIsx X):=by
 intro pins s σ H xs us Q I r h;obtain⟨a,C,y,c,b,rfl,ea,ck,hy,hk,q⟩:=h;obtain⟨u,w',rfl,ru,rw'⟩:=z2j r;cases(show u=Value.ref a from ru);obtain⟨⟨oe,vs,h1,h2,_⟩,_⟩:=(show x5 X.prog X.w H s.heap a (excO a (.ref C))from I.hok a _ ea);have hw:w'=c:=by
  rcases hy with⟨Ct,rfl,rfl⟩ | ⟨n,rfl,rfl⟩
  ·exact rw'
  ·exact rw'
 subst hw;exact z5x ck I.kIn ⟨oe,h1,h2⟩ hk λtk=>⟨.bl b,H,I.tok tk,rfl,q⟩
theorem q5j:bootBuiltins "ValueError" = some (.type "ValueError"):=by decide +kernel
theorem z5g(F:XFacts X.K X.mg G cl)(hg:Gl X "isinstance")(hm:X.mg "isinstance" = none)(hgt:Gl X t)(ht:(t∈cl/\(t==("__debug__" : Str))=false)\/(X.mg t=none/\t = "ValueError"))
  (ha:∀q,ra=some q->PE X e (dE X.D E δ q)) (hs:i9 e=false) (h:(Re.thn ra λy _=>(isxD G y t).map λk=>.ok (.bl k) .strong)=some re):PE X (.Call (.Name "isinstance" p) [e,.Name t p'] [] pos) (dE X.D E δ re):=by
 have T:∃(v:V) (c:Value),PE X (.Name t p') (tC v)/\((∃Ct,v=.ref Ct/\c=.ref Ct)\/∃n,v=.ty n/\c=.type n)/\∀c' C,XOne X.K X.mg G cl c' C->PySem.W.kitOne X.K (.ref C) c=some (F1 G c' t):=by
  rcases ht with⟨h1,h2⟩ | ⟨h1,h2⟩
  ·obtain⟨Ct,hC⟩:=F.all t h1;exact⟨.ref Ct,.ref Ct,z0t hgt hC rfl h2,.inl ⟨Ct,rfl,rfl⟩,λc' C x=>(x.own t h1 Ct hC).1⟩
  ·subst h2;exact⟨.ty "ValueError",.type "ValueError",q6p hgt h1 q5j rfl (by decide +kernel) (by decide +kernel),.inr ⟨_,rfl,rfl⟩,λc' C x=>x.blt⟩
 obtain⟨v,c,T,hv,hk⟩:=T;have C:=λta (hA:PE X e ta)=>q4n (p:=p) (pos:=pos) z3I hg hm w26 (C2 hA (C2 T L3) (o9 hs)) (by decide) (by decide) (o9 hs)
 cases hra:ra with
 | none=>rw[hra]at h;cases h
 | some q=>
  rw[hra]at h;have A:=ha q hra;cases q with
  | ex c=>cases h;exact(C _ A).weak λσ H Q ⟨O,W,R,p⟩=>⟨O,W,R,p⟩
  | ok d dc=>
   obtain⟨k,e1,e2⟩:=j8.mp (show((isxD G d t).map λk=>Re.ok (.bl k) .strong)=some re from h);cases e2;unfold isxD at e1;split at e1
   ·rename_i c';split at e1
    ·rename_i hc;cases e1;obtain⟨C0,x⟩:=F.one c' hc;refine(C _ A).weak λσ H Q ⟨O,W,R,p⟩=>⟨O,W,R,λv1 H1 s1 g1=>?_⟩
     obtain⟨a,C1,z1,z2,z3⟩:=q8e.mp (g1.all (R.hid.mono s1));rw[show C1=Value.ref C0 from x4 (z2.symm.trans x.mc)]at z3;exact⟨a,C0,v,c,_,by rw[z1],z3,x.ck,hv,hk c' C0 x,p _ H1 s1 K2⟩
    ·cases e1
   ·cases e1
theorem z0r(F:XFacts X.K X.mg G cl)(hc:X.calm=true)(hg:Gl X c)(hd:(c==("__debug__" : Str))=false)(hR:q4y X E)(ha:∀q,ra=some q->PE X e (dE X.D E δ q))(hs:i9 e=false)
  (h:(if(G.cls.lookup c).isSome then Re.thnS δ ra λ_ _=>some (.ex c δ)else none)=some o):PS X (.Raise (some (.Call (.Name c np) [e] [] cpos)) none pos) (dS X.D E δ o):=by
 split at h
 ·rename_i hc';obtain⟨C,x⟩:=F.one c hc';obtain⟨B,newId,initId,bmB,FB,hx⟩:=x.rk;cases hra:ra with
  | none=>rw[hra]at h;cases h
  | some q=>
   rw[hra]at h;have A:=ha q hra;have P:=z2Z (np:=np) (cpos:=cpos) (pos:=pos) FB hc hg x.mc hx hR (C2 A L3 (o9 hs)) hd (o9 hs) rfl;cases q with
   | ex c2=>cases h;exact P.weak λDn σ H ⟨H0,O,W,R,fr,fo,sm,k⟩=>⟨O,W,R,W7 R fr sm k⟩
   | ok d dc=>cases h;exact P.weak λDn σ H ⟨H0,O,W,R,fr,fo,sm,k⟩=>⟨O,W,R,λv H1 s1 g=>⟨by show 1<=sizeLine;decide,k σ H1 W _ x.mc (R.mono s1) fr (sm.trans s1)⟩⟩
 ·cases h
theorem RSt.unset(R:RSt D H σ δ O W)(i:Nat):RSt D H (σ.set i none) (δ.set i .no) O W where
 val:=λj d h=>by
  by_cases hj:j=i
  ·subst hj;have hl:j<δ.length:=by
    have:=(u9.mp h).1;rw[A0]at this;exact this
   rw[C7 hl]at h;cases h
  ·rw[d8 (Ne.symm hj)]at h ⊢;exact R.val j d h
 own:=λj d h=>by
  by_cases hj:j=i
  ·subst hj;have hl:j<δ.length:=by
    have:=(u9.mp h).1;rw[A0]at this;exact this
   rw[C7 hl]at h;cases h
  ·rw[d8 (Ne.symm hj)]at h ⊢;exact R.own j d h
 inj:=λj k a d d' h1 h2 h3 h4=>by
  have ne:∀(j:Nat) d,(δ.set i .no)[j]? = some (.own d)->j≠i:=λj d h z=>by
   subst z;have hl:j<δ.length:=by have:=(u9.mp h).1;rw[A0]at this;exact this
   rw[C7 hl]at h;cases h
  have nj:=ne j d h1;have nk:=ne k d' h2;rw[d8 (Ne.symm nj)]at h1 h3;rw[d8 (Ne.symm nk)]at h2 h4;exact R.inj j k a d d' h1 h2 h3 h4
 ot:=by
  obtain⟨P,f,u⟩:=R.ot;refine⟨P,λj d h=>?_,λj k d1 d2 h1 h2=>?_⟩
  ·have nj:=n0 h (by intro z;cases z);rw[d8 (Ne.symm nj)]at h ⊢;obtain⟨t,ts,e1,e2,e3,e4⟩:=f j d h;refine⟨t,ts,e1,e2,e3,λp hp=>⟨(e4 p hp).1,(e4 p hp).2.1,λk d2 q=>?_⟩⟩;have nk:=n0 q (by intro z;cases z);rw[d8 (Ne.symm nk)]at q ⊢;exact(e4 p hp).2.2 k d2 q
  ·rw[d8 (Ne.symm (n0 h1 (by intro z;cases z)))]at h1;rw[d8 (Ne.symm (n0 h2 (by intro z;cases z)))]at h2;exact u j k d1 d2 h1 h2
 o2:=λj d h=>by
  have nj:=n0 h (by intro z;cases z);rw[d8 (Ne.symm nj)]at h ⊢;obtain⟨⟨p,L,e0,e1,e2,e3⟩,u,n⟩:=R.o2 j d h;refine⟨⟨p,L,e0,e1,e2,λk d2 a q q2=>?_⟩,λk d2 q=>?_,λk d2 q=>?_⟩
  ·have nk:=n0 q (by intro z;cases z);rw[d8 (Ne.symm nk)]at q q2;exact e3 k d2 a q q2
  ·have nk:=n0 q (by intro z;cases z);rw[d8 (Ne.symm nk)]at q;exact u k d2 q
  ·have nk:=n0 q (by intro z;cases z);rw[d8 (Ne.symm nk)]at q;exact n k d2 q
 od:=R.od.step (q7t _ (by intro d z;cases z)) (λ_ h _=>h) (λ_ _ _ h _=>h)
 len:=by rw[A0,A0];exact R.len
 hid:=R.hid
theorem z6R(F:XFacts X.K X.mg G cl)(hst:X.stack=X.env::X.outer)(hfr:X.env.frame=some X.env.locals)(hex:X.ex=[])(hgl:Gl X c)(hc:c∈cl)(hd:(c==("__debug__" : Str))=false)(hN:X.N.Nodup)(hi:X.N[ie]? = some n)(hl:X.env.scope.names.lookup n=some .local)
  (hn1:(n==("__debug__" : Str))=false) (hn2:(n==("__classdict__" : Str))=false) (hi2:X.N[ic]? = some x) (hx:Loc X.env.scope x) (hf:X.fn x=true\/X.env.scope.names.lookup x=some .local)
  (hb:∀pins (E':St->Value->Hp->Prop) q,ob=some q->PSs (X.tryIn pins E') body (dS X.D (λσ C _ H=>E' σ C H) δ q))
  (h:tryD G c ie ic ob=some o) :
  PS X (.Try body [.ExceptHandler (some (.Name c np)) (some n) [.Assign [.Name x tp] (.Name n vp) ap] hpos] [] [] pos) (dS X.D E δ o):=by
 obtain⟨Ct,hCt⟩:=F.all c hc;cases hob:ob with
 | none=>rw[hob]at h;cases h
 | some q=>
  rw[hob]at h;have S:∀ea,PSs (X.inExc ea) [.Assign [.Name x tp] (.Name n vp) ap] (tAsg (tVar ie) (Y8 ic)):=λea=>z7o (z0q (X:=X.inExc ea) hN hi2 hx (Y7 (X:=X.inExc ea) hi (.inl hl) hn1 hn2) rfl hf)
  refine(z8T (i:=ie) (cv:=.ref Ct) (tb:=λE'=>dS X.D (λσ C _ H=>E' σ C H) δ q) hst hfr hex hgl hCt hN hi hl (λpins E'=>hb pins E' q hob) S hd).weak λDn σ H ⟨H0,O,W,R,fr,fo,sm,k⟩=>⟨H0,O,W,R,fr,fo,sm,?_⟩;cases q with
  | nx δ'=>cases h;exact k
  | rt d f=>cases h;exact k
  | rtt d=>cases h;exact k
  | ex c' δ'=>
   have h':(if(G.cls.lookup c').isSome/\F1 G c' c/\ie<δ'.length/\ie≠ic then some (Out.nx ((δ'.set ic (.val (.exc c'))).set ie .no))else none)=some o:=h;split at h'
   ·rename_i hh;cases h';obtain⟨hh1,hh2,hh3,hh4⟩:=hh;obtain⟨C0,xo⟩:=F.one c' hh1;intro σ' H' W' C hm R' fr' sm';rw[show C=Value.ref C0 from x4 (hm.symm.trans xo.mc)];refine⟨by rw[(xo.own c hc Ct hCt).2,hh2],λea hea=>?_⟩;have hout:ea∉O++W':=R'.hid.newOut hea;have R1:=R'.mono (v7 (o:=excO ea (.ref C0)) hea);have rp:Rep X.D (L2.wo (O++W') (upd H' ea (excO ea (.ref C0)))) (.exc c') (.ref ea):=q8e.mpr ⟨ea,_,rfl,xo.mc,by rw[f7 hout];exact E2⟩;refine⟨.ref ea,C7 (by rw[R'.len];exact hh3),?_⟩;refine k _ _ W' ?_ fr' (sm'.trans (v7 hea));have R2:=((R1.setVal rp ie).setVal rp ic).unset ie;rw[show((δ'.set ie (Sv.val (.exc c'))).set ic (Sv.val (.exc c'))).set ie Sv.no=(δ'.set ic (Sv.val (.exc c'))).set ie Sv.no by rw[List.set_comm _ _ hh4,List.set_set]]at R2;exact R2
   ·cases h'
theorem z2M(F:XFacts X.K X.mg G cl)(hst:X.stack=X.env::X.outer)(hfr:X.env.frame=some X.env.locals)(hex:X.ex=[])(hR:q7k X E)(hgl:Gl X c)(hc:c∈cl)(hd:(c==("__debug__" : Str))=false)(hgr:Gl X cr)(hdr:(cr==("__debug__" : Str))=false)
  (hb:∀pins (E':St->Value->Hp->Prop) q,ob=some q->PSs (X.tryIn pins E') body (dS X.D (λσ C _ H=>E' σ C H) δ q))
  (hcr:∀c' δ',ob=some (.ex c' δ')->(G.cls.lookup cr).isSome=true)
  (hnb:(G.cls.lookup cr).isSome=true)
  (h:z7v G c cr ob=some o) :
  PS X (.Try body [.ExceptHandler (some (.Name c np)) none [.Raise (some (.Call (.Name cr np') [.Constant (.str msg) j2 mp] [] cpos)) (some (.Constant .none j cp)) rpos] hpos] [] [] pos) (dS X.D E δ o):=by
 obtain⟨Ct,hCt⟩:=F.all c hc;obtain⟨Cr,xr⟩:=F.one cr hnb;obtain⟨B,newId,initId,bmB,FB,hx⟩:=xr.rk;cases hob:ob with
 | none=>rw[hob]at h;cases h
 | some q=>
  rw[hob]at h;refine(z6o (cv:=.ref Ct) (tb:=λE'=>dS X.D (λσ C _ H=>E' σ C H) δ q) hst hfr hex hgl hCt FB hgr xr.mc hx hR (λpins E'=>hb pins E' q hob) hd hdr).weak λDn σ H ⟨H0,O,W,R,fr,fo,sm,k⟩=>⟨H0,O,W,R,fr,fo,sm,?_⟩
  cases q with
  | nx δ'=>cases h;exact k
  | rt d f=>cases h;exact k
  | rtt d=>cases h;exact k
  | ex c' δ'=>
   have h':(if(G.cls.lookup c').isSome/\(G.cls.lookup cr).isSome then some (Out.ex (if F1 G c' c then cr else c') δ')else none)=some o:=h;split at h'
   ·rename_i hh;cases h';obtain⟨C0,xo⟩:=F.one c' hh.1;intro σ' H' W' C hm R' fr' sm';have eC:C=Value.ref C0:=x4 (hm.symm.trans xo.mc);rw[eC];refine⟨F1 G c' c,(xo.own c hc Ct hCt).2,?_⟩;cases hca:F1 G c' c with
    | true=>rw[hca]at k;exact k σ' H' W' _ xr.mc R' fr' sm'
    | false=>rw[hca]at k;exact k σ' H' W' _ xo.mc R' fr' sm'
   ·cases h'
end
end
section
def KvIs(r:Option DV)(u:Option Value):Prop:=match r with
 | none=>u=none
 | some d=>∃z v,u=some z/\RelV v z/\∀D H,Rep D H d v
def q9D(K:PySem.W.Frag)(w:World)(mg:Str->Option Value)(x:Str)(kvs:List (Str×Option DV)):Prop:=
 ∃a es n,mg x=some (.ref a)/\K.lookup a=some ⟨.type "dict",none,.dict es n,#[]⟩/\PySem.W.KeysLit w.params es.toList/\(a==sysModules)=false/\∀k r,kvs.lookup k=some r->∃u,PySem.W.nsIn K a k=some u/\KvIs r u
def DK(K:PySem.W.Frag)(D:Dm)(G:Gs)(f:Nat)(fd:FuncData)(ps:List Str):Prop:=
 (∀ds,G.dfl.lookup f=some ds->∃us dvs,C3 K fd ps us/\Vals dvs us/\∀H,RepL D H ds dvs)/\∀n,G.kws.lookup f=some n->KBinds K fd ps n (J3 n.length ps.length) (J3 n.length ps.length)
structure Good(sg:Sg)(G:Gs)(F:Nat->List DV->Option Ou)(X:Cx)(E:St->XK):Prop where
 N:X.N=sg.N
 nd:X.N.Nodup
 vis:∀x,visB sg x=true->Vis X.env.scope x
 glo:∀x,gloB sg x=true->Gl X x
 loc:∀x,locB sg x=true->Loc X.env.scope x/\(X.fn x=true\/X.env.scope.names.lookup x=some .local)
 lcl:∀x,sg.sc.lookup x=some .local->X.env.scope.names.lookup x=some .local
 cel:∀x,(sg.sc.lookup x=some .cell\/sg.sc.lookup x=some .free)->X.env.scope.names.lookup x=some .cell\/X.env.scope.names.lookup x=some .free
 calm:X.calm=true
 hu:X.A.units+64<cLine
 fns:∀f x,sg.fn[f]? = some x->∃k fa fd ps,Room k X.A/\X.mg x=some (.ref fa)/\PySem.W.keepIn X.K (.ref fa)=true/\C3 X.K fd ps []/\(∀ds o,F f ds=some o->ds.length=ps.length) /\
  FnOk X.prog X.w X.K X.mg X.base (CXx X.prog X.w X.base) k fa fd ps (spF X.D ps.length (F f))/\DK X.K X.D G f fd ps
 blt:∀x∈sg.bl,X.mg x=none
 pas:P7 (CXx X.prog X.w X.base) X E
 con:∀x d,G.con.lookup x=some d->∃u v,X.mg x=some u/\RelV v u/\∀H,Rep X.D H d v
 own:sg.lp=true->PassesOwn (model X.prog X.w) X.A X.env X.xe
 xf:XFacts X.K X.mg G sg.cl
 st:sg.top=true->X.stack=X.env::X.outer/\X.env.frame=some X.env.locals/\X.ex=[]/\q4y X E/\q7k X E
 dcs:∀x kvs,G.dcs.lookup x=some kvs->q9D X.K X.w X.mg x kvs
 hun:G.hun=true->∃k fa fd ps hf,Room k X.A/\X.mg E5=some (.ref fa)/\PySem.W.keepIn X.K (.ref fa)=true/\C3 X.K fd ps []/\(∀d l,F A9 [d,.lst l]=(hf d l).map λr=>.v r.1 false)/\FnOk X.prog X.w X.K X.mg X.base (CXx X.prog X.w X.base) k fa fd ps (spH X.D hf)
 lms:G.fnl.isEmpty=false->(G.fnl=sg.fn/\G.bll=sg.bl/\G.cll=sg.cl)/\(∃k,Room k X.A/\z0p X.prog X.w X.K X.mg X.base sg.fn sg.bl sg.cl k (F u6))/\(sg.top=true->∃c P,X.env.code=.ref c/\(∀h:Heap,X.K.In h->PySem.W.CodeHd h c P)/\(P,X.env.qual ++ "<lambda>")∈u0 X.K)
theorem X1:∀{l:List Str},N7 l=true->l.Nodup
 | [],_=>List.nodup_nil
 | x::r,h=>by unfold N7 at h;rw[b8]at h;refine M9.mpr ⟨λz=>?_,X1 h.2⟩;have:=h.1;rw[E8.mpr z]at this;cases this
section
variable {sg:Sg} {G:Gs} {F:Nat->List DV->Option Ou} {X:Cx} {E:St->XK} {tg:Tg} {sc:Scope} {N':List Str} {fr:List (Option Nat)}
theorem X2(g:Good sg G F X E)(h:L7 sg N' fr sc tg=true):CompScope X.N N' sc X.env.scope fr/\(∀(j k i:Nat),fr[j]? = some (some i)->fr[k]? = some (some i)->j=k)/\∀i∈N8 tg,fr[i]? = some none:=by
 unfold L7 at h;simp only[b8,o7,d5]at h;obtain⟨⟨⟨⟨⟨⟨h0,h1⟩,h2⟩,h3⟩,h4⟩,h5⟩,h6⟩:=h;have h5':∀(j i:Nat),fr[j]? = some (some i)->∃x,N'[j]? = some x/\sg.N[i]? = some x/\(x,NameKind.free)∈sc.names:=λj i e=>by
  have hj:j<fr.length:=(u9.mp e).1;have hj':j<N'.length:=by rw[←h4];exact hj
  have hz:(some i,N'[j])∈fr.zip N':=(by refine O9 (i:=j) ?_;rw[w16];exact⟨e,x9 hj'⟩);have q:=h5 _ hz;simp only[b8,d5,E8]at q;exact⟨_,x9 hj',q.1,q.2⟩
 refine⟨⟨h1,X1 h2,X1 h3,h4,λj i e=>?_,λy hy hk=>?_⟩,λj k i e1 e2=>?_,h0⟩
 ·obtain⟨x,a,b,c⟩:=h5' j i e;exact⟨x,a,by rw[g.N];exact b,c⟩
 ·have q:=h6 y hy;rw[d4 hk]at q;simp only[B2,d5]at q;exact g.cel _ q
 ·obtain⟨x,a,b,_⟩:=h5' j i e1;obtain⟨x',a',b',_⟩:=h5' k i e2;rw[b]at b';cases b';exact q4s (X1 h2) a a'
theorem q6J(g:Good sg G F X E)(h:L7 sg N' fr sc tg=true)(C:Addr)(cells:List (Str×Addr))(s₂:Shared)(H₂:Hp)(fp:List Addr)(x1:XK)(hp:∀σ C o H,E' σ C o H->x1 C o H):Good ⟨N',sc.names,sg.fn,sg.bl,sg.cl,false,false⟩ G F (m9 X sc N' C cells s₂ H₂ fp x1) E':=by
 obtain⟨S,_,_⟩:=X2 g h;have look:∀x,(m9 X sc N' C cells s₂ H₂ fp x1).env.scope.names.lookup x=(sc.names.lookup x).map λk=>if(k==NameKind.free&&X.env.scope.kind == .function&&X.env.kindOf x==some .cell)=true then NameKind.cell else k:=λx=>q2i
 have one:∀x k,sc.names.lookup x=some k->k ≠ .free->(m9 X sc N' C cells s₂ H₂ fp x1).env.scope.names.lookup x=some k:=λx k e hk=>by rw[look,e,w15,d6];intro z;simp only[b8,d5]at z;exact hk z.1.1
 have two:∀x,sc.names.lookup x=some .free->(m9 X sc N' C cells s₂ H₂ fp x1).env.scope.names.lookup x=some .cell\/(m9 X sc N' C cells s₂ H₂ fp x1).env.scope.names.lookup x=some .free:=λx e=>by
  rw[look,e,w15];split
  ·exact .inl rfl
  ·exact .inr rfl
 refine⟨rfl,S.nd,λx hx=>?_,λx hx=>?_,λx hx=>?_,λx hx=>one x _ hx (by intro z;cases z),λx hx=>?_,g.calm,g.hu,g.fns,g.blt,?_,g.con,(λz=>nomatch z),g.xf,(λz=>nomatch z),g.dcs,g.hun,λz=>⟨(g.lms z).1,(g.lms z).2.1,λw=>nomatch w⟩⟩
 ·unfold visB at hx;simp only[B2,d5]at hx;rcases hx with(hx | hx) | hx
  ·exact .inl (one x _ hx (by intro z;cases z))
  ·exact .inr (.inl (one x _ hx (by intro z;cases z)))
  ·exact .inr (two x hx)
 ·unfold gloB at hx;rw[d5]at hx;exact one x _ hx (by intro z;cases z)
 ·unfold locB at hx;simp only[B2,d5]at hx;rcases hx with hx | hx
  ·exact⟨.inl (one x _ hx (by intro z;cases z)),.inr (one x _ hx (by intro z;cases z))⟩
  ·exact⟨.inr (one x _ hx (by intro z;cases z)),.inl (by show(sc.names.lookup x==some .cell)=true;rw[hx];rfl)⟩
 ·rcases hx with hx | hx
  ·exact .inl (one x _ hx (by intro z;cases z))
  ·exact two x hx
 ·intro pins σ H s e s' I z;obtain⟨ea,Cc,H',B,e1,e2,e3,e4,e5,e6,q⟩:=z;exact⟨pins,σ,H,s,I.comp0,ea,Cc,H',B,e1,e2,e3,e4,e5,e6,hp _ _ _ _ q⟩
theorem R6(g:Good sg G F X E)(h:L7 sg N' fr sc tg=true)(C:Addr)(cells:List (Str×Addr))(s₂:Shared)(H₂:Hp)(fp:List Addr)(x1:XK):Good ⟨N',sc.names,sg.fn,sg.bl,sg.cl,false,false⟩ G F (m9 X sc N' C cells s₂ H₂ fp x1) E0s:=q6J g h C cells s₂ H₂ fp x1 λ_ _ _ _ z=>z.elim
theorem q8o(g:Good sg G F X E)(h:V8 sg i x=true):X.N[i]? = some x/\Vis X.env.scope x/\(x==("__debug__" : Str))=false/\(x==("__classdict__" : Str))=false:=by
 unfold V8 at h;simp only[b8,d5,N2,ne_eq]at h;obtain⟨⟨⟨h1,h2⟩,h3⟩,h4⟩:=h;exact⟨by rw[g.N];exact h1,g.vis x h2,y8.mpr h3,y8.mpr h4⟩
theorem q7A(g:Good sg G F X E)(h:bltB sg x f=true):(∃p,f=.Name x p)/\Gl X x/\X.mg x=none:=by
 unfold bltB at h;simp only[b8,d5,E8]at h;obtain⟨⟨h1,h2⟩,h3⟩:=h;exact⟨x0 h1,g.glo x h2,g.blt x h3⟩
theorem q8F(g:Good sg G F X E)(pins:List (Addr×Obj))(E':St->Value->Hp->Prop):Good ⟨sg.N,sg.sc,sg.fn,sg.bl,sg.cl,false,false⟩ G F (X.tryIn pins E') (λσ C _ H=>E' σ C H):=
 ⟨g.N,g.nd,g.vis,g.glo,g.loc,g.lcl,g.cel,g.calm,g.hu,g.fns,g.blt,q9N,g.con,(λz=>nomatch z),g.xf,(λz=>nomatch z),g.dcs,g.hun,λz=>⟨(g.lms z).1,(g.lms z).2.1,λw=>nomatch w⟩⟩
theorem q5c(g:Good sg G F X E):∀(is:List Nat) (es:List Expr),es.length=is.length->((is.zip es).all λp=>match p9 p.2 with | some x=>sg.N[p.1]? == some x&&locB sg x | none=>false)=true ->
  PGs X es (q5J is)/\(assignEach es X.env).length=is.length/\(assignEach es X.env).findIdx? (·.1)=none
 | [],[],_,_=>⟨z6I,rfl,rfl⟩
 | [],_::_,h,_=>by cases h
 | _::_,[],h,_=>by cases h
 | i::is,e::es,hl,h=>by
  rw[List.zip_cons_cons,N0,b8]at h;obtain⟨h1,h2⟩:=h;obtain⟨A,B,C⟩:=q5c g is es (by simpa using hl) h2;split at h1
  ·rename_i x q;obtain⟨p,rfl⟩:=x0 q;simp only[b8,d5]at h1;have l:=g.loc x h1.2;refine⟨z2D (z0M g.nd (by rw[g.N];exact h1.1) l.1 l.2) A rfl,?_,?_⟩
   ·show(assignEach es X.env).length+1=is.length+1;rw[B]
   ·show((false,assign (.Name x p) X.env)::assignEach es X.env).findIdx? (·.1)=none;rw[List.findIdx?_cons,C];rfl
  ·cases h1
theorem q9H(g:Good sg G F X E)(h:tgOk sg tg tgE=true):PG X tgE (gT X.K tg):=by
 cases tg with
 | one i=>
  unfold tgOk at h;dsimp only at h;split at h
  ·rename_i x q;obtain⟨p,rfl⟩:=x0 q;simp only[b8,d5]at h;have l:=g.loc x h.2;exact z0M g.nd (by rw[g.N];exact h.1) l.1 l.2
  ·cases h
 | many is=>
  unfold tgOk at h;dsimp only at h;split at h
  ·rename_i es q;obtain⟨k,p,rfl⟩:=V7 q;rw[b8,b8,d5]at h;obtain⟨A,B,C⟩:=q5c g is es h.1.1 h.2;exact z4m g.calm A B C
  ·cases h
end
section
variable (G:Gs) (F:Nat->List DV->Option Ou)
def SE(m:ME):Prop:=∀{sg:Sg} {X:Cx} {E:St->XK} {e:Expr} {δ:List Sv} {r:Re},Good sg G F X E->corE sg false m e=true->evE G F m δ=some r->PE X e (dE X.D E δ r)
def ST(m:ME):Prop:=∀{sg:Sg} {X:Cx} {E:St->XK} {e:Expr} {δ:List Sv} {r:Rt},Good sg G F X E->corE sg false m e=true->tstD (evE G F m δ)=some r->PT X e (dT X.D E δ r)
def SI(m:ME):Prop:=∀{sg:Sg} {X:Cx} {E:St->XK} {e tg:Expr} {δ:List Sv} {r:Ri},Good sg G F X E->corE sg true m e=true->(isZp m=true->(C9 tg).isSome=true)->t6 (evE G F m δ)=some r->PI X tg e (dI X.D E δ r)
def SEs(ms:List ME):Prop:=∀{sg:Sg} {X:Cx} {E:St->XK} {es:List Expr} {δ:List Sv} {r:Rs},Good sg G F X E->o5 sg ms es=true->evEs G F ms δ=some r->PA X es (dA X.D E δ r)
def SAnd(ms:List ME):Prop:=∀{sg:Sg} {X:Cx} {E:St->XK} {es:List Expr} {δ:List Sv} {pos:Pos},Good sg G F X E->o5 sg ms es=true ->
 (∀r,E4 G F ms δ=some r->PE X (.BoolOp .And es pos) (dE X.D E δ r))/\(∀r,tstD (E4 G F ms δ)=some r->PW X (.BoolOp .And es pos) (dT X.D E δ r))
def SOr(ms:List ME):Prop:=∀{sg:Sg} {X:Cx} {E:St->XK} {es:List Expr} {δ:List Sv} {pos:Pos},Good sg G F X E->o5 sg ms es=true ->
 (∀r,evOr G F ms δ=some r->PE X (.BoolOp .Or es pos) (dE X.D E δ r))/\(∀r,tstD (evOr G F ms δ)=some r->PW X (.BoolOp .Or es pos) (dT X.D E δ r))
def S1(m:ME):Prop:=SE G F m/\ST G F m/\SI G F m
end
section
variable {G:Gs} {F:Nat->List DV->Option Ou}
theorem S1.of(h:SE G F m)(hw:∀sg e,corE sg true m e=corE sg false m e)(ht:∀sg e env,corE sg false m e=true->∀whole,isTrue e env whole=(do let v ←whole;standAt e.pos;holding [v] (truthy v))):S1 G F m:=
 ⟨h,λ{sg X E e δ r} g hc q=>z0I (λz hz=>h g hc hz) (ht sg e X.env hc) q,λ{sg X E e tg δ r} g hc _ q=>q8J (λz hz=>h g (by rw[←hw];exact hc) hz) q⟩
theorem S1.of2(h:SE G F m)(ht:ST G F m)(hw:∀sg e,corE sg true m e=corE sg false m e):S1 G F m:=
 ⟨h,ht,λ{sg X E e tg δ r} g hc _ q=>q8J (λz hz=>h g (by rw[←hw];exact hc) hz) q⟩
end
end
section
def z8n:Expr->Bool
 | .UnaryOp .Not _ _=>false | .BoolOp _ _ _=>false | .IfExp _ _ _ _=>false | .Compare _ _ _ _=>false
 | _=>true
theorem u7(h:z8n e=true)(env:Env):∀whole,isTrue e env whole=(do let v ←whole;standAt e.pos;holding [v] (truthy v)):=by
 cases e with
 | UnaryOp o a p=>cases o<;>first | (intro _;rfl) | cases h
 | BoolOp _ _ _=>cases h
 | IfExp _ _ _ _=>cases h
 | Compare _ _ _ _=>cases h
 | _=>intro _;rfl
section
variable {G:Gs} {F:Nat->List DV->Option Ou} {a b c:ME}
theorem y0e:S1 G F (.var i):=by
 refine .of (λ{sg X E e δ r} g hc h=>?_) (λ_ _=>rfl) (λsg e env hc=>?_)
 ·unfold corE at hc;split at hc
  ·rename_i x q;obtain⟨p,rfl⟩:=x0 q;obtain⟨h1,h2,h3,h4⟩:=q8o g hc;exact z5y h1 h2 h3 h4 (by unfold evE at h;exact h)
  ·cases hc
 ·unfold corE at hc;split at hc
  ·rename_i x q;obtain⟨p,rfl⟩:=x0 q;exact u7 rfl env
  ·cases hc
theorem q6j(hm:∀sg w e,corE sg w m e=true->J1 e=some k)(he:∀δ,evE G F m δ=some (.ok d .strong))(hw:∀sg e,corE sg true m e=corE sg false m e)
  (hp:∀{X:Cx} {E:St->XK} {δ:List Sv} {j:Nat} {pos:Pos} sg e,corE sg false m e=true->PE X (.Constant k j pos) (dE X.D E δ (.ok d .strong))):S1 G F m:=by
 refine .of (λ{sg X E e δ r} g hc h=>?_) hw (λsg e env hc=>?_)
 ·obtain⟨j,p,rfl⟩:=V6 (hm sg false e hc);rw[he]at h;cases h;exact hp sg _ hc
 ·obtain⟨j,p,rfl⟩:=V6 (hm sg false e hc);exact u7 rfl env
theorem y1i:S1 G F (.int i):=q6j (λsg w e h=>by unfold corE at h;exact d5.mp h) (λδ=>by unfold evE;rfl) (λ_ _=>rfl) λ_ _ _=>z6B
theorem s_bl:S1 G F (.bl i):=q6j (λsg w e h=>by unfold corE at h;exact d5.mp h) (λδ=>by unfold evE;rfl) (λ_ _=>rfl) λ_ _ _=>z8A
theorem y1p:S1 G F .non:=q6j (λsg w e h=>by unfold corE at h;exact d5.mp h) (λδ=>by unfold evE;rfl) (λ_ _=>rfl) λ_ _ _=>z7q
theorem y1n:S1 G F (.str i):=q6j (λsg w e h=>by unfold corE at h;rw[b8]at h;exact d5.mp h.1) (λδ=>by unfold evE;rfl) (λ_ _=>rfl) λ_ _ h=>by
 unfold corE at h;rw[b8,U5]at h;exact z7h (m7 h.2 (by decide))
theorem y0c:S1 G F (.glb x):=by
 refine .of (λ{sg X E e δ r} g hc h=>?_) (λ_ _=>rfl) (λsg e env hc=>?_)
 ·unfold corE at hc;simp only[b8,d5,N2,ne_eq]at hc;obtain⟨p,rfl⟩:=x0 hc.1.1;unfold evE at h;obtain⟨d,h1,h2⟩:=j8.mp h;cases h2;obtain⟨u,v,m,rv,rp⟩:=g.con x d h1;exact(z0t (g.glo x hc.1.2) m rv (y8.mpr hc.2)).weak λσ H Q ⟨O,W,R,p⟩=>p v H (Same.refl H) (rp _)
 ·unfold corE at hc;simp only[b8,d5]at hc;obtain⟨p,rfl⟩:=x0 hc.1.1;exact u7 rfl env
theorem y0p(ha:S1 G F a)(hb:S1 G F b):S1 G F (.bin op a b):=by
 refine .of (λ{sg X E e δ r} g hc h=>?_) (λ_ _=>rfl) (λsg e env hc=>?_)
 ·unfold corE at hc;split at hc
  ·rename_i ea o eb q;obtain⟨p,rfl⟩:=q3I q;simp only[b8,d5]at hc;obtain⟨⟨h1,h2⟩,h3⟩:=hc;subst h1;unfold evE at h;exact z7u (λz hz=>ha.1 g h2 hz) (λz hz=>hb.1 g h3 hz) h
  ·cases hc
 ·unfold corE at hc;split at hc
  ·rename_i q;obtain⟨p,rfl⟩:=q3I q;exact u7 rfl env
  ·cases hc
theorem y1w(ha:S1 G F a):S1 G F (.neg a):=by
 refine .of (λ{sg X E e δ r} g hc h=>?_) (λ_ _=>rfl) (λsg e env hc=>?_)
 ·unfold corE at hc;split at hc
  ·rename_i o ea q;obtain⟨p,rfl⟩:=q6y q;simp only[b8,d5]at hc;obtain⟨h1,h2⟩:=hc;subst h1;unfold evE at h;exact z5h (λz hz=>ha.1 g h2 hz) h
  ·cases hc
 ·unfold corE at hc;split at hc
  ·rename_i q;obtain⟨p,rfl⟩:=q6y q;simp only[b8,d5]at hc;obtain⟨h1,h2⟩:=hc;subst h1;exact u7 rfl env
  ·cases hc
theorem y0n(ha:S1 G F a):S1 G F (.not a):=by
 refine .of2 (λ{sg X E e δ r} g hc h=>?_) (λ{sg X E e δ r} g hc h=>?_) (λ_ _=>rfl)
 ·unfold corE at hc;split at hc
  ·rename_i o ea q;obtain⟨p,rfl⟩:=q6y q;simp only[b8,d5]at hc;obtain⟨h1,h2⟩:=hc;subst h1;unfold evE at h;exact z6X (λz hz=>ha.1 g h2 hz) h
  ·cases hc
 ·unfold corE at hc;split at hc
  ·rename_i o ea q;obtain⟨p,rfl⟩:=q6y q;simp only[b8,d5]at hc;obtain⟨h1,h2⟩:=hc;subst h1;unfold evE at h;exact z3s (λz hz=>ha.2.1 g h2 hz) h
  ·cases hc
theorem y0S(ha:S1 G F a)(hb:S1 G F b):S1 G F (.cmp op a b):=by
 refine .of2 (λ{sg X E e δ r} g hc h=>?_) (λ{sg X E e δ r} g hc h=>?_) (λ_ _=>rfl)
 ·unfold corE at hc;split at hc
  ·rename_i ea o eb q;obtain⟨p,rfl⟩:=q4x q;simp only[b8,d5,p6]at hc;obtain⟨⟨⟨h1,h2⟩,h3⟩,h4⟩:=hc;subst h1;unfold evE at h;exact z5Y g.hu (λz hz=>ha.1 g h2 hz) (λz hz=>hb.1 g h3 hz) h4 h
  ·cases hc
 ·unfold corE at hc;split at hc
  ·rename_i ea o eb q;obtain⟨p,rfl⟩:=q4x q;simp only[b8,d5,p6]at hc;obtain⟨⟨⟨h1,h2⟩,h3⟩,h4⟩:=hc;subst h1;unfold evE at h;exact z3v g.hu (λz hz=>ha.1 g h2 hz) (λz hz=>hb.1 g h3 hz) h4 h
  ·cases hc
theorem z6c(ha:S1 G F a)(hb:S1 G F b)(hcc:S1 G F c):S1 G F (.chain op op' a b c):=by
 refine .of2 (λ{sg X E e δ r} g hc h=>?_) (λ{sg X E e δ r} g hc h=>?_) (λ_ _=>rfl)
 ·unfold corE at hc;split at hc
  ·rename_i ea o o' eb ec q;obtain⟨p,rfl⟩:=q4x q;simp only[b8,d5,p6]at hc;obtain⟨⟨⟨⟨⟨h1,h1'⟩,h2⟩,h3⟩,h4⟩,h5⟩:=hc;subst h1 h1';unfold evE at h;exact z1E g.hu (λz hz=>ha.1 g h2 hz) (λz hz=>hb.1 g h3 hz) (λz hz=>hcc.1 g h4 hz) h5 h
  ·cases hc
 ·unfold corE at hc;split at hc
  ·rename_i ea o o' eb ec q;obtain⟨p,rfl⟩:=q4x q;simp only[b8,d5,p6]at hc;obtain⟨⟨⟨⟨⟨h1,h1'⟩,h2⟩,h3⟩,h4⟩,h5⟩:=hc;subst h1 h1';unfold evE at h;exact z0a g.hu (λz hz=>ha.1 g h2 hz) (λz hz=>hb.1 g h3 hz) (λz hz=>hcc.1 g h4 hz) h5 h
  ·cases hc
theorem y0x(hcc:S1 G F c)(ha:S1 G F a)(hb:S1 G F b):S1 G F (.ite c a b):=by
 refine .of2 (λ{sg X E e δ r} g hc h=>?_) (λ{sg X E e δ r} g hc h=>?_) (λ_ _=>rfl)
 ·unfold corE at hc;split at hc
  ·rename_i ec ea eb q;obtain⟨p,rfl⟩:=z1Z q;simp only[b8]at hc;obtain⟨⟨h1,h2⟩,h3⟩:=hc;unfold evE at h;exact z6K (λz hz=>hcc.2.1 g h1 hz) (λz hz=>ha.1 g h2 hz) (λz hz=>hb.1 g h3 hz) h
  ·cases hc
 ·unfold corE at hc;split at hc
  ·rename_i ec ea eb q;obtain⟨p,rfl⟩:=z1Z q;simp only[b8]at hc;obtain⟨⟨h1,h2⟩,h3⟩:=hc;unfold evE at h;exact z2G (λz hz=>hcc.2.1 g h1 hz) (λz hz=>ha.2.1 g h2 hz) (λz hz=>hb.2.1 g h3 hz) h
  ·cases hc
theorem s_ix(ha:S1 G F a)(hb:S1 G F b):S1 G F (.ix a b):=by
 refine .of (λ{sg X E e δ r} g hc h=>?_) (λ_ _=>rfl) (λsg e env hc=>?_)
 ·unfold corE at hc;split at hc
  ·rename_i ea eb q;obtain⟨p,rfl⟩:=J2 q;simp only[b8,p6]at hc;obtain⟨⟨h1,h2⟩,h3⟩:=hc;unfold evE at h;exact z8m (λz hz=>ha.1 g h1 hz) (λz hz=>hb.1 g h2 hz) h3 h
  ·cases hc
 ·unfold corE at hc;split at hc
  ·rename_i q;obtain⟨p,rfl⟩:=J2 q;exact u7 rfl env
  ·cases hc
theorem s_sl(ha:S1 G F a)(hb:S1 G F b)(hcc:S1 G F c):S1 G F (.sl a b c):=by
 refine .of (λ{sg X E e δ r} g hc h=>?_) (λ_ _=>rfl) (λsg e env hc=>?_)
 ·unfold corE at hc;split at hc
  ·rename_i ea es q;obtain⟨p,rfl⟩:=J2 q;split at hc
   ·rename_i q2;obtain⟨p2,rfl⟩:=q2l q2;simp only[b8]at hc;obtain⟨⟨h1,h2⟩,h3⟩:=hc;unfold evE at h;exact z8I (λz hz=>ha.1 g h1 hz) (λz hz=>hb.1 g h2 hz) (λz hz=>hcc.1 g h3 hz) h
   ·cases hc
  ·cases hc
 ·unfold corE at hc;split at hc
  ·rename_i q;obtain⟨p,rfl⟩:=J2 q;exact u7 rfl env
  ·cases hc
theorem y0d(ha:S1 G F a)(hb:S1 G F b):S1 G F (.slf a b):=by
 refine .of (λ{sg X E e δ r} g hc h=>?_) (λ_ _=>rfl) (λsg e env hc=>?_)
 ·unfold corE at hc;split at hc
  ·rename_i ea es q;obtain⟨p,rfl⟩:=J2 q;split at hc
   ·rename_i q2;obtain⟨p2,rfl⟩:=q2l q2;simp only[b8]at hc;obtain⟨h1,h2⟩:=hc;unfold evE at h;exact z6S (λz hz=>ha.1 g h1 hz) (λz hz=>hb.1 g h2 hz) h
   ·cases hc
  ·cases hc
 ·unfold corE at hc;split at hc
  ·rename_i q;obtain⟨p,rfl⟩:=J2 q;exact u7 rfl env
  ·cases hc
theorem y1C(ha:S1 G F a)(hb:S1 G F b):S1 G F (.slt a b):=by
 refine .of (λ{sg X E e δ r} g hc h=>?_) (λ_ _=>rfl) (λsg e env hc=>?_)
 ·unfold corE at hc;split at hc
  ·rename_i ea es q;obtain⟨p,rfl⟩:=J2 q;split at hc
   ·rename_i q2;obtain⟨p2,rfl⟩:=q2l q2;simp only[b8]at hc;obtain⟨h1,h2⟩:=hc;unfold evE at h;exact z4U (λz hz=>ha.1 g h1 hz) (λz hz=>hb.1 g h2 hz) h
   ·cases hc
  ·cases hc
 ·unfold corE at hc;split at hc
  ·rename_i q;obtain⟨p,rfl⟩:=J2 q;exact u7 rfl env
  ·cases hc
theorem y0U(ha:S1 G F a)(hb:S1 G F b):S1 G F (.stf a b):=by
 refine .of (λ{sg X E e δ r} g hc h=>?_) (λ_ _=>rfl) (λsg e env hc=>?_)
 ·unfold corE at hc;split at hc
  ·rename_i ea es q;obtain⟨p,rfl⟩:=J2 q;split at hc
   ·rename_i q2;obtain⟨p2,rfl⟩:=q2l q2;simp only[b8]at hc;obtain⟨h1,h2⟩:=hc;unfold evE at h;exact z5s (λz hz=>ha.1 g h1 hz) (λz hz=>hb.1 g h2 hz) h
   ·cases hc
  ·cases hc
 ·unfold corE at hc;split at hc
  ·rename_i q;obtain⟨p,rfl⟩:=J2 q;exact u7 rfl env
  ·cases hc
theorem y0i(ha:S1 G F a)(hb:S1 G F b):S1 G F (.stt a b):=by
 refine .of (λ{sg X E e δ r} g hc h=>?_) (λ_ _=>rfl) (λsg e env hc=>?_)
 ·unfold corE at hc;split at hc
  ·rename_i ea es q;obtain⟨p,rfl⟩:=J2 q;split at hc
   ·rename_i q2;obtain⟨p2,rfl⟩:=q2l q2;simp only[b8]at hc;obtain⟨h1,h2⟩:=hc;unfold evE at h;exact z5B (λz hz=>ha.1 g h1 hz) (λz hz=>hb.1 g h2 hz) h
   ·cases hc
  ·cases hc
 ·unfold corE at hc;split at hc
  ·rename_i q;obtain⟨p,rfl⟩:=J2 q;exact u7 rfl env
  ·cases hc
theorem z7O(ha:S1 G F a)(hb:S1 G F b):S1 G F (.scat a b):=by
 refine .of (λ{sg X E e δ r} g hc h=>?_) (λ_ _=>rfl) (λsg e env hc=>?_)
 ·unfold corE at hc;split at hc
  ·rename_i ea o eb q;obtain⟨p,rfl⟩:=q3I q;simp only[b8,d5]at hc;obtain⟨⟨h1,h2⟩,h3⟩:=hc;subst h1;unfold evE at h;exact z2u (λz hz=>ha.1 g h2 hz) (λz hz=>hb.1 g h3 hz) h
  ·cases hc
 ·unfold corE at hc;split at hc
  ·rename_i q;obtain⟨p,rfl⟩:=q3I q;exact u7 rfl env
  ·cases hc
variable {ms:List ME}
theorem q5g:∀{sg:Sg} {ms:List ME} {es:List Expr},o5 sg ms es=true->es.any i9=false
 | _,[],[],_=>rfl
 | _,[],_::_,h=>by unfold o5 at h;cases h
 | _,_::_,[],h=>by unfold o5 at h;cases h
 | sg,m::ms,e::es,h=>by unfold o5 at h;simp only[b8,p6]at h;rw[N1,h.1.2,q5g h.2];rfl
theorem y0l(ha:SEs G F ms):S1 G F (.lst ms):=by
 refine .of (λ{sg X E e δ r} g hc h=>?_) (λ_ _=>rfl) (λsg e env hc=>?_)
 ·unfold corE at hc;split at hc
  ·rename_i es q;obtain⟨p,rfl⟩:=q7j q;unfold evE at h;exact z6h (λz hz=>ha g hc hz) h
  ·cases hc
 ·unfold corE at hc;split at hc
  ·rename_i q;obtain⟨p,rfl⟩:=q7j q;exact u7 rfl env
  ·cases hc
theorem y1B(ha:SEs G F ms):S1 G F (.tup ms):=by
 refine .of (λ{sg X E e δ r} g hc h=>?_) (λ_ _=>rfl) (λsg e env hc=>?_)
 ·unfold corE at hc;split at hc
  ·rename_i es q;obtain⟨k,p,rfl⟩:=V7 q;unfold evE at h;exact z6k (λz hz=>ha g hc hz) h
  ·cases hc
 ·unfold corE at hc;split at hc
  ·rename_i q;obtain⟨k,p,rfl⟩:=V7 q;exact u7 rfl env
  ·cases hc
theorem q2M(h:n<=mostLen):n<=sizeLine:=m7 h (by decide)
theorem q7Y{X:Cx}{E:St->XK}{δ:List Sv}{o e:Expr}{apos cpos:Pos}{ra rb:Option Re}{re:Re}{name:Str}{id:String}{r:V->List V->Hp->VK->Prop}{dD:DV->DV->Option DV}{cl:Cl}(slot:Slot "str" name id)(hty:typeOf (.builtin id)=pure (.type "method_descriptor"))(hm:MtR X id r)
  (hr:∀z y d,dD (.str z) y=some d->∀O W H0 H2 cy w (Q:VK),Hid O W H0 H2->Got X.D O W H0 H2 y cy w->(∀u H',Same H2 H'->Got X.D O W H0 H' d cl u->Q u H')->r (.str z) [w] H2 Q)
  (ha:∀q,ra=some q->PE X o (dE X.D E δ q)) (hb:∀q,rb=some q->PE X e (dE X.D E δ q)) (hbase:attributeBase o name X.env (eval o X.env)=eval o X.env) (hline:(apos.endLine==cpos.line)=true) (hs:i9 e=false)
  (h:(Re.thn ra λx _=>if strB x then Re.thn rb λy _=>(dD x y).map λd=>.ok d cl else none)=some re):PE X (.Call (.Attribute o name apos) [e] [] cpos) (dE X.D E δ re):=by
 have C:=λto t (hO:PE X o to) (hA:PE X e t)=>z9L (o:=o) (apos:=apos) (cpos:=cpos) PySem.F.plainAttrs_str slot hty hm hO (C2 hA L3 (o9 hs)) hbase (by rw[o9 hs];rfl) hline (o9 hs) rfl;cases hra:ra with
 | none=>rw[hra]at h;cases h
 | some q=>
  rw[hra]at h;have A:=ha q hra;cases q with
  | ex c=>
   cases h;exact(C _ _ A E6).weak λσ H Q ⟨O,W,R,p⟩=>⟨O,W,R,p⟩
  | ok dx cx=>
   have h0:(if strB dx then Re.thn rb λy _=>(dD dx y).map λd=>Re.ok d cl else none)=some re:=h;cases dx with
   | str z=>
    rw[d4 (show strB (.str z)=true from rfl)]at h0;cases hrb:rb with
    | none=>rw[hrb]at h0;cases h0
    | some q=>
     rw[hrb]at h0;have B:=hb q hrb;cases q with
     | ex c=>
      cases h0;refine(C _ _ A B).weak λσ H Q ⟨O,W,R,p⟩=>⟨O,W,R,λv H1 s1 g1=>?_⟩
      have e1:=(g1.str (R.hid.mono s1)).1;subst e1;exact⟨rfl,O,W,R.mono s1,λH' C m s=>p H' C m (s1.trans s)⟩
     | ok dy cy=>
      have h2:((dD (.str z) dy).map λd=>Re.ok d cl)=some re:=h0;obtain⟨d,h3,h4⟩:=j8.mp h2;cases h4;refine(C _ _ A B).weak λσ H Q ⟨O,W,R,p⟩=>⟨O,W,R,λv H1 s1 g1=>?_⟩;have e1:=(g1.str (R.hid.mono s1)).1;subst e1;refine⟨rfl,O,W,R.mono s1,λw H2 s2 g2=>?_⟩;exact hr z dy d h3 O W H H2 cy w Q (R.hid.mono (s1.trans s2)) (g2.since s1) λu H' s3 g3=>p u H' ((s1.trans s2).trans s3) g3
   | _=>cases h0
theorem z8X{X:Cx}:∀z y d,fndD (.str z) y=some d->∀O W H0 H2 cy w (Q:VK),Hid O W H0 H2->Got X.D O W H0 H2 y cy w->(∀u H',Same H2 H'->Got X.D O W H0 H' d .strong u->Q u H')->∃(y z':Str) (c:Nat),(V.str z)=.str y/\[w]=[.str z']/\z'.cps.toList=[c]/\Q (.int (P9 c y.cps.toList)) H2:=by
 intro z y d h O W H0 H2 cy w Q hd g k;unfold fndD at h;split at h
 ·rename_i x' y' e1;cases e1;split at h
  ·rename_i c hc;cases h;exact⟨z,y',c,rfl,by rw[(g.str hd).1],hc,k _ H2 (Same.refl H2) x8⟩
  ·cases h
 ·cases h
theorem z4T{X:Cx}:∀z y d,splD (.str z) y=some d->∀O W H0 H2 cy w (Q:VK),Hid O W H0 H2->Got X.D O W H0 H2 y cy w->(∀u H',Same H2 H'->Got X.D O W H0 H' d .fresh u->Q u H')->∃(y z':Str) (c:Nat),(V.str z)=.str y/\[w]=[.str z']/\z'.cps.toList=[c]/\y.length<=mostLen/\∀p,H2 p=none->Q (.ref p) (upd H2 p (.lst ((splL c y.cps.toList).map λp=>V.str ⟨p.toArray⟩))):=by
 intro z y d h O W H0 H2 cy w Q hd g k;unfold splD at h;split at h
 ·rename_i x' y' e1;cases e1;split at h
  ·rename_i c hc;split at h
   ·rename_i hl;cases h;refine⟨z,y',c,rfl,by rw[(g.str hd).1],hc,hl,λp hp=>k _ _ (v7 hp) (K3 hd hp ?_)⟩;have short:∀q∈splL c z.cps.toList,q.length<=z.cps.toList.length:=λq hq=>by
     have e:=q3W c z.cps.toList;have:∀(l:List (List Nat)) (q:List Nat),q∈l->q.length<=(jnL c l).length:=by
      intro l
      induction l with
      | nil=>intro q hq;cases hq
      | cons a r ih=>
       intro q hq;cases r with
       | nil=>rw[E9]at hq;rw[hq];exact j1 _
       | cons b r=>
        show q.length<=(a++c::jnL c (b::r)).length;rw[A7,y9];rcases d9.mp hq with e | e
        ·rw[e];omega
        ·have:=ih q e;omega
     have:=this _ q hq;rw[e]at this;exact this
    have line:∀q∈splL c z.cps.toList,q.length<=sizeLine:=λq hq=>m7 (short q hq) (q2M hl);revert line;generalize splL c z.cps.toList=L;intro line
    induction L with
    | nil=>exact A6.mpr rfl
    | cons q L ih=>
     refine t9.mpr ⟨_,_,rfl,y7.mpr ⟨rfl,by show q.toArray.size<=sizeLine;rw[u5];exact line q (i5 ..)⟩,ih λx hx=>line x (f9 _ hx)⟩
   ·cases h
  ·cases h
 ·cases h
theorem q8P:∀{ds:List DV} {ys:List Str} {xs:List V},strs? ds=some ys->RepL D H ds xs->xs=ys.map V.str
 | [],ys,xs,h,r=>by cases h;exact A6.mp r
 | .str i::ds,ys,xs,h,r=>by have h':(strs? ds).map (i :: ·)=some ys:=h;obtain⟨ms,e1,e2⟩:=j8.mp h';obtain⟨v,vs,e3,e4,e5⟩:=t9.mp r;have q:=q8P e1 e5;subst e2 e3 q;rw[(y7.mp e4).1];rfl
 | .non::_,_,_,h,_=>by cases h
 | .int _::_,_,_,h,_=>by cases h
 | .bl _::_,_,_,h,_=>by cases h
 | .tup _::_,_,_,h,_=>by cases h
 | .lst _::_,_,_,h,_=>by cases h
 | .dct _ _::_,_,_,h,_=>by cases h
 | .exc _::_,_,_,h,_=>by cases h
 | .fn _::_,_,_,h,_=>by cases h
 | .lam _ _::_,_,_,h,_=>by cases h
 | .scr _::_,_,_,h,_=>by cases h
theorem q8R(s:Str):∀ys:List Str,(Str.join s ys).length<=(ys.map (·.length)).sum+ys.length*s.length
 | []=>G9 _
 | [x]=>by show x.length<=_;simp
 | x::y::r=>by have ih:=q8R s (y::r);show(x++s++Str.join s (y::r)).length<=_;rw[w2I,w2I];simp only[B7,List.sum_cons,y9,Nat.add_mul,Nat.one_mul]at ih ⊢;omega
theorem z8q{X:Cx}:∀z y d,joiD (.str z) y=some d->∀O W H0 H2 cy w (Q:VK),Hid O W H0 H2->Got X.D O W H0 H2 y cy w->(∀u H',Same H2 H'->Got X.D O W H0 H' d .strong u->Q u H')->∃(y:Str) (a:Addr) (ys:List Str),(V.str z)=.str y/\[w]=[.ref a]/\SqL X.K H2 a (ys.map V.str)/\(ys.map (·.length)).sum+ys.length*y.length<=mostLen/\Q (.str (Str.join y ys)) H2:=by
 intro z y d h O W H0 H2 cy w Q hd g k;unfold joiD at h;split at h
 ·rename_i s' ds e1;cases e1;split at h
  ·rename_i ys hy;split at h
   ·rename_i hl;cases h;obtain⟨a,xs,f1,f2,f3⟩:=g.lst hd;have f4:=q8P hy f3;subst f4;exact⟨z,a,ys,rfl,by rw[f1],SqL.of f2,hl,k _ H2 (Same.refl H2) (y7.mpr ⟨rfl,q2M (m7 (q8R z ys) hl)⟩:Rep X.D (L2.wo (O++W) H2) _ _)⟩
   ·cases h
  ·cases h
 ·cases h
theorem y0D(ha:S1 G F a)(hb:S1 G F b):S1 G F (.fnd a b):=by
 refine .of (λ{sg X E e δ r} g hc h=>?_) (λ_ _=>rfl) (λsg e env hc=>?_)
 ·unfold corE at hc;split at hc
  ·rename_i ef eb pos q;have:=v5 q;subst this;split at hc
   ·rename_i ea n apos q2;have:=Z6 q2;subst this;simp only[b8,d5,p6,B2]at hc;obtain⟨⟨⟨⟨⟨h1,h2⟩,h3⟩,h4⟩,h5⟩,h6⟩:=hc;subst h1;have hbs:attributeBase ea "find" X.env (eval ea X.env)=eval ea X.env:=by
     rcases h3 with h3 | h3
     ·obtain⟨y,hy⟩:=G4.mp h3;obtain⟨np,rfl⟩:=x0 hy;rfl
     ·obtain⟨y,hy⟩:=G4.mp h3;obtain⟨j,np,rfl⟩:=V6 hy;rfl
    unfold evE at h;exact q7Y PySem.F.slot_str_find PySem.F.type_str_find z4S z8X (λz hz=>ha.1 g h2 hz) (λz hz=>hb.1 g h5 hz) hbs (by rw[d5];exact h4) h6 h
   ·cases hc
  ·cases hc
 ·unfold corE at hc;split at hc
  ·rename_i q;have:=v5 q;subst this;exact u7 rfl env
  ·cases hc
theorem y0R(ha:S1 G F a)(hb:S1 G F b):S1 G F (.spl a b):=by
 refine .of (λ{sg X E e δ r} g hc h=>?_) (λ_ _=>rfl) (λsg e env hc=>?_)
 ·unfold corE at hc;split at hc
  ·rename_i ef eb pos q;have:=v5 q;subst this;split at hc
   ·rename_i ea n apos q2;have:=Z6 q2;subst this;simp only[b8,d5,p6,B2]at hc;obtain⟨⟨⟨⟨⟨h1,h2⟩,h3⟩,h4⟩,h5⟩,h6⟩:=hc;subst h1;have hbs:attributeBase ea "split" X.env (eval ea X.env)=eval ea X.env:=by
     rcases h3 with h3 | h3
     ·obtain⟨y,hy⟩:=G4.mp h3;obtain⟨np,rfl⟩:=x0 hy;rfl
     ·obtain⟨y,hy⟩:=G4.mp h3;obtain⟨j,np,rfl⟩:=V6 hy;rfl
    unfold evE at h;exact q7Y PySem.F.slot_str_split PySem.F.type_str_split z2N z4T (λz hz=>ha.1 g h2 hz) (λz hz=>hb.1 g h5 hz) hbs (by rw[d5];exact h4) h6 h
   ·cases hc
  ·cases hc
 ·unfold corE at hc;split at hc
  ·rename_i q;have:=v5 q;subst this;exact u7 rfl env
  ·cases hc
theorem y0T(ha:S1 G F a)(hb:S1 G F b):S1 G F (.joi a b):=by
 refine .of (λ{sg X E e δ r} g hc h=>?_) (λ_ _=>rfl) (λsg e env hc=>?_)
 ·unfold corE at hc;split at hc
  ·rename_i ef eb pos q;have:=v5 q;subst this;split at hc
   ·rename_i ea n apos q2;have:=Z6 q2;subst this;simp only[b8,d5,p6,B2]at hc;obtain⟨⟨⟨⟨⟨h1,h2⟩,h3⟩,h4⟩,h5⟩,h6⟩:=hc;subst h1;have hbs:attributeBase ea "join" X.env (eval ea X.env)=eval ea X.env:=by
     rcases h3 with h3 | h3
     ·obtain⟨y,hy⟩:=G4.mp h3;obtain⟨np,rfl⟩:=x0 hy;rfl
     ·obtain⟨y,hy⟩:=G4.mp h3;obtain⟨j,np,rfl⟩:=V6 hy;rfl
    unfold evE at h;exact q7Y PySem.F.slot_str_join PySem.F.type_str_join z6m z8q (λz hz=>ha.1 g h2 hz) (λz hz=>hb.1 g h5 hz) hbs (by rw[d5];exact h4) h6 h
   ·cases hc
  ·cases hc
 ·unfold corE at hc;split at hc
  ·rename_i q;have:=v5 q;subst this;exact u7 rfl env
  ·cases hc
theorem y0s(ha:S1 G F a):S1 G F (.fmt a):=by
 refine .of (λ{sg X E e δ r} g hc h=>?_) (λ_ _=>rfl) (λsg e env hc=>?_)
 ·unfold corE at hc;split at hc
  ·rename_i v q;obtain⟨fp,rfl⟩:=q8N q;unfold evE at h;cases hr:evE G F a δ with
   | none=>rw[hr]at h;cases h
   | some ra=>
    rw[hr]at h;have A:=ha.1 g hc hr;intro pins s σ H Q I ⟨O,W,R,p⟩;refine FormattedValue_plain ?_;cases ra with
    | ex c=>
     cases h;exact thn (A pins s σ H (λ_ _=>False) I ⟨O,W,R,p⟩) λu s1 ⟨x,H1,I1,r1,q1⟩=>q1.elim
    | ok d c=>
     have h':((fmtD d).map λx=>Re.ok (.str x) .strong)=some r:=h;obtain⟨y,h1,h2⟩:=j8.mp h';cases h2;unfold fmtD at h1;split at h1
     ·rename_i i;split at h1
      ·rename_i hi;cases h1;have hd:i.natAbs.log2<1920:=by
        by_cases z:i.natAbs=0
        ·rw[z];decide
        ·exact p5 ((w3d z).mpr hi) (by decide)
       refine thn (A pins s σ H (λv H'=>Same H H'/\Got X.D O W H H' (.int i) c v) I ⟨O,W,R,λv H' sm gt=>⟨sm,gt⟩⟩) λu s1 ⟨x,H1,I1,r1,sm,gt⟩=>?_;have hx:=gt.int (R.hid.mono sm);subst hx;obtain⟨t,rfl⟩:=r1;exact formatField_int_small hd ⟨.str _,H1,I1.tok _,⟨_,rfl⟩,p _ H1 sm (y7.mpr ⟨rfl,int_text_fits hd⟩:Rep X.D (L2.wo (O++W) H1) _ _)⟩
      ·cases h1
     ·rename_i y';cases h1;refine thn (A pins s σ H (λv H'=>Same H H'/\Got X.D O W H H' (.str y) c v) I ⟨O,W,R,λv H' sm gt=>⟨sm,gt⟩⟩) λu s1 ⟨x,H1,I1,r1,sm,gt⟩=>?_
      obtain⟨hx,hz⟩:=gt.str (R.hid.mono sm);subst hx;obtain⟨t,rfl⟩:=r1;exact formatField_str (λt' tk=>⟨.str _,H1,I1.tok _,⟨_,rfl⟩,p _ H1 sm (y7.mpr ⟨rfl,hz⟩:Rep X.D (L2.wo (O++W) H1) _ _)⟩) hz
     ·cases h1
  ·cases hc
 ·unfold corE at hc;split at hc
  ·rename_i v q;obtain⟨fp,rfl⟩:=q8N q;exact u7 rfl env
  ·cases hc
def SJ(G:Gs)(F:Nat->List DV->Option Ou)(ms:List ME):Prop:=∀{sg:Sg} {X:Cx} {E:St->XK} {es:List Expr} {δ:List Sv} {l:List (DV×Cl)} {acc x:Str},Good sg G F X E->o5 sg ms es=true->evEs G F ms δ=some (.ok l)->fstG acc l=some x->acc.length<=mostLen ->
 ∀(pins:List (Addr×Obj)) (s:Shared) (σ:St) (H:Hp) (Q:VK),Inv X pins σ H s->dE X.D E δ (.ok (.str x) .strong) σ H Q->wpAny (model X.prog X.w) X.A (joinParts acc (evalEach es X.env)) (EP X pins σ Q) X.xe s
theorem y1F:SJ G F []:=λ{sg X E es δ l acc x} g hc h hf hl pins s σ H Q I q=>by
 cases es with
 | cons _ _=>unfold o5 at hc;cases hc
 | nil=>
  unfold evEs at h;cases h;cases hf;obtain⟨O,W,R,p⟩:=q;exact joinParts_nil ⟨.str acc,H,I.tok _,⟨_,rfl⟩,p _ H (Same.refl H) (y7.mpr ⟨rfl,q2M hl⟩:Rep X.D (L2.wo (O++W) H) _ _)⟩ (q2M hl)
theorem z7H(ha:S1 G F a)(hb:SJ G F ms):SJ G F (a::ms):=λ{sg X E es δ l acc x} g hc h hf hl pins s σ H Q I q=>by
 cases es with
 | nil=>unfold o5 at hc;cases hc
 | cons e es=>
  unfold o5 at hc;simp only[b8,p6]at hc;unfold evEs at h;cases hr:evE G F a δ with
  | none=>rw[hr]at h;cases h
  | some ra=>
   rw[hr]at h;have A:=ha.1 g hc.1.1 hr;cases ra with
   | ex c=>cases h
   | ok d c=>
    cases hs:evEs G F ms δ with
    | none=>rw[hs]at h;cases h
    | some rs=>
     rw[hs]at h;cases rs with
     | ex c=>cases h
     | ok l'=>
      cases h;unfold fstG at hf;split at hf
      ·rename_i e0;cases e0
      ·rename_i y c' r e0;cases e0;split at hf
       ·rename_i hy;obtain⟨O,W,R,p⟩:=q;refine joinParts_cons (thn (A pins s σ H (λv H'=>Same H H'/\Got X.D O W H H' (.str y) c v) I ⟨O,W,R,λv H' sm gt=>⟨sm,gt⟩⟩) λu s1 ⟨v,H1,I1,r1,sm,gt⟩=>?_);obtain⟨hx,hz⟩:=gt.str (R.hid.mono sm);subst hx;obtain⟨t,rfl⟩:=r1;have hlen:(acc++y).length<=mostLen:=by rw[w2I];exact hy
        exact⟨q2M hlen,hb g hc.2 hs hf hlen pins s1 σ H1 Q I1 ⟨O,W,R.mono sm,λv H' s2 g2=>p v H' (sm.trans s2) g2⟩⟩
       ·cases hf
      ·cases hf
theorem y0X(ha:SJ G F ms):S1 G F (.fst ms):=by
 refine .of (λ{sg X E e δ r} g hc h=>?_) (λ_ _=>rfl) (λsg e env hc=>?_)
 ·unfold corE at hc;split at hc
  ·rename_i es q;obtain⟨fp,rfl⟩:=q7e q;rw[b8,U5]at hc;unfold evE at h;split at h
   ·rename_i l hl;obtain⟨x,h1,h2⟩:=j8.mp h;cases h2
    match es,hc with
    | e1::e2::es,hc=>exact λpins s σ H Q I q=>JoinedStr_many (ha g hc.2 hl h1 (by decide) pins s σ H Q I q)
   ·cases h
  ·cases hc
 ·unfold corE at hc;split at hc
  ·rename_i es q;obtain⟨fp,rfl⟩:=q7e q;exact u7 rfl env
  ·cases hc
theorem z8w(ha:SEs G F ms):S1 G F (.call f ms):=by
 refine .of (λ{sg X E e δ r} g hc h=>?_) (λ_ _=>rfl) (λsg e env hc=>?_)
 ·unfold corE at hc;split at hc
  ·rename_i ef es pos q;have:=v5 q;subst this;rw[b8,b8]at hc;obtain⟨⟨h1,h2⟩,h3⟩:=hc;split at h1
   ·rename_i x qx;obtain⟨p,rfl⟩:=x0 qx;simp only[b8,d5,N2,ne_eq]at h1;obtain⟨k,fa,fd,ps,hr,hm,hk,hb,hl,fo,dk⟩:=g.fns f x h1.1.1;cases es with
    | nil=>cases h2
    | cons y ys=>
     have ns:=q5g h3;rw[N1,X7]at ns;unfold evE at h;exact z4a fo hl hr (g.glo x h1.1.2) hm hk hb g.pas (λz hz=>ha g h3 hz) (y8.mpr h1.2) ns.1 ns.2 h
   ·cases h1
  ·cases hc
 ·unfold corE at hc;split at hc
  ·rename_i q;have:=v5 q;subst this;exact u7 rfl env
  ·cases hc
theorem s_bi(ha:SEs G F ms):S1 G F (.bi f ms):=by
 refine .of (λ{sg X E e δ r} g hc h=>?_) (λ_ _=>rfl) (λsg e env hc=>?_)
 ·unfold corE at hc;split at hc
  ·rename_i ef es pos q;have:=v5 q;subst this;rw[b8,b8]at hc;obtain⟨⟨h1,h2⟩,h3⟩:=hc;obtain⟨⟨p,rfl⟩,hg,hm⟩:=q7A g h1;unfold evE at h;cases es with
   | nil=>cases h2
   | cons y ys=>
    have go:o5 sg ms (y::ys)=true->(∀q,evEs G F ms δ=some q->PA X (y::ys) (dA X.D E δ q))/\i9 y=false/\ys.any i9=false:=λz=>by have ns:=q5g z;rw[N1,X7]at ns;exact⟨λw hw=>ha g z hw,ns.1,ns.2⟩
    cases f with
    | len=>obtain⟨A,s1,s2⟩:=go h3;exact q9a z9Q z7x hg hm boot_len (by decide) (by decide) A s1 s2 h
    | min=>obtain⟨A,s1,s2⟩:=go h3;exact q9a (z9i g.calm (by have:=g.hu;omega)) z6u hg hm boot_min (by decide) (by decide) A s1 s2 h
    | all=>obtain⟨A,s1,s2⟩:=go h3;exact q9a (z8J g.calm) z6w hg hm z2g (by decide) (by decide) A s1 s2 h
    | any=>obtain⟨A,s1,s2⟩:=go h3;exact q9a (z8O g.calm) z7p hg hm z1J (by decide) (by decide) A s1 s2 h
    | int=>obtain⟨A,s1,s2⟩:=go h3;exact q6b z8M z4X hg hm boot_int (by decide) (by decide) A s1 s2 h
    | str=>obtain⟨A,s1,s2⟩:=go h3;exact q6b z9H z7i hg hm boot_str (by decide) (by decide) A s1 s2 h
    | list=>obtain⟨A,s1,s2⟩:=go h3;exact q6b z4W z3q hg hm boot_list (by decide) (by decide) A s1 s2 h
    | tuple=>obtain⟨A,s1,s2⟩:=go h3;exact q6b z3T z1H hg hm boot_tuple (by decide) (by decide) A s1 s2 h
  ·cases hc
 ·unfold corE at hc;split at hc
  ·rename_i q;have:=v5 q;subst this;exact u7 rfl env
  ·cases hc
theorem q5l(h:G0.contains x=true):∃t,R4 x=some t:=by
 have key:∀x∈G0,∃t,R4 x=some t:=by
  intro x hx;simp only[G0,d9,K7,K9]at hx;rcases hx with rfl | rfl | rfl | rfl | rfl | rfl
  ·exact⟨"int",by decide +kernel⟩
  ·exact⟨"bool",by decide +kernel⟩
  ·exact⟨"str",by decide +kernel⟩
  ·exact⟨"list",by decide +kernel⟩
  ·exact⟨"tuple",by decide +kernel⟩
  ·exact⟨"dict",by decide +kernel⟩
 exact key x (E8.mp h)
theorem q2t:∀x∈G0,x ≠ "__name__" /\ (x==("__debug__" : Str))=false:=by
 intro x hx;simp only[G0,d9,K7,K9]at hx;rcases hx with rfl | rfl | rfl | rfl | rfl | rfl<;>exact⟨by decide +kernel,by decide +kernel⟩
def y0N:V->List V->Hp->VK->Prop:=λx xs H Q=>∃i,x=.int i/\xs=[]/\Q (.int (q7a i)) H
theorem z5T(i:Int):((Builtin.Int.intBits i:Nat):Int)=q7a i:=by
 unfold Builtin.Int.intBits q7a;by_cases h:i=0
 ·subst h;rfl
 ·rw[d6 (by simpa using h),d6 h];push_cast;rfl
theorem z6r:MtR X "int.bit_length" y0N:=by
 intro pins s σ H x xs v us Q I rx rv h;obtain⟨i,rfl,rfl,q⟩:=h;obtain⟨t,rfl⟩:=(show ∃t,v=Value.int i t from rx);cases rv;exact PyProof.Rows.call_int_bit_length ⟨.int (q7a i),H,I.tok _,by rw[←z5T];exact⟨_,rfl⟩,q⟩
theorem z9N(ha:S1 G F a):S1 G F (.meth m a es):=by
 refine .of (λ{sg X E e δ r} g hc h=>?_) (λ_ _=>rfl) (λsg e env hc=>?_)
 ·unfold corE at hc;split at hc
  ·rename_i ef pos q;have:=v5 q;subst this;split at hc
   ·rename_i ea n apos q2;have:=Z6 q2;subst this;simp only[b8,d5]at hc;obtain⟨⟨⟨⟨h1,h2⟩,h3⟩,h4⟩,h5⟩:=hc;subst h1;have hbs:attributeBase ea (z4B m) X.env (eval ea X.env)=eval ea X.env:=by
     rw[B2]at h3;rcases h3 with h3 | h3
     ·obtain⟨y,hy⟩:=G4.mp h3;obtain⟨np,rfl⟩:=x0 hy;rfl
     ·obtain⟨⟨a1,o1,b1⟩,hy⟩:=G4.mp h3;obtain⟨np,rfl⟩:=q3I hy;rfl
    unfold evE at h;cases m with
    | bitLength=>
     rw[d4 rfl]at h;have P:=λt (hA:PE X ea t)=>z9D (apos:=apos) (cpos:=pos) PySem.F.plainAttrs_int PySem.F.slot_int_bit_length PySem.F.type_int_bit_length z6r hA hbs (by rw[d5];exact h4)
     cases hra:evE G F a δ with
     | none=>rw[hra]at h;cases h
     | some q=>
      rw[hra]at h;have A:=ha.1 g h2 hra;cases q with
      | ex c=>cases h;exact(P _ A).weak λσ H Q ⟨O,W,R,p⟩=>⟨O,W,R,p⟩
      | ok d dc=>
       have h':mtD .bitLength d=some r:=h;unfold mtD at h';split at h'
       ·rename_i i _;cases h';exact(P _ A).weak λσ H Q ⟨O,W,R,p⟩=>⟨O,W,R,λv H1 s1 g1=>by
         have hv:=g1.int (R.hid.mono s1);subst hv;exact⟨rfl,i,rfl,rfl,p _ H1 s1 x8⟩⟩
       ·cases h'
    | index=>rw[d6 (by decide)]at h;cases h
    | get=>rw[d6 (by decide)]at h;cases h
   ·cases hc
  ·cases hc
 ·unfold corE at hc;split at hc
  ·rename_i q;have:=v5 q;subst this;exact u7 rfl env
  ·cases hc
theorem y0k(ha:S1 G F a)(hb:S1 G F b):S1 G F (.idx a b):=by
 refine .of (λ{sg X E e δ r} g hc h=>?_) (λ_ _=>rfl) (λsg e env hc=>?_)
 ·unfold corE at hc;split at hc
  ·rename_i ef eb pos q;have:=v5 q;subst this;split at hc
   ·rename_i ea n apos q2;have:=Z6 q2;subst this;simp only[b8,d5,p6]at hc;obtain⟨⟨⟨⟨⟨h1,h2⟩,h3⟩,h4⟩,h5⟩,h6⟩:=hc;subst h1;obtain⟨y,hy⟩:=G4.mp h3;obtain⟨np,rfl⟩:=x0 hy;unfold evE at h;exact z5t g.hu (λz hz=>ha.1 g h2 hz) (λz hz=>hb.1 g h5 hz) rfl (by rw[d5];exact h4) (o9 h6) h
   ·cases hc
  ·cases hc
 ·unfold corE at hc;split at hc
  ·rename_i q;have:=v5 q;subst this;exact u7 rfl env
  ·cases hc
theorem y0J(ha:S1 G F a):S1 G F (.isx a t):=by
 refine .of (λ{sg X E e δ r} g hc h=>?_) (λ_ _=>rfl) (λsg e env hc=>?_)
 ·unfold corE at hc;split at hc
  ·rename_i ef ea et pos q;have:=v5 q;subst this;simp only[b8,p6,d5,B2,E8,N2,ne_eq]at hc;obtain⟨⟨⟨⟨⟨⟨h1,h2⟩,h3⟩,h4⟩,h5⟩,h6⟩,h7⟩:=hc;obtain⟨⟨p,rfl⟩,hg,hm⟩:=q7A g h1;obtain⟨p',rfl⟩:=x0 h5;unfold evE at h;refine z5g g.xf hg hm (g.glo t h6) ?_ (λz hz=>ha.1 g h2 hz) h3 h;rcases h7 with⟨k1,k2⟩ | ⟨k1,k2⟩
   ·exact .inl ⟨k1,y8.mpr k2⟩
   ·refine .inr ⟨g.blt t k1,?_⟩;simp only[z1R,d9,K7,K9]at k2;exact k2
  ·cases hc
 ·unfold corE at hc;split at hc
  ·rename_i q;have:=v5 q;subst this;exact u7 rfl env
  ·cases hc
theorem q9k:∀{xs:List (Str×Nat)},xs.lookup x=some f->(x,f)∈xs
 | [],h=>by cases h
 | (y,g)::xs,h=>by
  rw[D1]at h;split at h
  ·rename_i q;cases h;rw[d5.mp q];exact i5 ..
  ·exact f9 _ (q9k h)
theorem z5n(ha:SEs G F ms):S1 G F (.callv i xs ms):=by
 refine .of (λ{sg X E e δ r} g hc h=>?_) (λ_ _=>rfl) (λsg e env hc=>?_)
 ·unfold corE at hc;split at hc
  ·rename_i ef es pos q;have:=v5 q;subst this;rw[b8,b8,b8]at hc;obtain⟨⟨⟨h1,h0⟩,h2⟩,h3⟩:=hc;split at h1
   ·rename_i x qx;obtain⟨p,rfl⟩:=x0 qx;obtain⟨s1,s2,s3,s4⟩:=q8o g h1;cases es with
    | nil=>cases h2
    | cons y ys=>
     have ns:=q5g h3;rw[N1,X7]at ns;unfold evE at h;split at h
     ·rename_i nm hi;split at h
      ·rename_i f hf;have hfn:=d5.mp (o7.mp h0 _ (q9k hf));obtain⟨k,fa,fd,ps,hr,hm,hk,hb,hl,fo,dk⟩:=g.fns f nm hfn;exact z0D fo hl hr (Y7 s1 s2 s3 s4) hm hk hb g.pas hi (λz hz=>ha g h3 hz) ns.1 ns.2 h
      ·cases h
     ·rename_i m cs hi;split at h
      ·rename_i w;obtain⟨⟨w1,w2,w3⟩,⟨k,hr,lo⟩,_⟩:=g.lms w.2.2.2;exact z2a lo hr (Y7 s1 s2 s3 s4) (w.1.trans w1) (w.2.1.trans w2) (w.2.2.1.trans w3) hi (λz hz=>ha g h3 hz) ns.1 ns.2 h
      ·cases h
     ·cases h
   ·cases h1
  ·cases hc
 ·unfold corE at hc;split at hc
  ·rename_i q;have:=v5 q;subst this;exact u7 rfl env
  ·cases hc
theorem z2q(h:z7k e=some (pr,bd,sc,lp)):e=.Lambda pr bd sc lp:=by
 unfold z7k at h;split at h
 ·cases h;rfl
 ·cases h
theorem z0u(h:Z7 pr=some ps):defaultsOf pr env=([],[]):=by
 unfold Z7 at h;split at h
 ·rfl
 ·rfl
 ·cases h
theorem z7w(ha:S1 G F a)(hb:S1 G F b):S1 G F (.calll f a b N np lb fr):=by
 refine .of (λ{sg X E e δ r} g hc h=>?_) (λ_ _=>rfl) (λsg e env hc=>?_)
 ·unfold corE at hc;rw[b8]at hc;obtain⟨ht,hc⟩:=hc;split at hc
  ·rename_i ef ea eb el pos q;have:=v5 q;subst this;split at hc
   ·rename_i x pr bd sc lp qx ql;obtain⟨p,rfl⟩:=x0 qx;have:=z2q ql;subst this;simp only[b8,d5,N2,ne_eq,p6]at hc;obtain⟨⟨⟨⟨⟨⟨⟨⟨c1,c2⟩,c3⟩,c4⟩,c5⟩,c6⟩,c7⟩,c8⟩,c9⟩:=hc;have hlam:=c8;unfold z4g at c8;simp only[b8,d5,p6,o7,N2,ne_eq,U5]at c8;obtain⟨⟨⟨⟨⟨⟨⟨⟨⟨⟨⟨l1,l2⟩,l3⟩,l4⟩,l5⟩,l6⟩,l7⟩,l8⟩,l9⟩,l10⟩,l11⟩,l12⟩:=c8;obtain⟨k,fa,fd,ps,hr,hm,hk,hB,hl,fo,dk⟩:=g.fns f x c1;unfold evE at h;split at h
    ·rename_i cs hcap;split at h
     ·cases h
     ·rename_i hne;have hne':G.fnl.isEmpty=false:=by simpa using hne
      obtain⟨⟨w1,w2,w3⟩,_,wt⟩:=g.lms hne';obtain⟨c,P,k1,k2,k3⟩:=wt ht;have cel:∀y∈sc.names,y.2=NameKind.free->X.env.kindOf y.1=some .cell/\X.fn y.1=true:=λy hy hf=>by
       have z:=l12 y hy;rw[d4 (by rw[hf])]at z;have z':sg.sc.lookup y.1=some .cell:=d5.mp z;have lo:=g.loc y.1 (by unfold locB;rw[z'];rfl);have nl:X.env.scope.names.lookup y.1≠some .local:=λw=>by rcases g.cel y.1 (.inl z')with v | v<;>(rw[w]at v;cases v)
       refine⟨?_,lo.2.elim id λw=>absurd w nl⟩;exact lo.1.elim (λw=>absurd w nl) id
      have T:LamTx N (N.take np) sc:=by
       have ln:(N.take np).length=np:=by rw[G7];omega
       refine⟨l2,l3,l4,X1 l5,by rw[ln],l8,l9,λi y h1 h2=>l10 y ?_⟩;rw[ln]at h1;refine O9 (i:=i - np) ?_;rw[List.getElem?_drop,show np+(i - np)=i by omega];exact h2
      have hcor:Z8 ⟨N,np,lb,G.fnl,G.bll,G.cll⟩ pr bd sc=true:=(by unfold Z8;rw[b8];refine⟨d5.mpr l1,?_⟩;show corE ⟨N,sc.names,G.fnl,G.bll,G.cll,false,false⟩ false lb bd=true;rw[w1,w2,w3];exact c9);have hslot:∀(j i:Nat),fr[j]? = some i->∃y,N[np+j]? = some y/\X.N[i]? = some y/\X.env.kindOf y=some .cell:=λj i hj=>by
       have hjl:j<fr.length:=(u9.mp hj).1;have hjn:np+j<N.length:=by omega
       have hy:(N.drop np)[j]? = some N[np+j]:=by rw[List.getElem?_drop,x9 hjn]
       have hz:(i,N[np+j])∈fr.zip (N.drop np):=O9 (i:=j) (by rw[w16];exact⟨hj,hy⟩);have q1:=l11 _ hz;have q2:=l10 _ (O9 hy);exact⟨_,x9 hjn,by rw[g.N];exact q1,(cel _ (D0 q2) rfl).1⟩
      cases hra:evE G F a δ with
      | none=>rw[hra]at h;cases h
      | some ra=>
       rw[hra]at h;exact z0Z (m:=⟨N,np,lb,G.fnl,G.bll,G.cll⟩) (fr:=fr) (P:=P) (c:=c) fo hl hr (g.glo x c2) hm hk hB (y8.mpr c3) c5 c7 ⟨k1,k2,k3,λy hy hf=>(cel y hy hf).1⟩ (z0u l1) T (λy hy hf=>(cel y hy hf).2) hcor l7 hslot hcap (ha.1 g c4 hra) (λq hq=>hb.1 g c6 hq) h
    ·cases h
   ·cases hc
  ·cases hc
 ·unfold corE at hc;rw[b8]at hc;obtain⟨_,hc⟩:=hc;split at hc
  ·rename_i q;have:=v5 q;subst this;exact u7 rfl env
  ·cases hc
theorem y0Q(ha:S1 G F a):S1 G F (.isi a ts):=by
 refine .of (λ{sg X E e δ r} g hc h=>?_) (λ_ _=>rfl) (λsg e env hc=>?_)
 ·unfold corE at hc;split at hc
  ·rename_i ef ea et pos q;have:=v5 q;subst this;simp only[b8,p6]at hc;obtain⟨⟨⟨⟨h1,h2⟩,h3⟩,h4⟩,h5⟩:=hc;obtain⟨⟨p,rfl⟩,hg,hm⟩:=q7A g h1;split at h5
   ·rename_i t;simp only[b8,d5,E8]at h5;obtain⟨⟨⟨k1,k2⟩,k3⟩,k4⟩:=h5;obtain⟨p',rfl⟩:=x0 k1;obtain⟨T,hT⟩:=q5l (E8.mpr k4);obtain⟨n1,n2⟩:=q2t t k4;unfold evE at h;exact z6l hT hg hm (g.glo t k2) (g.blt t k3) n1 n2 (λz hz=>ha.1 g h2 hz) h3 h
   ·rename_i t u;split at h5
    ·rename_i e1 e2 q2;obtain⟨kk,tp,rfl⟩:=V7 q2;simp only[b8,d5,E8]at h5;obtain⟨⟨⟨⟨k1,k2⟩,k3⟩,k4⟩,⟨⟨l1,l2⟩,l3⟩,l4⟩:=h5;obtain⟨p1,rfl⟩:=x0 k1;obtain⟨p2,rfl⟩:=x0 l1;obtain⟨T,hT⟩:=q5l (E8.mpr k4);obtain⟨U,hU⟩:=q5l (E8.mpr l4);obtain⟨n1,n2⟩:=q2t t k4;obtain⟨m1,m2⟩:=q2t u l4;unfold evE at h;refine z2W (kf:=λd=>isiD G d [t,u]) hT hU hg hm (g.glo t k2) (g.blt t k3) n1 n2 (g.glo u l2) (g.blt u l3) m1 m2 (λd k e1=>?_) (λz hz=>ha.1 g h2 hz) h3 h;have px:(G0.contains t&&G0.contains u)=true:=by rw[b8];exact⟨E8.mpr k4,E8.mpr l4⟩
     unfold isiD at e1;cases d<;>first
      | (simp only[px,if_true]at e1;cases e1;exact⟨_,rfl,rfl⟩)
      | cases e1
    ·cases h5
   ·cases h5
  ·cases hc
 ·unfold corE at hc;split at hc
  ·rename_i q;have:=v5 q;subst this;exact u7 rfl env
  ·cases hc
theorem q4F:∀{ms:List ME} {δ:List Sv} {l:List (DV×Cl)},evEs G F ms δ=some (.ok l)->l.length=ms.length
 | [],_,_,h=>by unfold evEs at h;cases h;rfl
 | m::ms,δ,l,h=>by
  unfold evEs at h;split at h
  ·cases h
  ·cases h
  ·split at h
   ·cases h
   ·cases h
   ·rename_i l' q;cases h;rw[y9,y9,q4F q]
theorem q4d:∀{sg:Sg} {ms:List ME} {es:List Expr},o5 sg ms es=true->ms.length=es.length
 | _,[],[],_=>rfl
 | _,[],_::_,h=>by unfold o5 at h;cases h
 | _,_::_,[],h=>by unfold o5 at h;cases h
 | sg,m::ms,e::es,h=>by unfold o5 at h;simp only[b8]at h;rw[y9,y9,q4d h.2]
theorem y1g(ha:SEs G F ms):S1 G F (.rng ms):=by
 refine⟨λ{sg X E e δ r} g hc h=>?_,λ{sg X E e δ r} g hc h=>?_,λ{sg X E e tg δ r} g hc _ h=>?_⟩
 ·unfold corE at hc;rw[P3]at hc;cases hc
 ·unfold corE at hc;rw[P3]at hc;cases hc
 ·unfold corE at hc;rw[P6]at hc;split at hc
  ·rename_i ef es pos q;have:=v5 q;subst this;rw[b8,U5]at hc;obtain⟨hc,hle⟩:=hc;rw[b8]at hc;obtain⟨⟨p,rfl⟩,hg,hm⟩:=q7A g hc.1;have l1:=q4d hc.2;have ns:=q5g hc.2;unfold evE at h;cases es with
   | nil=>
    exfalso;cases ms with
    | nil=>unfold evEs at h;cases h
    | cons _ _=>cases l1
   | cons y ys=>
    rw[N1,X7]at ns;cases ys with
    | nil=>exact q9P hg hm (λz hz=>ha g hc.2 hz) ns.1 h λl hl=>by rw[q4F hl,l1];rfl
    | cons z zs=>simp at hle
  ·cases hc
theorem s_zp(ha:S1 G F a)(hb:S1 G F b):S1 G F (.zp a b):=by
 refine⟨λ{sg X E e δ r} g hc h=>?_,λ{sg X E e δ r} g hc h=>?_,λ{sg X E e tg δ r} g hc ht h=>?_⟩
 ·unfold corE at hc;rw[P3]at hc;cases hc
 ·unfold corE at hc;rw[P3]at hc;cases hc
 ·unfold corE at hc;rw[P6]at hc;split at hc
  ·rename_i ef ea eb pos q;have:=v5 q;subst this;simp only[b8,p6]at hc;obtain⟨⟨⟨⟨h1,h2⟩,h3⟩,h4⟩,h5⟩:=hc;obtain⟨⟨p,rfl⟩,hg,hm⟩:=q7A g h1;have t:=ht rfl;cases q2:C9 tg with
   | none=>rw[q2]at t;cases t
   | some elts=>
    obtain⟨k,tp,rfl⟩:=V7 q2;unfold evE at h;exact z7g hg hm h4 h5 (λz hz=>ha.1 g h2 hz) (λz hz=>hb.1 g h3 hz) h
  ·cases hc
theorem z6G{sg:Sg}{X:Cx}{E:St->XK}{e:Expr}{δ:List Sv}{r:Re}{tg:Tg}{fr:List (Option Nat)}{cp:CParts}{tn:List Str}(ha:S1 G F a)(hb:S1 G F b)(g:Good sg G F X E)(hemp:cp.ifs=[])
  (h2:corE sg true b cp.it=true) (hz:isZp b=true->(C9 cp.tg).isSome=true) (h4:L7 sg (A3 sg tn fr) fr cp.sc tg=true) (h5:tgOk ⟨A3 sg tn fr,cp.sc.names,sg.fn,sg.bl,sg.cl,false,false⟩ tg cp.tg=true) (h6:corE ⟨A3 sg tn fr,cp.sc.names,sg.fn,sg.bl,sg.cl,false,false⟩ false a cp.elt=true)
  (h:evE G F (.comp a tg b fr) δ=some r):M2 X E δ cp.tg cp.it cp.ifs cp.elt cp.sc (A3 sg tn fr) fr tg r:=by
 obtain⟨S,nd,sl⟩:=X2 g h4;rw[hemp];unfold evE at h;exact q5u S g.calm nd sl (λz hz'=>hb.2.2 g h2 hz hz') (λC cells s₂ H₂ fp x1=>q9H (R6 g h4 C cells s₂ H₂ fp x1) h5) (λδ' r' hr C cells s₂ H₂ fp x1=>ha.1 (R6 g h4 C cells s₂ H₂ fp x1) h6 hr) h
theorem z2R{sg:Sg}{X:Cx}{E:St->XK}{e:Expr}{δ:List Sv}{r:Re}{tg:Tg}{fr:List (Option Nat)}{cp:CParts}{tn:List Str}(ha:S1 G F a)(hb:S1 G F b)(g:Good sg G F X E)(htop:sg.top=true)(hemp:cp.ifs=[])
  (h2:corE sg true b cp.it=true) (hz:isZp b=true->(C9 cp.tg).isSome=true) (h4:L7 sg (A3 sg tn fr) fr cp.sc tg=true) (h5:tgOk ⟨A3 sg tn fr,cp.sc.names,sg.fn,sg.bl,sg.cl,false,false⟩ tg cp.tg=true) (h6:corE ⟨A3 sg tn fr,cp.sc.names,sg.fn,sg.bl,sg.cl,false,false⟩ false a cp.elt=true)
  (h:evE G F (.compx a tg b fr) δ=some r):M2 X E δ cp.tg cp.it cp.ifs cp.elt cp.sc (A3 sg tn fr) fr tg r:=by
 obtain⟨S,nd,sl⟩:=X2 g h4;rw[hemp];unfold evE at h;obtain⟨t1,t2,t3,_,t5⟩:=g.st htop;exact q4W (q9E t1 t2 t3 t5) nd sl (λz hz'=>hb.2.2 g h2 hz hz') (λδ' r' hr C cells s₂ H₂ fp x1=>ha.1 (q6J g h4 C cells s₂ H₂ fp x1 (E':=λ_=>x1) λ_ _ _ _ z=>z) h6 hr) h
theorem z3D{sg:Sg}{X:Cx}{E:St->XK}{e cd:Expr}{δ:List Sv}{r:Re}{tg:Tg}{fr:List (Option Nat)}{cp:CParts}{tn:List Str}(ha:S1 G F a)(hb:S1 G F b)(hcc:S1 G F c)(g:Good sg G F X E)(hemp:cp.ifs=[cd])
  (h2:corE sg true b cp.it=true) (hz:isZp b=true->(C9 cp.tg).isSome=true) (h4:L7 sg (A3 sg tn fr) fr cp.sc tg=true) (h5:tgOk ⟨A3 sg tn fr,cp.sc.names,sg.fn,sg.bl,sg.cl,false,false⟩ tg cp.tg=true) (h6:corE ⟨A3 sg tn fr,cp.sc.names,sg.fn,sg.bl,sg.cl,false,false⟩ false a cp.elt=true)
  (h7:corE ⟨A3 sg tn fr,cp.sc.names,sg.fn,sg.bl,sg.cl,false,false⟩ false c cd=true) (h:evE G F (.compi a tg b c fr) δ=some r):M2 X E δ cp.tg cp.it cp.ifs cp.elt cp.sc (A3 sg tn fr) fr tg r:=by
 obtain⟨S,nd,sl⟩:=X2 g h4;rw[hemp];unfold evE at h;exact q4B S g.calm nd sl (λz hz'=>hb.2.2 g h2 hz hz') (λC cells s₂ H₂ fp x1=>q9H (R6 g h4 C cells s₂ H₂ fp x1) h5) (λδ' r' hr C cells s₂ H₂ fp x1=>ha.1 (R6 g h4 C cells s₂ H₂ fp x1) h6 hr)
  (λδ' r' hr C cells s₂ H₂ fp x1=>hcc.2.1 (R6 g h4 C cells s₂ H₂ fp x1) h7 hr) h
def O7(G:Gs)(F:Nat->List DV->Option Ou)(m:ME):Prop:=∀{sg:Sg} {X:Cx} {E:St->XK} {e:Expr} {δ:List Sv} {r:Re},Good sg G F X E->corE sg false m e=true->evE G F m δ=some r ->
 ∃(cp:CParts) (N':List Str) (fr:List (Option Nat)) (tg:Tg) (p:Pos),e=.ListComp cp.elt [⟨cp.tg,cp.it,cp.ifs,0⟩] cp.sc p/\CompScope X.N N' cp.sc X.env.scope fr/\M2 X E δ cp.tg cp.it cp.ifs cp.elt cp.sc N' fr tg r /\
  (∀C cells s₂ H₂ fp x1,PG (m9 X cp.sc N' C cells s₂ H₂ fp x1) cp.tg (gT X.K tg))/\D5 cp.it=false
theorem O7.s1(h:O7 G F m)(hw:∀sg e,corE sg true m e=corE sg false m e)(hl:∀sg e,corE sg false m e=true->(V9 e).isSome=true):S1 G F m:=by
 refine .of (λ{sg X E e δ r} g hc q=>?_) hw (λsg e env hc=>?_)
 ·obtain⟨cp,N',fr,tg,p,rfl,S,P,hG,hs⟩:=h g hc q;exact P.pe S g.calm hG hs
 ·have:=hl sg e hc;cases z:V9 e with
  | none=>rw[z]at this;cases this
  | some cp=>obtain⟨p,rfl⟩:=q3B z;exact u7 rfl env
theorem z4c(ha:S1 G F a)(hb:S1 G F b):O7 G F (.comp a tg b fr):=by
 intro sg X E e δ r g hc h;unfold corE at hc;split at hc
 ·rename_i cp q;obtain⟨p,rfl⟩:=q3B q;simp only[b8,p6,B2]at hc;obtain⟨⟨⟨h1,h2,h3⟩,h4⟩,h5⟩:=hc;split at h5
  ·rename_i tn qt;simp only[b8]at h5;refine⟨cp,_,fr,tg,p,rfl,(X2 g h5.1.1).1,z6G (e:=.ListComp cp.elt [⟨cp.tg,cp.it,cp.ifs,0⟩] cp.sc p) ha hb g (List.isEmpty_iff.mp h1) h2 (λz=>?_) h5.1.1 h5.1.2 h5.2 h,λC cells s₂ H₂ fp x1=>q9H (R6 g h5.1.1 C cells s₂ H₂ fp x1) h5.1.2,h4⟩;rcases h3 with w | w
   ·rw[z]at w;cases w
   ·exact w
  ·cases h5
 ·cases hc
theorem z2d(ha:S1 G F a)(hb:S1 G F b):O7 G F (.compx a tg b fr):=by
 intro sg X E e δ r g hc h;unfold corE at hc;split at hc
 ·rename_i cp q;obtain⟨p,rfl⟩:=q3B q;simp only[b8,p6,B2]at hc;obtain⟨⟨⟨⟨ht,h1⟩,h2,h3⟩,h4⟩,h5⟩:=hc;split at h5
  ·rename_i tn qt;simp only[b8]at h5;refine⟨cp,_,fr,tg,p,rfl,(X2 g h5.1.1).1,z2R (e:=.ListComp cp.elt [⟨cp.tg,cp.it,cp.ifs,0⟩] cp.sc p) ha hb g ht (List.isEmpty_iff.mp h1) h2 (λz=>?_) h5.1.1 h5.1.2 h5.2 h,λC cells s₂ H₂ fp x1=>q9H (R6 g h5.1.1 C cells s₂ H₂ fp x1) h5.1.2,h4⟩;rcases h3 with w | w
   ·rw[z]at w;cases w
   ·exact w
  ·cases h5
 ·cases hc
theorem z0F(ha:S1 G F a)(hb:S1 G F b)(hcc:S1 G F c):O7 G F (.compi a tg b c fr):=by
 intro sg X E e δ r g hc h;unfold corE at hc;split at hc
 ·rename_i cp q;obtain⟨p,rfl⟩:=q3B q;simp only[b8,p6,B2]at hc;obtain⟨⟨⟨h2,h3⟩,h4⟩,h5⟩:=hc;split at h5
  ·rename_i tn ec qt qi;simp only[b8]at h5;refine⟨cp,_,fr,tg,p,rfl,(X2 g h5.1.1.1).1,z3D (e:=.ListComp cp.elt [⟨cp.tg,cp.it,cp.ifs,0⟩] cp.sc p) ha hb hcc g qi h2 (λz=>?_) h5.1.1.1 h5.1.1.2 h5.1.2 h5.2 h,λC cells s₂ H₂ fp x1=>q9H (R6 g h5.1.1.1 C cells s₂ H₂ fp x1) h5.1.1.2,h4⟩;rcases h3 with w | w
   ·rw[z]at w;cases w
   ·exact w
  ·cases h5
 ·cases hc
theorem z8V(ha:S1 G F a)(hb:S1 G F b):S1 G F (.comp a tg b fr):=O7.s1 (λ{sg X E e δ r}=>z4c ha hb) (λ_ _=>rfl) λsg e hc=>by
 unfold corE at hc;split at hc
 ·rename_i q;rw[q];rfl
 ·cases hc
theorem z4Q(ha:S1 G F a)(hb:S1 G F b):S1 G F (.compx a tg b fr):=O7.s1 (λ{sg X E e δ r}=>z2d ha hb) (λ_ _=>rfl) λsg e hc=>by
 unfold corE at hc;split at hc
 ·rename_i q;rw[q];rfl
 ·cases hc
theorem z4R(ha:S1 G F a)(hb:S1 G F b)(hcc:S1 G F c):S1 G F (.compi a tg b c fr):=O7.s1 (λ{sg X E e δ r}=>z0F ha hb hcc) (λ_ _=>rfl) λsg e hc=>by
 unfold corE at hc;split at hc
 ·rename_i q;rw[q];rfl
 ·cases hc
theorem y0h:SEs G F []:=λ{sg X E es δ r} g hc h=>by
 cases es with
 | nil=>unfold evEs at h;cases h;exact z2J
 | cons _ _=>unfold o5 at hc;cases hc
theorem z9I(ha:S1 G F a)(hb:SEs G F ms):SEs G F (a::ms):=λ{sg X E es δ r} g hc h=>by
 cases es with
 | nil=>unfold o5 at hc;cases hc
 | cons e es=>
  unfold o5 at hc;simp only[b8,p6]at hc;unfold evEs at h;exact z2p hc.1.2 (λz hz=>ha.1 g hc.1.1 hz) (λz hz=>hb g hc.2 hz) h
theorem z6y:SAnd G F []:=λ{sg X E es δ pos} g hc=>⟨λr h=>(by unfold E4 at h;cases h),λr h=>(by unfold E4 at h;cases h)⟩
theorem z7G:SOr G F []:=λ{sg X E es δ pos} g hc=>⟨λr h=>(by unfold evOr at h;cases h),λr h=>(by unfold evOr at h;cases h)⟩
theorem z3h(ha:S1 G F a)(hb:SAnd G F ms):SAnd G F (a::ms):=λ{sg X E es δ pos} g hc=>by
 cases es with
 | nil=>unfold o5 at hc;cases hc
 | cons e es=>
  unfold o5 at hc;simp only[b8,p6]at hc;cases ms with
  | nil=>
   cases es with
   | nil=>
    refine⟨λr h=>?_,λr h=>?_⟩
    ·unfold E4 at h;exact z4D (ha.1 g hc.1.1 h)
    ·unfold E4 at h;exact z6M (ha.2.1 g hc.1.1 h)
   | cons _ _=>have:=hc.2;unfold o5 at this;cases this
  | cons m ms=>
   cases es with
   | nil=>have:=hc.2;unfold o5 at this;cases this
   | cons e' es=>
    have B:=@hb sg X E (e'::es) δ pos g hc.2;refine⟨λr h=>?_,λr h=>?_⟩
    ·unfold E4 at h;exact z6D (λz hz=>ha.1 g hc.1.1 hz) (λz hz=>B.1 z hz) h
    ·unfold E4 at h;exact z3B (λz hz=>ha.2.1 g hc.1.1 hz) (λz hz=>B.2 z hz) h
theorem z5M(ha:S1 G F a)(hb:SOr G F ms):SOr G F (a::ms):=λ{sg X E es δ pos} g hc=>by
 cases es with
 | nil=>unfold o5 at hc;cases hc
 | cons e es=>
  unfold o5 at hc;simp only[b8,p6]at hc;cases ms with
  | nil=>
   cases es with
   | nil=>
    refine⟨λr h=>?_,λr h=>?_⟩
    ·unfold evOr at h;exact z4D (ha.1 g hc.1.1 h)
    ·unfold evOr at h;exact z7F (ha.2.1 g hc.1.1 h)
   | cons _ _=>have:=hc.2;unfold o5 at this;cases this
  | cons m ms=>
   cases es with
   | nil=>have:=hc.2;unfold o5 at this;cases this
   | cons e' es=>
    have B:=@hb sg X E (e'::es) δ pos g hc.2;refine⟨λr h=>?_,λr h=>?_⟩
    ·unfold evOr at h;exact z7N (λz hz=>ha.1 g hc.1.1 hz) (λz hz=>B.1 z hz) h
    ·unfold evOr at h;exact z6Q (λz hz=>ha.2.1 g hc.1.1 hz) (λz hz=>B.2 z hz) h
theorem y1b(ha:SAnd G F ms):S1 G F (.and ms):=by
 refine .of2 (λ{sg X E e δ r} g hc h=>?_) (λ{sg X E e δ r} g hc h=>?_) (λ_ _=>rfl)
 ·unfold corE at hc;split at hc
  ·rename_i o es q;obtain⟨p,rfl⟩:=q3w q;simp only[b8,d5]at hc;obtain⟨h1,h2⟩:=hc;subst h1;unfold evE at h;exact(ha g h2).1 r h
  ·cases hc
 ·unfold corE at hc;split at hc
  ·rename_i o es q;obtain⟨p,rfl⟩:=q3w q;simp only[b8,d5]at hc;obtain⟨h1,h2⟩:=hc;subst h1;unfold evE at h;exact((ha g h2).2 r h).pt
  ·cases hc
theorem s_or(ha:SOr G F ms):S1 G F (.or ms):=by
 refine .of2 (λ{sg X E e δ r} g hc h=>?_) (λ{sg X E e δ r} g hc h=>?_) (λ_ _=>rfl)
 ·unfold corE at hc;split at hc
  ·rename_i o es q;obtain⟨p,rfl⟩:=q3w q;simp only[b8,d5]at hc;obtain⟨h1,h2⟩:=hc;subst h1;unfold evE at h;exact(ha g h2).1 r h
  ·cases hc
 ·unfold corE at hc;split at hc
  ·rename_i o es q;obtain⟨p,rfl⟩:=q3w q;simp only[b8,d5]at hc;obtain⟨h1,h2⟩:=hc;subst h1;unfold evE at h;exact((ha g h2).2 r h).pt
  ·cases hc
end
section
variable {G:Gs} {F:Nat->List DV->Option Ou}
mutual
theorem snd:∀m:ME,S1 G F m
 | .var _=>y0e
 | .int _=>y1i
 | .bl _=>s_bl
 | .str _=>y1n
 | .non=>y1p
 | .glb _=>y0c
 | .bin _ a b=>y0p (snd a) (snd b)
 | .neg a=>y1w (snd a)
 | .not a=>y0n (snd a)
 | .cmp _ a b=>y0S (snd a) (snd b)
 | .chain _ _ a b c=>z6c (snd a) (snd b) (snd c)
 | .and es=>y1b (z4N es)
 | .or es=>s_or (z9r es)
 | .ite c a b=>y0x (snd c) (snd a) (snd b)
 | .lst es=>y0l (sndL es)
 | .tup es=>y1B (sndL es)
 | .ix a b=>s_ix (snd a) (snd b)
 | .sl a b c=>s_sl (snd a) (snd b) (snd c)
 | .slf a b=>y0d (snd a) (snd b)
 | .slt a b=>y1C (snd a) (snd b)
 | .call _ es=>z8w (sndL es)
 | .bi _ es=>s_bi (sndL es)
 | .isi a _=>y0Q (snd a)
 | .isx a _=>y0J (snd a)
 | .meth _ a _=>z9N (snd a)
 | .comp a _ b _=>z8V (snd a) (snd b)
 | .compx a _ b _=>z4Q (snd a) (snd b)
 | .compi a _ b c _=>z4R (snd a) (snd b) (snd c)
 | .fnd a b=>y0D (snd a) (snd b)
 | .scat a b=>z7O (snd a) (snd b)
 | .stf a b=>y0U (snd a) (snd b)
 | .stt a b=>y0i (snd a) (snd b)
 | .spl a b=>y0R (snd a) (snd b)
 | .joi a b=>y0T (snd a) (snd b)
 | .fmt a=>y0s (snd a)
 | .fst es=>y0X (sndJ es)
 | .idx a b=>y0k (snd a) (snd b)
 | .rng es=>y1g (sndL es)
 | .zp a b=>s_zp (snd a) (snd b)
 | .callv _ _ es=>z5n (sndL es)
 | .calll _ a b _ _ _ _=>z7w (snd a) (snd b)
theorem sndL:∀ms:List ME,SEs G F ms
 | []=>y0h
 | a::ms=>z9I (snd a) (sndL ms)
theorem sndJ:∀ms:List ME,SJ G F ms
 | []=>y1F
 | a::ms=>z7H (snd a) (sndJ ms)
theorem z4N:∀ms:List ME,SAnd G F ms
 | []=>z6y
 | a::ms=>z3h (snd a) (z4N ms)
theorem z9r:∀ms:List ME,SOr G F ms
 | []=>z7G
 | a::ms=>z5M (snd a) (z9r ms)
end
end
end
section
section
variable (G:Gs) (F:Nat->List DV->Option Ou) (fu:Nat)
def SS(m:MS):Prop:=∀{sg:Sg} {X:Cx} {E:St->XK} {st:Stmt} {δ:List Sv} {o:Out},Good sg G F X E->corS sg m st=true->evS G F fu m δ=some o->PS X st (dS X.D E δ o)
def SSs(ms:List MS):Prop:=∀{sg:Sg} {X:Cx} {E:St->XK} {sts:List Stmt} {δ:List Sv} {o:Out},Good sg G F X E->D6 sg ms sts=true->evSs G F fu ms δ=some o->PSs X sts (dS X.D E δ o)
end
section
variable {G:Gs} {F:Nat->List DV->Option Ou} {fu:Nat} {e k:ME} {i:Nat}
theorem z7V{e:ME}(h:z0R e=true):O7 G F e:=by
 cases e with
 | comp a _ b _=>exact z4c (snd a) (snd b)
 | compx a _ b _=>exact z2d (snd a) (snd b)
 | compi a _ b c _=>exact z0F (snd a) (snd b) (snd c)
 | _=>cases h
theorem y1y:SS G F fu (.set i own e):=by
 intro sg X E st δ o g hc h;unfold corS at hc;split at hc
 ·rename_i t v pos;split at hc
  ·rename_i x pt;simp only[b8,d5,B2,p6]at hc;obtain⟨⟨⟨h1,h2⟩,h3⟩,h4⟩:=hc;have l:=g.loc x h2;have hN:X.N[i]? = some x:=by rw[g.N];exact h1
   unfold evS at h;cases hv:Q7 v with
   | false=>exact z0n g.nd hN l.1 l.2 (λz hz=>(snd e).1 g h3 hz) (q2W hv) h
   | true=>
    rcases h4 with h4 | h5
    ·rw[hv]at h4;cases h4
    ·cases hr:evE G F e δ with
     | none=>rw[hr]at h;cases h
     | some r=>
      obtain⟨cp,N',fr,tg,p,rfl,S,P,hG,hs⟩:=z7V h5 g h3 hr;cases hb:(X.env.blockKind == .function&&X.env.kindOf x==some .local&&pt.line==(Expr.ListComp cp.elt [⟨cp.tg,cp.it,cp.ifs,0⟩] cp.sc p).pos.line && !(cp.sc.names.any λ(n,k)=>n==x&&(k == .local||k == .cell)))with
      | false=>
       have hsw:swapsWith (.ListComp cp.elt [⟨cp.tg,cp.it,cp.ifs,0⟩] cp.sc p) (some (.Name x pt)) pos.line X.env=pure false:=(by show(pure (X.env.blockKind == .function&&X.env.kindOf x==some .local&&pt.line==(Expr.ListComp cp.elt [⟨cp.tg,cp.it,cp.ifs,0⟩] cp.sc p).pos.line && !(cp.sc.names.any λ(n,k)=>n==x&&(k == .local||k == .cell))):Sem Bool)=pure false;rw[hb]);exact z0n g.nd hN l.1 l.2 (λz hz=>(snd e).1 g h3 hz) hsw h
      | true=>
       have hsw:swapsWith (.ListComp cp.elt [⟨cp.tg,cp.it,cp.ifs,0⟩] cp.sc p) (some (.Name x pt)) pos.line X.env=pure true:=(by show(pure (X.env.blockKind == .function&&X.env.kindOf x==some .local&&pt.line==(Expr.ListComp cp.elt [⟨cp.tg,cp.it,cp.ifs,0⟩] cp.sc p).pos.line && !(cp.sc.names.any λ(n,k)=>n==x&&(k == .local||k == .cell))):Sem Bool)=pure true;rw[hb]);rw[hr]at h;have h4:X.env.kindOf x=some .local:=by simp only[b8,d5]at hb;exact hb.1.1.2
       exact q8x S g.calm g.nd hN h4 P hG hs hsw h
  ·cases hc
 ·cases hc
theorem y0W:SS G F fu (.app i e):=by
 intro sg X E st δ o g hc h;unfold corS at hc;split at hc
 ·rename_i v pos;split at hc
  ·rename_i ef ea cpos q;have:=v5 q;subst this;split at hc
   ·rename_i ob n apos q2;have:=Z6 q2;subst this;simp only[b8,p6]at hc;obtain⟨⟨⟨⟨h1,h2⟩,h3⟩,h4⟩,h5⟩:=hc;split at h2
    ·rename_i x q3;obtain⟨np,rfl⟩:=x0 q3;obtain⟨s1,s2,s3,s4⟩:=q8o g h2;have hn:n = "append":=d5.mp h1;subst hn;unfold evS at h;exact q9A (Y7 s1 s2 s3 s4) (λz hz=>(snd e).1 g h3 hz) h4 h5 h
    ·cases h2
   ·cases hc
  ·cases hc
 ·cases hc
theorem z9y:SS G F fu (.sett is e):=by
 intro sg X E st δ o g hc h;unfold corS at hc;split at hc
 ·rename_i t v pos;simp only[b8,p6]at hc;obtain⟨⟨⟨h1,h2⟩,h3⟩,h4⟩:=hc;unfold tgOk at h1;dsimp only at h1;split at h1
  ·rename_i es q;obtain⟨kk,tp,rfl⟩:=V7 q;rw[b8,b8,d5]at h1;obtain⟨A,B,C⟩:=q5c g is es h1.1.1 h1.2;unfold evS at h;exact z3Y (z8o g.calm A B C) (λz hz=>(snd e).1 g h2 hz) h4 h3 h
  ·cases h1
 ·cases hc
theorem y0H:SS G F fu (.exp e):=by
 intro sg X E st δ o g hc h;unfold corS at hc;split at hc
 ·simp only[b8,p6]at hc;unfold evS at h;exact z7y (λz hz=>(snd e).1 g hc.1 hz) hc.2 h
 ·cases hc
theorem y1a:SS G F fu (.ret e):=by
 intro sg X E st δ o g hc h;unfold corS at hc;split at hc
 ·unfold evS at h;exact z5o (λz hz=>(snd e).1 g hc hz) h
 ·cases hc
theorem y0y:SS G F fu (.rse c e):=by
 intro sg X E st δ o g hc h;unfold corS at hc;split at hc
 ·rename_i v pos;split at hc
  ·rename_i ef ea cpos q;have:=v5 q;subst this;simp only[b8,p6,d5,N2,ne_eq]at hc;obtain⟨⟨⟨⟨⟨h0,h1⟩,h2⟩,h3⟩,h4⟩,h5⟩:=hc;obtain⟨np,rfl⟩:=x0 h1;unfold evS at h;exact z0r g.xf g.calm (g.glo c h2) (y8.mpr h3) (g.st h0).2.2.2.1 (λz hz=>(snd e).1 g h4 hz) h5 h
  ·cases hc
 ·cases hc
theorem y1m(hb:SSs G F fu body):SS G F fu (.tryc body c ie ic):=by
 intro sg X E st δ o g hc h;unfold corS at hc;split at hc
 ·rename_i b hd pos;cases hd with
  | ExceptHandler t n bd hp=>
  simp only[b8,q3O]at hc;obtain⟨⟨h0,h1⟩,h2⟩:=hc;split at h2
  ·rename_i t' n' t2 v2 ap q;simp only[Option.some.injEq,Prod.mk.injEq]at q;obtain⟨rfl,rfl,rfl⟩:=q;simp only[b8,d5,N2,ne_eq,E8]at h2;obtain⟨⟨⟨⟨⟨⟨⟨⟨⟨⟨k1,k2⟩,k3⟩,k4⟩,k5⟩,k6⟩,k7⟩,k8⟩,k9⟩,k10⟩,k11⟩:=h2;split at k10
   ·rename_i x q2;simp only[b8,d5]at k10;obtain⟨tp,rfl⟩:=x0 q2;obtain⟨vp,rfl⟩:=x0 k9;obtain⟨np,rfl⟩:=x0 k1;have l:=g.loc x k10.2;obtain⟨s1,s2,s3,_⟩:=g.st h0;unfold evS at h;exact z6R g.xf s1 s2 s3 (g.glo c k2) k4 (y8.mpr k3) g.nd (by rw[g.N];exact k5) (g.lcl _ k6) (y8.mpr k7) (y8.mpr k8) (by rw[g.N];exact k10.1) l.1 l.2
     (λpins E' q hq=>hb (q8F g pins E') h1 hq) h
   ·cases k10
  ·cases h2
 ·cases hc
theorem z9f(hb:SSs G F fu body):SS G F fu (.tryr body c cr msg):=by
 intro sg X E st δ o g hc h;unfold corS at hc;split at hc
 ·rename_i b hd pos;cases hd with
  | ExceptHandler t n bd hp=>
  simp only[b8,q3O]at hc;obtain⟨⟨h0,h1⟩,h2⟩:=hc;split at h2
  ·rename_i t' v k rp q;simp only[Option.some.injEq,Prod.mk.injEq]at q;obtain⟨rfl,rfl,rfl⟩:=q;split at h2
   ·rename_i ef ea cpos q2;have:=v5 q2;subst this;simp only[b8,d5,N2,ne_eq,E8]at h2;obtain⟨⟨⟨⟨⟨⟨⟨⟨k1,k2⟩,k3⟩,k4⟩,k5⟩,k6⟩,k7⟩,k8⟩,k9⟩:=h2;obtain⟨np,rfl⟩:=x0 k1;obtain⟨np',rfl⟩:=x0 k5;obtain⟨j2,mp,rfl⟩:=V6 k8;obtain⟨j,cp,rfl⟩:=V6 k9;obtain⟨s1,s2,s3,_,s4⟩:=g.st h0;unfold evS at h;split at h
    ·rename_i hnb;exact z2M g.xf s1 s2 s3 s4 (g.glo c k2) k4 (y8.mpr k3) (g.glo cr k6) (y8.mpr k7) (λpins E' q hq=>hb (q8F g pins E') h1 hq) (λ_ _ _=>hnb) hnb h
    ·cases h
   ·cases h2
  ·cases h2
 ·cases hc
theorem y1s:SS G F fu (.frz i):=by
 intro sg X E st δ o g hc h;unfold corS at hc;cases hc
variable {a b body:List MS} {c:ME} {tg:Tg}
theorem y1j(ha:SSs G F fu a)(hb:SSs G F fu b):SS G F fu (.iff c a b):=by
 intro sg X E st δ o g hc h;unfold corS at hc;split at hc
 ·simp only[b8]at hc;unfold evS at h;exact z9V (λz hz=>(snd c).2.1 g hc.1.1 hz) (λz hz=>ha g hc.1.2 hz) (λz hz=>hb g hc.2 hz) h
 ·cases hc
theorem t_fo(hb:SSs G F fu body):SS G F fu (.fo tg e body):=by
 intro sg X E st δ o g hc h;unfold corS at hc;split at hc
 ·simp only[b8,p6,B2]at hc;obtain⟨⟨⟨⟨h0,h1⟩,h2,h3⟩,h4⟩,h5⟩:=hc;unfold evS at h;exact z5k (g.own h0) g.calm (λz hz=>(snd e).2.2 g h2 (λw=>by
   rcases h3 with q | q
   ·rw[w]at q;cases q
   ·exact q) hz) (q9H g h1) (λδ' o' ho=>hb g h5 ho) h4 h
 ·cases hc
theorem t_wh(hb:SSs G F fu body):SS G F fu (.wh c body):=by
 intro sg X E st δ o g hc h;unfold corS at hc;split at hc
 ·simp only[b8]at hc;unfold evS at h;exact z1l (g.own hc.1.1) (λδ' r hr=>(snd c).2.1 g hc.1.2 hr) (λδ' o' ho=>hb g hc.2 ho) h
 ·cases hc
theorem z8U:SSs G F fu []:=by
 intro sg X E sts δ o g hc h;cases sts with
 | nil=>unfold evSs at h;cases h;exact z7t
 | cons a b=>unfold D6 at hc;cases hc
theorem z9b(hb:SSs G F fu ms):SSs G F fu (.frz i::ms):=by
 intro sg X E sts δ o g hc h;have hc':D6 sg ms sts=true:=by unfold D6 at hc;exact hc
 unfold evSs at h;have key:evS G F fu (.frz i) δ=(match δ[i]? with | some (.own d)=>some (.nx (δ.set i (.val d))) | _=>some (.nx δ)):=by unfold evS;rfl
 rw[key]at h;cases q:δ[i]? with
 | none=>rw[q]at h;exact hb g hc' h
 | some sv=>
  rw[q]at h;cases sv with
  | own d=>exact q9K q (hb g hc' h)
  | no=>exact hb g hc' h
  | val d=>exact hb g hc' h
  | ot d=>exact hb g hc' h
  | o2 d=>exact hb g hc' h
  | od d=>exact hb g hc' h
theorem K5(ha:SS G F fu m)(hb:SSs G F fu ms)(hm:∀i,m ≠ .frz i):SSs G F fu (m::ms):=by
 intro sg X E sts δ o g hc h;cases sts with
 | nil=>
  exfalso;cases m<;>first | exact hm _ rfl | (unfold D6 at hc;cases hc)
 | cons st sts=>
  have hc':corS sg m st=true/\D6 sg ms sts=true:=(by cases m<;>first | exact absurd rfl (hm _) | (unfold D6 at hc;rw[b8]at hc;exact hc));unfold evSs at h;split at h
  ·rename_i δ' q;exact z3z (ha g hc'.1 q) (hb g hc'.2 h)
  ·rename_i hne;have A:=ha g hc'.1 h;cases o with
   | nx δ'=>exact absurd h (hne δ')
   | rt d fr=>exact z8v A
   | rtt d=>exact z6Y A
   | ex c δ'=>exact z9u A
end
section
variable {G:Gs} {F:Nat->List DV->Option Ou} {fu:Nat}
mutual
theorem sndS:∀m:MS,SS G F fu m
 | .set _ _ _=>y1y
 | .sett _ _=>z9y
 | .app _ _=>y0W
 | .exp _=>y0H
 | .ret _=>y1a
 | .iff _ a b=>y1j (C5 a) (C5 b)
 | .fo _ _ body=>t_fo (C5 body)
 | .wh _ body=>t_wh (C5 body)
 | .rse _ _=>y0y
 | .tryc body _ _ _=>y1m (C5 body)
 | .tryr body _ _ _=>z9f (C5 body)
 | .frz _=>y1s
theorem C5:∀ms:List MS,SSs G F fu ms
 | []=>z8U
 | .frz _::ms=>z9b (C5 ms)
 | .set i o e::ms=>K5 (sndS (.set i o e)) (C5 ms) (by intro i z;cases z)
 | .sett i o::ms=>K5 (sndS (.sett i o)) (C5 ms) (by intro i z;cases z)
 | .app i o::ms=>K5 (sndS (.app i o)) (C5 ms) (by intro i z;cases z)
 | .exp e::ms=>K5 (sndS (.exp e)) (C5 ms) (by intro i z;cases z)
 | .ret e::ms=>K5 (sndS (.ret e)) (C5 ms) (by intro i z;cases z)
 | .iff c a b::ms=>K5 (sndS (.iff c a b)) (C5 ms) (by intro i z;cases z)
 | .fo t i b::ms=>K5 (sndS (.fo t i b)) (C5 ms) (by intro i z;cases z)
 | .wh c b::ms=>K5 (sndS (.wh c b)) (C5 ms) (by intro i z;cases z)
 | .rse c e::ms=>K5 (sndS (.rse c e)) (C5 ms) (by intro i z;cases z)
 | .tryc a b c d::ms=>K5 (sndS (.tryc a b c d)) (C5 ms) (by intro i z;cases z)
 | .tryr a b c d::ms=>K5 (sndS (.tryr a b c d)) (C5 ms) (by intro i z;cases z)
end
end
end
section
structure FunD(K:PySem.W.Frag)(x qual:Str)(st:Stmt)(f:Addr)(fd:FuncData):Prop where
 ex:∃(oc:Value) (od:Option Addr) (dV kV doc pm:Value) (an:Option Addr) (cdv ct:Value) (osl:Array (Option Value)),
  fd=PySem.W.fnOf x qual (F6 st) (B9 st) (n9 st) dV kV doc pm an cdv ct/\K.lookup f=some ⟨oc,od,.func fd,osl⟩/\PySem.W.codeIn K cdv qual=true
theorem FunD.okX{P:Program}{w:World}{K:PySem.W.Frag}{mg:Str->Option Value}{base:Heap}{x qual:Str}{st:Stmt}{f:Addr}{fd:FuncData}{N ps:List Str}{k:Nat}{sp:Sp}(F:FunD K x qual st f fd)(S:FnScope N ps (n9 st))(len:∀vs H Q E,sp vs H Q E->vs.length=ps.length)
  (hbody:∀(cdv:Value),fd.code=cdv->∀(A:Around) (outer:List Env) (s:Shared) (H:Hp) (vs:List V) (Q:VK) (E:XK),Room k (A.deeper (envOfC qual (n9 st) s.heap.objs.size f cdv))->sp vs H Q E ->
   ∃t,PSs (cxD P w K mg base N qual (n9 st) f cdv A outer s H E) (B9 st) t/\t {nx:=λ_ H'=>Q .non H',rt:=Q} (start N vs) H):FnOk P w K mg base (CXx P w base) (k+1) f fd ps sp:=by
 obtain⟨oc,od,dV,kV,doc,pm,an,cdv,ct,osl,rfl,lk,hcd⟩:=F.ex;exact y0V lk hcd S len λA outer s H vs Q E hr hsp=>hbody cdv rfl A outer s H vs Q E hr hsp
def hm1:ME:=.cmp .Eq (.var 1) (.lst [])
def hG:Gs:={con:=[],cls:=[],hun:=true}
theorem z1T:J0 k A9 [d,.lst l]=(N5 k d l).map λr=>.v r.1 false:=by
 show(if A9=A9 then _ else none)=_;exact d4 rfl
def hδ(d:DV)(ds:List DV)(x:Sv):List Sv:=[.val d,.own (.lst ds),x]
section
variable {F:Nat->List DV->Option Ou} {d:DV} {ds:List DV} {x:Sv} {s:Str}
end
section
variable {P:Program} {w:World} {K:PySem.W.Frag} {mg:Str->Option Value} {base:Heap} {fa:Addr} {fd:FuncData} {ps:List Str}
end
end
section
theorem RSt.start(hn:n=N.length)(r:RepL D (L2.wo O H) ds vs)(ho:Hdn O H):RSt D H (L2.start N vs) (i4 n ds) O []:=by
 subst hn;have ino:∀(i:Nat) ds',(i4 N.length ds)[i]? ≠ some (.own ds'):=λi ds' h=>by
  unfold i4 at h;by_cases hi:i<(ds.map Sv.val).length
  ·rw[O8 hi,B5]at h;cases q:ds[i]? with
   | none=>rw[q]at h;cases h
   | some d=>rw[q]at h;cases h
  ·rw[T9 (by omega),X4]at h;split at h<;>cases h
 have iot:∀(i:Nat) ds',(i4 N.length ds)[i]? ≠ some (.ot ds'):=λi ds' h=>by
  unfold i4 at h;by_cases hi:i<(ds.map Sv.val).length
  ·rw[O8 hi,B5]at h;cases q:ds[i]? with
   | none=>rw[q]at h;cases h
   | some d=>rw[q]at h;cases h
  ·rw[T9 (by omega),X4]at h;split at h<;>cases h
 have io2:∀(i:Nat) ds',(i4 N.length ds)[i]? ≠ some (.o2 ds'):=λi ds' h=>by
  unfold i4 at h;by_cases hi:i<(ds.map Sv.val).length
  ·rw[O8 hi,B5]at h;cases q:ds[i]? with
   | none=>rw[q]at h;cases h
   | some d=>rw[q]at h;cases h
  ·rw[T9 (by omega),X4]at h;split at h<;>cases h
 have iod:∀(i:Nat) ds',(i4 N.length ds)[i]? ≠ some (.od ds'):=λi ds' h=>by
  unfold i4 at h;by_cases hi:i<(ds.map Sv.val).length
  ·rw[O8 hi,B5]at h;cases q:ds[i]? with
   | none=>rw[q]at h;cases h
   | some d=>rw[q]at h;cases h
  ·rw[T9 (by omega),X4]at h;split at h<;>cases h
 refine⟨λi d h=>?_,λi ds' h=>absurd h (ino i ds'),λi j a d1 d2 h=>absurd h (ino i d1),RSt.noot iot,λi d h=>absurd h (io2 i d),λi d h=>absurd h (iod i d),?_,⟨λa ha=>ho.ne a (by simpa using ha),Same.refl _,λa ha=>(nomatch ha),λa ha=>(nomatch ha),ho⟩⟩
 ·unfold i4 at h;by_cases hi:i<(ds.map Sv.val).length
  ·rw[O8 hi,B5]at h;cases q:ds[i]? with
   | none=>rw[q]at h;cases h
   | some d'=>
    rw[q]at h;cases h;obtain⟨v,e1,e2⟩:=r.get q;refine⟨v,?_,by rw[z9];exact e2⟩;unfold L2.start;rw[O8 (by rw[g9];exact(u9.mp e1).1),B5,e1];rfl
  ·rw[T9 (by omega),X4]at h;split at h<;>cases h
 ·unfold L2.start i4;rw[A7,A7,g9,g9,w2k,w2k,r.length]
def DfOk(G:Gs)(T:List FD):Prop:=(∀f ds,G.dfl.lookup f=some ds->∃d,T[f]? = some d/\d.dfl=ds/\ds≠[])/\∀f n,G.kws.lookup f=some n->∃d,T[f]? = some d/\d.kn=some n
structure Stands(K:PySem.W.Frag)(mg:Str->Option Value)(fn bl cl:List Str)(d:FD)(x:Str)(fa:Addr)(fd:FuncData)(ps:List Str):Prop where
 dk:(d.dfl≠[]->∃us dvs,C3 K fd ps us/\Vals dvs us/\∀H,RepL ⟨K,mg⟩ H d.dfl dvs)/\∀n,d.kn=some n->KBinds K fd ps n (J3 n.length ps.length) (J3 n.length ps.length)
 mg:mg x=some (.ref fa)
 kp:PySem.W.keepIn K (.ref fa)=true
 bi:C3 K fd ps []
 np:d.np=ps.length
 ex:∃qual st N,FunD K x qual st fa fd/\FnScope N ps (n9 st)/\d.n=N.length/\D6 ⟨N,(n9 st).names,fn,bl,cl,true,true⟩ d.body (B9 st)=true
section
variable {P:Program} {w:World} {K:PySem.W.Frag} {mg:Str->Option Value} {base:Heap} {G:Gs} {T:List FD} {fu:Nat} {fn bl cl:List Str}
theorem z3S(hT:T.length=fn.length)(hs:∀(i:Nat) d x,T[i]? = some d->fn[i]? = some x->∃fa fd ps,Stands K mg fn bl cl d x fa fd ps)(hbl:∀x∈bl,mg x=none)(hxf:XFacts K mg G cl)
  (hcon:∀x d,G.con.lookup x=some d->∃u v,mg x=some u/\RelV v u/\∀H,Rep ⟨K,mg⟩ H d v) (hdc:∀x kvs,G.dcs.lookup x=some kvs->q9D K w mg x kvs) (hdf:DfOk G T) (hh:G.hun=true->T.length<=A9/\∃fa fd ps,mg E5=some (.ref fa)/\PySem.W.keepIn K (.ref fa)=true/\C3 K fd ps []/\∀k,FnOk P w K mg base (CXx P w base) k fa fd ps (spH ⟨K,mg⟩ (N5 k))) (hlm0:G.fnl=fn/\G.bll=bl/\G.cll=cl) (hTl:T.length<=A9)
  (ih1:∀(i:Nat) d x fa fd ps,T[i]? = some d->fn[i]? = some x->Stands K mg fn bl cl d x fa fd ps->FnOk P w K mg base (CXx P w base) k fa fd ps (spF ⟨K,mg⟩ ps.length (run G T fu k i))) (ih2:z0p P w K mg base fn bl cl k (run G T fu k u6)):z0p P w K mg base fn bl cl (k+1) (run G T fu (k+1) u6):=by
 intro A outer s H us vs Q E O f m cs ds d hr e0 r hO m1 m2 m3 rp rl hF hq;have hTn:T[u6]? = none:=w2m (m7 hTl (by decide));have hF':(match T[u6]? with | none=>if u6=u6 then lamR (evE G (run G T fu k)) (.lam m cs::ds)else J0 (k+1) u6 (.lam m cs::ds) | some fd=>if(DV.lam m cs::ds).length=fd.np then Ou.of (evSs G (run G T fu k) fu fd.body (i4 fd.n (.lam m cs::ds)))else none)=some (.v d false):=hF;rw[hTn]at hF';have hF2:(if u6=u6 then lamR (evE G (run G T fu k)) (.lam m cs::ds)else J0 (k+1) u6 (.lam m cs::ds))=some (.v d false):=hF';rw[d4 rfl]at hF2;unfold lamR at hF2;dsimp only at hF2;split at hF2
 ·rename_i cond;obtain⟨n1,n2,n3,n4⟩:=cond;split at hF2
  ·rename_i d' hev;split at hF2
   ·rename_i nl;cases hF2;obtain⟨f',pr,bd,sc,q,cl',l,ws,e1,lf,hcor,S,rc,lc1,lc2,lc3⟩:=q4U.mp rp;cases e1;have lf':=lf.mono q9;have atH:∀c∈l,∃o v,H c=some (.frz o (.own c))/\s.heap.get? c=some o/\o.data=.cell v:=λc hc=>by
     obtain⟨o,v,g1,g2⟩:=lc2 c hc;have g:=(x6 g1).2;exact⟨o,v,g,(e0.hok c _ g).1,g2⟩
    have C:CellsT l s.heap H:=⟨atH⟩;unfold Z8 at hcor;rw[b8,d5]at hcor;have hlv:vs.length=ds.length:=rl.length;have hnp:(m.N.take m.np).length=m.np:=by rw[G7];omega
    have hus:us.length=(m.N.take m.np).length:=by rw[←r.length,hlv,hnp];exact n1
    have hlw:ws.length=cs.length:=rc.length;have hlO:∀c∈l,∃o,H c=some (.frz o (.own c)):=λc hc=>by obtain⟨o,_,g,_⟩:=atH c hc;exact⟨o,g⟩
    have hO2:Hdn O (L2.wo l H):=λa ha=>by obtain⟨o,g1,g2⟩:=hO a ha;refine⟨o,?_,g2⟩;rw[f7 λz=>by obtain⟨o',g⟩:=hlO a z;rw[g1]at g;cases g;cases g2];exact g1
    refine z6f (k:=k+1) (ps:=m.N.take m.np) (ws:=ws) (vs:=vs) S C hr e0 lf' (λpm c' ctv=>z2v hcor.1 hus) (by rw[hlv,hnp];exact n1) r (by rw[hnp];exact lc1) (λi x v h1 h2=>?_) λc'=>?_
    ·rw[hnp]at h1;obtain⟨c,o,u,g1,g2,g3,g4⟩:=lc3 i x v h1 h2;have g:=(x6 g2).2;exact⟨c,u,g1,⟨o,(e0.hok c _ g).1,g3⟩,g4⟩
    ·have hr':Room k (A.deeper (PySem.W.envX q sc s.heap.objs.size f (.ref c') cl')):=hr.deeper _;have g4:Good ⟨m.N,sc.names,fn,bl,cl,false,false⟩ G (run G T fu k) (z3e P w K mg base m.N q sc f (.ref c') cl' A outer s (L2.wo l H)) E0s:=by
      refine⟨rfl,S.nd,λy hy=>?_,λy hy=>?_,λy hy=>?_,λy hy=>hy,λy hy=>hy,rfl,hr'.units,λf2 y hy=>?_,hbl,?_,hcon,(λz=>nomatch z),hxf,(λz=>nomatch z),hdc,λz=>by
       obtain⟨hl,fa',fd',ps',s1,s2,s3,s4⟩:=hh z;refine⟨k,fa',fd',ps',N5 k,hr',s1,s2,s3,λd l=>?_,s4 k⟩;cases k with
       | zero=>rfl
       | succ k=>
        show(match T[A9]? with | none=>if A9=u6 then lamR (evE G (run G T fu k)) [d,.lst l]else J0 (k+1) A9 [d,.lst l] | some fd=>if[d,.lst l].length=fd.np then Ou.of (evSs G (run G T fu k) fu fd.body (i4 fd.n [d,.lst l]))else none)=_;rw[w2m hl];show(if A9=u6 then lamR (evE G (run G T fu k)) [d,.lst l]else J0 (k+1) A9 [d,.lst l])=_;rw[d6 (by decide)];exact z1T,λz=>⟨hlm0,⟨k,hr',ih2⟩,λw=>nomatch w⟩⟩
      ·unfold visB at hy;simp only[B2,d5]at hy;rcases hy with(hy | hy) | hy
       ·exact .inl hy
       ·exact .inr (.inl hy)
       ·exact .inr (.inr hy)
      ·unfold gloB at hy;rw[d5]at hy;exact hy
      ·unfold locB at hy;simp only[B2,d5]at hy;rcases hy with hy | hy
       ·exact⟨.inl hy,.inr hy⟩
       ·exact absurd rfl (S.nocell _ (D0 hy))
      ·have hf:f2<T.length:=by rw[hT];exact(u9.mp hy).1
       obtain⟨d',hd'⟩:∃d',T[f2]? = some d':=⟨_,x9 hf⟩;obtain⟨fa',fd',ps',S'⟩:=hs f2 d' y hd' hy;refine⟨k,fa',fd',ps',hr',S'.mg,S'.kp,S'.bi,λds o q=>?_,ih1 f2 d' y fa' fd' ps' hd' hy S',?_,?_⟩
       rotate_left
       ·intro ds q;obtain⟨d2,q1,q2,q3⟩:=hdf.1 f2 ds q;rw[hd']at q1;cases q1;have:=S'.dk.1 (by rw[q2];exact q3);rw[q2]at this;exact this
       ·intro n q;obtain⟨d2,q1,q2⟩:=hdf.2 f2 n q;rw[hd']at q1;cases q1;exact S'.dk.2 n q2
       cases k with
       | zero=>cases q
       | succ k=>
        have q':(match T[f2]? with | none=>if f2=u6 then lamR (evE G (run G T fu k)) ds else J0 (k+1) f2 ds | some fd=>if ds.length=fd.np then Ou.of (evSs G (run G T fu k) fu fd.body (i4 fd.n ds))else none)=some o:=q;rw[hd']at q';have q'':(if ds.length=d'.np then Ou.of (evSs G (run G T fu k) fu d'.body (i4 d'.n ds))else none)=some o:=q';split at q''
        ·rename_i z;rw[z,S'.np]
        ·cases q''
      ·intro pins σ H s e s' I z;obtain⟨_,_,_,_,_,_,_,_,_,_,q⟩:=z;exact q.elim
     have hc:corE ⟨m.N,sc.names,fn,bl,cl,false,false⟩ false m.body bd=true:=(by have:=hcor.2;rw[m1,m2,m3]at this;exact this);have pe:=(snd m.body).1 g4 hc hev;refine⟨_,pe,O,[],?_,λv H' sm gt=>λgone=>?_⟩
     ·have R:=RSt.start (D:=⟨K,mg⟩) (N:=m.N) (ds:=ds++cs) (vs:=vs++ws) (n:=m.N.length) rfl ((W6 hlO n3 rl).append (W6 hlO n4 rc)) hO2;have e1:i4 m.N.length (ds++cs)=(ds++cs).map Sv.val:=by
       unfold i4;rw[A7,show m.N.length - (ds.length+cs.length)=0 by omega];exact z9 _
      have e2:L2.start m.N (vs++ws)=(vs++ws).map some:=(by unfold L2.start;rw[A7,show m.N.length - (vs.length+ws.length)=0 by omega];exact z9 _);rw[e1,e2]at R;exact R
     ·have gt':Rep ⟨K,mg⟩ (L2.wo (O++[]) H') d v:=gt;rw[z9]at gt';refine hq v _ (λb o e=>?_) (gt'.mono λb o e=>?_)
      ·by_cases hb:b∈l
       ·rw[z6H hb];exact e
       ·rw[R5 hb];exact sm _ _ (by rw[f7 hb];exact e)
      ·obtain⟨hb,e⟩:=x6 e;rw[f7 hb,R5 λz=>by rw[gone b z]at e;cases e];exact e
   ·cases hF2
  ·cases hF2
 ·cases hF2
theorem q8O(hT:T.length=fn.length)(hs:∀(i:Nat) d x,T[i]? = some d->fn[i]? = some x->∃fa fd ps,Stands K mg fn bl cl d x fa fd ps)(hbl:∀x∈bl,mg x=none)(hxf:XFacts K mg G cl)
  (hcon:∀x d,G.con.lookup x=some d->∃u v,mg x=some u/\RelV v u/\∀H,Rep ⟨K,mg⟩ H d v) (hdc:∀x kvs,G.dcs.lookup x=some kvs->q9D K w mg x kvs) (hdf:DfOk G T) (hh:G.hun=true->T.length<=A9/\∃fa fd ps,mg E5=some (.ref fa)/\PySem.W.keepIn K (.ref fa)=true/\C3 K fd ps []/\∀k,FnOk P w K mg base (CXx P w base) k fa fd ps (spH ⟨K,mg⟩ (N5 k)))
  (hlm:G.fnl.isEmpty=false->(G.fnl=fn/\G.bll=bl/\G.cll=cl)/\T.length<=A9/\∀(i:Nat) (d:FD) (x qual:Str) (st:Stmt) (fa:Addr) (fd:FuncData),T[i]? = some d->fn[i]? = some x->FunD K x qual st fa fd->∃c P,fd.code=.ref c/\(∀h:Heap,K.In h->PySem.W.CodeHd h c P)/\(P,(qual ++ ".<locals>.") ++ "<lambda>")∈u0 K) :
  ∀k,(∀(i:Nat) d x fa fd ps,T[i]? = some d->fn[i]? = some x->Stands K mg fn bl cl d x fa fd ps->FnOk P w K mg base (CXx P w base) k fa fd ps (spF ⟨K,mg⟩ ps.length (run G T fu k i)))/\(G.fnl.isEmpty=false->z0p P w K mg base fn bl cl k (run G T fu k u6))
 | 0=>by
  refine⟨λi d x fa fd ps h1 h2 S=>?_,λ_ A outer s H us vs Q E O f m cs ds d _ _ _ _ _ _ _ _ _ hF _=>by cases hF⟩;refine⟨λvs H Q E h=>?_,λA outer s H args us vs Q E hr he hb hv h=>?_⟩
  ·obtain⟨_,_,_,_,_,_,q,_⟩:=h;cases q
  ·obtain⟨_,_,_,_,_,_,q,_⟩:=h;cases q
 | k+1=>by
  have ih:=q8O hT hs hbl hxf hcon hdc hdf hh hlm k;refine⟨λi d x fa fd ps h1 h2 S=>?_,λz=>z3S hT hs hbl hxf hcon hdc hdf hh (hlm z).1 (hlm z).2.1 ih.1 (ih.2 z)⟩;obtain⟨qual,st,N,F,FS,hn,hc⟩:=S.ex;refine F.okX FS (λvs H Q E h=>?_) (λcdv hcd A outer s H vs Q E hr h=>?_)
  ·obtain⟨O,ds,o,_,e1,e2,_⟩:=h;rw[e2.length,e1]
  ·obtain⟨O,ds,o,ho,e1,e2,e3,e4⟩:=h;have e3':(match T[i]? with | none=>if i=u6 then lamR (evE G (run G T fu k)) ds else J0 (k+1) i ds | some fd=>if ds.length=fd.np then Ou.of (evSs G (run G T fu k) fu fd.body (i4 fd.n ds))else none)=some o:=e3;rw[h1]at e3';have e3'':(if ds.length=d.np then Ou.of (evSs G (run G T fu k) fu d.body (i4 d.n ds))else none)=some o:=e3';rw[d4 (e1.trans S.np.symm)]at e3'';have g:Good ⟨N,(n9 st).names,fn,bl,cl,true,true⟩ G (run G T fu k) (cxD P w K mg base N qual (n9 st) fa cdv A outer s H E) (λ_=>E):=by
    refine⟨rfl,FS.nd,λy hy=>?_,λy hy=>?_,λy hy=>⟨?_,.inl rfl⟩,λy hy=>hy,λy hy=>hy,rfl,hr.units,λf y hy=>?_,hbl,q9Q.s,hcon,λ_=>PassesOwn.leaving,hxf,λ_=>⟨rfl,rfl,rfl,q9C,z3P⟩,hdc,λz=>by
     obtain⟨hl,fa',fd',ps',s1,s2,s3,s4⟩:=hh z;refine⟨k,fa',fd',ps',N5 k,hr,s1,s2,s3,λd l=>?_,s4 k⟩;cases k with
     | zero=>rfl
     | succ k=>
      show(match T[A9]? with | none=>if A9=u6 then lamR (evE G (run G T fu k)) [d,.lst l]else J0 (k+1) A9 [d,.lst l] | some fd=>if[d,.lst l].length=fd.np then Ou.of (evSs G (run G T fu k) fu fd.body (i4 fd.n [d,.lst l]))else none)=_;rw[w2m hl];show(if A9=u6 then lamR (evE G (run G T fu k)) [d,.lst l]else J0 (k+1) A9 [d,.lst l])=_;rw[d6 (by decide)];exact z1T,λz=>⟨(hlm z).1,⟨k,hr,ih.2 z⟩,λ_=>by
      obtain⟨c,P,q1,q2,q3⟩:=(hlm z).2.2 i d x qual st fa fd h1 h2 F;exact⟨c,P,hcd.symm.trans q1,q2,q3⟩⟩⟩
    ·unfold visB at hy;simp only[B2,d5]at hy;rcases hy with(hy | hy) | hy
     ·exact .inl hy
     ·exact .inr (.inl hy)
     ·exact .inr (.inr hy)
    ·unfold gloB at hy;rw[d5]at hy;exact hy
    ·unfold locB at hy;simp only[B2,d5]at hy;exact hy
    ·have hf:f<T.length:=by rw[hT];exact(u9.mp hy).1
     obtain⟨d',hd'⟩:∃d',T[f]? = some d':=⟨_,x9 hf⟩;obtain⟨fa',fd',ps',S'⟩:=hs f d' y hd' hy;refine⟨k,fa',fd',ps',hr,S'.mg,S'.kp,S'.bi,λds o q=>?_,ih.1 f d' y fa' fd' ps' hd' hy S',?_,?_⟩
     rotate_left
     ·intro ds q;obtain⟨d2,q1,q2,q3⟩:=hdf.1 f ds q;rw[hd']at q1;cases q1;have:=S'.dk.1 (by rw[q2];exact q3);rw[q2]at this;exact this
     ·intro n q;obtain⟨d2,q1,q2⟩:=hdf.2 f n q;rw[hd']at q1;cases q1;exact S'.dk.2 n q2
     cases k with
     | zero=>cases q
     | succ k=>
      have q':(match T[f]? with | none=>if f=u6 then lamR (evE G (run G T fu k)) ds else J0 (k+1) f ds | some fd=>if ds.length=fd.np then Ou.of (evSs G (run G T fu k) fu fd.body (i4 fd.n ds))else none)=some o:=q;rw[hd']at q';have q'':(if ds.length=d'.np then Ou.of (evSs G (run G T fu k) fu d'.body (i4 d'.n ds))else none)=some o:=q';split at q''
      ·rename_i z;rw[z,S'.np]
      ·cases q''
   cases ho':evSs G (run G T fu k) fu d.body (i4 d.n ds)with
   | none=>rw[ho']at e3'';cases e3''
   | some oo=>
    rw[ho']at e3'';refine⟨_,C5 d.body g hc ho',H,O,[],RSt.start hn e2 ho,(λa ha=>(nomatch ha)),ho.ne,Same.refl H,?_⟩;cases oo with
    | nx δ=>cases e3'';exact λσ' H' W R fr sm=>e4 .non H' sm (show Rep ⟨K,mg⟩ (L2.wo O H') .non .non by unfold Rep;rfl)
    | rt d fr=>cases e3'';exact λv H' sm gt=>e4 v H' sm gt
    | rtt d=>cases e3'';exact λv H' sm gt=>e4 v H' sm gt
    | ex c δ=>cases e3'';exact λσ' H' W C hm R fr sm=>e4 H' C hm sm
end
end
section
def okD(fn bl cl:List Str)(d:FD)(N ps:List Str)(st:Stmt):Bool:=
 (n9 st).kind == .function && !(n9 st).isCoroutine && !(n9 st).isGenerator&&N7 N&&(N.take ps.length==ps) &&
 ps.all (λx=>(n9 st).names.lookup x==some .local||(n9 st).names.lookup x==some .cell)&&(n9 st).names.all (λy=>!(y.2 == .free)) &&
 d.n==N.length&&d.np==ps.length&&D6 ⟨N,(n9 st).names,fn,bl,cl,true,true⟩ d.body (B9 st)
section
variable {P:Program} {w:World} {K:PySem.W.Frag} {mg:Str->Option Value} {base h:Heap} {G:Gs} {T:List FD} {fu:Nat} {fn bl cl:List Str}
theorem q5C{d:FD}{x:Str}{N ps:List Str}{st:Stmt}{f:Addr}{oc:Value}{od an:Option Addr}{osl:Array (Option Value)}{dV kV doc pm cdv ct:Value}(X:K.In h)(Ns:h.Ns mainGlobals mg)(ok:okD fn bl cl d N ps st=true)
  (a:PySem.W.nsIn K mainGlobals x=some (some (.ref f))) (l:K.lookup f=some ⟨oc,od,.func (PySem.W.fnOf x x (F6 st) (B9 st) (n9 st) dV kV doc pm an cdv ct),osl⟩)
  (c:PySem.W.codeIn K cdv x=true) (k:PySem.W.keepIn K (.ref f)=true)
  (hb:C3 K (PySem.W.fnOf x x (F6 st) (B9 st) (n9 st) dV kV doc pm an cdv ct) ps [])
  (dk:(d.dfl≠[]->∃us dvs,C3 K (PySem.W.fnOf x x (F6 st) (B9 st) (n9 st) dV kV doc pm an cdv ct) ps us/\Vals dvs us/\∀H,RepL ⟨K,mg⟩ H d.dfl dvs)/\∀n,d.kn=some n->KBinds K (PySem.W.fnOf x x (F6 st) (B9 st) (n9 st) dV kV doc pm an cdv ct) ps n (J3 n.length ps.length) (J3 n.length ps.length)) :
  Stands K mg fn bl cl d x f (PySem.W.fnOf x x (F6 st) (B9 st) (n9 st) dV kV doc pm an cdv ct) ps:=by
 unfold okD at ok;simp only[b8,d5,p6,o7,B2,y8]at ok;obtain⟨⟨⟨⟨⟨⟨⟨⟨⟨h1,h2⟩,h3⟩,h4⟩,h5⟩,h6⟩,h7⟩,h8⟩,h9⟩,h10⟩:=ok;exact⟨dk,PySem.W.mg_of X Ns a,k,hb,h9,x,st,N,⟨oc,od,dV,kV,doc,pm,an,cdv,ct,osl,rfl,l,c⟩,⟨h1,h2,h3,X1 h4,h5,h6,h7⟩,h8,h10⟩
theorem u8{d:FD}{x:Str}{N ps:List Str}{st:Stmt}{f:Addr}{oc:Value}{od an:Option Addr}{osl:Array (Option Value)}{kV doc pm cdv ct:Value}(X:K.In h)(Ns:h.Ns mainGlobals mg)(ok:okD fn bl cl d N ps st=true)
  (a:PySem.W.nsIn K mainGlobals x=some (some (.ref f))) (l:K.lookup f=some ⟨oc,od,.func (PySem.W.fnOf x x (F6 st) (B9 st) (n9 st) .none kV doc pm an cdv ct),osl⟩)
  (c:PySem.W.codeIn K cdv x=true) (k:PySem.W.keepIn K (.ref f)=true)
  (hb:∀(kV doc pm:Value) (an:Option Addr) (cdv ct:Value) (us:List Value),us.length=ps.length->bindArgs (PySem.W.fnOf x x (F6 st) (B9 st) (n9 st) .none kV doc pm an cdv ct) ⟨us,[]⟩=pure (ps.zip us)) (e1:d.dfl=[]:=by rfl) (e2:d.kn=none:=by rfl) :
  Stands K mg fn bl cl d x f (PySem.W.fnOf x x (F6 st) (B9 st) (n9 st) .none kV doc pm an cdv ct) ps:=
 q5C X Ns ok a l c k (.all (hb kV doc pm an cdv ct)) ⟨λz=>absurd e1 z,λn z=>by rw[e2]at z;cases z⟩
theorem z3U{G:Gs}{p:Prop}(e:G.hun=false:=by rfl):G.hun=true->p:=λz=>by rw[e]at z;cases z
def HS(K:PySem.W.Frag)(mg:Str->Option Value)(fn bl cl:List Str)(T:List FD)(fs:List Str):Prop:=∀(i:Nat) d x,T[i]? = some d->fs[i]? = some x->∃fa fd ps,Stands K mg fn bl cl d x fa fd ps
theorem z9B:HS K mg fn bl cl [] fs:=λi d x h=>by cases h
theorem u4(h:Stands K mg fn bl cl d x fa fd ps)(t:HS K mg fn bl cl T fs):HS K mg fn bl cl (d::T) (x::fs):=λi d' x' h1 h2=>by
 cases i with
 | zero=>cases h1;cases h2;exact⟨_,_,_,h⟩
 | succ i=>exact t i d' x' h1 h2
theorem z8a:L2.wo [] H=H:=by
 funext b
 unfold L2.wo;simp
def HC(K:PySem.W.Frag)(mg:Str->Option Value)(c:List (Str×DV)):Prop:=∀x d,c.lookup x=some d->∃u v,mg x=some u/\RelV v u/\∀H,Rep ⟨K,mg⟩ H d v
theorem z6v:HC K mg []:=λx d h=>by cases h
theorem q3P(h:∃u v,mg y=some u/\RelV v u/\∀H,Rep ⟨K,mg⟩ H d v)(t:HC K mg c):HC K mg ((y,d)::c):=λx d' q=>by
 rw[D1]at q;split at q
 ·rename_i e;cases q;rw[w3j e];exact h
 ·exact t x d' q
def OneL(K:PySem.W.Frag)(mg:Str->Option Value)(G:Gs)(cl:List Str)(l:List (Str×List Str)):Prop:=∀c,(l.lookup c).isSome=true->∃C,XOne K mg G cl c C
theorem z7f:OneL K mg G cl []:=λc h=>by cases h
theorem q4r(h:∃C,XOne K mg G cl c C)(t:OneL K mg G cl l):OneL K mg G cl ((c,b)::l):=λc' q=>by
 rw[D1]at q;split at q
 ·rename_i e;rw[w3j e];exact h
 ·exact t c' q
def AllL(mg:Str->Option Value)(l:List Str):Prop:=∀t∈l,∃Ct,mg t=some (.ref Ct)
theorem z5e:AllL mg []:=λt h=>by cases h
theorem all_cons(h:∃Ct,mg t=some (.ref Ct))(r:AllL mg l):AllL mg (t::l):=λt' q=>by
 rcases d9.mp q with e | e
 ·rw[e];exact h
 ·exact r t' e
def OwnL(K:PySem.W.Frag)(mg:Str->Option Value)(G:Gs)(c:Str)(C:Addr)(l:List Str):Prop:=∀t∈l,∀Ct,mg t=some (.ref Ct)->PySem.W.kitOne K (.ref C) (.ref Ct)=some (F1 G c t)/\PySem.W.exmOne K (.ref C) (.ref Ct)=some (F1 G c t)
theorem q5Y:OwnL K mg G c C []:=λt h=>by cases h
theorem E7(m:mg t=some (.ref Ct))(h:PySem.W.kitOne K (.ref C) (.ref Ct)=some (F1 G c t)/\PySem.W.exmOne K (.ref C) (.ref Ct)=some (F1 G c t))(r:OwnL K mg G c C l):OwnL K mg G c C (t::l):=λt' q Ct' m'=>by
 rcases d9.mp q with e | e
 ·subst e;cases m.symm.trans m';exact h
 ·exact r t' e Ct' m'
def spS(K:PySem.W.Frag):Sp:=λvs H Q _=>∃(a:Addr) (ns:List Int),vs=[.ref a]/\ns.length<=63/\SqS K H a (ns.map V.int)/\∀H',Q (.bl true) H'
def DCL(K:PySem.W.Frag)(w:World)(mg:Str->Option Value)(l:List (Str×List (Str×Option DV))):Prop:=∀x kvs,l.lookup x=some kvs->q9D K w mg x kvs
theorem z5c:DCL K w mg []:=λx kvs h=>by cases h
theorem z3j(hT:T.length=fn.length)(hs:HS K mg fn bl cl T fn)(hbl:∀x∈bl,mg x=none)(hxf:XFacts K mg G cl)
  (hcon:∀x d,G.con.lookup x=some d->∃u v,mg x=some u/\RelV v u/\∀H,Rep ⟨K,mg⟩ H d v) (hdc:∀x kvs,G.dcs.lookup x=some kvs->q9D K w mg x kvs) (hdf:DfOk G T) (hh:G.hun=true->T.length<=A9/\∃fa fd ps,mg E5=some (.ref fa)/\PySem.W.keepIn K (.ref fa)=true/\C3 K fd ps []/\∀k,FnOk P w K mg base (CXx P w base) k fa fd ps (spH ⟨K,mg⟩ (N5 k))) (h1:T[i]? = some d) (h2:fn[i]? = some x) (S:Stands K mg fn bl cl d x fa fd [p])
  (hlm:G.fnl.isEmpty=false->(G.fnl=fn/\G.bll=bl/\G.cll=cl)/\T.length<=A9/\∀(i:Nat) (d:FD) (x qual:Str) (st:Stmt) (fa:Addr) (fd:FuncData),T[i]? = some d->fn[i]? = some x->FunD K x qual st fa fd->∃c P,fd.code=.ref c/\(∀h:Heap,K.In h->PySem.W.CodeHd h c P)/\(P,(qual ++ ".<locals>.") ++ "<lambda>")∈u0 K)
  (law:∀ns:List Int,ns.length<=63->run G T fu k i [.scr ns]=some (.v (.bl true) false)):FnOk P w K mg base CX0 k fa fd [p] (spS K):=by
 have R:=(q8O (P:=P) (w:=w) (base:=base) (fu:=fu) hT hs hbl hxf hcon hdc hdf hh hlm k).1 i d x fa fd [p] h1 h2 S;refine⟨λvs H Q E h=>?_,λA outer s H args us vs Q E hr he hb hv h=>?_⟩
 ·obtain⟨a,ns,rfl,_⟩:=h;rfl
 ·obtain⟨a,ns,rfl,hl,hS,hq⟩:=h;refine U8 (R.run A outer s H args us [.ref a] Q E0 hr he hb hv ⟨[],[.scr ns],_,(λa ha=>(nomatch ha)),rfl,?_,law ns hl,λv H' _ g=>?_⟩) λr s' q=>?_
  ·refine RepL.one (L8.mpr ⟨a,rfl,?_⟩);rw[z8a];exact hS
  ·have g':Rep ⟨K,mg⟩ (L2.wo [] H') (.bl true) v:=g;rw[O0]at g';subst g';exact hq H'
  ·cases r with
   | error e=>
    obtain⟨_,_,_,_,_,_,_,_,_,_,z⟩:=(q:CXx P w base outer H s E0 e s');exact z.elim
   | ok fl=>cases fl<;>first | exact False.elim q | exact q
end
theorem walkE{l:PySem.W.OpenLaw}{q:Program}{loose:List Str}{XP:(Str->Option Value)->Heap->Prop}{YP:World->Heap->Prop}{d:DefRec}{K:Params->PySem.W.Frag}{k:Nat}{p:Str}(hn:l.most=some 63)(hdf:d.params.defaults=[])(hr:Room k callerA)
  (hY:∀(w:World) (h:Heap),YP w h->(K w.params).In h) (htb:∀(w:World) (h:Heap),YP w h->(∀p∈u0 (K w.params),(K w.params).lookup p.1=none/\h.get? p.1=some {cls:=.none,data:=.fields #[]} /\ isCodeTable h p.1)/\((u0 (K w.params)).map (·.1)).Nodup)
  (F:∀(w:World) (mg:Str->Option Value) (fa:Addr) (h:Heap),(K w.params).In h->h.Ns mainGlobals mg->mg d.name=some (.ref fa) ->
   ∃fd:FuncData,(∀(s:Shared) (u:Value),BindsTo s fd ⟨[u],[]⟩ [(p,u)])/\∀base:Heap,(K w.params).In base->base.Ns mainGlobals mg->FnOk l.prog w (K w.params) mg base CX0 k fa fd [p] (spS (K w.params))) :
  PySem.W.WalkO q loose XP YP l.row.toRowW d [] (λf vs=>PySem.call f vs):=
 L2.walk_of (n:=63) (k:=k) (x:=p) (CX:=λ_=>CX0) (sp:=λw=>spS (K w.params)) hn (by decide) hdf hr hY htb F (λ_ _ a ns hl hO hS=>⟨a,ns,rfl,hl,SqS.of hO hS,λ_=>rfl⟩) λ_ _ _ _ _ z=>z
end
section
def z9S(K:PySem.W.Frag)(o:Obj)(c:Addr):Option Addr:=match o.cls,o.data with
 | .type "code",.fields vs=>(match(vs[11]?:Option Value),(vs[18]?:Option Value),(vs[7]?:Option Value),(vs[9]?:Option Value),(vs[10]?:Option Value)with
  | some (.ref P),some (.str _ _),some (.int _ _),some (.bool _),some (.int _ _)=>if(c==P)=false/\(K.lookup P).isNone=true then some P else none
  | _,_,_,_,_=>none)
 | _,_=>none
def y0Y(K:PySem.W.Frag):Bool:=K.all λp=>match p.2.data with
 | .func fd=>(match fd.code with
  | .ref c=>(match K.lookup c with | some o=>(z9S K o c).isSome | none=>true)
  | _=>true)
 | _=>true
theorem q4J{vs:Array Value}{i:Nat}{v:Value}(h:vs[i]? = some v):vs.getD i .none=v:=by
 rw[Array.getD_eq_getD_getElem?,h];rfl
theorem z8i{K:PySem.W.Frag}{x qual:Str}{st:Stmt}{fa:Addr}{fd:FuncData}(hf:y0Y K=true)(F:FunD K x qual st fa fd):∃c P,fd.code=.ref c/\(∀h:Heap,K.In h->PySem.W.CodeHd h c P)/\(P,(qual ++ ".<locals>.") ++ "<lambda>")∈u0 K:=by
 obtain⟨oc,od,dV,kV,doc,pm,an,cdv,ct,osl,e,lk,hc⟩:=F.ex;have hfd:fd.code=cdv:=by rw[e]
 have q:=o7.mp hf _ (q2P lk);dsimp only at q;unfold PySem.W.codeIn at hc;split at hc
 ·rename_i c;rw[hfd]at q;dsimp only at q;split at hc
  ·rename_i cls dct vs sl ho;rw[ho]at q;dsimp only at q;obtain⟨P,hP⟩:=G4.mp q;unfold z9S at hP;split at hP
   ·rename_i vs' h1 h2;have h2':vs=vs':=by
     have:Data.fields vs=Data.fields vs':=h2;injection this
    subst h2';split at hP
    ·rename_i P' file tf fl tfl b tx ttx k1 k2 k3 k4 k5;split at hP
     ·rename_i cond;cases hP;split at hc
      ·rename_i a n t r hv;have hn:n=qual:=d5.mp hc;subst hn;have k6:vs[1]? = some (.str n t):=by rw[←w1X,hv];rfl
       refine⟨c,P,hfd,λh X=>⟨_,vs,file,tf,fl,tfl,b,tx,ttx,X _ _ ho,h1,rfl,k1,q4J k1,q4J k2,q4J k3,q4J k4,q4J k5,λz=>?_⟩,?_⟩
       ·rw[z]at cond;have:=cond.1;simp at this
       ·unfold u0;refine G6.mpr ⟨_,q2P ho,?_⟩;have h1':cls=Value.type "code":=h1;subst h1';simp only[k1,k6,cond.2,if_true]
      ·cases hc
     ·cases hP
    ·cases hP
   ·cases hP
  ·cases hc
 ·cases hc
theorem z7P{K:PySem.W.Frag}{p:Addr×Str}(h:p∈u0 K):∃(c:Addr) (oc:Obj) (vs:Array Value),(c,oc)∈K/\oc.cls=.type "code" /\ oc.data=.fields vs/\vs[11]? = some (.ref p.1)/\K.lookup p.1=none:=by
 unfold u0 at h;obtain⟨⟨c,oc⟩,hm,e⟩:=G6.mp h;dsimp only at e;split at e
 ·rename_i vs h1 h2;split at e
  ·rename_i P q t k1 k2;split at e
   ·rename_i z;cases e;exact⟨c,oc,vs,hm,h1,h2,k1,w2M.mp z⟩
   ·cases e
  ·cases e
 ·cases e
theorem z3n{K:PySem.W.Frag}(nd:(K.map (·.1)).Nodup){c:Addr}{o:Obj}(h:(c,o)∈K):K.lookup c=some o:=by
 induction K with
 | nil=>cases h
 | cons y l ih=>
  rw[B7]at nd;have nd':=M9.mp nd;obtain⟨a,b⟩:=y;rw[D1];rcases d9.mp h with z | z
  ·cases z;rw[w2i]
  ·have:c≠a:=λe=>nd'.1 (by rw[←e];exact j9.mpr ⟨_,z,rfl⟩);rw[y8.mpr this];exact ih nd'.2 z
theorem htb_of{K T:PySem.W.Frag}{h:Heap}(hk:K.In h)(ht:T.In h)(nd:(K.map (·.1)).Nodup)(hT:(u0 K).map (λp=>T.lookup p.1)=(u0 K).map λ_=>some {cls:=.none,data:=.fields #[]}) :
  ∀p∈u0 K,K.lookup p.1=none/\h.get? p.1=some {cls:=.none,data:=.fields #[]} /\ isCodeTable h p.1:=λp hp=>by
 obtain⟨c,oc,vs,hm,h1,h2,h3,h4⟩:=z7P hp;exact⟨h4,ht _ _ (List.map_inj_left.mp hT p hp),c,oc,vs,hk _ _ (z3n nd hm),h1,h2,h3⟩
theorem in_app{K T:PySem.W.Frag}{h:Heap}(X:PySem.W.Frag.In (T++K) h)(hd:(K.map (·.1)).all (λa=>(T.lookup a).isNone)=true):K.In h/\T.In h:=by
 have app:∀(T K:PySem.W.Frag) a,(T++K).lookup a=(T.lookup a).or (K.lookup a):=λT K a=>by
  induction T with
  | nil=>simp
  | cons y l ih=>
   obtain⟨b,v⟩:=y;rw[Y2,D1,D1];cases hb:a==b with
   | true=>rfl
   | false=>
    exact ih
 refine⟨λa o e=>X a o ?_,λa o e=>X a o ?_⟩
 ·rw[app,w2M.mp (o7.mp hd a (j9.mpr ⟨_,q2P e,rfl⟩)),e];rfl
 ·rw[app,e];rfl
end
end L2
end
noncomputable section
namespace k82
open PySem L2
section
def q2V:FD:={n:=3,np:=3,dfl:=[],body:=[.ret (.and [.isi (.var 0) ["int"],.not (.isi (.var 0) ["bool"]),.chain .LtE .LtE (.var 1) (.var 0) (.var 2)])]}
def q1r:FD:={n:=1,np:=1,dfl:=[],body:=[.iff (.or [.not (.call 2 [.var 0]),.not (.bi .all [.comp (.call 3 [.var 0]) (.one 0) (.var 0) [none]])]) [.rse "NoTable" (.str "a table is 1 to 8 rows of 1 to 8 words, ints from 0 to 9")] [],.iff (.bi .any [.comp (.cmp .NotEq (.bi .len [.var 0]) (.bi .len [.ix (.var 1) (.int 0)])) (.one 0) (.var 0) [none,some 0]]) [.rse "NoTable" (.str "the rows of a table are of one length")] [],.ret (.bi .tuple [.comp (.bi .tuple [.var 0]) (.one 0) (.var 0) [none]])]}
def q3r:FD:={n:=1,np:=1,dfl:=[],body:=[.ret (.and [.isi (.var 0) ["list","tuple"],.chain .LtE .LtE (.int 1) (.bi .len [.var 0]) (.glb "MOST_LINES")])]}
def q4v:FD:={n:=1,np:=1,dfl:=[],body:=[.ret (.and [.call 2 [.var 0],.bi .all [.comp (.call 0 [.var 0,.int 0,.glb "GREATEST_WORD"]) (.one 0) (.var 0) [none]]])]}
def q5O:FD:={n:=1,np:=1,dfl:=[],body:=[.ret (.compi (.var 0) (.one 0) (.rng [.meth .bitLength (.var 0) []]) (.bin .BitAnd (.bin .RShift (.var 1) (.var 0)) (.int 1)) [none,some 0])]}
def q5R:FD:={n:=1,np:=1,dfl:=[],body:=[.exp (.call 10 [.var 0,.int 1,.glb "MOST_LINES"]),.ret (.calll 11 (.var 0) (.var 0) ["r","c"] 2 (.ite (.cmp .Eq (.var 0) (.var 1)) (.int 1) (.int 0)) [])]}
def q7F:FD:={n:=2,np:=2,dfl:=[],body:=[.exp (.call 10 [.var 0,.int 1,.glb "MOST_LINES"]),.exp (.call 10 [.var 1,.int 1,.glb "MOST_LINES"]),.ret (.calll 11 (.var 0) (.var 1) ["r","c"] 2 (.ite (.cmp .Lt (.var 0) (.var 1)) (.int 1) (.int 0)) [])]}
def q5z:FD:={n:=3,np:=3,dfl:=[.int 2],body:=[.exp (.call 10 [.var 0,.int 1,.glb "MOST_LINES"]),.exp (.call 10 [.var 1,.int 1,.glb "MOST_LINES"]),.exp (.call 10 [.var 2,.int 2,.glb "GREATEST_MODULUS"]),.ret (.calll 11 (.var 0) (.var 1) ["r","c","k"] 2 (.bin .Mod (.bin .Add (.var 0) (.var 1)) (.var 2)) [2])]}
def q6t:FD:={n:=1,np:=1,dfl:=[],body:=[.exp (.call 10 [.var 0,.int 1,.glb "MOST_BITS"]),.ret (.calll 11 (.bin .LShift (.int 1) (.var 0)) (.bin .LShift (.int 1) (.var 0)) ["r","c"] 2 (.bi .len [.call 4 [.bin .BitAnd (.var 0) (.var 1)]]) [])]}
def z0U:FD:={n:=1,np:=1,dfl:=[],body:=[.exp (.call 10 [.var 0,.int 1,.glb "MOST_BITS"]),.ret (.calll 11 (.var 0) (.bin .LShift (.int 1) (.var 0)) ["r","c"] 2 (.bin .BitAnd (.bin .RShift (.var 1) (.var 0)) (.int 1)) [])]}
def q1F:FD:={n:=3,np:=3,dfl:=[],body:=[.iff (.not (.call 0 [.var 0,.var 1,.var 2])) [.rse "NoTable" (.fst [.str "a number of this table is an int from ",.fmt (.var 1),.str " to ",.fmt (.var 2)])] []]}
def q8d:FD:={n:=3,np:=3,dfl:=[],body:=[.ret (.bi .tuple [.comp (.bi .tuple [.comp (.callv 1 [] [.var 2,.var 0]) (.one 0) (.rng [.var 1]) [none,some 2,some 0]]) (.one 0) (.rng [.var 0]) [none,some 1,some 2]])]}
def q1o:FD:={n:=1,np:=1,dfl:=[],body:=[.iff (.not (.isi (.var 0) ["str"])) [.rse "NoText" (.str "a table is read from a text")] [],.tryr [.iff (.cmp .In (.str ":") (.var 0)) [.ret (.call 13 [.spl (.var 0) (.str ":")])] [],.ret (.call 1 [.comp (.comp (.fnd (.glb "DIGITS") (.var 0)) (.one 0) (.var 0) [none]) (.one 0) (.spl (.var 0) (.str "/")) [none]])] "NoTable" "NoText" "the text makes no table"]}
def q1y:FD:={n:=3,np:=1,dfl:=[],body:=[.set 1 false (.ix (.var 0) (.int 0)),.set 2 false (.compx (.call 14 [.var 0]) (.one 0) (.slf (.var 0) (.int 1)) [none]),.iff (.and [.cmp .Eq (.var 1) (.str "alike"),.cmp .Eq (.bi .len [.var 2]) (.int 1)]) [.ret (.call 5 [.ix (.var 2) (.int 0)])] [],.iff (.and [.cmp .Eq (.var 1) (.str "less"),.cmp .Eq (.bi .len [.var 2]) (.int 2)]) [.ret (.call 6 [.ix (.var 2) (.int 0),.ix (.var 2) (.int 1)])] [],.iff (.and [.cmp .Eq (.var 1) (.str "sums"),.cmp .Eq (.bi .len [.var 2]) (.int 3)]) [.ret (.call 7 [.ix (.var 2) (.int 0),.ix (.var 2) (.int 1),.ix (.var 2) (.int 2)])] [],.iff (.and [.cmp .Eq (.var 1) (.str "shared"),.cmp .Eq (.bi .len [.var 2]) (.int 1)]) [.ret (.call 8 [.ix (.var 2) (.int 0)])] [],.iff (.and [.cmp .Eq (.var 1) (.str "pick"),.cmp .Eq (.bi .len [.var 2]) (.int 1)]) [.ret (.call 9 [.ix (.var 2) (.int 0)])] [],.rse "NoText" (.str "a table's name has one of five words and all its numbers")]}
def q2z:FD:={n:=1,np:=1,dfl:=[],body:=[.iff (.or [.cmp .NotIn (.bi .len [.var 0]) (.tup [.int 1,.int 2]),.cmp .Eq (.ix (.var 0) (.int 0)) (.str "0"),.bi .any [.comp (.cmp .NotIn (.var 0) (.glb "DIGITS")) (.one 0) (.var 0) [none]]]) [.rse "NoText" (.str "a number has one or two digits without a needless 0")] [],.ret (.bi .int [.var 0])]}
def q3Y:FD:={n:=1,np:=1,dfl:=[],body:=[.ret (.and [.isi (.var 0) ["int"],.not (.isi (.var 0) ["bool"])])]}
def q1E:FD:={n:=2,np:=2,dfl:=[],body:=[.iff (.cmp .Lt (.var 1) (.bi .len [.var 0])) [.ret (.ix (.var 0) (.var 1))] [],.ret (.int 0)]}
def q1M:FD:={n:=5,np:=2,dfl:=[],body:=[.set 2 true (.lst []),.set 3 false (.bin .Add (.bin .Mod (.var 0) (.int 2147483647)) (.int 48271)),.fo (.one 4) (.rng [.var 1]) [.set 3 false (.bin .Mod (.bin .Add (.bin .Add (.bin .Mult (.var 3) (.int 48271)) (.bin .Mult (.var 4) (.var 4))) (.int 11)) (.int 2147483647)),.app 2 (.bin .FloorDiv (.var 3) (.int 7))],.ret (.var 2)]}
def q1A:FD:={n:=4,np:=2,dfl:=[],body:=[.iff (.or [.not (.isi (.var 0) ["tuple"]),.cmp .NotEq (.bi .len [.var 0]) (.bi .len [.var 1])]) [.ret (.bl false)] [],.fo (.many [2,3]) (.zp (.var 0) (.var 1)) [.iff (.or [.not (.isi (.var 2) ["tuple"]),.cmp .NotEq (.bi .list [.var 2]) (.bi .list [.var 3])]) [.ret (.bl false)] [],.iff (.cmp .NotEq (.bi .len [.compi (.var 0) (.one 0) (.var 2) (.call 15 [.var 0]) [none]]) (.bi .len [.var 3])) [.ret (.bl false)] []],.ret (.bl true)]}
def q4L:FD:={n:=3,np:=2,dfl:=[],body:=[.set 2 false (.int 0),.wh (.cmp .Gt (.var 0) (.int 0)) [.set 2 false (.bin .Add (.var 2) (.bin .Mult (.bin .Mod (.var 0) (.int 2)) (.bin .Mod (.var 1) (.int 2)))),.set 0 false (.bin .FloorDiv (.var 0) (.int 2)),.set 1 false (.bin .FloorDiv (.var 1) (.int 2))],.ret (.var 2)]}
def q1n:FD:={n:=6,np:=2,dfl:=[],body:=[.sett [2,3,4] (.slt (.bin .Add (.var 1) (.lst [.int 1,.int 2,.int 2])) (.int 3)),.iff (.cmp .In (.var 0) (.tup [.int 0,.int 3,.int 4])) [.sett [3,4] (.tup [.int 1,.int 2])] [],.iff (.cmp .Eq (.var 0) (.int 1)) [.set 4 false (.int 2)] [],.iff (.or [.cmp .Lt (.bi .min [.var 2,.var 3]) (.int 1),.cmp .Gt (.var 3) (.int 8),.cmp .Lt (.var 4) (.int 2),.cmp .Gt (.var 4) (.int 10),.cmp .Gt (.var 2) (.ix (.lst [.int 8,.int 8,.int 8,.int 3,.int 3]) (.var 0))]) [.ret (.non)] [],.iff (.cmp .Eq (.var 0) (.int 0)) [.ret (.comp (.comp (.bi .int [.cmp .Eq (.var 1) (.var 0)]) (.one 0) (.rng [.var 1]) [none,some 0]) (.one 0) (.rng [.var 2]) [none,some 2])] [],.iff (.cmp .Eq (.var 0) (.int 1)) [.ret (.comp (.comp (.bi .int [.cmp .Gt (.var 0) (.var 1)]) (.one 0) (.rng [.var 1]) [none,some 0]) (.one 0) (.rng [.var 2]) [none,some 3])] [],.iff (.cmp .Eq (.var 0) (.int 2)) [.ret (.comp (.comp (.bin .Mod (.bin .Add (.var 1) (.var 0)) (.var 2)) (.one 0) (.rng [.var 1]) [none,some 0,some 2]) (.one 0) (.rng [.var 2]) [none,some 3,some 4])] [],.set 5 false (.ix (.lst [.int 0,.int 2,.int 4,.int 8]) (.var 2)),.iff (.cmp .Eq (.var 0) (.int 3)) [.ret (.comp (.comp (.call 19 [.var 1,.var 0]) (.one 0) (.rng [.var 1]) [none,some 0]) (.one 0) (.rng [.var 5]) [none,some 5])] [],.ret (.comp (.comp (.bin .Mod (.bin .FloorDiv (.var 0) (.ix (.lst [.int 1,.int 2,.int 4]) (.var 1))) (.int 2)) (.one 0) (.rng [.var 1]) [none,some 0]) (.one 0) (.rng [.var 2]) [none,some 5])]}
def q1Q:FD:={n:=2,np:=1,dfl:=[],body:=[.fo (.one 1) (.var 0) [.iff (.cmp .NotIn (.var 1) (.str "0123456789")) [.ret (.neg (.int 1))] []],.iff (.or [.cmp .Eq (.var 0) (.str ""),.cmp .Gt (.bi .len [.var 0]) (.int 2),.and [.cmp .Eq (.bi .len [.var 0]) (.int 2),.cmp .Eq (.ix (.var 0) (.int 0)) (.str "0")]]) [.ret (.neg (.int 1))] [],.ret (.bi .int [.var 0])]}
def q1H:FD:={n:=5,np:=1,dfl:=[],body:=[.set 1 false (.spl (.var 0) (.str ":")),.set 2 false (.lst [.str "alike",.str "less",.str "sums",.str "shared",.str "pick"]),.iff (.cmp .NotIn (.ix (.var 1) (.int 0)) (.var 2)) [.ret (.non)] [],.set 3 false (.idx (.var 2) (.ix (.var 1) (.int 0))),.set 4 false (.comp (.call 21 [.var 0]) (.one 0) (.slf (.var 1) (.int 1)) [none]),.iff (.or [.cmp .NotEq (.bi .len [.var 4]) (.ix (.lst [.int 1,.int 2,.int 3,.int 1,.int 1]) (.var 3)),.cmp .Lt (.bi .min [.var 4]) (.int 0)]) [.ret (.non)] [],.ret (.call 20 [.var 3,.var 4])]}
def q1S:FD:={n:=4,np:=1,dfl:=[],body:=[.iff (.not (.isi (.var 0) ["str"])) [.ret (.non)] [],.iff (.cmp .In (.str ":") (.var 0)) [.ret (.call 22 [.var 0])] [],.set 1 false (.spl (.var 0) (.str "/")),.fo (.one 2) (.var 1) [.iff (.or [.cmp .NotEq (.bi .len [.var 2]) (.bi .len [.ix (.var 1) (.int 0)]),.cmp .Lt (.bi .len [.var 2]) (.int 1),.cmp .Gt (.bi .len [.var 2]) (.int 8),.cmp .Gt (.bi .len [.var 1]) (.int 8)]) [.ret (.non)] [],.fo (.one 3) (.var 2) [.iff (.cmp .NotIn (.var 3) (.str "0123456789")) [.ret (.non)] []]],.ret (.comp (.comp (.bi .int [.var 0]) (.one 0) (.var 0) [none]) (.one 0) (.var 1) [none])]}
def q3V:FD:={n:=2,np:=1,dfl:=[],body:=[.set 1 false (.lst [.str "",.str "/",.str "01/",.str "/01",.str "01//10",.str "01/1",.str "012345678",.str "0/1/0/1/0/1/0/1/0",.str " 01",.str "01 "]),.set 1 false (.bin .Add (.var 1) (.lst [.str "0 1",.str "-1",.str "01/10\n",.str "alike",.str "alike:",.str "alike:0",.str "alike:9",.str "alike:04",.str "alike:4:4"])),.set 1 false (.bin .Add (.var 1) (.lst [.str "Alike:4",.str "less:3",.str "less:3:9"])),.set 1 false (.bin .Add (.var 1) (.lst [.str "sums:3:3",.str "sums:3:3:1",.str "sums:3:3:11",.str "shared:4",.str "pick:0",.str "pick:-1",.str "alike :4",.str ":4"])),.ret (.ix (.bin .Add (.var 1) (.lst [.non,.bl true,.int 7,.lst [.lst [.int 0,.int 1],.lst [.int 1,.int 0]]])) (.bin .Mod (.var 0) (.int 34)))]}
def q1i:FD:={n:=4,np:=2,dfl:=[],body:=[.iff (.cmp .Eq (.bin .Mod (.ix (.var 1) (.int 0)) (.int 4)) (.int 3)) [.ret (.call 24 [.ix (.var 1) (.int 1)])] [],.set 2 false (.ix (.str "0123456789/:-alik\n s") (.bin .Mod (.ix (.var 1) (.int 1)) (.int 20))),.set 3 false (.bin .Mod (.ix (.var 1) (.int 2)) (.bi .len [.var 0])),.iff (.cmp .Eq (.bin .Mod (.ix (.var 1) (.int 0)) (.int 4)) (.int 0)) [.ret (.scat (.scat (.stt (.var 0) (.var 3)) (.var 2)) (.stf (.var 0) (.var 3)))] [],.iff (.cmp .Eq (.bin .Mod (.ix (.var 1) (.int 0)) (.int 4)) (.int 1)) [.ret (.scat (.stt (.var 0) (.var 3)) (.stf (.var 0) (.bin .Add (.var 3) (.int 1))))] [],.ret (.scat (.scat (.stt (.var 0) (.var 3)) (.var 2)) (.stf (.var 0) (.bin .Add (.var 3) (.int 1))))]}
def q1X:FD:={n:=5,np:=1,dfl:=[],body:=[.set 1 false (.non),.set 2 false (.non),.tryc [.set 2 false (.call 12 [.var 0])] "TalkError" 3 1,.set 4 false (.call 23 [.var 0]),.iff (.cmp .IsNot (.var 4) (.non)) [.ret (.and [.cmp .Is (.var 1) (.non),.call 18 [.var 2,.var 4]])] [],.iff (.or [.cmp .Is (.var 1) (.non),.not (.isx (.var 1) "NoText"),.not (.isx (.var 1) "ValueError")]) [.ret (.bl false)] [],.ret (.and [.not (.isx (.var 1) "NoTable"),.not (.isx (.var 1) "NoPlan")])]}
def q1C:FD:={n:=7,np:=1,dfl:=[],body:=[.set 1 false (.call 17 [.var 0,.int 30]),.iff (.cmp .Eq (.bin .Mod (.ix (.var 1) (.int 0)) (.int 3)) (.int 0)) [.set 2 false (.bin .Mod (.ix (.var 1) (.int 4)) (.int 5)),.set 3 false (.lst [.bin .Add (.int 1) (.bin .Mod (.ix (.var 1) (.int 1)) (.int 8)),.bin .Add (.int 1) (.bin .Mod (.ix (.var 1) (.int 2)) (.int 8)),.bin .Add (.int 2) (.bin .Mod (.ix (.var 1) (.int 3)) (.int 9))]),.iff (.cmp .Gt (.var 2) (.int 2)) [.set 3 false (.lst [.bin .Add (.int 1) (.bin .Mod (.ix (.var 1) (.int 1)) (.int 3))])] [],.set 3 false (.slt (.var 3) (.ix (.lst [.int 1,.int 2,.int 3,.int 1,.int 1]) (.var 2))),.ret (.joi (.str ":") (.bin .Add (.lst [.ix (.lst [.str "alike",.str "less",.str "sums",.str "shared",.str "pick"]) (.var 2)]) (.comp (.bi .str [.var 0]) (.one 0) (.var 3) [none])))] [],.set 4 false (.bin .Add (.int 1) (.bin .Mod (.ix (.var 1) (.int 1)) (.int 5))),.set 5 true (.lst []),.fo (.one 6) (.rng [.bin .Add (.int 1) (.bin .Mod (.ix (.var 1) (.int 2)) (.int 5))]) [.app 5 (.joi (.str "") (.comp (.bi .str [.bin .Mod (.var 0) (.int 10)]) (.one 0) (.sl (.var 1) (.bin .Add (.int 4) (.bin .Mult (.int 5) (.var 6))) (.bin .Add (.bin .Add (.int 4) (.bin .Mult (.int 5) (.var 6))) (.var 4))) [none]))],.ret (.joi (.str "/") (.var 5))]}
def z5E:FD:={n:=3,np:=1,dfl:=[],body:=[.set 1 false (.call 27 [.call 16 [.var 0,.int 0]]),.fo (.one 2) (.bin .Add (.lst [.call 16 [.var 0,.int 1],.call 16 [.var 0,.int 2]]) (.sl (.var 0) (.int 3) (.int 15))) [.iff (.not (.call 26 [.call 25 [.var 1,.call 17 [.var 2,.int 3]]])) [.ret (.bl false)] []],.ret (.and [.cmp .IsNot (.call 23 [.var 1]) (.non),.call 26 [.var 1]])]}
def T:List FD:=[q2V,q1r,q3r,q4v,q5O,q5R,q7F,q5z,q6t,z0U,q1F,q8d,q1o,q1y,q2z,q3Y,q1E,q1M,q1A,q4L,q1n,q1Q,q1H,q1S,q3V,q1i,q1X,q1C,z5E]
def fnl:List Str:=["is_int","made_table","is_line","is_row","cards_in","alike","less","sums","shared","pick","check_number","ruled","read_table","table_named","read_number","_law_int","_law_cell_at","_law_stream","_law_is_table","_law_both","_law_ruled","_law_number","_law_named","_law_due","_law_odd","_law_spoiled","_law_answered","_law_text","law"]
def bll:List Str:=["isinstance","int","bool","any","tuple","all","len","list","range","str","zip","min","ValueError"]
def cll:List Str:=["TalkError","NoTable","NoPlan","NoText"]
def G:Gs:={con:=[("MOST_LINES",.int 8),("GREATEST_WORD",.int 9),("GREATEST_MODULUS",.int 10),("MOST_BITS",.int 3),("DIGITS",.str "0123456789")],cls:=[("TalkError",["ValueError","Exception","BaseException","object"]),("NoTable",["TalkError","ValueError","Exception","BaseException","object"]),("NoPlan",["TalkError","ValueError","Exception","BaseException","object"]),("NoText",["TalkError","ValueError","Exception","BaseException","object"])],fnl:=fnl,bll:=bll,cll:=cll}
end
section
variable {fu k:Nat} {F:Nat->List DV->Option Ou} {δ:List Sv} {ds:List DV} {cl:Cl}
theorem z2e(ns:List Int)(j:Nat):∃v:Int,run G T fu (k+1) 16 [.scr ns,.int j]=some (.v (.int v) false):=by
 rw[j7 (fd:=q1E) rfl rfl];unfold q1E;by_cases h:j<ns.length
 ·refine⟨ns[j],m5 (C4 (i6 (cl:=.strong) ?_) (j4 ?_))⟩
  ·simp[evE,evEs,o8,q5m,i4,biOk,biD,lenD,cmpD,h]
  ·simp[evS,evE,o8,i4,ixD,F9,h,Re.thnS,frD,retD,Cl.item]
 ·refine⟨0,m5 (g6 (i6 (cl:=.strong) ?_) (j4 rfl))⟩;simp[evE,evEs,o8,q5m,i4,biOk,biD,lenD,cmpD];omega
theorem z3M(xs:List Int)(v:Int):xs.map DV.int++[.int v]=(xs++[v]).map DV.int:=by rw[w2u];rfl
theorem q9U{F:Nat->List DV->Option Ou}{δ:List Sv}{e:ME}{n:Nat}{cl:Cl}(h:evE G F e δ=some (.ok (.int n) cl))(hn:n<=1000):t6 (evE G F (.rng [e]) δ)=some (.ok (upTo 0 n) .fresh):=by
 show t6 (Rs.thn (evEs G F [e] δ) (λl=>(rngD l).map λds=>.ok (.lst ds) .fresh))=_;rw[d7 h i8,q5m];have hs:(Z3 (n:Int)&&decide ((n:Int)<=(mostLen:Int)))=true:=by rw[b8,B1];refine⟨?_,Int.le_trans (show(n:Int)<=1000 by omega) (by decide)⟩;unfold Z3;rw[b8,B1,B1];exact⟨Int.le_trans (by decide) (w18 n),Int.lt_of_le_of_lt (show(n:Int)<=1000 by omega) (by decide)⟩
 show t6 ((if Z3 (n:Int)&&decide ((n:Int)<=(mostLen:Int))then some (upTo 0 (n:Int).toNat)else none).map λds=>.ok (.lst ds) .fresh)=_;rw[d4 hs,M8];rfl
theorem y0E{j:Nat}(hj:j<1000):L4 (j:Int) (j:Int)=true:=by unfold L4;simp;omega
theorem m48(x:Int):L4 x 48271=true:=by unfold L4;simp
theorem y1d:run G T fu (k+1) 15 [.int x]=some (.v (.bl true) false):=by
 rw[j7 (fd:=q3Y) rfl rfl];rfl
theorem q9f(c:Int)(n:Nat)(hn:n<=1000):∃xs:List Int,xs.length=n/\run G T fu (k+1) 17 [.int c,.int n]=some (.v (.lst (xs.map DV.int)) true):=by
 rw[j7 (fd:=q1M) rfl rfl];obtain⟨δ1,h1,xs,num,z,hl,rfl⟩:=q4P (i:=4) (I:=λj δ=>∃(xs:List Int) (num:Int) (z:Sv),xs.length=j/\δ=[.val (.int c),.val (.int n),.own (.lst (xs.map DV.int)),.val (.int num),z])
  (body:=λδ'=>evSs G (run G T fu k) fu [.set 3 false (.bin .Mod (.bin .Add (.bin .Add (.bin .Mult (.var 3) (.int 48271)) (.bin .Mult (.var 4) (.var 4))) (.int 11)) (.int 2147483647)),.app 2 (.bin .FloorDiv (.var 3) (.int 7))] δ') n 0 (δ:=[.val (.int c),.val (.int n),.own (.lst []),.val (.int (c%2147483647+48271)),.no])
  (λj hj δ I=>by
   obtain⟨xs,num,z,hl,rfl⟩:=I;rw[show(0:Int)+(j:Int)=j by omega];obtain⟨N,hN⟩:∃N:Int,(num*48271+(j:Int)*j+11)%2147483647=N:=⟨_,rfl⟩;obtain⟨D,hD⟩:∃D:Int,N/7=D:=⟨_,rfl⟩;refine⟨_,j3 (p7 (d:=.int N) (cl:=.strong) ?_ rfl) (j3 (z4t (d:=.int D) (cl:=.strong) rfl ?_ rfl (by rw[g9,hl];exact p5 (p5 hj hn) (by decide))) rfl),xs++[D],N,.val (.int j),by rw[A7,hl];rfl,?_⟩
   ·rw[←hN];exact D4 (G3 (G3 (z5H (b9 rfl) e7 (m48 _)) (z5H (b9 rfl) (b9 rfl) (y0E (by omega)))) e7) e7 (by decide)
   ·rw[←hD];exact y0A (b9 rfl) e7 (by decide)
   ·rw[←z3M];rfl) ⟨[],_,.no,rfl,rfl⟩
 refine⟨xs,hl,?_⟩;unfold q1M;exact m5 (j3 (z4L rfl) (j3 (p7 (d:=.int (c%2147483647+48271)) (cl:=.strong) (G3 (D4 (b9 rfl) e7 (by decide)) e7) rfl) (Q4 (q9U (n:=n) (b9 rfl) hn) (.inr rfl) h1 (j4 rfl))))
theorem q6i(h:evE G F e δ=some (.ok (.lst ds) c)):evE G F (.bi .tuple [e]) δ=some (.ok (.tup ds) c.item):=by
 show Rs.thn (evEs G F [e] δ) (λl=>Z2 l)=_;rw[d7 h i8];rfl
theorem R7(h:evE G F e δ=some (.ok (.lst ds) c)):evE G F (.bi .len [e]) δ=some (.ok (.int ds.length) .strong):=by
 show Rs.thn (evEs G F [e] δ) (λl=>lenD l)=_;rw[d7 h i8];rfl
theorem q8q(h:evE G F e δ=some (.ok (.tup ds) c)):evE G F (.bi .len [e]) δ=some (.ok (.int ds.length) .strong):=by
 show Rs.thn (evEs G F [e] δ) (λl=>lenD l)=_;rw[d7 h i8];rfl
def iD(r:List Int):List DV:=r.map DV.int
def rL(rows:List (List Int)):DV:=.lst (rows.map λr=>.lst (iD r))
def tT(rows:List (List Int)):DV:=.tup (rows.map λr=>.tup (iD r))
def Rect(n m:Nat)(rows:List (List Int)):Prop:=rows.length=n/\∀r∈rows,r.length=m
theorem q4I(n:Nat):∀r:List Int,DV.plains n (iD r)=true
 | []=>by unfold iD;simp[DV.plains]
 | a::r=>by have q:=q4I n r;unfold iD at q ⊢;rw[B7];unfold DV.plains;rw[q];cases n<;>rfl
theorem z3R(h:j<n):F9 n (j:Int)=some j:=by
 unfold F9;rw[d4 (w18 j),d4 (by omega),M8]
theorem z0L(h:evEs G F es δ=some (.ok l))(hl:l.length<=mostLen)(hs:stros l=true):evE G F (.lst es) δ=some (.ok (.lst (l.map (·.1))) .fresh):=by
 have e:evE G F (.lst es) δ=Rs.thn (evEs G F es δ) (λl=>if l.length<=mostLen then some (.ok (.lst (l.map (·.1))) (if stros l then .fresh else .weak))else none):=rfl;rw[e,h,q5m,d4 hl,hs];rfl
theorem q7c:∀r:List Int,deqs (iD r) (iD r)=true
 | []=>by unfold iD;simp[deqs]
 | a::r=>by have q:=q7c r;unfold iD at q ⊢;rw[B7];unfold deqs;rw[q];simp[deq]
theorem z1k:∀{rows:List (List Int)} {d:DV},d∈zpD (rows.map λr=>.tup (iD r)) (rows.map λr=>.lst (iD r))->∃r∈rows,d=.tup [.tup (iD r),.lst (iD r)]
 | [],d,h=>by cases h
 | a::r,d,h=>by
  rw[B7,B7]at h;unfold zpD at h;rcases d9.mp h with e | e
  ·exact⟨a,i5 ..,e⟩
  ·obtain⟨x,hx,e⟩:=z1k e;exact⟨x,f9 _ hx,e⟩
theorem z7r(r:List Int):cmpD .NotEq (.lst (iD r)) (.lst (iD r))=some false:=by
 have p:(DV.lst (iD r)).plain 60=true:=by unfold DV.plain;exact q4I 59 r
 have q:deq (.lst (iD r)) (.lst (iD r))=true:=by unfold deq;exact q7c r
 show(if(DV.plain 60 (.lst (iD r))&&DV.plain 60 (.lst (iD r)))=true then some (!deq (.lst (iD r)) (.lst (iD r)))else none)=_;rw[p,q];rfl
theorem q4V:∀{l:List α},(∀a∈l,g (h a)=some (.item (f a)))->A2 g (l.map h)=some (l.map f)
 | [],_=>rfl
 | a::r,q=>by rw[B7,B7];unfold A2;rw[q a (i5 ..)];show(match A2 g (r.map h)with | none=>none | some xs=>some (f a::xs))=_;rw[q4V λx hx=>q x (f9 _ hx)]
theorem J4{α:Type}{l:List α}{h f:α->DV}{elt it:ME}{tg:Tg}{fr:List (Option Nat)}(hw:t6 (evE G F it δ)=some (.ok (l.map h) cl))(hc:cl ≠ .weak)(hl:l.length<=mostLen)
  (q:∀a∈l,∃δ' c,tg.bind (h a) (u3 fr δ)=some δ'/\evE G F elt δ'=some (.ok (f a) c)/\stro (f a) c=true):evE G F (.comp elt tg it fr) δ=some (.ok (.lst (l.map f)) .fresh):=by
 show Ri.thn (t6 (evE G F it δ)) (λds c=>if c=.weak\/mostLen<ds.length then none else K1 (A2 (λd=>(tg.bind d (u3 fr δ)).bind λδ'=>Rc.of (evE G F elt δ')) ds))=_;rw[hw,q6g,d6 (by rintro(z | z);exact hc z;rw[g9]at z;omega),q4V (f:=f) (λa ha=>?_)]
 ·rfl
 ·obtain⟨δ',c,e1,e2,e3⟩:=q a ha;rw[e1,P1,e2];show(if stro (f a) c then some (Rc.item (f a))else none)=_;rw[d4 e3]
theorem q9R(rows:List (List Int))(h:rows.length<=1000)(hr:∀r∈rows,r.length<=1000):run G T fu (k+2) 18 [tT rows,rL rows]=some (.v (.bl true) false):=by
 rw[j7 (fd:=q1A) rfl rfl];have l1:evE G (run G T fu (k+1)) (.bi .len [.var 0]) (i4 4 [tT rows,rL rows])=some (.ok (.int rows.length) .strong):=by have q:=q8q (F:=run G T fu (k+1)) (δ:=i4 4 [tT rows,rL rows]) (e:=.var 0) (ds:=rows.map λr=>.tup (iD r)) (c:=.strong) rfl;rw[g9]at q;exact q
 have l2:evE G (run G T fu (k+1)) (.bi .len [.var 1]) (i4 4 [tT rows,rL rows])=some (.ok (.int rows.length) .strong):=(by have q:=R7 (F:=run G T fu (k+1)) (δ:=i4 4 [tT rows,rL rows]) (e:=.var 1) (ds:=rows.map λr=>.lst (iD r)) (c:=.strong) rfl;rw[g9]at q;exact q);have t1:evE G (run G T fu (k+1)) (.or [.not (.isi (.var 0) ["tuple"]),.cmp .NotEq (.bi .len [.var 0]) (.bi .len [.var 1])]) (i4 4 [tT rows,rL rows])=some (.ok (.bl false) .strong):=
  q8p (Q5 (x:=true) (cl:=.strong) rfl) (G2 l1 l2 (by simp[cmpD,DV.plain,deq]))
 unfold q1A;refine m5 (g6 (i6 t1) (z9w (J:=λδ=>∃a b,δ=[.val (tT rows),.val (rL rows),a,b]) (ds:=zpD (rows.map λr=>.tup (iD r)) (rows.map λr=>.lst (iD r))) (cl:=.strong) rfl (.inl rfl)
  (q6M (I:=λδ=>∃a b,δ=[.val (tT rows),.val (rL rows),a,b]) (λd hd δ I=>?_) ⟨.no,.no,rfl⟩) λδ' _=>j4 rfl))
 obtain⟨a,b,rfl⟩:=I;obtain⟨r,hrm,rfl⟩:=z1k hd;have s1:evE G (run G T fu (k+1)) (.or [.not (.isi (.var 2) ["tuple"]),.cmp .NotEq (.bi .list [.var 2]) (.bi .list [.var 3])]) [.val (tT rows),.val (rL rows),.val (.tup (iD r)),.val (.lst (iD r))]=some (.ok (.bl false) .strong):=
  q8p (Q5 (x:=true) (cl:=.strong) rfl) (G2 (x:=.lst (iD r)) (cx:=.fresh) (y:=.lst (iD r)) (cy:=.fresh) rfl rfl (z7r r))
 have cm:=z3X (G:=G) (F:=run G T fu (k+1)) (δ:=[.val (tT rows),.val (rL rows),.val (.tup (iD r)),.val (.lst (iD r))]) (elt:=.var 0) (tg:=.one 0) (it:=.var 2) (cd:=.call 15 [.var 0]) (fr:=[none]) (p:=λ_=>true) (ds:=iD r) (cl:=.strong) rfl (by decide)
  (by unfold iD;rw[g9];exact m7 (hr r hrm) (by decide)) (λd hd=>by
   obtain⟨x,hx,rfl⟩:=j9.mp hd;exact⟨[.val (.int x)],rfl,i6 (p8 (l:=[(.int x,.strong)]) rfl rfl y1d),rfl⟩)
 rw[show(iD r).filter (λ_=>true)=iD r from List.filter_eq_self.mpr λ_ _=>rfl]at cm;have s2:evE G (run G T fu (k+1)) (.cmp .NotEq (.bi .len [.compi (.var 0) (.one 0) (.var 2) (.call 15 [.var 0]) [none]]) (.bi .len [.var 3])) [.val (tT rows),.val (rL rows),.val (.tup (iD r)),.val (.lst (iD r))]=some (.ok (.bl false) .strong):=
  G2 (R7 cm) (R7 (ds:=iD r) (c:=.strong) rfl) (by simp[cmpD,DV.plain,deq])
 exact⟨[.val (tT rows),.val (rL rows),.val (.tup (iD r)),.val (.lst (iD r))],_,rfl,g6 (i6 s1) (g6 (i6 s2) rfl),_,_,rfl⟩
section
variable {G:Gs} {F:Nat->List DV->Option Ou} {δ:List Sv} {a b:ME} {r:List ME} {cx:Cl} {o:Option Re}
theorem M3(ha:evE G F a δ=some (.ok (.bl true) cx))(hb:evE G F (.and (b::r)) δ=o):evE G F (.and (a::b::r)) δ=o:=by
 have e:evE G F (.and (a::b::r)) δ=Re.thn (evE G F a δ) (λx c=>andD x c (E4 G F (b::r) δ)):=(by rw[evE,E4];rfl);have e2:evE G F (.and (b::r)) δ=E4 G F (b::r) δ:=by rw[evE]
 rw[e,ha,o8,←e2,hb];rfl
theorem z9d(ha:evE G F a δ=some (.ok (.bl false) cx)):evE G F (.and (a::b::r)) δ=some (.ok (.bl false) cx):=by
 have e:evE G F (.and (a::b::r)) δ=Re.thn (evE G F a δ) (λx c=>andD x c (E4 G F (b::r) δ)):=(by rw[evE,E4];rfl);rw[e,ha,o8];rfl
theorem R8(ha:evE G F a δ=o):evE G F (.and [a]) δ=o:=by
 have e:evE G F (.and [a]) δ=evE G F a δ:=by rw[evE,E4];rfl
 rw[e,ha]
theorem q4q{tg:Tg}{body:List Sv->Option Out}{d:DV}{r:List DV}{δ1 δ2:List Sv}(h1:tg.bind d δ=some δ1)(h2:body δ1=some (.nx δ2)):n8 tg body (d::r) δ=n8 tg body r δ2:=by
 show(match tg.bind d δ with | none=>none | some δ1=>match body δ1 with | some (.nx δ2)=>n8 tg body r δ2 | o=>o)=_;rw[h1];show(match body δ1 with | some (.nx δ2)=>n8 tg body r δ2 | o=>o)=_;rw[h2]
theorem q4A{tg:Tg}{body:List Sv->Option Out}{d v:DV}{fr:Bool}{r:List DV}{δ1:List Sv}(h1:tg.bind d δ=some δ1)(h2:body δ1=some (.rt v fr)):n8 tg body (d::r) δ=some (.rt v fr):=by
 show(match tg.bind d δ with | none=>none | some δ1=>match body δ1 with | some (.nx δ2)=>n8 tg body r δ2 | o=>o)=_;rw[h1];show(match body δ1 with | some (.nx δ2)=>n8 tg body r δ2 | o=>o)=_;rw[h2]
theorem z0x{fu:Nat}{tg:Tg}{it:ME}{ds:List DV}{cl:Cl}{body r:List MS}{d:DV}{fr:Bool}(hw:t6 (evE G F it δ)=some (.ok ds cl))(hc:cl=.strong\/cl=.fresh)(h:n8 tg (λδ'=>evSs G F fu body δ') ds δ=some (.rt d fr)):evSs G F fu (.fo tg it body::r) δ=some (.rt d fr):=by
 refine j4 ?_;have e:evS G F fu (.fo tg it body) δ=Ri.thnS δ (t6 (evE G F it δ)) (λds c=>if c=.strong\/c=.fresh then n8 tg (λδ'=>evSs G F fu body δ') ds δ else none):=by rw[evS]
 rw[e,hw,z3k,d4 hc,h]
end
theorem y0g(h1 : -(2^62)<j)(h2:j<2^62):L4 i j=true:=by
 unfold L4;have e1:(2:Int)^62=4611686018427387904:=(by decide);have e2:(2:Int)^64=18446744073709551616:=(by decide);rw[r9 (show -(2^64)<j by omega),r9 (show j<2^64 by omega)];rw[Bool.and_self,Bool.or_true,Bool.true_or]
theorem z2K(h0:δ[i]? = some (.val (.lam m cs)))(hm:m.fn=G.fnl/\m.bl=G.bll/\m.cl=G.cll/\G.fnl.isEmpty=false)(ha:evEs G F es δ=some (.ok l))(hs:(l.all λp=>p.2 == .strong||p.2 == .fresh)=true)(h:F u6 (.lam m cs::l.map (·.1))=some (.v d false)):evE G F (.callv i xs es) δ=some (.ok d .strong):=by
 have e1:evE G F (.callv i xs es) δ=(match δ[i]? with
  | some (.val (.fn x))=>(match xs.lookup x with
   | some f=>Rs.thn (evEs G F es δ) λl=>G1 F f l
   | none=>none)
  | some (.val (.lam m cs))=>if m.fn=G.fnl/\m.bl=G.bll/\m.cl=G.cll/\G.fnl.isEmpty=false then Rs.thn (evEs G F es δ) λl=>Q2 F m cs l else none
  | _=>none):=by rw[evE]<;>rfl
 rw[e1,h0];show(if m.fn=G.fnl/\m.bl=G.bll/\m.cl=G.cll/\G.fnl.isEmpty=false then Rs.thn (evEs G F es δ) λl=>Q2 F m cs l else none)=_;rw[d4 hm,ha];show Q2 F m cs l=_;unfold Q2;rw[d4 hs,h]
theorem q6l(hc:capD δ fr=some cs)(ha:evE G F a δ=some (.ok x .strong))(hb:evE G F b δ=some (.ok y .strong))(h:F f [x,y,.lam ⟨N,np,lb,G.fnl,G.bll,G.cll⟩ cs]=some (.v d false))(hd:d.nolam=true):evE G F (.calll f a b N np lb fr) δ=some (.ok d .strong):=by
 have e1:evE G F (.calll f a b N np lb fr) δ=(match capD δ fr with
  | some cs=>if G.fnl.isEmpty then none else Re.thn (evE G F a δ) λx cx=>Re.thn (evE G F b δ) λy cy=>V3 F f [(x,cx),(y,cy)] (.lam ⟨N,np,lb,G.fnl,G.bll,G.cll⟩ cs)
  | none=>none):=by rw[evE]<;>rfl
 rw[e1,hc,ha,hb];show V3 F f [(x,.strong),(y,.strong)] (.lam ⟨N,np,lb,G.fnl,G.bll,G.cll⟩ cs)=_;unfold V3;rw[d4 (show([(x,Cl.strong),(y,Cl.strong)].all λp=>p.2 == .strong||p.2 == .fresh)=true from rfl)];show(match F f [x,y,.lam ⟨N,np,lb,G.fnl,G.bll,G.cll⟩ cs]with
  | some (.v d false)=>if d.nolam then some (Re.ok d .strong)else none
  | _=>none)=_
 rw[h];exact d4 hd
theorem q8m(h1:args.length=m.np/\args.length+cs.length=m.N.length/\DV.nolams args=true/\DV.nolams cs=true)(h:evE G (run G T fu k) m.body ((args++cs).map Sv.val)=some (.ok d .strong))(hd:d.nolam=true):run G T fu (k+1) u6 (.lam m cs::args)=some (.v d false):=by
 have e1:run G T fu (k+1) u6 (.lam m cs::args)=lamR (evE G (run G T fu k)) (.lam m cs::args):=rfl;rw[e1];show(if args.length=m.np/\args.length+cs.length=m.N.length/\DV.nolams args=true/\DV.nolams cs=true then(match evE G (run G T fu k) m.body ((args++cs).map Sv.val)with
  | some (.ok d .strong)=>if d.nolam then some (Ou.v d false)else none
  | _=>none)else none)=_
 rw[d4 h1,h];exact d4 hd
def tab(h w:Nat)(g:Nat->Nat->Int):List (List Int):=(List.range h).map λr=>(List.range w).map λc=>g r c
theorem z2z(h w:Nat)(g:Nat->Nat->Int):Rect h w (tab h w g):=by
 unfold tab;refine⟨by rw[g9,K6],λr hr=>?_⟩;obtain⟨j,hj,rfl⟩:=j9.mp hr;rw[g9,K6]
theorem q8a{h w:Nat}(hh:h<=1000)(hw:w<=1000){m:LamD}{cs:List DV}(hm:m.fn=G.fnl/\m.bl=G.bll/\m.cl=G.cll/\G.fnl.isEmpty=false){g:Nat->Nat->Int}(H:∀r<h,∀c<w,run G T fu k u6 [.lam m cs,.int (r:Int),.int (c:Int)]=some (.v (.int (g r c)) false)) :
  run G T fu (k+1) 11 [.int (h:Int),.int (w:Int),.lam m cs]=some (.v (tT (tab h w g)) false):=by
 rw[j7 (fd:=q8d) rfl rfl];have o:=J4 (F:=run G T fu k) (δ:=[.val (.int (h:Int)),.val (.int (w:Int)),.val (.lam m cs)]) (elt:=.bi .tuple [.comp (.callv 1 [] [.var 2,.var 0]) (.one 0) (.rng [.var 1]) [none,some 2,some 0]]) (tg:=.one 0) (it:=.rng [.var 0]) (fr:=[none,some 1,some 2]) (l:=List.range h) (h:=λj=>.int (0+(j:Int))) (f:=λr=>.tup (iD ((List.range w).map λc=>g r c))) (cl:=.fresh) (q9U (b9 rfl) hh) (by decide) (by rw[K6];exact m7 hh (by decide)) (λr hr=>by
  have hr:=F0.mp hr;refine⟨[.val (.int (r:Int)),.val (.int (w:Int)),.val (.lam m cs)],.strong,by rw[w2v];rfl,?_,rfl⟩;have i:=J4 (F:=run G T fu k) (δ:=[.val (.int (r:Int)),.val (.int (w:Int)),.val (.lam m cs)]) (elt:=.callv 1 [] [.var 2,.var 0]) (tg:=.one 0) (it:=.rng [.var 1]) (fr:=[none,some 2,some 0]) (l:=List.range w) (h:=λj=>.int (0+(j:Int))) (f:=λc=>.int (g r c)) (cl:=.fresh) (q9U (b9 rfl) hw) (by decide) (by rw[K6];exact m7 hw (by decide)) (λc hc=>by
   have hc:=F0.mp hc;exact⟨[.val (.int (c:Int)),.val (.lam m cs),.val (.int (r:Int))],.strong,by rw[w2v];rfl,z2K rfl hm (d7 (b9 (n:=2) (d:=.int (r:Int)) rfl) (d7 (b9 (n:=0) (d:=.int (c:Int)) rfl) i8)) rfl (H r hr c hc),rfl⟩)
  have e:(List.range w).map (λc=>DV.int (g r c))=iD ((List.range w).map λc=>g r c):=by unfold iD;rw[B8];rfl
  rw[e]at i;exact q6i i)
 have e2:(List.range h).map (λr=>DV.tup (iD ((List.range w).map λc=>g r c)))=(tab h w g).map λr=>.tup (iD r):=by unfold tab;rw[B8];rfl
 rw[e2]at o;exact m5 (j4 (r6 (q6i o)))
theorem q9i:∀r:List Int,DV.nolams (iD r)=true
 | []=>rfl
 | x::r=>by show(DV.nolam (.int x)&&DV.nolams (iD r))=true;rw[q9i r];rfl
theorem q5F:∀A:List (List Int),DV.nolams (A.map λr=>.tup (iD r))=true
 | []=>rfl
 | r::A=>by show(DV.nolams (iD r)&&DV.nolams (A.map λr=>.tup (iD r)))=true;rw[q9i r,q5F A];rfl
theorem q6o(A:List (List Int)):(tT A).nolam=true:=q5F A
theorem F3(h:evS G F fu m δ=some (.ex c δ')):evSs G F fu (m::r) δ=some (.ex c δ'):=by
 unfold evSs;rw[h]
theorem D9(h:evSs G F fu r δ=some (.ex c δ')):Ou.of (evSs G F fu r δ)=some (.x c):=by rw[h];rfl
theorem q2U(ha:evEs G F es δ=some (.ok l))(h:F f (l.map (·.1))=some (.x c)):evE G F (.call f es) δ=some (.ex c):=by
 show Rs.thn (evEs G F es δ) (λl=>G1 F f l)=_;rw[ha];show G1 F f l=_;unfold G1;rw[h]
theorem z5Q(h:evE G F e δ=some (.ex c)):evS G F fu (.exp e) δ=some (.ex c δ):=by
 show Re.thnS δ (evE G F e δ) (λ_ _=>some (.nx δ))=_;rw[h];rfl
theorem q7i(hc:(G.cls.lookup c).isSome=true)(h:evE G F e δ=some (.ok d cl)):evS G F fu (.rse c e) δ=some (.ex c δ):=by
 show(if(G.cls.lookup c).isSome=true then Re.thnS δ (evE G F e δ) (λ_ _=>some (.ex c δ))else none)=_;rw[d4 hc,h];rfl
section
variable {G:Gs} {F:Nat->List DV->Option Ou} {δ:List Sv} {a b:ME} {r:List ME} {cx:Cl} {o:Option Re}
theorem or_t(ha:evE G F a δ=some (.ok (.bl true) cx)):evE G F (.or (a::b::r)) δ=some (.ok (.bl true) cx):=by
 have e:evE G F (.or (a::b::r)) δ=Re.thn (evE G F a δ) (λx c=>orD x c (evOr G F (b::r) δ)):=(by rw[evE,evOr];rfl);rw[e,ha,o8];rfl
theorem or_f(ha:evE G F a δ=some (.ok (.bl false) cx))(hb:evE G F (.or (b::r)) δ=o):evE G F (.or (a::b::r)) δ=o:=by
 unfold evE at hb ⊢;unfold evOr;rw[ha];exact hb
theorem or_1(ha:evE G F a δ=o):evE G F (.or [a]) δ=o:=by
 unfold evE evOr;exact ha
end
end
section
variable {fu k:Nat} {F:Nat->List DV->Option Ou} {δ:List Sv} {ds:List DV} {cl:Cl}
section
variable {G:Gs} {F:Nat->List DV->Option Ou} {δ:List Sv} {a b:ME} {r:List ME} {cx:Cl} {o:Option Re}
theorem q4t(ha:evE G F a δ=some (.ok (.int x) cx))(hb:evE G F b δ=some (.ok (.int y) cy))(hc:evE G F c δ=some (.ok (.int z) cz)):evE G F (.chain .LtE .LtE a b c) δ=some (.ok (.bl (decide (x<=y)&&decide (y<=z))) .strong):=by
 unfold evE;rw[ha,o8,hb,o8];show(match(some (decide (x<=y)):Option Bool)with
  | none=>none
  | some false=>some (Re.ok (.bl false) .strong)
  | some true=>Re.thn (evE G F c δ) λz _=>(cmpD .LtE (.int y) z).map λk=>Re.ok (.bl k) .strong)=_
 cases decide (x<=y)with
 | false=>rfl
 | true=>
  show Re.thn (evE G F c δ) _=_;rw[hc];rfl
end
theorem q6W(hc:tstD (evE G F c δ)=some (.ok true))(h:evSs G F fu a δ=some (.ex x δ')):evSs G F fu (.iff c a b::r) δ=some (.ex x δ'):=F3 ((z1p hc).trans ((d4 rfl).trans h))
def okv:DV->Bool
 | .scr _=>false | .exc _=>false | .fn _=>false | .lam _ _=>false | _=>true
def o6:DV->List DV
 | .lst ds=>ds | .tup ds=>ds | _=>[]
def C6(d:DV):Bool:=decide (1<=((o6 d).length:Int))&&decide (((o6 d).length:Int)<=8)
def z5a:DV->Bool
 | .int i=>decide (0<=i)&&decide (i<=9) | _=>false
def rowB(d:DV):Bool:=C6 d&&(o6 d).all z5a
theorem z3w(h:okv w=true):run G T fu (k+1) 0 [w,.int 0,.int 9]=some (.v (.bl (z5a w)) false):=by
 rw[j7 (fd:=q2V) rfl rfl];unfold q2V;cases w with
 | int i=>exact m5 (j4 (r6 (cl:=.strong) (M3 (cx:=.strong) rfl (M3 (cx:=.strong) rfl (R8 (q4t (x:=0) (y:=i) (z:=9) (b9 rfl) (b9 rfl) (b9 rfl)))))))
 | non=>rfl
 | bl b=>rfl
 | str s=>rfl
 | tup l=>rfl
 | lst l=>rfl
 | dct a b=>rfl
 | exc c=>cases h
 | fn c=>cases h
 | scr c=>cases h
 | lam a b=>cases h
theorem q7D(h:okv d=true):run G T fu (k+1) 2 [d]=some (.v (.bl (C6 d)) false):=by
 rw[j7 (fd:=q3r) rfl rfl];unfold q3r;cases d with
 | int i=>rfl
 | non=>rfl
 | bl b=>rfl
 | str s=>rfl
 | tup l=>exact m5 (j4 (r6 (cl:=.strong) (M3 (cx:=.strong) rfl (R8 (q4t (x:=1) (y:=l.length) (z:=8) e7 (q8q (b9 rfl)) rfl)))))
 | lst l=>exact m5 (j4 (r6 (cl:=.strong) (M3 (cx:=.strong) rfl (R8 (q4t (x:=1) (y:=l.length) (z:=8) e7 (R7 (b9 rfl)) rfl)))))
 | dct a b=>rfl
 | exc c=>cases h
 | fn c=>cases h
 | scr c=>cases h
 | lam a b=>cases h
theorem q4T:∀l:List α,bools? (l.map λw=>DV.bl (p w))=some (l.map p)
 | []=>rfl
 | a::r=>by have q:=q4T (p:=p) r;show bools? (DV.bl (p a)::r.map λw=>DV.bl (p w))=_;unfold bools?;rw[q];rfl
theorem z4r{α:Type}{p:α->Bool}{l:List α}{e:ME}(h:evE G F e δ=some (.ok (.lst (l.map λw=>DV.bl (p w))) cl)):evE G F (.bi .all [e]) δ=some (.ok (.bl (l.all p)) .strong):=by
 show Rs.thn (evEs G F [e] δ) (λl=>allD l)=_;rw[d7 h i8];show(bools? (l.map λw=>DV.bl (p w))).map (λbs=>Re.ok (.bl (bs.all id)) .strong)=_;rw[q4T];show some (Re.ok (.bl ((l.map p).all id)) .strong)=_;rw[List.all_map];rfl
theorem z4e{α:Type}{p:α->Bool}{l:List α}{e:ME}(h:evE G F e δ=some (.ok (.lst (l.map λw=>DV.bl (p w))) cl)):evE G F (.bi .any [e]) δ=some (.ok (.bl (l.any p)) .strong):=by
 show Rs.thn (evEs G F [e] δ) (λl=>anyD l)=_;rw[d7 h i8];show(bools? (l.map λw=>DV.bl (p w))).map (λbs=>Re.ok (.bl (bs.any id)) .strong)=_;rw[q4T];show some (Re.ok (.bl ((l.map p).any id)) .strong)=_;rw[List.any_map];rfl
theorem q2T(h:C6 d=true):1<=(o6 d).length/\(o6 d).length<=8:=by
 unfold C6 at h;rw[b8,B1,B1]at h;omega
theorem q4u(h:C6 d=true):t6 (some (.ok d .strong))=some (.ok (o6 d) .strong):=by
 cases d with
 | lst l=>rfl
 | tup l=>rfl
 | _=>cases h
theorem q8E(h:n<=8):n<=mostLen:=m7 h (by decide)
theorem z2t(h:okv d=true)(hi:∀w∈o6 d,okv w=true):run G T fu (k+2) 3 [d]=some (.v (.bl (rowB d)) false):=by
 rw[j7 (fd:=q4v) rfl rfl];unfold q4v;have c1:evE G (run G T fu (k+1)) (.call 2 [.var 0]) (i4 1 [d])=some (.ok (.bl (C6 d)) .strong):=p8 (d7 (b9 rfl) i8) rfl (q7D h);unfold rowB;cases hl:C6 d with
 | false=>
  rw[hl]at c1;exact m5 (j4 (r6 (z9d c1)))
 | true=>
  rw[hl]at c1;have cm:=q6a (G:=G) (F:=run G T fu (k+1)) (δ:=i4 1 [d]) (elt:=.call 0 [.var 0,.int 0,.glb "GREATEST_WORD"]) (tg:=.one 0) (it:=.var 0) (fr:=[none]) (f:=λw=>.bl (z5a w)) (ds:=o6 d) (cl:=.strong) (q4u hl) (by decide) (q8E (q2T hl).2)
   (λw hw=>⟨[.val w],rfl,p8 (d7 (b9 rfl) (d7 e7 (d7 (x:=.int 9) rfl i8))) rfl (z3w (hi w hw))⟩)
  exact m5 (j4 (r6 (M3 c1 (R8 (z4r cm)))))
structure Dom(d:DV):Prop where
 o:okv d=true
 i:∀x∈o6 d,okv x=true
 w:∀x∈o6 d,∀y∈o6 x,okv y=true
theorem z1f(D:Dom d):evE G (run G T fu (k+2)) (.or [.not (.call 2 [.var 0]),.not (.bi .all [.comp (.call 3 [.var 0]) (.one 0) (.var 0) [none]])]) (i4 1 [d])=some (.ok (.bl (!(C6 d&&(o6 d).all rowB))) .strong):=by
 have c1:evE G (run G T fu (k+2)) (.call 2 [.var 0]) (i4 1 [d])=some (.ok (.bl (C6 d)) .strong):=p8 (d7 (b9 rfl) i8) rfl (q7D (k:=k+1) D.o);cases hl:C6 d with
 | false=>
  rw[hl]at c1;exact z6J (Q5 c1)
 | true=>
  rw[hl]at c1;have cm:=q6a (G:=G) (F:=run G T fu (k+2)) (δ:=i4 1 [d]) (elt:=.call 3 [.var 0]) (tg:=.one 0) (it:=.var 0) (fr:=[none]) (f:=λw=>.bl (rowB w)) (ds:=o6 d) (cl:=.strong) (q4u hl) (by decide) (q8E (q2T hl).2)
   (λw hw=>⟨[.val w],rfl,p8 (d7 (b9 rfl) i8) rfl (z2t (D.i w hw) (D.w w hw))⟩)
  exact q8p (Q5 c1) (Q5 (z4r cm))
theorem z1M(hl:C6 d=true)(h:evE G F e δ=some (.ok d .strong)):evE G F (.bi .len [e]) δ=some (.ok (.int (o6 d).length) .strong):=by
 cases d with
 | lst l=>exact R7 h
 | tup l=>exact q8q h
 | _=>cases hl
def q9Z(x:DV)(y:DV):Bool:=!(((o6 y).length:Int)==((o6 x).length:Int))
theorem z4A(hd:o6 d=x::l)(hl:C6 d=true)(hr:∀y∈x::l,rowB y=true):evE G F (.bi .any [.comp (.cmp .NotEq (.bi .len [.var 0]) (.bi .len [.ix (.var 1) (.int 0)])) (.one 0) (.var 0) [none,some 0]]) (i4 1 [d])=some (.ok (.bl ((x::l).any (q9Z x))) .strong):=by
 have rl:∀{y:DV},rowB y=true->C6 y=true:=λ{y} h=>by unfold rowB at h;rw[b8]at h;exact h.1
 have hx:ixD d (.int 0)=some x:=by
  cases d with
  | lst ds=>
   cases hd;have h0:(0:Int)<((x::l).length:Int):=by simp
   simp only[ixD,atD,F9,d4 (Int.le_refl 0),d4 h0,P1];rfl
  | tup ds=>
   cases hd;have h0:(0:Int)<((x::l).length:Int):=by simp
   simp only[ixD,atD,F9,d4 (Int.le_refl 0),d4 h0,P1];rfl
  | _=>cases hd
 have cm:=q6a (G:=G) (F:=F) (δ:=i4 1 [d]) (elt:=.cmp .NotEq (.bi .len [.var 0]) (.bi .len [.ix (.var 1) (.int 0)])) (tg:=.one 0) (it:=.var 0) (fr:=[none,some 0]) (f:=λw=>.bl (q9Z x w)) (ds:=o6 d) (cl:=.strong) (q4u hl) (by decide) (q8E (q2T hl).2)
   (λw hw=>⟨[.val w,.val d],rfl,by
    rw[hd]at hw;exact G2 (z1M (d:=w) (rl (hr w hw)) (b9 rfl)) (z1M (d:=x) (rl (hr x (i5 ..))) (D3 (x:=d) (y:=.int 0) (cx:=.strong) (b9 rfl) e7 hx)) rfl⟩)
 rw[hd]at cm;exact z4e cm
def Bad(d:DV):Prop:=C6 d=false\/(∃x∈o6 d,rowB x=false)\/∃x l,o6 d=x::l/\∃y∈l,(o6 y).length≠(o6 x).length
theorem q9w(D:Dom d)(B:Bad d):run G T fu (k+3) 1 [d]=some (.x "NoTable"):=by
 rw[j7 (fd:=q1r) rfl rfl];unfold q1r;have c1:=z1f (fu:=fu) (k:=k) D;cases hc:(C6 d&&(o6 d).all rowB)with
 | false=>
  rw[hc]at c1;exact D9 (q6W (i6 c1) (F3 (q7i (d:=.str "a table is 1 to 8 rows of 1 to 8 words, ints from 0 to 9") (cl:=.strong) rfl rfl)))
 | true=>
  rw[hc]at c1;rw[b8]at hc;obtain⟨hl,ha⟩:=hc;rw[o7]at ha;rcases B with z | ⟨x,hx,z⟩ | ⟨x,l,e,y,hy,z⟩
  ·rw[hl]at z;cases z
  ·rw[ha x hx]at z;cases z
  ·rw[e]at ha;have c2:=z4A (F:=run G T fu (k+2)) e hl ha;have:(x::l).any (q9Z x)=true:=w2T.mpr ⟨y,f9 _ hy,by
    unfold q9Z;rw[p6,y8];intro q;exact z (by omega)⟩
   rw[this]at c2;exact D9 (g6 (i6 c1) (q6W (i6 c2) (F3 (q7i (d:=.str "the rows of a table are of one length") (cl:=.strong) rfl rfl))))
theorem z9l(D:Dom d)(hl:C6 d=true)(hr:∀x∈o6 d,rowB x=true)(hm:∀x∈o6 d,(o6 x).length=m):run G T fu (k+3) 1 [d]=some (.v (.tup ((o6 d).map λx=>.tup (o6 x))) false):=by
 rw[j7 (fd:=q1r) rfl rfl];unfold q1r;have c1:=z1f (fu:=fu) (k:=k) D;rw[hl,o7.mpr hr]at c1;obtain⟨x,l,e⟩:∃x l,o6 d=x::l:=by
  cases q:o6 d with
  | nil=>have:=(q2T hl).1;rw[q]at this;simp at this
  | cons x l=>exact⟨x,l,rfl⟩
 have c2:=z4A (F:=run G T fu (k+2)) e hl (by rw[←e];exact hr);have:(x::l).any (q9Z x)=false:=(by rw[List.any_eq_false];intro y hy;unfold q9Z;rw[e]at hm;rw[hm y hy,hm x (i5 ..)];simp);rw[this]at c2;have cm:=q6a (G:=G) (F:=run G T fu (k+2)) (δ:=i4 1 [d]) (elt:=.bi .tuple [.var 0]) (tg:=.one 0) (it:=.var 0) (fr:=[none]) (f:=λx=>.tup (o6 x)) (ds:=o6 d) (cl:=.strong) (q4u hl) (by decide) (q8E (q2T hl).2)
  (λw hw=>⟨[.val w],rfl,by
   have q:=hr w hw;cases w with
   | lst l=>rfl
   | tup l=>rfl
   | _=>cases q⟩)
 exact m5 (g6 (i6 c1) (g6 (i6 c2) (j4 (r6 (q6i cm)))))
end
section
variable {fu k:Nat} {F:Nat->List DV->Option Ou} {δ:List Sv} {ds:List DV} {cl:Cl}
theorem z9R:run G T fu (k+1) 0 [.int x,.int lo,.int hi]=some (.v (.bl (decide (lo<=x)&&decide (x<=hi))) false):=by
 rw[j7 (fd:=q2V) rfl rfl];exact m5 (j4 (r6 (cl:=.strong) (M3 (cx:=.strong) rfl (M3 (cx:=.strong) rfl (R8 (q4t (x:=lo) (y:=x) (z:=hi) (b9 rfl) (b9 rfl) (b9 rfl)))))))
theorem y0P(h1:lo<=x)(h2:x<=hi):run G T fu (k+2) 10 [.int x,.int lo,.int hi]=some (.v .non false):=by
 rw[j7 (fd:=q1F) rfl rfl];have e:=p8 (G:=G) (F:=run G T fu (k+1)) (δ:=[.val (.int x),.val (.int lo),.val (.int hi)]) (f:=0) (d7 (b9 (n:=0) (d:=.int x) rfl) (d7 (b9 (n:=1) (d:=.int lo) rfl) (d7 (b9 (n:=2) (d:=.int hi) rfl) i8))) rfl z9R;rw[r9 h1,r9 h2]at e;exact y0C (g6 (i6 (Q5 e)) rfl)
def Bds(lo hi:Int):Prop:=lo=1/\hi=8\/lo=2/\hi=10\/lo=1/\hi=3
theorem y1q(h:Bds lo hi)(d:DV):∃x,evE G F (.fst [.str "a number of this table is an int from ",.fmt (.var 1),.str " to ",.fmt (.var 2)]) [.val d,.val (.int lo),.val (.int hi)]=some (.ok (.str x) .strong):=by
 rcases h with⟨rfl,rfl⟩ | ⟨rfl,rfl⟩ | ⟨rfl,rfl⟩<;>exact⟨_,rfl⟩
def Nok(lo hi:Int)(d:DV):Prop:=(∃x,d=.int x/\(x<lo\/hi<x))\/d=.bl true\/d=.non\/d=.str "2" \/ d=.lst [.int 1]
theorem y0f(h:Nok lo hi d):run G T fu (k+1) 0 [d,.int lo,.int hi]=some (.v (.bl false) false):=by
 rcases h with⟨x,rfl,h⟩ | rfl | rfl | rfl | rfl
 ·rw[z9R];have:(decide (lo<=x)&&decide (x<=hi))=false:=(by rw[Bool.and_eq_false_iff,w2c,w2c];omega);rw[this]
 all_goals (rw[j7 (fd:=q2V) rfl rfl];rfl)
theorem z8z(h:Nok lo hi d)(hb:Bds lo hi):run G T fu (k+2) 10 [d,.int lo,.int hi]=some (.x "NoTable"):=by
 rw[j7 (fd:=q1F) rfl rfl];have e:=p8 (G:=G) (F:=run G T fu (k+1)) (δ:=[.val d,.val (.int lo),.val (.int hi)]) (f:=0) (d7 (b9 (n:=0) (d:=d) rfl) (d7 (b9 (n:=1) (d:=.int lo) rfl) (d7 (b9 (n:=2) (d:=.int hi) rfl) i8))) rfl (y0f h);obtain⟨x,hx⟩:=y1q (F:=run G T fu (k+1)) hb d;exact D9 (F3 ((z1p (i6 (Q5 e))).trans ((d4 rfl).trans (F3 (q7i (c:="NoTable") (cl:=.strong) rfl hx)))))
theorem M4(h0:δ[i]? = some (.val (.int x)))(he:evE G (run G T fu (k+2)) e δ=some (.ok (.int hi) .strong))(h1:lo<=x)(h2:x<=hi)(h:evSs G (run G T fu (k+2)) fu r δ=o):evSs G (run G T fu (k+2)) fu (.exp (.call 10 [.var i,.int lo,e])::r) δ=o:=
 j3 (z8r (p8 (f:=10) (d7 (b9 h0) (d7 e7 (d7 he i8))) rfl (y0P h1 h2))) h
theorem R9(h0:δ[i]? = some (.val d))(he:evE G (run G T fu (k+2)) e δ=some (.ok (.int hi) .strong))(h:Nok lo hi d)(hb:Bds lo hi):evSs G (run G T fu (k+2)) fu (.exp (.call 10 [.var i,.int lo,e])::r) δ=some (.ex "NoTable" δ):=
 F3 (z5Q (q2U (f:=10) (d7 (b9 h0) (d7 e7 (d7 he i8))) (z8z h hb)))
theorem bds1:Bds 1 8:=.inl ⟨rfl,rfl⟩
theorem bds2:Bds 2 10:=.inr (.inl ⟨rfl,rfl⟩)
theorem bds3:Bds 1 3:=.inr (.inr ⟨rfl,rfl⟩)
def w0(r c:Nat):Int:=if r=c then 1 else 0
def w1(r c:Nat):Int:=if r<c then 1 else 0
def w2(by':Nat)(r c:Nat):Int:=((r:Int)+c)%by'
theorem q8Q(h:evE G F (.cmp op a b) δ=some (.ok (.bl t) .strong)):evE G F (.ite (.cmp op a b) (.int 1) (.int 0)) δ=some (.ok (.int (if t then 1 else 0)) .strong):=by
 rw[z8P (i6 h)];cases t<;>rfl
theorem z7e{n:Nat}(h1:1<=n)(h8:n<=8):run G T fu (k+3) 5 [.int (n:Int)]=some (.v (tT (tab n n w0)) false):=by
 rw[j7 (fd:=q5R) rfl rfl];refine m5 (M4 (i:=0) (x:=n) (hi:=8) rfl rfl (by omega) (by omega) (j4 (r6 (q6l (cs:=[]) rfl (b9 (n:=0) (d:=.int (n:Int)) rfl) (b9 (n:=0) (d:=.int (n:Int)) rfl) ?_ (q6o _)))));refine q8a (by omega) (by omega) ⟨rfl,rfl,rfl,rfl⟩ λr hr c hc=>q8m ⟨rfl,rfl,rfl,rfl⟩ ?_ rfl
 have e:=q8Q (b_eq (G:=G) (F:=run G T fu k) (δ:=[.val (.int (r:Int)),.val (.int (c:Int))]) (b9 (n:=0) (d:=.int (r:Int)) rfl) (b9 (n:=1) (d:=.int (c:Int)) rfl));have q:(if((r:Int)==(c:Int))=true then(1:Int)else 0)=w0 r c:=by
  unfold w0;by_cases z:r=c
  ·rw[d4 z,d4 (by rw[z];exact w2i _)]
  ·rw[d6 z,d6 (by intro y;exact z (by have:=d5.mp y;omega))]
 rw[q]at e;exact e
theorem z9C{n m:Nat}(h1:1<=n)(h8:n<=8)(m1:1<=m)(m8:m<=8):run G T fu (k+3) 6 [.int (n:Int),.int (m:Int)]=some (.v (tT (tab n m w1)) false):=by
 rw[j7 (fd:=q7F) rfl rfl];refine m5 (M4 (i:=0) (x:=n) (hi:=8) rfl rfl (by omega) (by omega) (M4 (i:=1) (x:=m) (hi:=8) rfl rfl (by omega) (by omega) (j4 (r6 (q6l (cs:=[]) rfl (b9 (n:=0) (d:=.int (n:Int)) rfl) (b9 (n:=1) (d:=.int (m:Int)) rfl) ?_ (q6o _))))));refine q8a (by omega) (by omega) ⟨rfl,rfl,rfl,rfl⟩ λr hr c hc=>q8m ⟨rfl,rfl,rfl,rfl⟩ ?_ rfl
 have e:=q8Q (b_lt (G:=G) (F:=run G T fu k) (δ:=[.val (.int (r:Int)),.val (.int (c:Int))]) (b9 (n:=0) (d:=.int (r:Int)) rfl) (b9 (n:=1) (d:=.int (c:Int)) rfl));have q:(if decide ((r:Int)<(c:Int))=true then(1:Int)else 0)=w1 r c:=by
  unfold w1;by_cases z:r<c
  ·rw[d4 z,d4 (r9 (by omega))]
  ·rw[d6 z,m6 (by omega)];rfl
 rw[q]at e;exact e
theorem z9m{n m b:Nat}(h1:1<=n)(h8:n<=8)(m1:1<=m)(m8:m<=8)(b2:2<=b)(b10:b<=10):run G T fu (k+3) 7 [.int (n:Int),.int (m:Int),.int (b:Int)]=some (.v (tT (tab n m (w2 b))) false):=by
 rw[j7 (fd:=q5z) rfl rfl];refine m5 (M4 (i:=0) (x:=n) (hi:=8) rfl rfl (by omega) (by omega) (M4 (i:=1) (x:=m) (hi:=8) rfl rfl (by omega) (by omega) (M4 (i:=2) (x:=b) (hi:=10) rfl rfl (by omega) (by omega) (j4 (r6 (q6l (cs:=[.int (b:Int)]) rfl (b9 (n:=0) (d:=.int (n:Int)) rfl) (b9 (n:=1) (d:=.int (m:Int)) rfl) ?_ (q6o _)))))));refine q8a (by omega) (by omega) ⟨rfl,rfl,rfl,rfl⟩ λr hr c hc=>q8m ⟨rfl,rfl,rfl,rfl⟩ ?_ rfl
 exact D4 (G3 (b9 (n:=0) (d:=.int (r:Int)) rfl) (b9 (n:=1) (d:=.int (c:Int)) rfl)) (b9 (n:=2) (d:=.int (b:Int)) rfl) (by omega)
end
section
variable {fu k:Nat} {F:Nat->List DV->Option Ou} {δ:List Sv} {ds:List DV} {cl:Cl}
abbrev stx(l:List Nat):Str:=⟨l.toArray⟩
theorem J8(l:List Nat):(stx l).cps.toList=l:=List.toList_toArray
theorem z5f(x:Str):stx x.cps.toList=x:=by
 cases x;rfl
theorem M5(l:List Nat):(stx l).length=l.length:=u5 ..
theorem q9d:("/" : Str)=stx [47]:=by decide +kernel
theorem z4C:("" : Str)=stx []:=by decide +kernel
theorem T4:(":" : Str)=stx [58]:=by decide +kernel
theorem z4z:("0123456789" : Str)=stx [48,49,50,51,52,53,54,55,56,57]:=by decide +kernel
def cpw(w:Int):Nat:=48+w.toNat
def rowT(r:List Int):List Nat:=r.map cpw
def txt(R:List (List Int)):List Nat:=jnL 47 (R.map rowT)
def dS(l:List (List Nat)):List DV:=l.map λp=>.str (stx p)
def W9(R:List (List Int)):Prop:=∀r∈R,∀x∈r,0<=x/\x<10
theorem q7N:∀l:List (List Nat),strs? (dS l)=some (l.map stx)
 | []=>rfl
 | a::r=>by show(strs? (dS r)).map (stx a :: ·)=_;rw[q7N r];rfl
theorem y0j(c:Nat)(l:List (List Nat)):Str.join (stx [c]) (l.map stx)=stx (jnL c l):=by
 rw[←z5f (Str.join (stx [c]) (l.map stx))];have:=q5V c (l.map stx);rw[show Str.join (stx [c]) (l.map stx)=Str.join ⟨#[c]⟩ (l.map stx)from rfl,this,B8,show((λx:Str=>x.cps.toList) ∘ stx)=id from funext λl=>J8 l,List.map_id]
theorem q7I:∀l:List Str,(Str.join (stx []) l).cps.toList=(l.map λx=>x.cps.toList).flatten
 | []=>rfl
 | [x]=>by simp[Str.join]
 | x::y::r=>by have ih:=q7I (y::r);show(x++stx []++Str.join (stx []) (y::r)).cps.toList=_;have e:(x++stx []++Str.join (stx []) (y::r)).cps=x.cps ++ #[]++(Str.join (stx []) (y::r)).cps:=rfl;rw[e,X8,X8,ih];simp
theorem y1c(l:List (List Nat)):Str.join (stx []) (l.map stx)=stx l.flatten:=by
 rw[←z5f (Str.join (stx []) (l.map stx)),q7I,B8,show((λx:Str=>x.cps.toList) ∘ stx)=id from funext λl=>J8 l,List.map_id]
theorem z1S(l:List (List Nat)):(l.map stx).map (·.length)=l.map (·.length):=by
 rw[B8];exact w14 λp _=>M5 p
theorem z1D(ha:evE G F a δ=some (.ok (.str (stx [c])) ca))(he:evE G F e δ=some (.ok (.lst (dS l)) ce))(hl:(l.map (·.length)).sum+l.length<=mostLen):evE G F (.joi a e) δ=some (.ok (.str (stx (jnL c l))) .strong):=by
 unfold evE;rw[ha,o8,d4 (show strB (DV.str (stx [c]))=true from rfl),he,o8];show((match strs? (dS l)with | some ys=>if(ys.map Str.length).sum+ys.length*(stx [c]).length<=mostLen then some (DV.str (Str.join (stx [c]) ys))else none | none=>none)).map _=_;rw[q7N];dsimp only;rw[z1S,g9,M5,d4 (by simpa using hl),y0j];rfl
theorem z5X(ha:evE G F a δ=some (.ok (.str (stx [])) ca))(he:evE G F e δ=some (.ok (.lst (dS l)) ce))(hl:(l.map (·.length)).sum<=mostLen):evE G F (.joi a e) δ=some (.ok (.str (stx l.flatten)) .strong):=by
 unfold evE;rw[ha,o8,d4 (show strB (DV.str (stx []))=true from rfl),he,o8];show((match strs? (dS l)with | some ys=>if(ys.map Str.length).sum+ys.length*(stx []).length<=mostLen then some (DV.str (Str.join (stx []) ys))else none | none=>none)).map _=_;rw[q7N];dsimp only;rw[z1S,g9,M5,d4 (by simpa using hl),y1c];rfl
theorem z4V:∀n,n<10->Str.ofString (toString ((n:Nat):Int))=stx [48+n]:=by decide +kernel
theorem z8S(h0:0<=x)(h9:x<10)(h:evE G F e δ=some (.ok (.int x) c)):evE G F (.bi .str [e]) δ=some (.ok (.str (stx [cpw x])) .strong):=by
 show Rs.thn (evEs G F [e] δ) (λl=>strD l)=_;rw[d7 h i8];show(if x.natAbs<2^64 then some (Re.ok (.str (Str.ofString (toString x))) .strong)else none)=_;rw[d4 (by omega)];obtain⟨n,rfl⟩:∃n:Nat,x=(n:Int):=⟨x.toNat,by omega⟩;rw[z4V n (by omega)];rfl
theorem q9o:∀r:List Int,((r.map λx=>[cpw x]).map List.length).sum=r.length
 | []=>rfl
 | a::r=>by have:=q9o r;show 1+((r.map λx=>[cpw x]).map List.length).sum=r.length+1;omega
theorem q6G:∀r:List Int,(r.map λx=>[cpw x]).flatten=rowT r
 | []=>rfl
 | a::r=>by show cpw a::(r.map λx=>[cpw x]).flatten=cpw a::rowT r;rw[q6G r]
theorem z6t(r:List Int):(r.map λx=>DV.str (stx [cpw x]))=dS (r.map λx=>[cpw x]):=by
 unfold dS;rw[B8];rfl
theorem big(n:Nat)(h:n<=1000):n<=mostLen:=m7 h (by decide)
theorem q6d(r:List Int):(rowT r).length=r.length:=g9 ..
theorem q9l(h:Rect n m R):((R.map rowT).map List.length).sum=n*m:=by
 obtain⟨h1,h2⟩:=h;subst h1
 induction R with
 | nil=>simp
 | cons r R ih=>
  have:=ih λx hx=>h2 x (f9 _ hx);show(rowT r).length+((R.map rowT).map List.length).sum=(R.length+1)*m;rw[this,q6d,h2 r (i5 ..),Nat.add_mul,Nat.one_mul,Nat.add_comm]
theorem y1x(h:0<=x/\x<10):48<=cpw x/\cpw x<=57:=by unfold cpw;omega
theorem z5W(h9:∀x∈r,0<=x/\x<10)(hc:c∈rowT r):48<=c/\c<=57:=by
 obtain⟨x,hx,rfl⟩:=j9.mp hc;exact y1x (h9 x hx)
theorem q8L:∀{l:List (List Nat)},x∈jnL c l->x=c\/∃p∈l,x∈p
 | [],h=>nomatch h
 | [a],h=>.inr ⟨a,E9.mpr rfl,h⟩
 | a::b::r,h=>by
  rcases C8.mp (show x∈a++c::jnL c (b::r)from h)with q | q
  ·exact .inr ⟨a,i5 ..,q⟩
  ·rcases d9.mp q with q | q
   ·exact .inl q
   ·rcases q8L q with z | ⟨p,hp,z⟩
    ·exact .inl z
    ·exact .inr ⟨p,f9 _ hp,z⟩
theorem z1C:∀l:List (List Nat),(jnL c l).length<=(l.map List.length).sum+l.length
 | []=>G9 _
 | [a]=>by show a.length<=_;simp
 | a::b::r=>by have ih:=z1C (c:=c) (b::r);show(a++c::jnL c (b::r)).length<=_;rw[A7,y9];simp only[B7,List.sum_cons,y9]at ih ⊢;omega
theorem z4I(h:l≠[])(hc:∀p∈l,c∉p):splL c (jnL c l)=l:=z4p c _ _ (W3 c _) h (q3D c _) hc (q3W c _)
theorem q7l(h9:W9 R)(hc:c<48\/57<c):∀p∈R.map rowT,c∉p:=λp hp hx=>by
 obtain⟨r,hr,rfl⟩:=j9.mp hp;have:=z5W (h9 r hr) hx;omega
theorem z6q(hR:R≠[])(h9:W9 R):splL 47 (txt R)=R.map rowT:=z4I (by intro z;exact hR (List.map_eq_nil_iff.mp z)) (q7l h9 (.inl (by decide)))
theorem z9K(h9:W9 R):58∉txt R:=λh=>by
 rcases q8L h with z | ⟨p,hp,z⟩
 ·cases z
 ·exact q7l h9 (.inr (by decide)) p hp z
theorem z0W(h:Rect n m R)(hn:n<=8)(hm:m<=8):(txt R).length<=100:=by
 have nm:n*m<=64:=m7 (Nat.mul_le_mul hn hm) (by decide);have:=z1C (c:=47) (R.map rowT);rw[q9l h,g9,h.1]at this;show(jnL 47 (R.map rowT)).length<=100;omega
theorem q7g(ha:evE G F a δ=some (.ok (.str (stx l)) ca))(hb:evE G F b δ=some (.ok (.str (stx [c])) cb))(hl:l.length<=1000):evE G F (.spl a b) δ=some (.ok (.lst (dS (splL c l))) .fresh):=by
 unfold evE;rw[ha,o8,d4 (show strB (DV.str (stx l))=true from rfl),hb,o8];show((if(stx l).length<=mostLen then some (DV.lst ((splL c (stx l).cps.toList).map λp=>.str ⟨p.toArray⟩))else none)).map _=_;rw[M5,J8,d4 (big _ hl)];rfl
theorem q7v(ha:evE G F a δ=some (.ok (.str (stx [c])) ca))(hb:evE G F b δ=some (.ok (.str (stx l)) cb)):evE G F (.cmp .In a b) δ=some (.ok (.bl (decide (c∈l))) .strong):=by
 refine G2 ha hb ?_;show some (decide (c∈(stx l).cps.toList))=_;rw[J8]
theorem z6n:∀n,n<10->P9 (48+n) [48,49,50,51,52,53,54,55,56,57]=((n:Nat):Int):=by decide
theorem z4l:evE G F (.glb "DIGITS") δ=some (.ok (.str (stx [48,49,50,51,52,53,54,55,56,57])) .strong):=by
 rw[←z4z];rfl
theorem z4Y(h:Rect n m R)(n1:0<n)(hn:n<=8)(m1:0<m)(hm:m<=8)(h9:W9 R):run G T fu (k+3) 1 [rL R]=some (.v (tT R) false):=by
 have it:o6 (rL R)=R.map λr=>.lst (iD r):=rfl;have ir:∀r:List Int,o6 (.lst (iD r))=iD r:=λ_=>rfl;have il:∀r:List Int,(iD r).length=r.length:=λr=>g9 ..;have line:∀{d:DV} {j:Nat},(o6 d).length=j->0<j->j<=8->C6 d=true:=λ{d j} e h1 h2=>by unfold C6;rw[b8,B1,B1,e];omega
 have q:=z9l (fu:=fu) (k:=k) (d:=rL R) ⟨rfl,λx hx=>by rw[it]at hx;obtain⟨r,_,rfl⟩:=j9.mp hx;rfl,λx hx y hy=>by
   rw[it]at hx;obtain⟨r,_,rfl⟩:=j9.mp hx;rw[ir]at hy;obtain⟨z,_,rfl⟩:=j9.mp hy;rfl⟩
  (line (j:=n) (by rw[it,g9,h.1]) n1 hn)
  (λx hx=>by
   rw[it]at hx;obtain⟨r,hr,rfl⟩:=j9.mp hx;unfold rowB;rw[b8,o7];refine⟨line (j:=m) (by rw[ir,il,h.2 r hr]) m1 hm,λy hy=>?_⟩;rw[ir]at hy;obtain⟨z,hz,rfl⟩:=j9.mp hy;have:=h9 r hr z hz;show(decide (0<=z)&&decide (z<=9))=true;rw[b8,B1,B1];omega)
  (m:=m) (λx hx=>by rw[it]at hx;obtain⟨r,hr,rfl⟩:=j9.mp hx;rw[ir,il,h.2 r hr])
 rw[q,it,B8];rfl
theorem q6e:evS G F fu (.tryr b "NoTable" "NoText" msg) δ=z7v G "NoTable" "NoText" (evSs G F fu b δ):=by
 unfold evS;exact d4 (by decide)
end
section
variable {fu k:Nat} {F:Nat->List DV->Option Ou} {δ:List Sv} {ds:List DV} {cl:Cl}
def dg(n:Nat):List Nat:=if n<10 then[48+n]else[49,38+n]
theorem z0P(n:Nat):(dg n).length<=2:=by unfold dg;split<;>simp
theorem dg_r(hn:n<13)(h:c∈dg n):c<=57:=by
 unfold dg at h;split at h
 ·rw[E9]at h;omega
 ·simp at h;omega
theorem z5R:∀n,n<13->Str.ofString (toString ((n:Nat):Int))=stx (dg n):=by decide +kernel
def nmL:Nat->List Nat
 | 0=>[97,108,105,107,101] | 1=>[108,101,115,115] | 2=>[115,117,109,115] | 3=>[115,104,97,114,101,100] | _=>[112,105,99,107]
def nmS:Nat->Str
 | 0=>"alike" | 1=>"less" | 2=>"sums" | 3=>"shared" | _=>"pick"
theorem z6U:∀w,w<5->nmS w=stx (nmL w):=by decide +kernel
def numsOf(w n m b:Nat):List Nat:=match w with | 1=>[n,m] | 2=>[n,m,b] | _=>[n]
def X3(w n m b:Nat):List (List Nat):=nmL w::(numsOf w n m b).map dg
def nmT(w n m b:Nat):List Nat:=jnL 58 (X3 w n m b)
abbrev nL(n m b:Nat):DV:=.lst [.int (n:Int),.int (m:Int),.int (b:Int)]
section
variable {w n m b:Nat}
theorem five(hw:w<5):w=0\/w=1\/w=2\/w=3\/w=4:=by omega
theorem q6X(hw:w<5):((X3 w n m b).map List.length).sum+(X3 w n m b).length<=30:=by
 have h1:=z0P n;have h2:=z0P m;have h3:=z0P b;rcases five hw with rfl | rfl | rfl | rfl | rfl<;>simp[X3,numsOf,nmL]<;>omega
theorem q8G(hw:w<5)(hn:n<13)(hm:m<13)(hb:b<13):∀j∈numsOf w n m b,j<13:=λj hj=>by
 rcases five hw with rfl | rfl | rfl | rfl | rfl<;>simp[numsOf]at hj<;>omega
theorem z2U(hw:w<5)(hn:n<13)(hm:m<13)(hb:b<13):∀p∈X3 w n m b,58∉p:=λp hp h=>by
 rcases d9.mp hp with z | z
 ·subst z;have:∀w,w<5->58∉nmL w:=by decide
  exact this w hw h
 ·obtain⟨j,hj,rfl⟩:=j9.mp z;have:=dg_r (q8G hw hn hm hb j hj) h;omega
theorem z0z(hw:w<5):(nmT w n m b).length<=30:=m7 (z1C _) (q6X hw)
theorem z5J(hw:w<5)(hn:n<13)(hm:m<13)(hb:b<13):splL 58 (nmT w n m b)=X3 w n m b:=z4I (by intro z;cases z) (z2U hw hn hm hb)
theorem z4v(hw:w<5):58∈nmT w n m b:=by
 rcases five hw with rfl | rfl | rfl | rfl | rfl<;>exact A8 _ (i5 ..)
end
theorem z9X{e:ME}{n:Nat}{c:Cl}(hn:n<13)(h:evE G F e δ=some (.ok (.int (n:Int)) c)):evE G F (.bi .str [e]) δ=some (.ok (.str (stx (dg n))) .strong):=by
 show Rs.thn (evEs G F [e] δ) (λl=>strD l)=_;rw[d7 h i8];show(if(n:Int).natAbs<2^64 then some (Re.ok (.str (Str.ofString (toString (n:Int)))) .strong)else none)=_;rw[d4 (by omega),z5R n hn]
theorem z5l(l:List Nat):(l.map λn=>DV.str (stx (dg n)))=dS (l.map dg):=by
 unfold dS;rw[B8];rfl
def nsD(l:List Nat):List DV:=l.map λ(n:Nat)=>DV.int (n:Int)
def rows?:List DV->Option (List (List Int))
 | []=>some []
 | .tup ds::r=>(ints? ds).bind λa=>(rows? r).map (a :: ·)
 | _=>none
theorem q8l:∀{ds:List DV} {ns:List Int},ints? ds=some ns->ds=iD ns
 | [],ns,h=>by cases h;rfl
 | .int i::r,ns,h=>by have h':(ints? r).map (i :: ·)=some ns:=h;obtain⟨a,e1,e2⟩:=j8.mp h';rw[q8l e1,←e2];rfl
 | .non::_,_,h=>by cases h
 | .bl _::_,_,h=>by cases h
 | .str _::_,_,h=>by cases h
 | .tup _::_,_,h=>by cases h
 | .lst _::_,_,h=>by cases h
 | .dct _ _::_,_,h=>by cases h
 | .exc _::_,_,h=>by cases h
 | .fn _::_,_,h=>by cases h
 | .lam _ _::_,_,h=>by cases h
 | .scr _::_,_,h=>by cases h
theorem z1W:∀{ds:List DV} {R:List (List Int)},rows? ds=some R->ds=R.map λr=>.tup (iD r)
 | [],R,h=>by cases h;rfl
 | .tup d::r,R,h=>by have h':((ints? d).bind λa=>(rows? r).map (a :: ·))=some R:=h;obtain⟨a,e1,e2⟩:=w1O.mp h';obtain⟨b,e3,e4⟩:=j8.mp e2;rw[q8l e1,z1W e3,←e4];rfl
 | .non::_,_,h=>by cases h
 | .bl _::_,_,h=>by cases h
 | .str _::_,_,h=>by cases h
 | .int _::_,_,h=>by cases h
 | .lst _::_,_,h=>by cases h
 | .dct _ _::_,_,h=>by cases h
 | .exc _::_,_,h=>by cases h
 | .fn _::_,_,h=>by cases h
 | .lam _ _::_,_,h=>by cases h
 | .scr _::_,_,h=>by cases h
def tblO:Option Ou->Option (List (List Int))
 | some (.v (.tup ds) false)=>rows? ds
 | _=>none
theorem z4K(h:tblO o=some R):o=some (.v (tT R) false):=by
 unfold tblO at h;split at h
 ·rw[z1W h];rfl
 ·cases h
def pc(x:Nat):Int:=((List.range 3).filter λj=>x.testBit j).length
def w3(r c:Nat):Int:=pc (r &&& c)
def w4(r c:Nat):Int:=((c/2^r%2:Nat):Int)
theorem z0S(h:evE G F e δ=some (.ex c)):evS G F fu (.ret e) δ=some (.ex c δ):=by
 unfold evS;rw[h];rfl
theorem q9F:∀n,n<3->tblO (run G T 100 56 8 [.int ((n+1:Nat):Int)])=some (tab (2^(n+1)) (2^(n+1)) w3):=by decide +kernel
theorem z3u:∀n,n<3->tblO (run G T 100 56 9 [.int ((n+1:Nat):Int)])=some (tab (n+1) (2^(n+1)) w4):=by decide +kernel
def Vld(w n m b:Nat):Prop:=1<=n/\n<=(if w<=2 then 8 else 3)/\(w=1\/w=2->1<=m/\m<=8)/\(w=2->2<=b/\b<=10)
instance (w n m b:Nat):Decidable (Vld w n m b):=by unfold Vld;infer_instance
instance (w n m b:Nat):Decidable (Vld w n m b):=by unfold Vld;infer_instance
def tbl(w n m b:Nat):List (List Int):=match w with
 | 0=>tab n n w0 | 1=>tab n m w1 | 2=>tab n m (w2 b) | 3=>tab (2^n) (2^n) w3 | _=>tab n (2^n) w4
def tHi(w n:Nat):Nat:=if w=3 then 2^n else n
def tWi(w n m:Nat):Nat:=if w=0 then n else if w<=2 then m else 2^n
theorem p2(h:n<=3):0<2^n/\2^n<=8:=⟨Nat.pos_of_ne_zero (by intro z;have:=Nat.pow_eq_zero.mp z;omega),Nat.pow_le_pow_right (n:=2) (by decide) h⟩
section
variable {w n m b:Nat}
theorem z3i(hw:w<5):Rect (tHi w n) (tWi w n m) (tbl w n m b):=by
 rcases five hw with rfl | rfl | rfl | rfl | rfl<;>exact z2z _ _ _
theorem z5S(hw:w<5)(V:Vld w n m b):0<tHi w n/\tHi w n<=8/\0<tWi w n m/\tWi w n m<=8:=by
 obtain⟨v1,v2,v3,v4⟩:=V;rcases five hw with rfl | rfl | rfl | rfl | rfl
 ·exact⟨v1,v2,v1,v2⟩
 ·exact⟨v1,v2,(v3 (.inl rfl)).1,(v3 (.inl rfl)).2⟩
 ·exact⟨v1,v2,(v3 (.inr rfl)).1,(v3 (.inr rfl)).2⟩
 ·exact⟨(p2 v2).1,(p2 v2).2,(p2 v2).1,(p2 v2).2⟩
 ·exact⟨v1,m7 v2 (by decide),(p2 v2).1,(p2 v2).2⟩
theorem T5(h:(x:Int)<lo\/hi<(x:Int)):Nok lo hi (.int (x:Int)):=.inl ⟨_,rfl,h⟩
theorem y1f(hw:w<5)(h0:0∉numsOf w n m b):run G T 100 56 (5+w) (nsD (numsOf w n m b))=if Vld w n m b then some (.v (tT (tbl w n m b)) false)else some (.x "NoTable"):=by
 rcases five hw with rfl | rfl | rfl | rfl | rfl
 ·have n1:1<=n:=by simp[numsOf]at h0;omega
  by_cases V:n<=8
  ·rw[d4 ⟨n1,V,(λz=>by omega),(λz=>by omega)⟩];exact z7e n1 V
  ·rw[d6 (λz=>V z.2.1)];show run G T 100 56 5 [.int (n:Int)]=_;rw[j7 (fd:=q5R) rfl rfl];exact D9 (R9 (k:=53) (i:=0) (hi:=8) rfl rfl (T5 (.inr (by omega))) bds1)
 ·have n1:1<=n:=by simp[numsOf]at h0;omega
  have m1:1<=m:=by simp[numsOf]at h0;omega
  by_cases V:n<=8
  ·by_cases M:m<=8
   ·rw[d4 ⟨n1,V,λ_=>⟨m1,M⟩,(λz=>by omega)⟩];exact z9C n1 V m1 M
   ·rw[d6 (λz=>M (z.2.2.1 (.inl rfl)).2)];show run G T 100 56 6 [.int (n:Int),.int (m:Int)]=_;rw[j7 (fd:=q7F) rfl rfl];exact D9 (M4 (k:=53) (i:=0) (x:=n) (hi:=8) rfl rfl (by omega) (by omega) (R9 (k:=53) (i:=1) (hi:=8) rfl rfl (T5 (.inr (by omega))) bds1))
  ·rw[d6 (λz=>V z.2.1)];show run G T 100 56 6 [.int (n:Int),.int (m:Int)]=_;rw[j7 (fd:=q7F) rfl rfl];exact D9 (R9 (k:=53) (i:=0) (hi:=8) rfl rfl (T5 (.inr (by omega))) bds1)
 ·have n1:1<=n:=by simp[numsOf]at h0;omega
  have m1:1<=m:=by simp[numsOf]at h0;omega
  have b1:1<=b:=by simp[numsOf]at h0;omega
  by_cases V:n<=8
  ·by_cases M:m<=8
   ·by_cases B:2<=b/\b<=10
    ·rw[d4 ⟨n1,V,λ_=>⟨m1,M⟩,λ_=>B⟩];exact z9m n1 V m1 M B.1 B.2
    ·rw[d6 (λz=>B (z.2.2.2 rfl))];show run G T 100 56 7 [.int (n:Int),.int (m:Int),.int (b:Int)]=_;rw[j7 (fd:=q5z) rfl rfl];exact D9 (M4 (k:=53) (i:=0) (x:=n) (hi:=8) rfl rfl (by omega) (by omega) (M4 (k:=53) (i:=1) (x:=m) (hi:=8) rfl rfl (by omega) (by omega) (R9 (k:=53) (i:=2) (hi:=10) rfl rfl (T5 (by omega)) bds2)))
   ·rw[d6 (λz=>M (z.2.2.1 (.inr rfl)).2)];show run G T 100 56 7 [.int (n:Int),.int (m:Int),.int (b:Int)]=_;rw[j7 (fd:=q5z) rfl rfl];exact D9 (M4 (k:=53) (i:=0) (x:=n) (hi:=8) rfl rfl (by omega) (by omega) (R9 (k:=53) (i:=1) (hi:=8) rfl rfl (T5 (.inr (by omega))) bds1))
  ·rw[d6 (λz=>V z.2.1)];show run G T 100 56 7 [.int (n:Int),.int (m:Int),.int (b:Int)]=_;rw[j7 (fd:=q5z) rfl rfl];exact D9 (R9 (k:=53) (i:=0) (hi:=8) rfl rfl (T5 (.inr (by omega))) bds1)
 ·have n1:1<=n:=by simp[numsOf]at h0;omega
  by_cases V:n<=3
  ·rw[d4 ⟨n1,V,(λz=>by omega),(λz=>by omega)⟩];obtain⟨j,rfl⟩:∃j,n=j+1:=⟨n - 1,by omega⟩;exact z4K (q9F j (by omega))
  ·rw[d6 (λz=>V z.2.1)];show run G T 100 56 8 [.int (n:Int)]=_;rw[j7 (fd:=q6t) rfl rfl];exact D9 (R9 (k:=53) (i:=0) (hi:=3) rfl rfl (T5 (.inr (by omega))) bds3)
 ·have n1:1<=n:=by simp[numsOf]at h0;omega
  by_cases V:n<=3
  ·rw[d4 ⟨n1,V,(λz=>by omega),(λz=>by omega)⟩];obtain⟨j,rfl⟩:∃j,n=j+1:=⟨n - 1,by omega⟩;exact z4K (z3u j (by omega))
  ·rw[d6 (λz=>V z.2.1)];show run G T 100 56 9 [.int (n:Int)]=_;rw[j7 (fd:=z0U) rfl rfl];exact D9 (R9 (k:=53) (i:=0) (hi:=3) rfl rfl (T5 (.inr (by omega))) bds3)
theorem q3N[Decidable P](ha:evEs G F es δ=some (.ok l))(hs:(l.all λp=>p.2 == .strong||p.2 == .fresh)=true)(h:F f (l.map (·.1))=if P then some (.v (tT R) false)else some (.x c)) :
  evSs G F fu [.ret (.call f es)] δ=if P then some (.rt (tT R) false)else some (.ex c δ):=by
 by_cases p:P
 ·rw[d4 p]at h ⊢;exact j4 (r6 (p8 (fr:=false) ha hs h))
 ·rw[d6 p]at h ⊢;exact F3 (z0S (q2U ha h))
theorem q4M[Decidable P](ht:tstD (evE G F t δ)=some (.ok true))(h:evSs G F fu a δ=if P then some (.rt (tT R) false)else some (.ex c δ)) :
  evSs G F fu (.iff t a []::r) δ=if P then some (.rt (tT R) false)else some (.ex c δ):=by
 by_cases p:P
 ·rw[d4 p]at h ⊢;exact C4 ht h
 ·rw[d6 p]at h ⊢;exact q6W ht h
end
end
section
variable {fu k:Nat} {F:Nat->List DV->Option Ou} {δ:List Sv} {ds:List DV} {cl:Cl}
def isD(c:Nat):Bool:=decide (48<=c/\c<=57)
theorem q8I:(c∈[48,49,50,51,52,53,54,55,56,57])↔(48<=c/\c<=57):=by simp;omega
def vN:List Nat->Option Nat
 | [a]=>if isD a then some (a - 48)else none
 | [a,b]=>if isD a&&isD b&&decide (a≠48)then some ((a - 48)*10+(b - 48))else none
 | _=>none
def Okp(p:List Nat):Prop:=∀c∈p,c<1114112
theorem plS(h:Okp p):(DV.str (stx p)).plain 60=true:=by
 simp[DV.plain];exact h
theorem eqS(hp:Okp p)(hq:Okp q)(ha:evE G F a δ=some (.ok (.str (stx p)) ca))(hc:evE G F c δ=some (.ok (.str (stx q)) cc)):evE G F (.cmp .Eq a c) δ=some (.ok (.bl (decide (p=q))) .strong):=by
 refine G2 ha hc ?_;have p1:=plS hp;have p2:=plS hq;have e:(stx p=stx q)↔p=q:=⟨λh=>by rw[←J8 p,h,J8],λh=>by rw[h]⟩;simp[cmpD,deq,p1,p2,e]
theorem z1i(ha:evE G F a δ=some (.ok (.str (stx [x])) ca))(hc:evE G F c δ=some (.ok (.str (stx l)) cc)):evE G F (.cmp .NotIn a c) δ=some (.ok (.bl (!decide (x∈l))) .strong):=by
 refine G2 ha hc ?_;show some (!decide (x∈(stx l).cps.toList))=_;rw[J8]
theorem T6(h:evE G F e δ=some (.ok (.str (stx p)) c)):evE G F (.bi .len [e]) δ=some (.ok (.int (p.length:Int)) .strong):=by
 show Rs.thn (evEs G F [e] δ) (λl=>lenD l)=_;rw[d7 h i8];show some (Re.ok (.int ((stx p).length:Int)) .strong)=_;rw[M5]
theorem q7S(h:evE G F e δ=some (.ok (.str (stx (a::p))) c)):evE G F (.ix e (.int 0)) δ=some (.ok (.str (stx [a])) c.item):=by
 refine D3 h (e7 (i:=0)) ?_;show((F9 (stx (a::p)).cps.size 0).bind λj=>((stx (a::p)).cps[j]?).map λc=>DV.str ⟨#[c]⟩)=_;rw[show F9 (stx (a::p)).cps.size 0=some 0 from z3R (j:=0) (by show 0<(a::p).toArray.size;simp)];rfl
theorem T7(h:evE G F e δ=some (.ok (.str (stx p)) c)):t6 (evE G F e δ)=some (.ok (p.map λx=>.str (stx [x])) c):=by
 rw[h];show some (Ri.ok ((stx p).cps.toList.map λc=>DV.str ⟨#[c]⟩) c)=_;rw[J8]
theorem z8h(hl:p.length<=1000)(h:evE G F e δ=some (.ok (.str (stx p)) .strong)):evE G F (.bi .any [.comp (.cmp .NotIn (.var 0) (.glb "DIGITS")) (.one 0) e [none]]) δ=some (.ok (.bl (p.any λc=>!isD c)) .strong):=by
 have cm:=J4 (l:=p) (h:=λx=>DV.str (stx [x])) (f:=λx=>.bl (!isD x)) (F:=F) (δ:=δ) (elt:=.cmp .NotIn (.var 0) (.glb "DIGITS")) (tg:=.one 0) (it:=e) (fr:=[none]) (cl:=.strong)
  (T7 h) (by decide) (big _ hl) (λx hx=>⟨[.val (.str (stx [x]))],.strong,rfl,by
   have q:=z1i (F:=F) (δ:=[.val (.str (stx [x]))]) (a:=.var 0) (c:=.glb "DIGITS") (x:=x) (b9 rfl) z4l;rw[show decide (x∈[48,49,50,51,52,53,54,55,56,57])=isD x from w2j.mpr q8I]at q;exact q,rfl⟩)
 exact z4e cm
theorem q8r(hd:dnum (stx p)=some (n:Int))(h:evE G F e δ=some (.ok (.str (stx p)) c)):evE G F (.bi .int [e]) δ=some (.ok (.int (n:Int)) .strong):=by
 show Rs.thn (evEs G F [e] δ) (λl=>intD l)=_;rw[d7 h i8];show(dnum (stx p)).map (λn=>Re.ok (.int n) .strong)=_;rw[hd];rfl
theorem z6e(h:isD a=true):dnum (stx [a])=some ((a - 48:Nat):Int):=by
 unfold isD at h;rw[B1]at h;show(if 48<=a/\a<=57 then some ((a - 48:Nat):Int)else none)=_;rw[d4 h]
theorem z9v(h:isD a=true)(h2:isD b=true):dnum (stx [a,b])=some (((a - 48)*10+(b - 48):Nat):Int):=by
 unfold isD at h h2;rw[B1]at h h2;show(if 48<=a/\a<=57/\48<=b/\b<=57 then some (((a - 48)*10+(b - 48):Nat):Int)else none)=_;rw[d4 ⟨h.1,h.2,h2.1,h2.2⟩]
theorem z5F:("0" : Str)=stx [48]:=by decide +kernel
theorem ok48:Okp [48]:=λc h=>by rw[E9]at h;omega
theorem okp0:Okp []:=λc h=>nomatch h
def pN(p:List Nat):Option Nat:=(vN p).bind λn=>if n=0 then none else some n
def RN:ME:=.or [.cmp .NotIn (.bi .len [.var 0]) (.tup [.int 1,.int 2]),.cmp .Eq (.ix (.var 0) (.int 0)) (.str "0"),.bi .any [.comp (.cmp .NotIn (.var 0) (.glb "DIGITS")) (.one 0) (.var 0) [none]]]
theorem z8y{n:Nat}:cmpD .NotIn (.int (n:Int)) (.tup [.int 1,.int 2])=some (!(decide (n=1)||decide (n=2))):=by
 have e1:((1:Int)==(n:Int))=decide (n=1):=by rw[J9];simp;omega
 have e2:((2:Int)==(n:Int))=decide (n=2):=by rw[J9];simp;omega
 simp[cmpD,DV.plain,DV.plains,deq,e1,e2]
theorem e_rn(hp:Okp p)(hl:p.length<=1000):evE G F RN [.val (.str (stx p))]=some (.ok (.bl (pN p).isNone) .strong):=by
 have v:=b9 (G:=G) (F:=F) (δ:=[.val (.str (stx p))]) (n:=0) (d:=.str (stx p)) rfl;have l1:evE G F (.cmp .NotIn (.bi .len [.var 0]) (.tup [.int 1,.int 2])) [.val (.str (stx p))]=some (.ok (.bl (!(decide (p.length=1)||decide (p.length=2)))) .strong):=G2 (T6 v) (show evE G F (.tup [.int 1,.int 2]) [.val (.str (stx p))]=some (.ok (.tup [.int 1,.int 2]) .strong)from rfl) z8y;have an:=z8h hl v
 match p,hp,hl,v,l1,an with
 | [],hp,hl,v,l1,an=>exact or_t l1
 | [a],hp,hl,v,l1,an=>
  have e0:=eqS (p:=[a]) (q:=[48]) hp ok48 (q7S v) (show evE G F (.str "0") [.val (.str (stx [a]))]=some (.ok (.str (stx [48])) .strong) by rw[←z5F];rfl);have w:(pN [a]).isNone=(decide ([a]=[48])||[a].any λc=>!isD c):=by
   unfold pN vN;rw[J9];by_cases h:isD a=true
   ·have h':=h;unfold isD at h';rw[B1]at h';simp[h];by_cases z:a=48
    ·subst z;simp
    ·simp[z];omega
   ·simp[h]
  rw[w];refine or_f l1 ?_;cases q:decide ([a]=[48])with
  | true=>rw[q]at e0;exact or_t e0
  | false=>rw[q]at e0;exact or_f e0 (or_1 an)
 | [a,b],hp,hl,v,l1,an=>
  have e0:=eqS (p:=[a]) (q:=[48]) (λc h=>hp c (by rw[E9]at h;rw[h];exact i5 ..)) ok48 (q7S v) (show evE G F (.str "0") [.val (.str (stx [a,b]))]=some (.ok (.str (stx [48])) .strong) by rw[←z5F];rfl);have w:(pN [a,b]).isNone=(decide ([a]=[48])||[a,b].any λc=>!isD c):=by
   unfold pN vN;rw[J9];by_cases h:isD a=true
   ·by_cases h2:isD b=true
    ·have h':=h;unfold isD at h';rw[B1]at h';simp[h,h2];by_cases z:a=48
     ·subst z;simp
     ·simp[z];omega
    ·simp[h,h2]
   ·simp[h]
  rw[w];refine or_f l1 ?_;cases q:decide ([a]=[48])with
  | true=>rw[q]at e0;exact or_t e0
  | false=>rw[q]at e0;exact or_f e0 (or_1 an)
 | a::b::c::r,hp,hl,v,l1,an=>
  have z:(!(decide ((a::b::c::r).length=1)||decide ((a::b::c::r).length=2)))=true:=by simp
  rw[z]at l1;exact or_t l1
theorem z9M(hp:Okp p)(hl:p.length<=1000):run G T fu (k+1) 14 [.str (stx p)]=match pN p with | some n=>some (.v (.int (n:Int)) false) | none=>some (.x "NoText"):=by
 rw[j7 (fd:=q2z) rfl rfl];have c:=e_rn (F:=run G T fu k) hp hl;cases q:pN p with
 | none=>
  rw[q]at c;exact D9 (q6W (i6 c) (F3 (q7i rfl z4P)))
 | some n=>
  rw[q]at c;have d:dnum (stx p)=some (n:Int):=by
   unfold pN at q;obtain⟨m,h1,h2⟩:=w1O.mp q;split at h2
   ·cases h2
   ·cases h2;unfold vN at h1;split at h1
    ·split at h1
     ·rename_i a h;cases h1;exact z6e h
     ·cases h1
    ·split at h1
     ·rename_i a b h;rw[b8,b8]at h;cases h1;exact z9v h.1.1 h.1.2
     ·cases h1
    ·cases h1
  exact m5 (g6 (i6 c) (j4 (r6 (q8r d (b9 (n:=0) (d:=.str (stx p)) rfl)))))
end
section
variable {fu k:Nat} {F:Nat->List DV->Option Ou} {δ:List Sv} {ds:List DV} {cl:Cl}
theorem z4F:evE G F (.str "0123456789") δ=some (.ok (.str (stx [48,49,50,51,52,53,54,55,56,57])) .strong):=by
 rw[←z4z];rfl
def LNb:List MS:=[.iff (.cmp .NotIn (.var 1) (.str "0123456789")) [.ret (.neg (.int 1))] []]
theorem z6P:tstD (evE G F (.cmp .NotIn (.var 1) (.str "0123456789")) [d,.val (.str (stx [x]))])=some (.ok (!isD x)):=by
 have q:=z1i (F:=F) (δ:=[d,.val (.str (stx [x]))]) (a:=.var 1) (c:=.str "0123456789") (x:=x) (b9 rfl) z4F;rw[show decide (x∈[48,49,50,51,52,53,54,55,56,57])=isD x from w2j.mpr q8I]at q;exact i6 q
theorem z2i:∀(p:List Nat) (z:Sv),(p.all isD=true->∃z',n8 (.one 1) (λδ'=>evSs G F fu LNb δ') (p.map λx=>.str (stx [x])) [d,z]=some (.nx [d,z']))/\(p.all isD=false->n8 (.one 1) (λδ'=>evSs G F fu LNb δ') (p.map λx=>.str (stx [x])) [d,z]=some (.rt (.int (-1)) false))
 | [],z=>⟨λ_=>⟨z,rfl⟩,λh=>by cases h⟩
 | x::p,z=>by
  have ih:=z2i (d:=d) p (.val (.str (stx [x])));have t:=z6P (F:=F) (d:=d) (x:=x);cases h:isD x with
  | true=>
   rw[h]at t;have st:evSs G F fu LNb [d,.val (.str (stx [x]))]=some (.nx [d,.val (.str (stx [x]))]):=g6 t rfl;have e:n8 (.one 1) (λδ'=>evSs G F fu LNb δ') ((x::p).map λx=>.str (stx [x])) [d,z]=n8 (.one 1) (λδ'=>evSs G F fu LNb δ') (p.map λx=>.str (stx [x])) [d,.val (.str (stx [x]))]:=q4q (d:=.str (stx [x])) rfl st;rw[e,N0,h,P6];exact ih
  | false=>
   rw[h]at t;refine⟨λq=>(by rw[N0,h]at q;cases q),λ_=>?_⟩;exact q4A (d:=.str (stx [x])) rfl (C4 t (j4 rfl))
def lN(p:List Nat):Int:=match vN p with | some n=>(n:Int) | none=>-1
def LNc:ME:=.or [.cmp .Eq (.var 0) (.str ""),.cmp .Gt (.bi .len [.var 0]) (.int 2),.and [.cmp .Eq (.bi .len [.var 0]) (.int 2),.cmp .Eq (.ix (.var 0) (.int 0)) (.str "0")]]
theorem y0Z(hp:Okp p)(hd:p.all isD=true):evE G F LNc [.val (.str (stx p)),z]=some (.ok (.bl (vN p).isNone) .strong):=by
 have v:=b9 (G:=G) (F:=F) (δ:=[.val (.str (stx p)),z]) (n:=0) (d:=.str (stx p)) rfl;have e1:=eqS (c:=.str "") (q:=[]) hp okp0 v (by rw[←z4C];rfl);have e2:=b_gt (T6 v) (e7 (i:=2));have e3:=b_eq (T6 v) (e7 (i:=2))
 match p,hp,hd,v,e1,e2,e3 with
 | [],hp,hd,v,e1,e2,e3=>exact or_t e1
 | [a],hp,hd,v,e1,e2,e3=>
  have w:(vN [a]).isNone=false:=(by rw[N0,b8]at hd;show(if isD a=true then some (a - 48)else none).isNone=false;rw[d4 hd.1];rfl);rw[w];exact or_f e1 (or_f e2 (or_1 (z9d e3)))
 | [a,b],hp,hd,v,e1,e2,e3=>
  have hd':=hd;rw[N0,N0,b8,b8]at hd';have e0:=eqS (p:=[a]) (q:=[48]) (λc h=>hp c (by rw[E9]at h;rw[h];exact i5 ..)) ok48 (q7S v) (show evE G F (.str "0") [.val (.str (stx [a,b])),z]=some (.ok (.str (stx [48])) .strong) by rw[←z5F];rfl);have w:(vN [a,b]).isNone=decide ([a]=[48]):=by
   show(if(isD a&&isD b&&decide (a≠48))=true then some ((a - 48)*10+(b - 48))else none).isNone=_;rw[hd'.1,hd'.2.1];by_cases z:a=48
   ·subst z;rfl
   ·simp[z]
  rw[w];exact or_f e1 (or_f e2 (or_1 (M3 e3 (R8 e0))))
 | a::b::c::r,hp,hd,v,e1,e2,e3=>
  have z2:decide ((2:Int)<(((a::b::c::r).length:Nat):Int))=true:=by simp only[y9,B1];omega
  rw[z2]at e2;exact or_f e1 (or_t e2)
theorem z4y(h:vN p=some n):p.all isD=true/\dnum (stx p)=some (n:Int):=by
 unfold vN at h;split at h
 ·split at h
  ·rename_i a q;cases h;exact⟨by simp[q],z6e q⟩
  ·cases h
 ·split at h
  ·rename_i a b q;rw[b8,b8]at q;cases h;exact⟨by simp[q.1.1,q.1.2],z9v q.1.1 q.1.2⟩
  ·cases h
 ·cases h
theorem z7Z(hp:Okp p):run G T fu (k+1) 21 [.str (stx p)]=some (.v (.int (lN p)) false):=by
 rw[j7 (fd:=q1Q) rfl rfl];have v:=b9 (G:=G) (F:=run G T fu k) (δ:=i4 2 [.str (stx p)]) (n:=0) (d:=.str (stx p)) rfl;have lp:=z2i (F:=run G T fu k) (fu:=fu) (d:=.val (.str (stx p))) p .no;unfold q1Q;cases h:p.all isD with
 | false=>
  have n:vN p=none:=by
   cases q:vN p with
   | none=>rfl
   | some n=>rw[(z4y q).1]at h;cases h
  unfold lN;rw[n];exact m5 (z0x (T7 v) (.inl rfl) (lp.2 h))
 | true=>
  obtain⟨z',l1⟩:=lp.1 h;have c:=y0Z (F:=run G T fu k) hp h (z:=z');have v':=b9 (G:=G) (F:=run G T fu k) (δ:=[.val (.str (stx p)),z']) (n:=0) (d:=.str (stx p)) rfl;unfold lN;cases q:vN p with
  | none=>
   rw[q]at c;exact m5 (Q4 (T7 v) (.inl rfl) l1 (C4 (i6 c) (j4 rfl)))
  | some n=>
   rw[q]at c;exact m5 (Q4 (T7 v) (.inl rfl) l1 (g6 (i6 c) (j4 (r6 (q8r (z4y q).2 v')))))
def numG(F:Nat->List DV->Option Ou)(δ:List Sv):DV->Option Re:=λd=>((Tg.one 0).bind d (u3 [none] δ)).bind λδ'=>evE G F (.call 14 [.var 0]) δ'
theorem z8f(hp:Okp p)(hl:p.length<=1000):numG (run G T fu (k+1)) δ (.str (stx p))=match pN p with | some n=>some (.ok (.int (n:Int)) .strong) | none=>some (.ex "NoText"):=by
 show evE G (run G T fu (k+1)) (.call 14 [.var 0]) [.val (.str (stx p))]=_;have q:=z9M (fu:=fu) (k:=k) hp hl;cases z:pN p with
 | none=>rw[z]at q;exact q2U (d7 (b9 rfl) i8) q
 | some n=>rw[z]at q;exact p8 (fr:=false) (d7 (b9 rfl) i8) rfl q
def pNs:List (List Nat)->Option (List Nat)
 | []=>some []
 | p::r=>match pN p with
  | none=>none
  | some n=>(pNs r).map (n :: ·)
theorem z1q:∀(l:List (List Nat)) (done:List DV),(∀p∈l,Okp p/\p.length<=1000)->L6 (numG (run G T fu (k+1)) δ) (dS l) done=match pNs l with | some ns=>some (.ok (.lst (done++nsD ns)) .fresh) | none=>some (.ex "NoText")
 | [],done,_=>by show some (Re.ok (.lst done) .fresh)=some (Re.ok (.lst (done++nsD [])) .fresh);rw[show nsD []=[]from rfl,z9]
 | p::l,done,h=>by
  obtain⟨h1,h2⟩:=h p (i5 ..);have ih:=λd=>z1q l d λq hq=>h q (f9 _ hq)
  show(match numG (run G T fu (k+1)) δ (.str (stx p))with | none=>none | some (Re.ex c)=>some (Re.ex c) | some (Re.ok x c)=>if stro x c then L6 (numG (run G T fu (k+1)) δ) (dS l) (done++[x])else none)=_;rw[z8f h1 h2];unfold pNs;cases z:pN p with
  | none=>rfl
  | some n=>
   dsimp only;rw[d4 (show stro (.int (n:Int)) .strong=true from rfl),ih];cases y:pNs l with
   | none=>rfl
   | some ns=>
    show some (Re.ok (.lst (done++[.int (n:Int)]++nsD ns)) .fresh)=some (Re.ok (.lst (done++nsD (n::ns))) .fresh);rw[U4];rfl
end
section
variable {fu k:Nat} {F:Nat->List DV->Option Ou} {δ:List Sv} {ds:List DV} {cl:Cl} {w n m b:Nat}
theorem cut1(x:DV)(xs:List DV):cutD (x::xs) (some 1) none=xs:=by
 unfold cutD slIx;simp
theorem ix0(h:evE G F e δ=some (.ok (.lst (x::xs)) c)):evE G F (.ix e (.int 0)) δ=some (.ok x c.item):=by
 refine D3 h (e7 (i:=0)) ?_;show atD (x::xs) 0=_;unfold atD;rw[show F9 (x::xs).length 0=some 0 from z3R (j:=0) (by simp)];rfl
theorem slf1(h:evE G F e δ=some (.ok (.lst (x::xs)) .strong)):evE G F (.slf e (.int 1)) δ=some (.ok (.lst xs) .fresh):=by
 unfold evE;rw[h,o8];show some (Re.ok (.lst (cutD (x::xs) (some 1) none)) .fresh)=_;rw[cut1]
def cntW(w:Nat):Nat:=match w with | 1=>2 | 2=>3 | _=>1
theorem q8A:∀w,w<5->∀v,v<5->nmL w=nmL v->w=v:=by decide
theorem z4x:∀w,w<5->Okp (nmL w):=by
 intro w hw;rcases five hw with rfl | rfl | rfl | rfl | rfl<;>(intro c hc;simp[nmL]at hc;omega)
theorem q5N(hw:w<5)(h:ns.length=cntW w):∃n m b,ns=numsOf w n m b/\(w≠1->w≠2->m=1)/\(w≠2->b=2):=by
 rcases five hw with rfl | rfl | rfl | rfl | rfl
 ·match ns,h with | [n],_=>exact⟨n,1,2,rfl,λ_ _=>rfl,λ_=>rfl⟩
 ·match ns,h with | [n,m],_=>exact⟨n,m,2,rfl,(λh=>absurd rfl h),λ_=>rfl⟩
 ·match ns,h with | [n,m,b],_=>exact⟨n,m,b,rfl,(λ_ h=>absurd rfl h),λh=>absurd rfl h⟩
 ·match ns,h with | [n],_=>exact⟨n,1,2,rfl,λ_ _=>rfl,λ_=>rfl⟩
 ·match ns,h with | [n],_=>exact⟨n,1,2,rfl,λ_ _=>rfl,λ_=>rfl⟩
theorem y1u{j:Nat}(hn:Okp nm)(hv:v<5)(hδ:δ=[x,.val (.str (stx nm)),.val (.lst l)]) :
  tstD (evE G F (.and [.cmp .Eq (.var 1) (.str (nmS v)),.cmp .Eq (.bi .len [.var 2]) (.int (j:Int))]) δ)=some (.ok (decide (nm=nmL v)&&decide (l.length=j))):=by
 subst hδ;have a:=eqS (F:=F) (δ:=[x,.val (.str (stx nm)),.val (.lst l)]) (a:=.var 1) (c:=.str (nmS v)) (q:=nmL v) hn (z4x v hv) (b9 (n:=1) (d:=.str (stx nm)) rfl) (by rw[←z6U v hv];rfl);cases q:decide (nm=nmL v)with
 | false=>
  rw[q]at a;exact i6 (z2s a)
 | true=>
  rw[q]at a;have e:((l.length:Int)==(j:Int))=decide (l.length=j):=by rw[J9];simp;omega
  rw[P6,←e];exact i6 (z3m a (b_eq (R7 (b9 (n:=2) (d:=.lst l) rfl)) e7))
theorem q7X:∀{l:List (List Nat)} {ns:List Nat},pNs l=some ns->ns.length=l.length/\0∉ns
 | [],ns,h=>by cases h;exact⟨rfl,λh=>nomatch h⟩
 | p::l,ns,h=>by
  unfold pNs at h;split at h
  ·cases h
  ·rename_i n q;obtain⟨ms,e1,e2⟩:=j8.mp h;obtain⟨i1,i2⟩:=q7X e1;subst e2;refine⟨by simp[i1],λz=>?_⟩;rcases d9.mp z with z | z
   ·unfold pN at q;obtain⟨k,_,h2⟩:=w1O.mp q;split at h2
    ·cases h2
    ·cases h2;omega
   ·exact i2 z
def M6(nm:List Nat)(ws:List (List Nat))(w n m b:Nat):Prop:=w<5/\nm=nmL w/\pNs ws=some (numsOf w n m b)/\Vld w n m b
theorem z1K(l:List Nat):(nsD l).length=l.length:=g9 ..
def TN:List MS:=q1y.body.drop 2
theorem e_tn(h0:Okp nm)(hws:∀p∈ws,Okp p/\p.length<=1000)(hl:ws.length<=1000) :
  (∀w n m b,M6 nm ws w n m b->run G T 100 57 13 [.lst (dS (nm::ws))]=some (.v (tT (tbl w n m b)) false)) /\
  ((¬∃w n m b,M6 nm ws w n m b)->∃c,(c = "NoText" \/ c = "NoTable")/\run G T 100 57 13 [.lst (dS (nm::ws))]=some (.x c)):=by
 rw[j7 (fd:=q1y) rfl rfl]
 let S0:List Sv:=i4 3 [.lst (dS (nm::ws))]
 let S1:List Sv:=[.val (.lst (dS (nm::ws))),.val (.str (stx nm)),.no]
 have s1:evE G (run G T 100 56) (.ix (.var 0) (.int 0)) S0=some (.ok (.str (stx nm)) .strong):=ix0 (x:=.str (stx nm)) (xs:=dS ws) (b9 rfl);have wk:t6 (evE G (run G T 100 56) (.slf (.var 0) (.int 1)) S1)=some (.ok (dS ws) .fresh):=(by rw[slf1 (x:=.str (stx nm)) (xs:=dS ws) (b9 rfl)];rfl);have cx:evE G (run G T 100 56) (.compx (.call 14 [.var 0]) (.one 0) (.slf (.var 0) (.int 1)) [none]) S1=match pNs ws with | some ns=>some (.ok (.lst (nsD ns)) .fresh) | none=>some (.ex "NoText"):=by
  have e:evE G (run G T 100 56) (.compx (.call 14 [.var 0]) (.one 0) (.slf (.var 0) (.int 1)) [none]) S1=Ri.thn (t6 (evE G (run G T 100 56) (.slf (.var 0) (.int 1)) S1)) (λds c=>if c=.weak\/mostLen<ds.length then none else L6 (numG (run G T 100 56) S1) ds []):=by rw[evE];rfl
  rw[e,wk,q6g,d6,z1q (k:=55) _ _ hws]
  ·cases pNs ws<;>rfl
  ·rintro(z | z)
   ·cases z
   ·unfold dS at z;rw[g9]at z;exact absurd (big _ hl) (Nat.not_le.mpr z)
 cases hp:pNs ws with
 | none=>
  rw[hp]at cx;refine⟨λw n m b g=>(by obtain⟨_,_,g3,_⟩:=g;rw[hp]at g3;cases g3),λ_=>⟨"NoText",.inl rfl,?_⟩⟩;refine D9 (δ':=S1) (j3 (δ':=S1) (p7 (i:=1) s1 rfl) (F3 ?_));show Re.thnS S1 (evE G (run G T 100 56) (.compx (.call 14 [.var 0]) (.one 0) (.slf (.var 0) (.int 1)) [none]) S1) _=_;rw[cx];rfl
 | some ns=>
  rw[hp]at cx;obtain⟨pl,p0⟩:=q7X hp
  let S2:List Sv:=[.val (.lst (dS (nm::ws))),.val (.str (stx nm)),.val (.lst (nsD ns))]
  have tt:=λ(v j:Nat) (hv:v<5)=>y1u (F:=run G T 100 56) (δ:=S2) (v:=v) (j:=j) (x:=.val (.lst (dS (nm::ws)))) (l:=nsD ns) h0 hv rfl;have go:∀o,evSs G (run G T 100 56) 100 TN S2=o->evSs G (run G T 100 56) 100 q1y.body S0=o:=λo q=>j3 (δ':=S1) (p7 (i:=1) s1 rfl) (j3 (δ':=S2) (p7 (i:=2) (δ:=S1) cx rfl) q);by_cases hw:∃w,w<5/\nm=nmL w/\ns.length=cntW w
  ·obtain⟨w,hw,e1,e2⟩:=hw;obtain⟨n,m,b,rfl,hm1,hb2⟩:=q5N hw e2;have fn:=y1f (b:=b) hw p0;have nz:∀v j:Nat,v<5->v≠w->tstD (evE G (run G T 100 56) (.and [.cmp .Eq (.var 1) (.str (nmS v)),.cmp .Eq (.bi .len [.var 2]) (.int (j:Int))]) S2)=some (.ok false):=λv j hv hne=>by rw[tt v j hv,m6 (by rw[e1];exact λz=>hne (q8A w hw v hv z).symm),P3]
   have yes:tstD (evE G (run G T 100 56) (.and [.cmp .Eq (.var 1) (.str (nmS w)),.cmp .Eq (.bi .len [.var 2]) (.int ((cntW w:Nat):Int))]) S2)=some (.ok true):=(by rw[tt w (cntW w) hw,r9 e1,z1K,r9 e2];rfl);have H:evSs G (run G T 100 56) 100 TN S2=if Vld w n m b then some (.rt (tT (tbl w n m b)) false)else some (.ex "NoTable" S2):=by
    rcases five hw with rfl | rfl | rfl | rfl | rfl
    ·exact q4M yes (q3N (f:=5) (d7 (x:=.int (n:Int)) (cx:=.strong) rfl i8) rfl fn)
    ·exact g6 (nz 0 1 (by decide) (by decide)) (q4M yes (q3N (f:=6) (d7 (x:=.int (n:Int)) (cx:=.strong) rfl (d7 (x:=.int (m:Int)) (cx:=.strong) rfl i8)) rfl fn))
    ·exact g6 (nz 0 1 (by decide) (by decide)) (g6 (nz 1 2 (by decide) (by decide)) (q4M yes (q3N (f:=7) (d7 (x:=.int (n:Int)) (cx:=.strong) rfl (d7 (x:=.int (m:Int)) (cx:=.strong) rfl (d7 (x:=.int (b:Int)) (cx:=.strong) rfl i8))) rfl fn)))
    ·exact g6 (nz 0 1 (by decide) (by decide)) (g6 (nz 1 2 (by decide) (by decide)) (g6 (nz 2 3 (by decide) (by decide)) (q4M yes (q3N (f:=8) (d7 (x:=.int (n:Int)) (cx:=.strong) rfl i8) rfl fn))))
    ·exact g6 (nz 0 1 (by decide) (by decide)) (g6 (nz 1 2 (by decide) (by decide)) (g6 (nz 2 3 (by decide) (by decide)) (g6 (nz 3 1 (by decide) (by decide)) (q4M yes (q3N (f:=9) (d7 (x:=.int (n:Int)) (cx:=.strong) rfl i8) rfl fn)))))
   have uniq:∀w' n' m' b',M6 nm ws w' n' m' b'->w'=w/\numsOf w' n' m' b'=numsOf w n m b:=λw' n' m' b' g=>by obtain⟨g1,g2,g3,_⟩:=g;rw[e1]at g2;rw[hp]at g3;exact⟨(q8A w hw w' g1 g2).symm,(x4 g3).symm⟩
   have vt:∀n' m' b',numsOf w n' m' b'=numsOf w n m b->(Vld w n' m' b'->Vld w n m b/\tbl w n' m' b'=tbl w n m b):=λn' m' b' e V=>by
    obtain⟨v1,v2,v3,v4⟩:=V;rcases five hw with rfl | rfl | rfl | rfl | rfl<;>simp[numsOf]at e
    ·subst e;exact⟨⟨v1,v2,(λz=>by omega),(λz=>by omega)⟩,rfl⟩
    ·obtain⟨rfl,rfl⟩:=e;exact⟨⟨v1,v2,v3,(λz=>by omega)⟩,rfl⟩
    ·obtain⟨rfl,rfl,rfl⟩:=e;exact⟨⟨v1,v2,v3,v4⟩,rfl⟩
    ·subst e;exact⟨⟨v1,v2,(λz=>by omega),(λz=>by omega)⟩,rfl⟩
    ·subst e;exact⟨⟨v1,v2,(λz=>by omega),(λz=>by omega)⟩,rfl⟩
   have H2:=go _ H;refine⟨λw' n' m' b' g=>?_,λno=>?_⟩
   ·obtain⟨rfl,e⟩:=uniq w' n' m' b' g;obtain⟨V,et⟩:=vt n' m' b' e g.2.2.2;rw[d4 V]at H2;rw[et];exact m5 H2
   ·have V:¬Vld w n m b:=λV=>no ⟨w,n,m,b,hw,e1,hp,V⟩;rw[d6 V]at H2;exact⟨"NoTable",.inr rfl,D9 H2⟩
  ·have nz:∀v j:Nat,v<5->cntW v=j->tstD (evE G (run G T 100 56) (.and [.cmp .Eq (.var 1) (.str (nmS v)),.cmp .Eq (.bi .len [.var 2]) (.int (j:Int))]) S2)=some (.ok false):=λv j hv hj=>by
    rw[tt v j hv];by_cases q:nm=nmL v
    ·rw[r9 q,P6,m6];rw[z1K];exact λz=>hw ⟨v,hv,q,z.trans hj.symm⟩
    ·rw[m6 q,P3]
   have H:evSs G (run G T 100 56) 100 TN S2=some (.ex "NoText" S2):=g6 (nz 0 1 (by decide) rfl) (g6 (nz 1 2 (by decide) rfl) (g6 (nz 2 3 (by decide) rfl) (g6 (nz 3 1 (by decide) rfl) (g6 (nz 4 1 (by decide) rfl) (F3 (q7i rfl z4P))))));refine⟨λw' n' m' b' g=>?_,λ_=>⟨"NoText",.inl rfl,D9 (go _ H)⟩⟩;obtain⟨g1,g2,g3,_⟩:=g;rw[hp]at g3;refine(hw ⟨w',g1,g2,?_⟩).elim;rw[x4 g3];rcases five g1 with rfl | rfl | rfl | rfl | rfl<;>rfl
end
section
variable {fu k:Nat} {F:Nat->List DV->Option Ou} {δ:List Sv} {ds:List DV} {cl:Cl} {w n m b:Nat}
def rowL?:List DV->Option (List (List Int))
 | []=>some []
 | .lst ds::r=>(ints? ds).bind λa=>(rowL? r).map (a :: ·)
 | _=>none
theorem z1V:∀{ds:List DV} {R:List (List Int)},rowL? ds=some R->ds=R.map λr=>.lst (iD r)
 | [],R,h=>by cases h;rfl
 | .lst d::r,R,h=>by have h':((ints? d).bind λa=>(rowL? r).map (a :: ·))=some R:=h;obtain⟨a,e1,e2⟩:=w1O.mp h';obtain⟨b,e3,e4⟩:=j8.mp e2;rw[q8l e1,z1V e3,←e4];rfl
 | .non::_,_,h=>by cases h
 | .bl _::_,_,h=>by cases h
 | .str _::_,_,h=>by cases h
 | .int _::_,_,h=>by cases h
 | .tup _::_,_,h=>by cases h
 | .dct _ _::_,_,h=>by cases h
 | .exc _::_,_,h=>by cases h
 | .fn _::_,_,h=>by cases h
 | .lam _ _::_,_,h=>by cases h
 | .scr _::_,_,h=>by cases h
def dueO(V:Bool)(R:List (List Int)):Option Ou->Bool
 | some (.v (.lst ds) true)=>V&&decide (rowL? ds=some R)
 | some (.v .non false)=>!V
 | _=>false
theorem z7L{V:Bool}{R:List (List Int)}{o:Option Ou}(h:dueO V R o=true):o=if V=true then some (.v (rL R) true)else some (.v .non false):=by
 unfold dueO at h;split at h
 ·rw[b8,B1]at h;rw[d4 h.1,z1V h.2];rfl
 ·cases V with
  | true=>cases h
  | false=>rw[d6 G5]
 ·cases h
abbrev ruB(d w n m b:Nat):Bool:=dueO (decide (Vld w n m b)) (tbl w n m b) (run G T 100 (d+1) 20 [.int (w:Int),.lst (nsD (numsOf w n m b))])
theorem ru_0:([55,56].all λd=>(List.range 9).all λn=>ruB d 0 n 1 2)=true:=by kernel_rfl
theorem ru_1:([55,56].all λd=>(List.range 9).all λn=>(List.range 9).all λm=>ruB d 1 n m 2)=true:=by kernel_rfl
theorem ru_3:([55,56].all λd=>(List.range 4).all λn=>ruB d 3 n 1 2)=true:=by kernel_rfl
theorem ru_4:([55,56].all λd=>(List.range 4).all λn=>ruB d 4 n 1 2)=true:=by kernel_rfl
def RC:ME:=.or [.cmp .Lt (.bi .min [.var 2,.var 3]) (.int 1),.cmp .Gt (.var 3) (.int 8),.cmp .Lt (.var 4) (.int 2),.cmp .Gt (.var 4) (.int 10),.cmp .Gt (.var 2) (.ix (.lst [.int 8,.int 8,.int 8,.int 3,.int 3]) (.var 0))]
abbrev rS(w n m b:Nat)(x y:Sv):List Sv:=[.val (.int (w:Int)),x,.val (.int (n:Int)),.val (.int (m:Int)),.val (.int (b:Int)),y]
def topW(w:Nat):Nat:=if w<=2 then 8 else 3
theorem e_rc(hw:w<5):evE G F RC (rS w n m b x y)=some (.ok (.bl (!decide ((1<=n/\1<=m)/\m<=8/\2<=b/\b<=10/\n<=topW w))) .strong):=by
 have vn:=b9 (G:=G) (F:=F) (δ:=rS w n m b x y) (n:=2) (d:=.int (n:Int)) rfl;have vm:=b9 (G:=G) (F:=F) (δ:=rS w n m b x y) (n:=3) (d:=.int (m:Int)) rfl;have vb:=b9 (G:=G) (F:=F) (δ:=rS w n m b x y) (n:=4) (d:=.int (b:Int)) rfl;have mn:evE G F (.bi .min [.var 2,.var 3]) (rS w n m b x y)=some (.ok (.int (if(m:Int)<n then(m:Int)else n)) .strong):=rfl;have tp:evE G F (.ix (.lst [.int 8,.int 8,.int 8,.int 3,.int 3]) (.var 0)) (rS w n m b x y)=some (.ok (.int ((topW w:Nat):Int)) .strong):=(by rcases five hw with rfl | rfl | rfl | rfl | rfl<;>rfl);have a1:=b_lt mn (e7 (i:=1));have a2:=b_gt vm (e7 (i:=8));have a3:=b_lt vb (e7 (i:=2));have a4:=b_gt vb (e7 (i:=10));have a5:=b_gt vn tp;have e1:decide ((if(m:Int)<n then(m:Int)else n)<1) = !decide (1<=n/\1<=m):=(by rw[J9];simp;split<;>omega);rw[e1]at a1;by_cases h1:1<=n/\1<=m
 ·rw[r9 h1]at a1;by_cases h2:m<=8
  ·rw[m6 (by omega)]at a2;by_cases h3:2<=b
   ·rw[m6 (by omega)]at a3;by_cases h4:b<=10
    ·rw[m6 (by omega)]at a4;have e5:decide (((topW w:Nat):Int)<(n:Int)) = !decide ((1<=n/\1<=m)/\m<=8/\2<=b/\b<=10/\n<=topW w):=by
      rw[J9];simp[h1,h2,h3,h4]
     rw[e5]at a5;exact or_f a1 (or_f a2 (or_f a3 (or_f a4 (or_1 a5))))
    ·rw[r9 (by omega)]at a4;rw[m6 (λz=>h4 z.2.2.2.1)];exact or_f a1 (or_f a2 (or_f a3 (or_t a4)))
   ·rw[r9 (by omega)]at a3;rw[m6 (λz=>h3 z.2.2.1)];exact or_f a1 (or_f a2 (or_t a3))
  ·rw[r9 (by omega)]at a2;rw[m6 (λz=>h2 z.2.1)];exact or_f a1 (or_t a2)
 ·rw[m6 h1]at a1;rw[m6 (λz=>h1 z.1)];exact or_t a1
theorem z0C(hw:w<5)(hm1:w≠1->w≠2->m=1)(hb2:w≠2->b=2):Vld w n m b↔((1<=n/\1<=m)/\m<=8/\2<=b/\b<=10/\n<=topW w):=by
 unfold Vld topW;rcases five hw with rfl | rfl | rfl | rfl | rfl<;>simp at hm1 hb2 ⊢<;> omega
def RB:List MS:=q1n.body.drop 3
theorem z8C(hw:w<5)(hm1:w≠1->w≠2->m=1)(hb2:w≠2->b=2)(h:evSs G F fu RB (rS w n m b (.val (.lst (nsD (numsOf w n m b)))) .no)=o):evSs G F fu q1n.body (i4 6 [.int (w:Int),.lst (nsD (numsOf w n m b))])=o:=by
 rcases five hw with rfl | rfl | rfl | rfl | rfl
 ·have e1:=hm1 (by decide) (by decide);have e2:=hb2 (by decide);subst e1 e2;exact j3 (δ':=rS 0 n 1 2 (.val (.lst (nsD (numsOf 0 n 1 2)))) .no) rfl (q6K (δ':=rS 0 n 1 2 (.val (.lst (nsD (numsOf 0 n 1 2)))) .no) rfl rfl (g6 rfl h))
 ·have e2:=hb2 (by decide);subst e2;exact j3 (δ':=rS 1 n m 1 (.val (.lst (nsD (numsOf 1 n m 2)))) .no) rfl (g6 rfl (q6K (δ':=rS 1 n m 2 (.val (.lst (nsD (numsOf 1 n m 2)))) .no) rfl rfl h))
 ·exact j3 (δ':=rS 2 n m b (.val (.lst (nsD (numsOf 2 n m b)))) .no) rfl (g6 rfl (g6 rfl h))
 ·have e1:=hm1 (by decide) (by decide);have e2:=hb2 (by decide);subst e1 e2;exact j3 (δ':=rS 3 n 1 2 (.val (.lst (nsD (numsOf 3 n 1 2)))) .no) rfl (q6K (δ':=rS 3 n 1 2 (.val (.lst (nsD (numsOf 3 n 1 2)))) .no) rfl rfl (g6 rfl h))
 ·have e1:=hm1 (by decide) (by decide);have e2:=hb2 (by decide);subst e1 e2;exact j3 (δ':=rS 4 n 1 2 (.val (.lst (nsD (numsOf 4 n 1 2)))) .no) rfl (q6K (δ':=rS 4 n 1 2 (.val (.lst (nsD (numsOf 4 n 1 2)))) .no) rfl rfl (g6 rfl h))
theorem ru_2(V:Vld 2 n m b):run G T 100 (d+1) 20 [.int ((2:Nat):Int),.lst (nsD (numsOf 2 n m b))]=some (.v (rL (tbl 2 n m b)) true):=by
 have c:=e_rc (F:=run G T 100 d) (n:=n) (m:=m) (b:=b) (w:=2) (by decide) (x:=.val (.lst (nsD (numsOf 2 n m b)))) (y:=.no);rw[r9 ((z0C (by decide) (λ_ z=>absurd rfl z) (λz=>absurd rfl z)).mp V)]at c;obtain⟨v1,v2,v3,v4⟩:=V;have v2:n<=8:=v2;have v3:=v3 (.inr rfl);have v4:=v4 rfl;rw[j7 (fd:=q1n) rfl rfl]
 let S:List Sv:=rS 2 n m b (.val (.lst (nsD (numsOf 2 n m b)))) .no
 have o:=J4 (F:=run G T 100 d) (δ:=S) (elt:=.comp (.bin .Mod (.bin .Add (.var 1) (.var 0)) (.var 2)) (.one 0) (.rng [.var 1]) [none,some 0,some 2]) (tg:=.one 0) (it:=.rng [.var 2]) (fr:=[none,some 3,some 4]) (l:=List.range n) (h:=λj=>.int (0+(j:Int))) (f:=λr=>.lst (iD ((List.range m).map λc=>w2 b r c))) (cl:=.fresh) (q9U (b9 rfl) (by omega)) (by decide) (by rw[K6];exact big _ (by omega)) (λr hr=>by
  refine⟨[.val (.int (r:Int)),.val (.int (m:Int)),.val (.int (b:Int))],.fresh,by rw[w2v];rfl,?_,rfl⟩;have i:=J4 (F:=run G T 100 d) (δ:=[.val (.int (r:Int)),.val (.int (m:Int)),.val (.int (b:Int))]) (elt:=.bin .Mod (.bin .Add (.var 1) (.var 0)) (.var 2)) (tg:=.one 0) (it:=.rng [.var 1]) (fr:=[none,some 0,some 2]) (l:=List.range m) (h:=λj=>.int (0+(j:Int))) (f:=λc=>.int (w2 b r c)) (cl:=.fresh) (q9U (b9 rfl) (by omega)) (by decide) (by rw[K6];exact big _ (by omega)) (λc hc=>by
   refine⟨[.val (.int (c:Int)),.val (.int (r:Int)),.val (.int (b:Int))],.strong,by rw[w2v];rfl,?_,rfl⟩;exact D4 (G3 (b9 (n:=1) (d:=.int (r:Int)) rfl) (b9 (n:=0) (d:=.int (c:Int)) rfl)) (b9 (n:=2) (d:=.int (b:Int)) rfl) (by omega))
  have e:(List.range m).map (λc=>DV.int (w2 b r c))=iD ((List.range m).map λc=>w2 b r c):=by unfold iD;rw[B8];rfl
  rw[e]at i;exact i)
 have e2:(List.range n).map (λr=>DV.lst (iD ((List.range m).map λc=>w2 b r c)))=(tab n m (w2 b)).map λr=>.lst (iD r):=by unfold tab;rw[B8];rfl
 rw[e2]at o;exact m5 (z8C (by decide) (λ_ z=>absurd rfl z) (λz=>absurd rfl z) (g6 (i6 c) (g6 (δ:=S) (i6 (x:=false) (cl:=.strong) rfl) (g6 (δ:=S) (i6 (x:=false) (cl:=.strong) rfl) (C4 (δ:=S) (i6 (x:=true) (cl:=.strong) rfl) (j4 (r6 o)))))))
theorem z2A(hd:d∈[55,56])(hw:w<5)(hm1:w≠1->w≠2->m=1)(hb2:w≠2->b=2):run G T 100 (d+1) 20 [.int (w:Int),.lst (nsD (numsOf w n m b))]=if Vld w n m b then some (.v (rL (tbl w n m b)) true)else some (.v .non false):=by
 by_cases V:Vld w n m b
 ·have go:ruB d w n m b=true->run G T 100 (d+1) 20 [.int (w:Int),.lst (nsD (numsOf w n m b))]=if Vld w n m b then some (.v (rL (tbl w n m b)) true)else some (.v .non false):=λh=>by
   have q:=z7L h;rw[q,d4 V,r9 V];rfl
  have V':=(z0C hw hm1 hb2).mp V;rcases five hw with rfl | rfl | rfl | rfl | rfl
  ·have e1:=hm1 (by decide) (by decide);have e2:=hb2 (by decide);subst e1 e2;exact go (o7.mp (o7.mp ru_0 d hd) n (F0.mpr (by have:n<=8:=V'.2.2.2.2;omega)))
  ·have e2:=hb2 (by decide);subst e2;exact go (o7.mp (o7.mp (o7.mp ru_1 d hd) n (F0.mpr (by have:n<=8:=V'.2.2.2.2;omega))) m (F0.mpr (by omega)))
  ·rw[d4 V];exact ru_2 V
  ·have e1:=hm1 (by decide) (by decide);have e2:=hb2 (by decide);subst e1 e2;exact go (o7.mp (o7.mp ru_3 d hd) n (F0.mpr (by have:n<=3:=V'.2.2.2.2;omega)))
  ·have e1:=hm1 (by decide) (by decide);have e2:=hb2 (by decide);subst e1 e2;exact go (o7.mp (o7.mp ru_4 d hd) n (F0.mpr (by have:n<=3:=V'.2.2.2.2;omega)))
 ·rw[d6 V,j7 (fd:=q1n) rfl rfl];have c:=e_rc (F:=run G T 100 d) (n:=n) (m:=m) (b:=b) hw (x:=.val (.lst (nsD (numsOf w n m b)))) (y:=.no);rw[m6 (λz=>V ((z0C hw hm1 hb2).mpr z))]at c;exact m5 (z8C hw hm1 hb2 (C4 (i6 c) (j4 rfl)))
end
section
variable {fu k:Nat} {F:Nat->List DV->Option Ou} {δ:List Sv} {ds:List DV} {cl:Cl} {w n m b:Nat}
theorem z1t:∀r:List Int,ints? (iD r)=some r
 | []=>rfl
 | a::r=>by show(ints? (iD r)).map (a :: ·)=_;rw[z1t r];rfl
theorem z8j:∀{l:List (List Nat)} {p:List Nat},p∈l->x∈p->x∈jnL c l
 | [a],p,h,hx=>by rw[E9]at h;subst h;exact hx
 | a::b::r,p,h,hx=>by
  show x∈a++c::jnL c (b::r);rcases d9.mp h with z | z
  ·subst z;exact y0 _ hx
  ·exact A8 _ (f9 _ (z8j z hx))
theorem z1Q:∀{l:List (List Nat)} {p:List Nat},p∈l->p.length<=(jnL c l).length
 | [a],p,h=>by rw[E9]at h;subst h;exact j1 _
 | a::b::r,p,h=>by
  show p.length<=(a++c::jnL c (b::r)).length;rw[A7,y9];rcases d9.mp h with z | z
  ·subst z;omega
  ·have:=z1Q (c:=c) z;omega
theorem z1w(h:Okp l)(hl:l.length<=900):∀p∈splL c l,Okp p/\p.length<=900:=λp hp=>by
 refine⟨λx hx=>h x ?_,?_⟩
 ·have:=z8j (c:=c) hp hx;rw[q3W]at this;exact this
 ·have:=z1Q (c:=c) hp;rw[q3W]at this;omega
def NLd:List DV:=[.str "alike",.str "less",.str "sums",.str "shared",.str "pick"]
theorem q6F(hv:v<5):deq (.str (nmS v)) (.str (stx nm))=decide (nm=nmL v):=by
 unfold deq;rw[z6U v hv];exact w2j.mpr ⟨λh=>by rw[←J8 nm,←h,J8],λh=>by rw[h]⟩
theorem y1A:DV.plains 60 NLd=true:=by decide +kernel
theorem z3g(h:Okp nm):cmpD .NotIn (.str (stx nm)) (.lst NLd)=some (!(decide (nm=nmL 0)||(decide (nm=nmL 1)||(decide (nm=nmL 2)||(decide (nm=nmL 3)||decide (nm=nmL 4)))))):=by
 show(if(DV.str (stx nm)).plain 60&&DV.plains 60 NLd then some (!NLd.any λd=>deq d (.str (stx nm)))else none)=_;rw[plS h,y1A];show some (!(deq (.str (nmS 0)) (.str (stx nm))||(deq (.str (nmS 1)) (.str (stx nm))||(deq (.str (nmS 2)) (.str (stx nm))||(deq (.str (nmS 3)) (.str (stx nm))||(deq (.str (nmS 4)) (.str (stx nm))||false))))))=_;rw[q6F (by decide),q6F (by decide),q6F (by decide),q6F (by decide),q6F (by decide),Bool.or_false]
def idxB(w:Nat):Bool:=match idxD (.lst NLd) (.str (stx (nmL w)))with
 | some (.int i)=>decide (i=(w:Int))
 | _=>false
theorem z6z:∀w,w<5->idxB w=true:=by decide +kernel
theorem z9t(hw:w<5):idxD (.lst NLd) (.str (stx (nmL w)))=some (.int (w:Int)):=by
 have h:=z6z w hw;unfold idxB at h;split at h
 ·rename_i i q;rw[B1]at h;rw[q,h]
 ·cases h
def vNs:List (List Nat)->Option (List Nat)
 | []=>some []
 | p::r=>match vN p with
  | none=>none
  | some n=>(vNs r).map (n :: ·)
theorem z1r:∀{l:List (List Nat)} {ns:List Nat},vNs l=some ns->ns.length=l.length/\l.map lN=ns.map λ(n:Nat)=>(n:Int)
 | [],ns,h=>by cases h;exact⟨rfl,rfl⟩
 | p::l,ns,h=>by
  unfold vNs at h;split at h
  ·cases h
  ·rename_i n q;obtain⟨ms,e1,e2⟩:=j8.mp h;obtain⟨i1,i2⟩:=z1r e1;subst e2;refine⟨by simp[i1],?_⟩;rw[B7,B7,i2];unfold lN;rw[q]
theorem q9n:∀{l:List (List Nat)},vNs l=none->∃p∈l,lN p = -1
 | [],h=>by cases h
 | p::l,h=>by
  unfold vNs at h;split at h
  ·rename_i q;exact⟨p,i5 ..,by unfold lN;rw[q]⟩
  ·rename_i n q;rw[Option.map_eq_none_iff]at h;obtain⟨r,h1,h2⟩:=q9n h;exact⟨r,f9 _ h1,h2⟩
theorem pv:∀{l:List (List Nat)} {ns:List Nat},pNs l=some ns↔(vNs l=some ns/\0∉ns)
 | [],ns=>by
  constructor
  ·intro h;cases h;exact⟨rfl,λh=>nomatch h⟩
  ·intro h;cases h.1;rfl
 | p::l,ns=>by
  have ih:=λns=>pv (l:=l) (ns:=ns);unfold pNs vNs pN;cases q:vN p with
  | none=>simp
  | some n=>
   by_cases h0:n=0
   ·subst h0;simp
    rintro ms _ rfl
    simp
   ·simp only[P1,d6 h0];constructor
    ·intro h;obtain⟨ms,e1,e2⟩:=j8.mp h;obtain⟨a,b⟩:=(ih ms).mp e1;subst e2;exact⟨by rw[a];rfl,by intro z;rcases d9.mp z with z | z;exact h0 z.symm;exact b z⟩
    ·intro⟨h,z⟩;obtain⟨ms,e1,e2⟩:=j8.mp h;subst e2;rw[(ih ms).mpr ⟨e1,λy=>z (f9 _ y)⟩];rfl
theorem q6q:∀(r:List Int) (x:Int),L2.minI x r<0↔∃y∈x::r,y<0
 | [],x=>by unfold L2.minI;simp
 | y::r,x=>by
  show L2.minI (if y<x then y else x) r<0↔_;rw[q6q r];constructor
  ·rintro⟨z,hz,h0⟩
   rcases d9.mp hz with e | e
   ·subst e;split at h0
    ·exact⟨y,by simp,h0⟩
    ·exact⟨x,by simp,h0⟩
   ·exact⟨z,by simp[e],h0⟩
  ·rintro⟨z,hz,h0⟩
   rcases d9.mp hz with e | e
   ·subst e;exact⟨_,i5 ..,by split<;>omega⟩
   ·rcases d9.mp e with e | e
    ·subst e;exact⟨_,i5 ..,by split<;>omega⟩
    ·exact⟨z,f9 _ e,h0⟩
end
section
variable {fu k:Nat} {F:Nat->List DV->Option Ou} {δ:List Sv} {ds:List DV} {cl:Cl} {w n m b:Nat}
theorem z4b(ha:evE G F a δ=some (.ok (.int i) ca))(hc:evE G F c δ=some (.ok (.int j) cc)):evE G F (.cmp .NotEq a c) δ=some (.ok (.bl (!(i==j))) .strong):=by
 refine G2 ha hc ?_;simp[cmpD,DV.plain,deq]
theorem y0F(h:¬∃w,w<5/\nm=nmL w):(decide (nm=nmL 0)||(decide (nm=nmL 1)||(decide (nm=nmL 2)||(decide (nm=nmL 3)||decide (nm=nmL 4)))))=false:=by
 rw[m6 (λz=>h ⟨0,by decide,z⟩),m6 (λz=>h ⟨1,by decide,z⟩),m6 (λz=>h ⟨2,by decide,z⟩),m6 (λz=>h ⟨3,by decide,z⟩),m6 (λz=>h ⟨4,by decide,z⟩)];rfl
theorem z9n(hw:w<5)(h:nm=nmL w):(decide (nm=nmL 0)||(decide (nm=nmL 1)||(decide (nm=nmL 2)||(decide (nm=nmL 3)||decide (nm=nmL 4)))))=true:=by
 subst h;rcases five hw with rfl | rfl | rfl | rfl | rfl<;>decide
theorem z0G(hw:w<5)(V:Vld w n m b):0∉numsOf w n m b:=λz=>by
 obtain⟨v1,v2,v3,v4⟩:=V;rcases five hw with rfl | rfl | rfl | rfl | rfl<;>simp[numsOf]at z v3 v4<;>omega
theorem q6w(hw:w<5):(numsOf w n m b).length=cntW w:=by
 rcases five hw with rfl | rfl | rfl | rfl | rfl<;>rfl
theorem z0E(hw:w<5)(e:numsOf w n' m' b'=numsOf w n m b)(V:Vld w n' m' b'):Vld w n m b/\tbl w n' m' b'=tbl w n m b:=by
 obtain⟨v1,v2,v3,v4⟩:=V;rcases five hw with rfl | rfl | rfl | rfl | rfl<;>simp[numsOf]at e
 ·subst e;exact⟨⟨v1,v2,(λz=>by omega),(λz=>by omega)⟩,rfl⟩
 ·obtain⟨rfl,rfl⟩:=e;exact⟨⟨v1,v2,v3,(λz=>by omega)⟩,rfl⟩
 ·obtain⟨rfl,rfl,rfl⟩:=e;exact⟨⟨v1,v2,v3,v4⟩,rfl⟩
 ·subst e;exact⟨⟨v1,v2,(λz=>by omega),(λz=>by omega)⟩,rfl⟩
 ·subst e;exact⟨⟨v1,v2,(λz=>by omega),(λz=>by omega)⟩,rfl⟩
theorem y0b(ns:List Nat):iD (ns.map λ(n:Nat)=>(n:Int))=nsD ns:=by unfold iD nsD;rw[B8];rfl
theorem q8D(hd:d∈[55,56])(h:Okp l)(hl:l.length<=900)(hs:splL 58 l=nm::ws) :
  (∀w n m b,M6 nm ws w n m b->run G T 100 (d+2) 22 [.str (stx l)]=some (.v (rL (tbl w n m b)) true)) /\
  ((¬∃w n m b,M6 nm ws w n m b)->run G T 100 (d+2) 22 [.str (stx l)]=some (.v .non false)):=by
 have ok:=z1w (c:=58) h hl;rw[hs]at ok;have okn:=(ok nm (i5 ..)).1;have wl:ws.length<=1000:=(by have:=q3K 58 l;rw[hs,y9]at this;omega);rw[j7 (fd:=q1H) rfl rfl]
 let S0:List Sv:=i4 5 [.str (stx l)]
 let S1:List Sv:=[.val (.str (stx l)),.val (.lst (dS (nm::ws))),.no,.no,.no]
 let S2:List Sv:=[.val (.str (stx l)),.val (.lst (dS (nm::ws))),.val (.lst NLd),.no,.no]
 have s1:evE G (run G T 100 (d+1)) (.spl (.var 0) (.str ":")) S0=some (.ok (.lst (dS (nm::ws))) .fresh):=(by have q:=q7g (F:=run G T 100 (d+1)) (δ:=S0) (a:=.var 0) (b:=.str ":") (l:=l) (c:=58) (ca:=.strong) (cb:=.strong) (b9 rfl) (by rw[←T4];rfl) (by omega);rw[hs]at q;exact q);have s2:evE G (run G T 100 (d+1)) (.lst [.str "alike",.str "less",.str "sums",.str "shared",.str "pick"]) S1=some (.ok (.lst NLd) .fresh):=rfl;have v1:∀(x y z:Sv),evE G (run G T 100 (d+1)) (.ix (.var 1) (.int 0)) [.val (.str (stx l)),.val (.lst (dS (nm::ws))),x,y,z]=some (.ok (.str (stx nm)) .strong):=λx y z=>ix0 (x:=.str (stx nm)) (xs:=dS ws) (b9 rfl);have c1:=G2 (op:=.NotIn) (v1 (.val (.lst NLd)) .no .no) (b9 (G:=G) (F:=run G T 100 (d+1)) (δ:=S2) (n:=2) (d:=.lst NLd) rfl) (z3g okn);by_cases hw:∃w,w<5/\nm=nmL w
 ·obtain⟨w,hw,e1⟩:=hw;rw[z9n hw e1]at c1;have uq:∀w' n m b,M6 nm ws w' n m b->w'=w:=λw' n m b g=>(q8A w hw w' g.1 (by rw[←e1];exact g.2.1)).symm
  let S3:List Sv:=[.val (.str (stx l)),.val (.lst (dS (nm::ws))),.val (.lst NLd),.val (.int (w:Int)),.no]
  have s3:evE G (run G T 100 (d+1)) (.idx (.var 2) (.ix (.var 1) (.int 0))) S2=some (.ok (.int (w:Int)) .strong):=(by have e:evE G (run G T 100 (d+1)) (.idx (.var 2) (.ix (.var 1) (.int 0))) S2=Re.thn (evE G (run G T 100 (d+1)) (.var 2) S2) (λx _=>if seqB x then Re.thn (evE G (run G T 100 (d+1)) (.ix (.var 1) (.int 0)) S2) λy _=>(idxD x y).map λd=>.ok d .strong else none):=rfl;rw[e,b9 (G:=G) (F:=run G T 100 (d+1)) (δ:=S2) (n:=2) (d:=.lst NLd) rfl,o8,d4 (show seqB (.lst NLd)=true from rfl),v1,o8,e1,z9t hw];rfl);have cm:=J4 (l:=ws) (h:=λp=>DV.str (stx p)) (f:=λp=>.int (lN p)) (F:=run G T 100 (d+1)) (δ:=S3) (elt:=.call 21 [.var 0]) (tg:=.one 0) (it:=.slf (.var 1) (.int 1)) (fr:=[none]) (cl:=.fresh)
   (by rw[slf1 (x:=.str (stx nm)) (xs:=dS ws) (b9 rfl)];rfl) (by decide) (big _ wl) (λp hp=>⟨[.val (.str (stx p))],.strong,rfl,p8 (fr:=false) (d7 (b9 rfl) i8) rfl (z7Z (k:=d) (ok p (f9 _ hp)).1),rfl⟩)
  have ce:(ws.map λp=>DV.int (lN p))=iD (ws.map lN):=by unfold iD;rw[B8];rfl
  rw[ce]at cm
  let S4:List Sv:=[.val (.str (stx l)),.val (.lst (dS (nm::ws))),.val (.lst NLd),.val (.int (w:Int)),.val (.lst (iD (ws.map lN)))]
  have v4:=b9 (G:=G) (F:=run G T 100 (d+1)) (δ:=S4) (n:=4) (d:=.lst (iD (ws.map lN))) rfl;have ln:=R7 v4;have il:(iD (ws.map lN)).length=ws.length:=by unfold iD;rw[g9,g9]
  rw[il]at ln;have ct:evE G (run G T 100 (d+1)) (.ix (.lst [.int 1,.int 2,.int 3,.int 1,.int 1]) (.var 3)) S4=some (.ok (.int ((cntW w:Nat):Int)) .strong):=(by rcases five hw with rfl | rfl | rfl | rfl | rfl<;>rfl);have d1:=z4b ln ct;have go:∀o,evSs G (run G T 100 (d+1)) 100 (q1H.body.drop 5) S4=o->evSs G (run G T 100 (d+1)) 100 q1H.body S0=o:=λo q=>j3 (δ':=S1) (p7 (i:=1) s1 rfl) (j3 (δ':=S2) (p7 (i:=2) s2 rfl) (g6 (i6 c1) (j3 (δ':=S3) (p7 (i:=3) s3 rfl) (j3 (δ':=S4) (p7 (i:=4) cm rfl) q))));by_cases hc:ws.length=cntW w
  ·have e0:((ws.length:Int)==((cntW w:Nat):Int))=true:=by simp[hc]
   rw[e0]at d1;have hne:ws≠[]:=λz=>by
    rw[z]at hc;rcases five hw with rfl | rfl | rfl | rfl | rfl<;>cases hc
   obtain⟨p,ws',rfl⟩:∃p r,ws=p::r:=by
    cases ws with
    | nil=>exact absurd rfl hne
    | cons p r=>exact⟨p,r,rfl⟩
   have mn:evE G (run G T 100 (d+1)) (.bi .min [.var 4]) S4=some (.ok (.int (L2.minI (lN p) (ws'.map lN))) .strong):=(by show Rs.thn (evEs G (run G T 100 (d+1)) [.var 4] S4) (λl=>minD l)=_;rw[d7 v4 i8,q5m];unfold minD;dsimp only;rw[z1t];rfl);have d2:=b_lt mn (e7 (i:=0));cases hv:vNs (p::ws')with
   | none=>
    obtain⟨q,hq,e⟩:=q9n hv;have neg:L2.minI (lN p) (ws'.map lN)<0:=(q6q _ _).mpr ⟨lN q,by rw[←B7];exact j9.mpr ⟨q,hq,rfl⟩,by rw[e];decide⟩;rw[r9 neg]at d2;refine⟨λw' n m b g=>?_,λ_=>m5 (go _ (C4 (i6 (or_f d1 (or_1 d2))) (j4 rfl)))⟩;have:=(pv.mp g.2.2.1).1;rw[hv]at this;cases this
   | some ns=>
    obtain⟨nl,ne⟩:=z1r hv;have pos:¬L2.minI (lN p) (ws'.map lN)<0:=λz=>by obtain⟨y,hy,h0⟩:=(q6q _ _).mp z;rw[←B7,ne]at hy;obtain⟨j,_,rfl⟩:=j9.mp hy;omega
    rw[m6 pos]at d2;obtain⟨n,m,b,rfl,hm1,hb2⟩:=q5N hw (nl.trans hc);have rl:=z2A hd (n:=n) (m:=m) (b:=b) hw hm1 hb2;have ca:evEs G (run G T 100 (d+1)) [.var 3,.var 4] S4=some (.ok [(.int (w:Int),.strong),(.lst (nsD (numsOf w n m b)),.strong)]):=by
     have e5:iD ((p::ws').map lN)=nsD (numsOf w n m b):=by rw[ne,y0b]
     rw[←e5];exact d7 (b9 rfl) (d7 v4 i8)
    by_cases V:Vld w n m b
    ·rw[d4 V]at rl;refine⟨λw' n' m' b' g=>?_,λno=>(no ⟨w,n,m,b,hw,e1,pv.mpr ⟨hv,z0G hw V⟩,V⟩).elim⟩;have:=uq w' n' m' b' g;subst this;have e:=(pv.mp g.2.2.1).1;rw[hv]at e;obtain⟨_,et⟩:=z0E hw (x4 e).symm g.2.2.2;rw[et];exact m5 (go _ (g6 (i6 (or_f d1 (or_1 d2))) (j4 (r6 (p8 (fr:=true) ca rfl rl)))))
    ·rw[d6 V]at rl;refine⟨λw' n' m' b' g=>?_,λ_=>m5 (go _ (g6 (i6 (or_f d1 (or_1 d2))) (j4 (r6 (p8 (fr:=false) ca rfl rl)))))⟩;have:=uq w' n' m' b' g;subst this;have e:=(pv.mp g.2.2.1).1;rw[hv]at e;exact(V (z0E hw (x4 e).symm g.2.2.2).1).elim
  ·have e0:((ws.length:Int)==((cntW w:Nat):Int))=false:=by simp;omega
   rw[e0]at d1;refine⟨λw' n' m' b' g=>?_,λ_=>m5 (go _ (C4 (i6 (or_t d1)) (j4 rfl)))⟩;have:=uq w' n' m' b' g;subst this;have q:=(q7X g.2.2.1).1;rw[q6w hw]at q;exact(hc q.symm).elim
 ·rw[y0F hw]at c1;refine⟨λw' n m b g=>(hw ⟨w',g.1,g.2.1⟩).elim,λ_=>?_⟩;exact m5 (j3 (δ':=S1) (p7 (i:=1) s1 rfl) (j3 (δ':=S2) (p7 (i:=2) s2 rfl) (C4 (i6 c1) (j4 rfl))))
theorem z5O(h:Okp l)(hl:l.length<=900)(hc:58∈l) :
  (∃R n m,Rect n m R/\n<=8/\m<=8/\run G T 100 58 12 [.str (stx l)]=some (.v (tT R) false)/\run G T 100 58 23 [.str (stx l)]=some (.v (rL R) true)) \/
  (run G T 100 58 12 [.str (stx l)]=some (.x "NoText")/\run G T 100 58 23 [.str (stx l)]=some (.v .non false)):=by
 obtain⟨nm,ws,hs⟩:∃nm ws,splL 58 l=nm::ws:=by
  cases q:splL 58 l with
  | nil=>exact absurd q (W3 58 l)
  | cons a r=>exact⟨a,r,rfl⟩
 have ok:=z1w (c:=58) h hl;rw[hs]at ok;have wl:ws.length<=1000:=(by have:=q3K 58 l;rw[hs,y9]at this;omega);have A:=e_tn (nm:=nm) (ws:=ws) (ok nm (i5 ..)).1 (λp hp=>⟨(ok p (f9 _ hp)).1,by have:=(ok p (f9 _ hp)).2;omega⟩) wl;have B:(∀w n m b,M6 nm ws w n m b->run G T 100 57 22 [.str (stx l)]=some (.v (rL (tbl w n m b)) true))/\((¬∃w n m b,M6 nm ws w n m b)->run G T 100 57 22 [.str (stx l)]=some (.v .non false)):=q8D (d:=55) (by decide) h hl hs
 let S:List Sv:=i4 1 [.str (stx l)]
 have sp:evE G (run G T 100 57) (.spl (.var 0) (.str ":")) S=some (.ok (.lst (dS (nm::ws))) .fresh):=(by have q:=q7g (F:=run G T 100 57) (δ:=S) (a:=.var 0) (b:=.str ":") (l:=l) (c:=58) (ca:=.strong) (cb:=.strong) (b9 rfl) (by rw[←T4];rfl) (by omega);rw[hs]at q;exact q);have tt:∀r:List Sv,tstD (evE G (run G T 100 57) (.cmp .In (.str ":") (.var 0)) (.val (.str (stx l))::r))=some (.ok true):=λr=>i6 (cl:=.strong) (by
  have q:=q7v (F:=run G T 100 57) (δ:=.val (.str (stx l))::r) (a:=.str ":") (b:=.var 0) (c:=58) (l:=l) (ca:=.strong) (cb:=.strong) (by rw[←T4];rfl) (b9 rfl);rw[r9 hc]at q;exact q)
 have tS:tstD (evE G (run G T 100 57) (.cmp .In (.str ":") (.var 0)) S)=some (.ok true):=tt [];have du:∀(d:DV) (f:Bool),run G T 100 57 22 [.str (stx l)]=some (.v d f)->frD d (if f then .fresh else .strong)=f->run G T 100 58 23 [.str (stx l)]=some (.v d f):=λd f q hf=>by rw[j7 (fd:=q1S) rfl rfl];have c:=r6 (fu:=100) (p8 (G:=G) (F:=run G T 100 57) (δ:=i4 4 [.str (stx l)]) (f:=22) (d7 (b9 (n:=0) (d:=.str (stx l)) rfl) i8) rfl q) (by cases f<;>decide);rw[hf]at c;exact m5 (g6 (δ:=i4 4 [.str (stx l)]) rfl (C4 (tt _) (j4 c)))
 by_cases g:∃w n m b,M6 nm ws w n m b
 ·obtain⟨w,n,m,b,g⟩:=g;have dm:=z5S g.1 g.2.2.2;refine .inl ⟨tbl w n m b,_,_,z3i g.1,dm.2.1,dm.2.2.2,?_,du _ _ (B.1 w n m b g) rfl⟩;rw[j7 (fd:=q1o) rfl rfl];refine m5 (g6 (δ:=S) rfl (j4 ?_));rw[q6e,C4 tS (j4 (r6 (p8 (fr:=false) (d7 sp i8) rfl (A.1 w n m b g))))];rfl
 ·refine .inr ⟨?_,du _ _ (B.2 g) rfl⟩;obtain⟨c,hc2,tn⟩:=A.2 g;rw[j7 (fd:=q1o) rfl rfl];refine D9 (δ':=S) (g6 (δ:=S) rfl (F3 ?_));rw[q6e,q6W tS (F3 (z0S (q2U (d7 sp i8) tn)))];rcases hc2 with rfl | rfl<;>kernel_rfl
end
section
variable {fu k:Nat} {F:Nat->List DV->Option Ou} {δ:List Sv} {ds:List DV} {cl:Cl} {w n m b:Nat}
def fC(c:Nat):Int:=P9 c [48,49,50,51,52,53,54,55,56,57]
def dI(c:Nat):Int:=((c - 48:Nat):Int)
theorem fC_d(h:isD c=true):fC c=dI c:=by
 unfold isD at h;rw[B1]at h;obtain⟨j,rfl⟩:∃j,c=48+j:=⟨c - 48,by omega⟩;unfold fC dI;rw[z6n j (by omega),w20]
theorem fC_n(h:isD c=false):fC c = -1:=by
 unfold isD at h;rw[w2c]at h;unfold fC P9;rw[d6];intro z;exact h (q8I.mp (List.idxOf_lt_length_iff.mp z))
theorem z7c(he:evE G F e δ=some (.ok (.str (stx [x])) c)):evE G F (.fnd (.glb "DIGITS") e) δ=some (.ok (.int (fC x)) .strong):=by
 have q:=z4l (F:=F) (δ:=δ);unfold evE;rw[q,o8,d4 (show strB (DV.str (stx [48,49,50,51,52,53,54,55,56,57]))=true from rfl),he,o8];rfl
def Rws(rs:List (List Nat))(m:Nat):Prop:=rs.length<=8/\1<=m/\m<=8/\∀p∈rs,p.length=m/\p.all isD=true
theorem z0Q(h:Rws rs m):Rect rs.length m (rs.map λp=>p.map dI):=by
 refine⟨by rw[g9],λr hr=>?_⟩;obtain⟨p,hp,rfl⟩:=j9.mp hr;rw[g9];exact(h.2.2.2 p hp).1
theorem y1v(h:Rws rs m):W9 (rs.map λp=>p.map dI):=λr hr x hx=>by
 obtain⟨p,hp,rfl⟩:=j9.mp hr;obtain⟨c,hc,rfl⟩:=j9.mp hx;have:=o7.mp (h.2.2.2 p hp).2 c hc;unfold isD at this;rw[B1]at this;unfold dI;omega
theorem z1n(h:Okp l)(hl:l.length<=900):evE G F (.comp (.comp (.fnd (.glb "DIGITS") (.var 0)) (.one 0) (.var 0) [none]) (.one 0) (.spl (.var 0) (.str "/")) [none]) [.val (.str (stx l))]=some (.ok (rL ((splL 47 l).map λp=>p.map fC)) .fresh):=by
 have ok:=z1w (c:=47) h hl;have cm:=J4 (l:=splL 47 l) (h:=λp=>DV.str (stx p)) (f:=λp=>.lst (iD (p.map fC))) (F:=F) (δ:=[.val (.str (stx l))]) (elt:=.comp (.fnd (.glb "DIGITS") (.var 0)) (.one 0) (.var 0) [none]) (tg:=.one 0) (it:=.spl (.var 0) (.str "/")) (fr:=[none]) (cl:=.fresh)
  (by rw[q7g (l:=l) (c:=47) (b9 rfl) (by rw[←q9d];rfl) (by omega)];rfl) (by decide) (big _ (by have:=q3K 47 l;omega)) (λp hp=>⟨[.val (.str (stx p))],.fresh,rfl,by
   have q:=J4 (l:=p) (h:=λx=>DV.str (stx [x])) (f:=λx=>.int (fC x)) (F:=F) (δ:=[.val (.str (stx p))]) (elt:=.fnd (.glb "DIGITS") (.var 0)) (tg:=.one 0) (it:=.var 0) (fr:=[none]) (cl:=.strong)
    (T7 (b9 rfl)) (by decide) (big _ (by have:=(ok p hp).2;omega)) (λx hx=>⟨[.val (.str (stx [x]))],.strong,rfl,z7c (b9 rfl),rfl⟩)
   rw[show(p.map λx=>DV.int (fC x))=iD (p.map fC) by unfold iD;rw[B8];rfl]at q;exact q,rfl⟩)
 rw[show((splL 47 l).map λp=>DV.lst (iD (p.map fC)))=((splL 47 l).map λp=>p.map fC).map λr=>.lst (iD r) by rw[B8];rfl]at cm;exact cm
theorem z8b(R:List (List Int)):Dom (rL R):=⟨rfl,λx hx=>by obtain⟨r,_,rfl⟩:=j9.mp (show x∈R.map λr=>DV.lst (iD r)from hx);rfl,λx hx y hy=>by
 obtain⟨r,_,rfl⟩:=j9.mp (show x∈R.map λr=>DV.lst (iD r)from hx);obtain⟨z,_,rfl⟩:=j9.mp (show y∈r.map DV.int from hy);rfl⟩
theorem z6j(no:¬∃m,Rws (p0::ps) m):run G T fu (k+3) 1 [rL ((p0::ps).map λp=>p.map fC)]=some (.x "NoTable"):=by
 refine q9w (z8b _) ?_
 let R:=(p0::ps).map λp=>p.map fC
 have it:o6 (rL R)=R.map λr=>.lst (iD r):=rfl;have il:∀p:List Nat,(o6 (.lst (iD (p.map fC)))).length=p.length:=λp=>by show((p.map fC).map DV.int).length=_;rw[g9,g9]
 by_cases h1:(p0::ps).length<=8
 ·by_cases h2:∀p∈p0::ps,rowB (.lst (iD (p.map fC)))=true
  ·by_cases h3:∀p∈ps,p.length=p0.length
   ·refine(no ⟨p0.length,h1,?_⟩).elim;have row:∀p∈p0::ps,(1<=p.length/\p.length<=8)/\p.all isD=true:=λp hp=>by
     have:=h2 p hp;unfold rowB at this;rw[b8]at this;obtain⟨a,c⟩:=this;have:=q2T a;rw[il]at this;refine⟨this,?_⟩;rw[o7]at c ⊢;intro x hx;cases q:isD x with
     | true=>rfl
     | false=>
      have:=c (.int (fC x)) (by show _∈(p.map fC).map DV.int;exact j9.mpr ⟨_,j9.mpr ⟨x,hx,rfl⟩,rfl⟩);rw[fC_n q]at this;exact absurd this (by decide)
    have r0:=row p0 (i5 ..);refine⟨r0.1.1,r0.1.2,λp hp=>⟨?_,(row p hp).2⟩⟩;rcases d9.mp hp with z | z
    ·rw[z]
    ·exact h3 p z
   ·have:∃p∈ps,p.length≠p0.length:=by
     by_cases q:∃p∈ps,p.length≠p0.length
     ·exact q
     ·exact(h3 λp hp=>Classical.byContradiction λz=>q ⟨p,hp,z⟩).elim
    obtain⟨p,hp,hne⟩:=this;refine .inr (.inr ⟨.lst (iD (p0.map fC)),(ps.map λp=>p.map fC).map λr=>.lst (iD r),rfl,.lst (iD (p.map fC)),j9.mpr ⟨_,j9.mpr ⟨p,hp,rfl⟩,rfl⟩,?_⟩);rw[il,il];exact hne
  ·have:∃p∈p0::ps,rowB (.lst (iD (p.map fC)))=false:=by
    by_cases q:∃p∈p0::ps,rowB (.lst (iD (p.map fC)))=false
    ·exact q
    ·exact(h2 λp hp=>Bool.not_eq_false _▸λz=>q ⟨p,hp,z⟩).elim
   obtain⟨p,hp,e⟩:=this;exact .inr (.inl ⟨_,j9.mpr ⟨_,j9.mpr ⟨p,hp,rfl⟩,rfl⟩,e⟩)
 ·refine .inl ?_;unfold C6;rw[it];rw[g9,g9,m6 (show ¬(((p0::ps).length:Int)<=8) by omega),w3h]
def IB:List MS:=[.iff (.cmp .NotIn (.var 3) (.str "0123456789")) [.ret (.non)] []]
theorem z0Y:∀(p:List Nat) (z:Sv),(p.all isD=true->∃z',n8 (.one 3) (λδ'=>evSs G F fu IB δ') (p.map λx=>.str (stx [x])) [a,c,d,z]=some (.nx [a,c,d,z']))/\(p.all isD=false->n8 (.one 3) (λδ'=>evSs G F fu IB δ') (p.map λx=>.str (stx [x])) [a,c,d,z]=some (.rt .non false))
 | [],z=>⟨λ_=>⟨z,rfl⟩,λh=>by cases h⟩
 | x::p,z=>by
  have ih:=z0Y (a:=a) (c:=c) (d:=d) p (.val (.str (stx [x])));have t:tstD (evE G F (.cmp .NotIn (.var 3) (.str "0123456789")) [a,c,d,.val (.str (stx [x]))])=some (.ok (!isD x)):=(by have q:=z1i (F:=F) (δ:=[a,c,d,.val (.str (stx [x]))]) (a:=.var 3) (c:=.str "0123456789") (x:=x) (b9 rfl) z4F;rw[show decide (x∈[48,49,50,51,52,53,54,55,56,57])=isD x from w2j.mpr q8I]at q;exact i6 q);cases h:isD x with
  | true=>
   rw[h]at t;have st:evSs G F fu IB [a,c,d,.val (.str (stx [x]))]=some (.nx [a,c,d,.val (.str (stx [x]))]):=g6 t rfl;have e:n8 (.one 3) (λδ'=>evSs G F fu IB δ') ((x::p).map λx=>.str (stx [x])) [a,c,d,z]=n8 (.one 3) (λδ'=>evSs G F fu IB δ') (p.map λx=>.str (stx [x])) [a,c,d,.val (.str (stx [x]))]:=q4q (d:=.str (stx [x])) rfl st;rw[e,N0,h,P6];exact ih
  | false=>
   rw[h]at t;refine⟨λq=>(by rw[N0,h]at q;cases q),λ_=>?_⟩;exact q4A (d:=.str (stx [x])) rfl (C4 t (j4 rfl))
def OC:ME:=.or [.cmp .NotEq (.bi .len [.var 2]) (.bi .len [.ix (.var 1) (.int 0)]),.cmp .Lt (.bi .len [.var 2]) (.int 1),.cmp .Gt (.bi .len [.var 2]) (.int 8),.cmp .Gt (.bi .len [.var 1]) (.int 8)]
def OB:List MS:=[.iff OC [.ret (.non)] [],.fo (.one 3) (.var 2) IB]
theorem z8Q(l:List (List Nat)):(dS l).length=l.length:=g9 ..
theorem e_oc:evE G F OC [t,.val (.lst (dS (p0::ps))),.val (.str (stx p)),z]=some (.ok (.bl (!decide (p.length=p0.length/\1<=p.length/\p.length<=8/\(p0::ps).length<=8))) .strong):=by
 have v1:=b9 (G:=G) (F:=F) (δ:=[t,.val (.lst (dS (p0::ps))),.val (.str (stx p)),z]) (n:=1) (d:=.lst (dS (p0::ps))) rfl;have v2:=b9 (G:=G) (F:=F) (δ:=[t,.val (.lst (dS (p0::ps))),.val (.str (stx p)),z]) (n:=2) (d:=.str (stx p)) rfl;have a1:=z4b (T6 v2) (T6 (ix0 (x:=.str (stx p0)) (xs:=dS ps) v1));have a2:=b_lt (T6 v2) (e7 (i:=1));have a3:=b_gt (T6 v2) (e7 (i:=8));have l1:=R7 v1;rw[z8Q]at l1;have a4:=b_gt l1 (e7 (i:=8));have e1:(!((p.length:Int)==(p0.length:Int))) = !decide (p.length=p0.length):=(by rw[J9];simp;omega);rw[e1]at a1;by_cases h1:p.length=p0.length
 ·rw[r9 h1]at a1;by_cases h2:1<=p.length
  ·rw[m6 (by omega)]at a2;by_cases h3:p.length<=8
   ·rw[m6 (by omega)]at a3;have e5:decide ((8:Int)<((p0::ps).length:Int)) = !decide (p.length=p0.length/\1<=p.length/\p.length<=8/\(p0::ps).length<=8):=by
     by_cases h4:(p0::ps).length<=8
     ·rw[r9 (⟨h1,h2,h3,h4⟩:p.length=p0.length/\1<=p.length/\p.length<=8/\(p0::ps).length<=8),m6 (by omega)];rfl
     ·rw[m6 (λz:p.length=p0.length/\1<=p.length/\p.length<=8/\(p0::ps).length<=8=>h4 z.2.2.2),r9 (by omega)];rfl
    rw[e5]at a4;exact or_f a1 (or_f a2 (or_f a3 (or_1 a4)))
   ·rw[r9 (by omega)]at a3;rw[m6 (λz=>h3 z.2.2.1)];exact or_f a1 (or_f a2 (or_t a3))
  ·rw[r9 (by omega)]at a2;rw[m6 (λz=>h2 z.2.1)];exact or_f a1 (or_t a2)
 ·rw[m6 h1]at a1;rw[m6 (λz=>h1 z.1)];exact or_t a1
def okR(p0:List Nat)(N:Nat)(p:List Nat):Prop:=(p.length=p0.length/\1<=p.length/\p.length<=8/\N<=8)/\p.all isD=true
theorem q8t:∀(q:List (List Nat)) (y z:Sv),
  ((∀p∈q,okR p0 (p0::ps).length p)->∃y' z',n8 (.one 2) (λδ'=>evSs G F fu OB δ') (dS q) [t,.val (.lst (dS (p0::ps))),y,z]=some (.nx [t,.val (.lst (dS (p0::ps))),y',z'])) /\
  ((¬∀p∈q,okR p0 (p0::ps).length p)->n8 (.one 2) (λδ'=>evSs G F fu OB δ') (dS q) [t,.val (.lst (dS (p0::ps))),y,z]=some (.rt .non false))
 | [],y,z=>⟨λ_=>⟨y,z,rfl⟩,λh=>(h λp hp=>nomatch hp).elim⟩
 | p::q,y,z=>by
  have c:=e_oc (F:=F) (p0:=p0) (p:=p) (ps:=ps) (t:=t) (z:=z);have v2:=b9 (G:=G) (F:=F) (δ:=[t,.val (.lst (dS (p0::ps))),.val (.str (stx p)),z]) (n:=2) (d:=.str (stx p)) rfl;have lp:=z0Y (F:=F) (fu:=fu) (a:=t) (c:=.val (.lst (dS (p0::ps)))) (d:=.val (.str (stx p))) p z;by_cases h1:p.length=p0.length/\1<=p.length/\p.length<=8/\(p0::ps).length<=8
  ·rw[r9 h1]at c;cases h2:p.all isD with
   | true=>
    obtain⟨z',l1⟩:=lp.1 h2;have st:evSs G F fu OB [t,.val (.lst (dS (p0::ps))),.val (.str (stx p)),z]=some (.nx [t,.val (.lst (dS (p0::ps))),.val (.str (stx p)),z']):=g6 (i6 c) (Q4 (T7 v2) (.inl rfl) l1 rfl);have e:n8 (.one 2) (λδ'=>evSs G F fu OB δ') (dS (p::q)) [t,.val (.lst (dS (p0::ps))),y,z]=n8 (.one 2) (λδ'=>evSs G F fu OB δ') (dS q) [t,.val (.lst (dS (p0::ps))),.val (.str (stx p)),z']:=q4q (d:=.str (stx p)) rfl st;rw[e];have ih:=q8t (p0:=p0) (ps:=ps) (t:=t) q (.val (.str (stx p))) z';refine⟨λh=>ih.1 λr hr=>h r (f9 _ hr),λh=>ih.2 λg=>h λr hr=>?_⟩;rcases d9.mp hr with z | z
    ·subst z;exact⟨h1,h2⟩
    ·exact g r z
   | false=>
    refine⟨λh=>(by have:=(h p (i5 ..)).2;rw[h2]at this;cases this),λ_=>?_⟩;exact q4A (d:=.str (stx p)) rfl (g6 (i6 c) (z0x (T7 v2) (.inl rfl) (lp.2 h2)))
  ·rw[m6 h1]at c;refine⟨λh=>(h1 (h p (i5 ..)).1).elim,λ_=>?_⟩;exact q4A (d:=.str (stx p)) rfl (C4 (i6 c) (j4 rfl))
end
section
variable {fu k:Nat} {F:Nat->List DV->Option Ou} {δ:List Sv} {ds:List DV} {cl:Cl} {w n m b:Nat}
theorem y0q(h:isD c=true)(he:evE G F e δ=some (.ok (.str (stx [c])) cc)):evE G F (.bi .int [e]) δ=some (.ok (.int (dI c)) .strong):=q8r (z6e h) he
theorem z9T{p:List Nat}(h:p.all isD=true):p.map fC=p.map dI:=w14 λc hc=>fC_d (o7.mp h c hc)
theorem z0X(h:Okp l)(hl:l.length<=900)(hc:58∉l)(hs:splL 47 l=p0::ps)(g:Rws (p0::ps) m):run G T 100 (k+1) 23 [.str (stx l)]=some (.v (rL ((p0::ps).map λp=>p.map dI)) true):=by
 have tf:∀r:List Sv,tstD (evE G (run G T 100 k) (.cmp .In (.str ":") (.var 0)) (.val (.str (stx l))::r))=some (.ok false):=λr=>i6 (cl:=.strong) (by
  have q:=q7v (F:=run G T 100 k) (δ:=.val (.str (stx l))::r) (a:=.str ":") (b:=.var 0) (c:=58) (l:=l) (ca:=.strong) (cb:=.strong) (by rw[←T4];rfl) (b9 rfl);rw[m6 hc]at q;exact q)
 rw[j7 (fd:=q1S) rfl rfl]
 let S0:List Sv:=i4 4 [.str (stx l)]
 let S1:List Sv:=[.val (.str (stx l)),.val (.lst (dS (p0::ps))),.no,.no]
 have s1:evE G (run G T 100 k) (.spl (.var 0) (.str "/")) S0=some (.ok (.lst (dS (p0::ps))) .fresh):=(by have q:=q7g (F:=run G T 100 k) (δ:=S0) (a:=.var 0) (b:=.str "/") (l:=l) (c:=47) (ca:=.strong) (cb:=.strong) (b9 rfl) (by rw[←q9d];rfl) (by omega);rw[hs]at q;exact q);have ok:∀p∈p0::ps,okR p0 (p0::ps).length p:=λp hp=>by have e0:=(g.2.2.2 p0 (i5 ..)).1;have e1:=(g.2.2.2 p hp);exact⟨⟨by omega,by have:=g.2.1;omega,by have:=g.2.2.1;omega,g.1⟩,e1.2⟩
 obtain⟨y,z,lp⟩:=(q8t (F:=run G T 100 k) (fu:=100) (p0:=p0) (ps:=ps) (t:=.val (.str (stx l))) (p0::ps) .no .no).1 ok
 let S2:List Sv:=[.val (.str (stx l)),.val (.lst (dS (p0::ps))),y,z]
 have lenp:∀p∈p0::ps,p.length<=8:=λp hp=>by rw[(g.2.2.2 p hp).1];exact g.2.2.1
 have cm:=J4 (l:=p0::ps) (h:=λp=>DV.str (stx p)) (f:=λp=>.lst (iD (p.map dI))) (F:=run G T 100 k) (δ:=S2) (elt:=.comp (.bi .int [.var 0]) (.one 0) (.var 0) [none]) (tg:=.one 0) (it:=.var 1) (fr:=[none]) (cl:=.strong)
  rfl (by decide) (big _ (by have:=g.1;omega)) (λp hp=>⟨[.val (.str (stx p))],.fresh,rfl,by
   have q:=J4 (l:=p) (h:=λx=>DV.str (stx [x])) (f:=λx=>.int (dI x)) (F:=run G T 100 k) (δ:=[.val (.str (stx p))]) (elt:=.bi .int [.var 0]) (tg:=.one 0) (it:=.var 0) (fr:=[none]) (cl:=.strong)
    (T7 (b9 rfl)) (by decide) (big _ (by have:=lenp p hp;omega)) (λx hx=>⟨[.val (.str (stx [x]))],.strong,rfl,y0q (o7.mp (g.2.2.2 p hp).2 x hx) (b9 rfl),rfl⟩)
   rw[show(p.map λx=>DV.int (dI x))=iD (p.map dI) by unfold iD;rw[B8];rfl]at q;exact q,rfl⟩)
 rw[show((p0::ps).map λp=>DV.lst (iD (p.map dI)))=((p0::ps).map λp=>p.map dI).map λr=>.lst (iD r) by rw[B8];rfl]at cm;exact m5 (g6 (δ:=S0) rfl (g6 (tf _) (j3 (δ':=S1) (p7 (i:=1) s1 rfl) (Q4 (ds:=dS (p0::ps)) (cl:=.strong) rfl (.inl rfl) lp (j4 (r6 cm))))))
theorem z2T(h:Okp l)(hl:l.length<=900)(hc:58∉l)(hs:splL 47 l=p0::ps)(g:Rws (p0::ps) m) :
  run G T 100 58 12 [.str (stx l)]=some (.v (tT ((p0::ps).map λp=>p.map dI)) false)/\run G T 100 58 23 [.str (stx l)]=some (.v (rL ((p0::ps).map λp=>p.map dI)) true):=by
 have er:((splL 47 l).map λp=>p.map fC)=(p0::ps).map λp=>p.map dI:=by
  rw[hs];exact w14 λp hp=>z9T (g.2.2.2 p hp).2
 have tf:∀r:List Sv,tstD (evE G (run G T 100 57) (.cmp .In (.str ":") (.var 0)) (.val (.str (stx l))::r))=some (.ok false):=λr=>i6 (cl:=.strong) (by
  have q:=q7v (F:=run G T 100 57) (δ:=.val (.str (stx l))::r) (a:=.str ":") (b:=.var 0) (c:=58) (l:=l) (ca:=.strong) (cb:=.strong) (by rw[←T4];rfl) (b9 rfl);rw[m6 hc]at q;exact q)
 refine⟨?_,?_⟩
 ·rw[j7 (fd:=q1o) rfl rfl]
  let S:List Sv:=[.val (.str (stx l))]
  have cm:=z1n (F:=run G T 100 57) h hl;rw[er]at cm;have md:=z4Y (fu:=100) (k:=54) (z0Q g) (by simp) g.1 g.2.1 g.2.2.1 (y1v g);have tS:tstD (evE G (run G T 100 57) (.cmp .In (.str ":") (.var 0)) S)=some (.ok false):=tf [];have b:=g6 (G:=G) (F:=run G T 100 57) (fu:=100) (a:=[.ret (.call 13 [.spl (.var 0) (.str ":")])]) (δ:=S) (r:=[.ret (.call 1 [.comp (.comp (.fnd (.glb "DIGITS") (.var 0)) (.one 0) (.var 0) [none]) (.one 0) (.spl (.var 0) (.str "/")) [none]])]) (c:=.cmp .In (.str ":") (.var 0)) tS (j4 (r6 (p8 (fr:=false) (d7 cm i8) rfl md)));refine m5 (g6 (δ:=S) rfl (j4 ?_));rw[q6e,b];rfl
 ·exact z0X (k:=57) h hl hc hs g
theorem z2w(h:Okp l)(hl:l.length<=900)(hc:58∉l)(hs:splL 47 l=p0::ps)(no:¬∃m,Rws (p0::ps) m) :
  run G T 100 58 12 [.str (stx l)]=some (.x "NoText")/\run G T 100 58 23 [.str (stx l)]=some (.v .non false):=by
 have tf:∀r:List Sv,tstD (evE G (run G T 100 57) (.cmp .In (.str ":") (.var 0)) (.val (.str (stx l))::r))=some (.ok false):=λr=>i6 (cl:=.strong) (by
  have q:=q7v (F:=run G T 100 57) (δ:=.val (.str (stx l))::r) (a:=.str ":") (b:=.var 0) (c:=58) (l:=l) (ca:=.strong) (cb:=.strong) (by rw[←T4];rfl) (b9 rfl);rw[m6 hc]at q;exact q)
 refine⟨?_,?_⟩
 ·rw[j7 (fd:=q1o) rfl rfl]
  let S:List Sv:=[.val (.str (stx l))]
  have cm:=z1n (F:=run G T 100 57) h hl;rw[hs]at cm;have md:=z6j (fu:=100) (k:=54) no;have tS:tstD (evE G (run G T 100 57) (.cmp .In (.str ":") (.var 0)) S)=some (.ok false):=tf [];have b:=g6 (G:=G) (F:=run G T 100 57) (fu:=100) (a:=[.ret (.call 13 [.spl (.var 0) (.str ":")])]) (δ:=S) (r:=[.ret (.call 1 [.comp (.comp (.fnd (.glb "DIGITS") (.var 0)) (.one 0) (.var 0) [none]) (.one 0) (.spl (.var 0) (.str "/")) [none]])]) (c:=.cmp .In (.str ":") (.var 0)) tS (F3 (z0S (q2U (d7 cm i8) md)));refine D9 (δ':=S) (g6 (δ:=S) rfl (F3 ?_));rw[q6e,b]
  kernel_rfl
 ·rw[j7 (fd:=q1S) rfl rfl]
  let S0:List Sv:=i4 4 [.str (stx l)]
  let S1:List Sv:=[.val (.str (stx l)),.val (.lst (dS (p0::ps))),.no,.no]
  have s1:evE G (run G T 100 57) (.spl (.var 0) (.str "/")) S0=some (.ok (.lst (dS (p0::ps))) .fresh):=(by have q:=q7g (F:=run G T 100 57) (δ:=S0) (a:=.var 0) (b:=.str "/") (l:=l) (c:=47) (ca:=.strong) (cb:=.strong) (b9 rfl) (by rw[←q9d];rfl) (by omega);rw[hs]at q;exact q);have bad:¬∀p∈p0::ps,okR p0 (p0::ps).length p:=λok=>by have e0:=(ok p0 (i5 ..)).1;exact no ⟨p0.length,e0.2.2.2,e0.2.1,e0.2.2.1,λp hp=>⟨(ok p hp).1.1,(ok p hp).2⟩⟩
  have lp:=(q8t (F:=run G T 100 57) (fu:=100) (p0:=p0) (ps:=ps) (t:=.val (.str (stx l))) (p0::ps) .no .no).2 bad;exact m5 (g6 (δ:=S0) rfl (g6 (tf _) (j3 (δ':=S1) (p7 (i:=1) s1 rfl) (z0x (ds:=dS (p0::ps)) (cl:=.strong) rfl (.inl rfl) lp))))
def Fits(d:DV):Prop:=(∃R n m,Rect n m R/\n<=8/\m<=8/\run G T 100 58 12 [d]=some (.v (tT R) false)/\run G T 100 58 23 [d]=some (.v (rL R) true))\/(run G T 100 58 12 [d]=some (.x "NoText")/\run G T 100 58 23 [d]=some (.v .non false))
theorem q3C(h:Okp l)(hl:l.length<=900):Fits (.str (stx l)):=by
 by_cases hc:58∈l
 ·exact z5O h hl hc
 ·obtain⟨p0,ps,hs⟩:∃nm ws,splL 47 l=nm::ws:=by
   cases q:splL 47 l with
   | nil=>exact absurd q (W3 47 l)
   | cons a r=>exact⟨a,r,rfl⟩
  by_cases g:∃m,Rws (p0::ps) m
  ·obtain⟨m,g⟩:=g;obtain⟨a,b⟩:=z2T h hl hc hs g;exact .inl ⟨_,_,m,z0Q g,g.1,g.2.2.1,a,b⟩
  ·exact .inr (z2w h hl hc hs g)
theorem z9Y(h:Fits d):run G T 100 59 26 [d]=some (.v (.bl true) false):=by
 rw[j7 (fd:=q1X) rfl rfl]
 let S0:List Sv:=[.val d,.val .non,.val .non,.no,.no]
 have v0:=b9 (G:=G) (F:=run G T 100 58) (δ:=S0) (n:=0) (d:=d) rfl;rcases h with⟨R,n,m,hR,hn,hm,rd,du⟩ | ⟨rd,du⟩
 ·let S1:List Sv:=[.val d,.val .non,.val (tT R),.no,.no]
  let S2:List Sv:=[.val d,.val .non,.val (tT R),.no,.val (rL R)]
  have b2:evS G (run G T 100 58) 100 (.tryc [.set 2 false (.call 12 [.var 0])] "TalkError" 3 1) S0=some (.nx S1):=(by show tryD G "TalkError" 3 1 (evSs G (run G T 100 58) 100 [.set 2 false (.call 12 [.var 0])] S0)=_;rw[j3 (δ':=S1) (p7 (i:=2) (p8 (fr:=false) (d7 v0 i8) rfl rd) rfl) (rfl:evSs G (run G T 100 58) 100 [] S1=some (.nx S1))];rfl);have c4:=p8 (G:=G) (F:=run G T 100 58) (δ:=S1) (f:=23) (d7 (b9 (n:=0) (d:=d) rfl) i8) rfl du;have t:=p8 (G:=G) (F:=run G T 100 58) (δ:=S2) (f:=18) (d7 (b9 (n:=2) (d:=tT R) rfl) (d7 (b9 (n:=4) (d:=rL R) rfl) i8)) rfl (q9R (k:=56) R (by rw[hR.1];omega) (λr hr=>by rw[hR.2 r hr];omega));have all:=M3 (show evE G (run G T 100 58) (.cmp .Is (.var 1) (.non)) S2=some (.ok (.bl true) .strong)from rfl) (R8 t);exact m5 (j3 (p7 (i:=1) (d:=.non) (cl:=.strong) rfl rfl) (j3 (δ':=S0) (p7 (i:=2) (d:=.non) (cl:=.strong) rfl rfl) (j3 b2 (j3 (δ':=S2) (p7 (i:=4) c4 rfl) (C4 (δ:=S2) (i6 (x:=true) (cl:=.strong) rfl) (j4 (r6 all)))))))
 ·let S1:List Sv:=[.val d,.val (.exc "NoText"),.val .non,.no,.no]
  let S2:List Sv:=[.val d,.val (.exc "NoText"),.val .non,.no,.val .non]
  have b1:evSs G (run G T 100 58) 100 [.set 2 false (.call 12 [.var 0])] S0=some (.ex "NoText" S0):=(by refine F3 ?_;show Re.thnS S0 (evE G (run G T 100 58) (.call 12 [.var 0]) S0) _=_;rw[q2U (d7 v0 i8) rd];rfl);have b2:evS G (run G T 100 58) 100 (.tryc [.set 2 false (.call 12 [.var 0])] "TalkError" 3 1) S0=some (.nx S1):=(by show tryD G "TalkError" 3 1 (evSs G (run G T 100 58) 100 [.set 2 false (.call 12 [.var 0])] S0)=_;rw[b1];rfl);have c4:=p8 (G:=G) (F:=run G T 100 58) (δ:=S1) (f:=23) (d7 (b9 (n:=0) (d:=d) rfl) i8) rfl du;exact m5 (j3 (p7 (i:=1) (d:=.non) (cl:=.strong) rfl rfl) (j3 (δ':=S0) (p7 (i:=2) (d:=.non) (cl:=.strong) rfl rfl) (j3 b2 (j3 (δ':=S2) (p7 (i:=4) c4 rfl) (g6 (δ:=S2) (i6 (x:=false) (cl:=.strong) rfl) (g6 (δ:=S2) (i6 (x:=false) (cl:=.strong) rfl) (j4 rfl)))))))
theorem z3O:Fits .non:=.inr ⟨by kernel_rfl,by kernel_rfl⟩
theorem z3Z:Fits (.bl true):=.inr ⟨by kernel_rfl,by kernel_rfl⟩
theorem z7Q:Fits (.int 7):=.inr ⟨by kernel_rfl,by kernel_rfl⟩
theorem z8l:Fits (.lst [.lst [.int 0,.int 1],.lst [.int 1,.int 0]]):=.inr ⟨by kernel_rfl,by kernel_rfl⟩
end
section
variable {fu k:Nat} {F:Nat->List DV->Option Ou} {δ:List Sv} {ds:List DV} {cl:Cl} {w n m b:Nat}
def O1:List DV:=[.str "",.str "/",.str "01/",.str "/01",.str "01//10",.str "01/1",.str "012345678",.str "0/1/0/1/0/1/0/1/0",.str " 01",.str "01 "]
def O2:List DV:=[.str "0 1",.str "-1",.str "01/10\n",.str "alike",.str "alike:",.str "alike:0",.str "alike:9",.str "alike:04",.str "alike:4:4"]
def O3:List DV:=[.str "Alike:4",.str "less:3",.str "less:3:9"]
def O4:List DV:=[.str "sums:3:3",.str "sums:3:3:1",.str "sums:3:3:11",.str "shared:4",.str "pick:0",.str "pick:-1",.str "alike :4",.str ":4"]
def O5:List DV:=[.non,.bl true,.int 7,.lst [.lst [.int 0,.int 1],.lst [.int 1,.int 0]]]
def okB:DV->Bool
 | .str z=>z.cps.toList.all (λc=>decide (c<1114112))&&decide (z.cps.toList.length<=900)
 | _=>false
theorem z2y(h:okB d=true):Fits d:=by
 cases d with
 | str z=>
  unfold okB at h;rw[b8,o7,B1]at h;have:=q3C (l:=z.cps.toList) (λc hc=>w2K (h.1 c hc)) h.2;rw[z5f]at this;exact this
 | _=>cases h
theorem z9E:((O1++O2++O3++O4).all okB)=true:=by decide +kernel
theorem z3f:∀d∈O1++O2++O3++O4++O5,Fits d:=λd hd=>by
 rcases C8.mp hd with h | h
 ·exact z2y (o7.mp z9E d h)
 ·unfold O5 at h;simp only[d9,K7,K9]at h;rcases h with rfl | rfl | rfl | rfl
  ·exact z3O
  ·exact z3Z
  ·exact z7Q
  ·exact z8l
theorem y0I(x:Int):∃d,Fits d/\run G T fu (k+1) 24 [.int x]=some (.v d false):=by
 obtain⟨j,hj⟩:∃j:Nat,x%34=(j:Int):=⟨(x%34).toNat,by omega⟩;have jl:j<(O1++O2++O3++O4++O5).length:=by show j<34;omega
 refine⟨(O1++O2++O3++O4++O5)[j],z3f _ (Y3 jl),?_⟩;rw[j7 (fd:=q3V) rfl rfl]
 let S:List Sv:=[.val (.int x),.val (.lst (O1++O2++O3++O4))]
 have md:=D4 (b9 (G:=G) (F:=run G T fu k) (δ:=S) (n:=0) (d:=.int x) rfl) (e7 (i:=34)) (by decide);rw[hj]at md;have ls:evE G (run G T fu k) (.bin .Add (.var 1) (.lst [.non,.bl true,.int 7,.lst [.lst [.int 0,.int 1],.lst [.int 1,.int 0]]])) S=some (.ok (.lst (O1++O2++O3++O4++O5)) .fresh):=rfl;have at':ixD (.lst (O1++O2++O3++O4++O5)) (.int (j:Int))=some (O1++O2++O3++O4++O5)[j]:=(by show atD (O1++O2++O3++O4++O5) (j:Int)=_;unfold atD;rw[z3R jl];exact x9 jl);have fr:∀d:DV,frD d .strong=false:=λd=>by cases d<;>rfl
 have rt:=r6 (fu:=fu) (D3 ls md at');rw[show Cl.item .fresh=.strong from rfl,fr]at rt;exact m5 (j3 (δ':=[.val (.int x),.val (.lst O1)]) (p7 (i:=1) (d:=.lst O1) (cl:=.fresh) rfl rfl) (j3 (δ':=[.val (.int x),.val (.lst (O1++O2))]) (p7 (i:=1) (d:=.lst (O1++O2)) (cl:=.fresh) rfl rfl) (j3 (δ':=[.val (.int x),.val (.lst (O1++O2++O3))]) (p7 (i:=1) (d:=.lst (O1++O2++O3)) (cl:=.fresh) rfl rfl) (j3 (δ':=S) (p7 (i:=1) (d:=.lst (O1++O2++O3++O4)) (cl:=.fresh) rfl rfl) (j4 rt)))))
theorem z5D(p q:List Nat):stx p++stx q=stx (p++q):=by
 show(⟨p.toArray++q.toArray⟩:Str)=⟨(p++q).toArray⟩;rw[List.append_toArray]
theorem z8E{a e:ME}{l:List Nat}{i:Nat}{ca ce:Cl}(ha:evE G F a δ=some (.ok (.str (stx l)) ca))(he:evE G F e δ=some (.ok (.int (i:Int)) ce))(hi:i<=l.length):evE G F (.stt a e) δ=some (.ok (.str (stx (l.take i))) .strong):=by
 unfold evE;rw[ha,o8,he,o8];show(if 0<=(i:Int)/\(i:Int)<=((stx l).length:Int)then some (DV.str (cutS (stx l) 0 (i:Int).toNat))else none).map _=_;rw[d4 ⟨by omega,by rw[M5];omega⟩,M8];unfold cutS;rw[J8,w3i,Nat.sub_zero];rfl
theorem z4o{a e:ME}{l:List Nat}{i:Nat}{ca ce:Cl}(ha:evE G F a δ=some (.ok (.str (stx l)) ca))(he:evE G F e δ=some (.ok (.int (i:Int)) ce))(hi:i<=l.length):evE G F (.stf a e) δ=some (.ok (.str (stx (l.drop i))) .strong):=by
 unfold evE;rw[ha,o8,he,o8];show(if 0<=(i:Int)/\(i:Int)<=((stx l).length:Int)then some (DV.str (cutS (stx l) (i:Int).toNat (stx l).length))else none).map _=_;rw[d4 ⟨by omega,by rw[M5];omega⟩,M8];unfold cutS;rw[J8,M5,w3e (by rw[U6];exact j1 _)];rfl
theorem q5T(ha:evE G F a δ=some (.ok (.str (stx p)) ca))(he:evE G F e δ=some (.ok (.str (stx q)) ce))(hl:p.length+q.length<=2000):evE G F (.scat a e) δ=some (.ok (.str (stx (p++q))) .strong):=by
 unfold evE;rw[ha,o8,he,o8];show(if(stx p).length+(stx q).length<=mostLen then some (DV.str (stx p++stx q))else none).map _=_;rw[d4 (by rw[M5,M5];exact m7 hl (by decide)),z5D];rfl
def SG:Str:="0123456789/:-alik\n s"
def sgB(j:Nat):Bool:=match SG.cps[j]? with
 | some c=>decide (c<1114112)
 | none=>false
theorem z9P:∀j,j<20->sgB j=true:=by decide +kernel
theorem z8W:SG.cps.size=20:=by decide +kernel
theorem y0o{j:Nat}(hj:j<20):∃c,c<1114112/\ixD (.str SG) (.int (j:Int))=some (.str (stx [c])):=by
 have h:=z9P j hj;unfold sgB at h;split at h
 ·rename_i c q;refine⟨c,w2K h,?_⟩;show((F9 SG.cps.size (j:Int)).bind λi=>(SG.cps[i]?).map λc=>DV.str ⟨#[c]⟩)=_;rw[z8W,z3R hj,P1,q];rfl
 ·cases h
theorem z0V(h:Okp l)(h1:0<l.length)(hl:l.length<=800)(hx:xs.length=3):∃d,Fits d/\run G T 100 59 25 [.str (stx l),.lst (iD xs)]=some (.v d false):=by
 obtain⟨a0,h0⟩:=q9c (l:=xs) (i:=0) (by omega) (by rw[hx];omega);obtain⟨a1,h1'⟩:=q9c (l:=xs) (i:=1) (by omega) (by rw[hx];omega);obtain⟨a2,h2⟩:=q9c (l:=xs) (i:=2) (by omega) (by rw[hx];omega)
 let S0:List Sv:=i4 4 [.str (stx l),.lst (iD xs)]
 have vx:∀(y z:Sv),evE G (run G T 100 58) (.var 1) [.val (.str (stx l)),.val (.lst (iD xs)),y,z]=some (.ok (.lst (iD xs)) .strong):=λy z=>b9 rfl;have m4:∀(y z:Sv),evE G (run G T 100 58) (.bin .Mod (.ix (.var 1) (.int 0)) (.int 4)) [.val (.str (stx l)),.val (.lst (iD xs)),y,z]=some (.ok (.int (a0%4)) .strong):=λy z=>D4 (D3 (vx y z) (e7 (i:=0)) h0) (e7 (i:=4)) (by decide);rw[j7 (fd:=q1i) rfl rfl];have q3:=b_eq (m4 .no .no) (e7 (i:=3));by_cases z3:a0%4=3
 ·rw[show(a0%4==3)=true from d5.mpr z3]at q3;obtain⟨d,fd,od⟩:=y0I (fu:=100) (k:=57) a1;have fr:∀d:DV,frD d (if false=true then .fresh else .strong)=false:=λd=>by cases d<;>rfl
  have rt:=r6 (fu:=100) (p8 (G:=G) (F:=run G T 100 58) (δ:=S0) (f:=24) (fr:=false) (d7 (D3 (vx .no .no) (e7 (i:=1)) h1') i8) rfl od);rw[fr]at rt;exact⟨d,fd,m5 (C4 (δ:=S0) (i6 q3) (j4 rt))⟩
 ·rw[show(a0%4==3)=false from y8.mpr z3]at q3;obtain⟨j,hj⟩:∃j:Nat,a1%20=(j:Int):=⟨(a1%20).toNat,by omega⟩;obtain⟨c,hc,sc⟩:=y0o (j:=j) (by omega);have p0:=w27 a2 (show((l.length:Nat):Int)≠0 by omega);have p1:=w2E a2 (show(0:Int)<((l.length:Nat):Int) by omega);obtain⟨i,hi⟩:∃i:Nat,a2%(l.length:Int)=(i:Int):=⟨(a2%(l.length:Int)).toNat,by omega⟩;have il:i<l.length:=by omega
  have s2:evE G (run G T 100 58) (.ix (.str "0123456789/:-alik\n s") (.bin .Mod (.ix (.var 1) (.int 1)) (.int 20))) S0=some (.ok (.str (stx [c])) .strong):=(by have e:=D4 (D3 (vx .no .no) (e7 (i:=1)) h1') (e7 (i:=20)) (by decide);rw[hj]at e;exact D3 (x:=.str SG) (cx:=.strong) rfl e sc)
  let S1:List Sv:=[.val (.str (stx l)),.val (.lst (iD xs)),.val (.str (stx [c])),.no]
  have s3:evE G (run G T 100 58) (.bin .Mod (.ix (.var 1) (.int 2)) (.bi .len [.var 0])) S1=some (.ok (.int (i:Int)) .strong):=(by have e:=D4 (D3 (vx (.val (.str (stx [c]))) .no) (e7 (i:=2)) h2) (T6 (b9 (G:=G) (F:=run G T 100 58) (δ:=S1) (n:=0) (d:=.str (stx l)) rfl)) (by omega);rw[hi]at e;exact e)
  let S2:List Sv:=[.val (.str (stx l)),.val (.lst (iD xs)),.val (.str (stx [c])),.val (.int (i:Int))]
  have v0:=b9 (G:=G) (F:=run G T 100 58) (δ:=S2) (n:=0) (d:=.str (stx l)) rfl;have v2:=b9 (G:=G) (F:=run G T 100 58) (δ:=S2) (n:=2) (d:=.str (stx [c])) rfl;have v3:=b9 (G:=G) (F:=run G T 100 58) (δ:=S2) (n:=3) (d:=.int (i:Int)) rfl;have tk:=z8E v0 v3 (by omega);have dr:=z4o v0 v3 (by omega);have i1:evE G (run G T 100 58) (.bin .Add (.var 3) (.int 1)) S2=some (.ok (.int ((i+1:Nat):Int)) .strong):=(by have e:=G3 v3 (e7 (i:=1));rw[show(i:Int)+1=((i+1:Nat):Int) by push_cast;rfl]at e;exact e);have dr1:=z4o v0 i1 (by omega);have okT:∀x∈l.take i,x<1114112:=λx hx=>h x (List.mem_of_mem_take hx);have okD:∀(j:Nat),∀x∈l.drop j,x<1114112:=λj x hx=>h x (List.mem_of_mem_drop hx);have okC:Okp [c]:=λx hx=>by rw[E9]at hx;rw[hx];exact hc
  have app:∀{p q:List Nat},Okp p->Okp q->Okp (p++q):=λhp hq x hx=>(C8.mp hx).elim (hp x) (hq x);have tl:(l.take i).length<=800:=by rw[G7];omega
  have dl:∀j:Nat,(l.drop j).length+(l.take i).length<=1600/\(i<=j->(l.drop j).length+(l.take i).length<=800):=λj=>by rw[U6,G7];omega
  have go:∀o,evSs G (run G T 100 58) 100 (q1i.body.drop 3) S2=o->evSs G (run G T 100 58) 100 q1i.body S0=o:=λo q=>g6 (i6 q3) (j3 (δ':=S1) (p7 (i:=2) s2 rfl) (j3 (δ':=S2) (p7 (i:=3) s3 rfl) q));have c1:=q5T tk v2 (by simp only[w1D];omega);have l1:(l.take i++[c]).length=(l.take i).length+1:=by rw[A7];rfl
  have q0:=b_eq (m4 (.val (.str (stx [c]))) (.val (.int (i:Int)))) (e7 (i:=0));by_cases z0:a0%4=0
  ·rw[show(a0%4==0)=true from d5.mpr z0]at q0;have e:=q5T c1 dr (by rw[l1];have:=(dl i).1;omega);refine⟨_,q3C (app (app okT okC) (okD i)) (by rw[A7,l1];have:=(dl i).2 (j1 _);omega),m5 (go _ (C4 (i6 q0) (j4 (r6 e))))⟩
  ·rw[show(a0%4==0)=false from y8.mpr z0]at q0;have q1:=b_eq (m4 (.val (.str (stx [c]))) (.val (.int (i:Int)))) (e7 (i:=1));by_cases z1:a0%4=1
   ·rw[show(a0%4==1)=true from d5.mpr z1]at q1;have e:=q5T tk dr1 (by have:=(dl (i+1)).1;omega);refine⟨_,q3C (app okT (okD (i+1))) (by rw[A7];have:=(dl (i+1)).2 (by omega);omega),m5 (go _ (g6 (i6 q0) (C4 (i6 q1) (j4 (r6 e)))))⟩
   ·rw[show(a0%4==1)=false from y8.mpr z1]at q1;have e:=q5T c1 dr1 (by rw[l1];have:=(dl (i+1)).1;omega);refine⟨_,q3C (app (app okT okC) (okD (i+1))) (by rw[A7,l1];have:=(dl (i+1)).2 (by omega);omega),m5 (go _ (g6 (i6 q0) (g6 (i6 q1) (j4 (r6 e)))))⟩
end
section
variable {fu k:Nat} {F:Nat->List DV->Option Ou} {δ:List Sv} {ds:List DV} {cl:Cl} {w n m b:Nat}
theorem z7R(hc:58∈l)(q:run G T 100 k 22 [.str (stx l)]=some (.v (rL R) true)):run G T 100 (k+1) 23 [.str (stx l)]=some (.v (rL R) true):=by
 have tt:tstD (evE G (run G T 100 k) (.cmp .In (.str ":") (.var 0)) (i4 4 [.str (stx l)]))=some (.ok true):=i6 (cl:=.strong) (by
  have q:=q7v (F:=run G T 100 k) (δ:=i4 4 [.str (stx l)]) (a:=.str ":") (b:=.var 0) (c:=58) (l:=l) (ca:=.strong) (cb:=.strong) (by rw[←T4];rfl) (b9 rfl);rw[r9 hc]at q;exact q)
 rw[j7 (fd:=q1S) rfl rfl];exact m5 (g6 (δ:=i4 4 [.str (stx l)]) rfl (C4 tt (j4 (r6 (p8 (G:=G) (F:=run G T 100 k) (δ:=i4 4 [.str (stx l)]) (f:=22) (fr:=true) (d7 (b9 (n:=0) (d:=.str (stx l)) rfl) i8) rfl q)))))
theorem y0u:∀n,n<13->0<n->pN (dg n)=some n:=by decide
theorem z4d:∀ns:List Nat,(∀j∈ns,0<j/\j<13)->pNs (ns.map dg)=some ns
 | [],_=>rfl
 | j::ns,h=>by have hj:=h j (i5 ..);show(match pN (dg j)with | none=>none | some n=>(pNs (ns.map dg)).map (n :: ·))=_;rw[y0u j hj.2 hj.1,z4d ns λi hi=>h i (f9 _ hi)];rfl
theorem z4E(hw:w<5)(hn:n<13)(hm:m<13)(hb:b<13):Okp (nmT w n m b):=λc hc=>by
 rcases q8L hc with z | ⟨p,hp,z⟩
 ·omega
 ·rcases d9.mp hp with y | y
  ·subst y;exact z4x w hw c z
  ·obtain⟨j,hj,rfl⟩:=j9.mp y;have:=dg_r (q8G hw hn hm hb j hj) z;omega
theorem z5U(hw:w<5)(hn:n<13)(hm:m<13)(hb:b<13)(V:Vld w n m b):∃R,run G T 100 59 23 [.str (stx (nmT w n m b))]=some (.v (rL R) true):=by
 have g:M6 (nmL w) ((numsOf w n m b).map dg) w n m b:=⟨hw,rfl,z4d _ λj hj=>⟨Nat.pos_of_ne_zero λz=>z0G hw V (by rw[←z];exact hj),q8G hw hn hm hb j hj⟩,V⟩;have q:=(q8D (d:=56) (by decide) (z4E hw hn hm hb) (m7 (z0z hw) (by decide)) (z5J hw hn hm hb)).1 w n m b g;exact⟨_,z7R (k:=58) (z4v hw) q⟩
theorem y0w(ha:evE G F a δ=some (.ok (.lst ds) c))(hl:evE G F lo δ=some (.ok (.int l) c1))(hh:evE G F hi δ=some (.ok (.int h) c2)):evE G F (.sl a lo hi) δ=some (.ok (.lst (cutD ds (some l) (some h))) (Cl.anew c c)):=by
 unfold evE;rw[ha,o8,hl,o8];show Re.thn (evE G F hi δ) _=_;rw[hh];rfl
theorem z6O{xs:List Int}{i j:Nat}(hij:i<=j)(hj:j<=xs.length):cutD (iD xs) (some (i:Int)) (some (j:Int))=iD ((xs.drop i).take (j - i)):=by
 have len:(iD xs).length=xs.length:=by unfold iD;rw[g9]
 unfold cutD slIx;simp only[len];rw[d6 (by omega),d6 (by omega),M8,M8,Nat.min_eq_left hj,Nat.min_eq_left (m7 hij hj)];unfold iD;rw[←List.map_drop,←List.map_take]
def rowX(xs:List Int)(W j:Nat):List Int:=((xs.drop (4+5*j)).take W).map λx=>x%10
theorem q8U(hx:xs.length=30)(hW:W<=5)(hj:j<5):(rowX xs W j).length=W:=by
 unfold rowX;rw[g9,G7,U6];omega
theorem z8e{xs:List Int}{W j:Nat}{a c d g:Sv}(hx:xs.length=30)(hW:W<=5)(hj:j<5):evE G F (.joi (.str "") (.comp (.bi .str [.bin .Mod (.var 0) (.int 10)]) (.one 0) (.sl (.var 1) (.bin .Add (.int 4) (.bin .Mult (.int 5) (.var 6))) (.bin .Add (.bin .Add (.int 4) (.bin .Mult (.int 5) (.var 6))) (.var 4))) [none])) [a,.val (.lst (iD xs)),c,d,.val (.int (W:Int)),g,.val (.int (j:Int))]=some (.ok (.str (stx (rowT (rowX xs W j)))) .strong):=by
 let S:List Sv:=[a,.val (.lst (iD xs)),c,d,.val (.int (W:Int)),g,.val (.int (j:Int))]
 have ml:L4 5 (j:Int)=true:=y0g (by have e2:(2:Int)^62=4611686018427387904:=(by decide);omega) (by have e2:(2:Int)^62=4611686018427387904:=(by decide);omega);have lo:=G3 (e7 (G:=G) (F:=F) (δ:=S) (i:=4)) (z5H (e7 (i:=5)) (b9 (n:=6) (d:=.int (j:Int)) rfl) ml);have hi:=G3 lo (b9 (n:=4) (d:=.int (W:Int)) rfl);rw[show(4:Int)+5*(j:Int)=((4+5*j:Nat):Int) by push_cast;rfl]at lo hi;rw[show((4+5*j:Nat):Int)+(W:Int)=((4+5*j+W:Nat):Int) by push_cast;rfl]at hi;have sl:=y0w (b9 (G:=G) (F:=F) (δ:=S) (n:=1) (d:=.lst (iD xs)) rfl) lo hi;rw[z6O (by omega) (by omega),w20]at sl;have cm:=J4 (l:=(xs.drop (4+5*j)).take W) (h:=DV.int) (f:=λx=>.str (stx [cpw (x%10)])) (F:=F) (δ:=S) (elt:=.bi .str [.bin .Mod (.var 0) (.int 10)]) (tg:=.one 0) (it:=.sl (.var 1) (.bin .Add (.int 4) (.bin .Mult (.int 5) (.var 6))) (.bin .Add (.bin .Add (.int 4) (.bin .Mult (.int 5) (.var 6))) (.var 4))) (fr:=[none]) (cl:=.fresh)
  (by rw[sl];rfl) (by decide) (big _ (by rw[G7];omega)) (λx hx=>⟨[.val (.int x)],.strong,rfl,z8S (w27 _ (by decide)) (w2E _ (by decide)) (D4 (b9 rfl) e7 (by decide)),rfl⟩)
 rw[show(((xs.drop (4+5*j)).take W).map λx=>DV.str (stx [cpw (x%10)]))=(rowX xs W j).map λx=>DV.str (stx [cpw x]) by unfold rowX;rw[B8];rfl,z6t]at cm;rw[←q6G];exact z5X (by rw[←z4C];rfl) cm (by rw[q9o,q8U hx hW hj];exact big _ (by omega))
def F4(xs:List Int)(W N:Nat):List (List Int):=(List.range N).map (rowX xs W)
theorem z7l:F4 xs W (j+1)=F4 xs W j++[rowX xs W j]:=by unfold F4;rw[List.range_succ,w2u];rfl
theorem q9y(hx:xs.length=30)(hW:W<=5)(hN:N<=5):Rect N W (F4 xs W N):=by
 refine⟨by unfold F4;rw[g9,K6],λr hr=>?_⟩;obtain⟨j,hj,rfl⟩:=j9.mp hr;exact q8U hx hW (by have:=F0.mp hj;omega)
theorem z7j:W9 (F4 xs W N):=λr hr x hx=>by
 obtain⟨j,_,rfl⟩:=j9.mp hr;obtain⟨y,_,rfl⟩:=j9.mp hx;exact⟨w27 _ (by decide),w2E _ (by decide)⟩
theorem z3A(hR:Rect n m R)(hn:n<=8)(m1:1<=m)(hm:m<=8)(h9:W9 R):Rws (R.map rowT) m:=by
 refine⟨by rw[g9,hR.1];exact hn,m1,hm,λp hp=>?_⟩;obtain⟨r,hr,rfl⟩:=j9.mp hp;refine⟨by rw[q6d,hR.2 r hr],?_⟩;rw[o7];intro c hc;have:=z5W (h9 r hr) hc;unfold isD;rw[B1];exact this
theorem z0J(h9:W9 R):Okp (txt R):=λc hc=>by
 rcases q8L hc with z | ⟨p,hp,z⟩
 ·omega
 ·obtain⟨r,hr,rfl⟩:=j9.mp hp;have:=z5W (h9 r hr) z;omega
theorem z5z(hR:Rect n m R)(n1:1<=n)(hn:n<=8)(m1:1<=m)(hm:m<=8)(h9:W9 R):0<(txt R).length/\∃R',run G T 100 59 23 [.str (stx (txt R))]=some (.v (rL R') true):=by
 obtain⟨r,R',rfl⟩:∃r R',R=r::R':=by
  cases R with
  | nil=>have:=hR.1;simp at this;omega
  | cons r R'=>exact⟨r,R',rfl⟩
 have hs:=z6q (R:=r::R') (by intro z;cases z) h9;have tl:=z0W hR hn hm;refine⟨?_,_,z0X (k:=58) (p0:=rowT r) (ps:=R'.map rowT) (z0J h9) (by omega) (z9K h9) hs (z3A hR hn m1 hm h9)⟩;have:=z1Q (c:=47) (l:=(r::R').map rowT) (p:=rowT r) (i5 ..);rw[q6d,hR.2 r (i5 ..)]at this;exact p5 m1 this
end
section
variable {fu k:Nat} {F:Nat->List DV->Option Ou} {δ:List Sv} {ds:List DV} {cl:Cl} {w n m b:Nat}
theorem z6C(v:Int):∃l,Okp l/\0<l.length/\l.length<=800/\run G T 100 59 27 [.int v]=some (.v (.str (stx l)) false)/\∃R,run G T 100 59 23 [.str (stx l)]=some (.v (rL R) true):=by
 obtain⟨xs,hx,st⟩:=q9f (fu:=100) (k:=57) v 30 (by omega);have at':∀i:Nat,i<30->∃a,ixD (.lst (iD xs)) (.int (i:Int))=some (.int a):=λi hi=>q9c (l:=xs) (i:=(i:Int)) (by omega) (by rw[hx];omega)
 obtain⟨a0,h0⟩:=at' 0 (by omega);obtain⟨a1,h1⟩:=at' 1 (by omega);obtain⟨a2,h2⟩:=at' 2 (by omega);obtain⟨a3,h3⟩:=at' 3 (by omega);obtain⟨a4,h4⟩:=at' 4 (by omega)
 let S0:List Sv:=i4 7 [.int v]
 have s1:=p8 (G:=G) (F:=run G T 100 58) (δ:=S0) (f:=17) (d7 (b9 (n:=0) (d:=.int v) rfl) (d7 (e7 (i:=((30:Nat):Int))) i8)) rfl st
 let S (c d e f g:Sv):List Sv:=[.val (.int v),.val (.lst (iD xs)),c,d,e,f,g]
 have vx:∀(c d e f g:Sv),evE G (run G T 100 58) (.var 1) (S c d e f g)=some (.ok (.lst (iD xs)) .strong):=λc d e f g=>b9 rfl;have go:∀o,evSs G (run G T 100 58) 100 (q1C.body.drop 1) (S .no .no .no .no .no)=o->evSs G (run G T 100 58) 100 q1C.body S0=o:=λo q=>j3 (δ':=S .no .no .no .no .no) (p7 (i:=1) s1 rfl) q;have q0:=b_eq (D4 (D3 (vx .no .no .no .no .no) (e7 (i:=0)) h0) (e7 (i:=3)) (by decide)) (e7 (i:=0));by_cases z0:a0%3=0
 ·rw[show(a0%3==0)=true from d5.mpr z0]at q0;obtain⟨u,hu⟩:∃n:Nat,a4%5=(n:Int):=⟨(a4%5).toNat,by omega⟩;obtain⟨p,hp⟩:∃n:Nat,1+a1%8=(n:Int):=⟨(1+a1%8).toNat,by omega⟩;obtain⟨q,hq⟩:∃n:Nat,1+a2%8=(n:Int):=⟨(1+a2%8).toNat,by omega⟩;obtain⟨r,hr⟩:∃n:Nat,2+a3%9=(n:Int):=⟨(2+a3%9).toNat,by omega⟩;obtain⟨p3,hp3⟩:∃n:Nat,1+a1%3=(n:Int):=⟨(1+a1%3).toNat,by omega⟩;have uw:u<5:=by omega
  have s2:=D4 (D3 (vx .no .no .no .no .no) (e7 (i:=4)) h4) (e7 (i:=5)) (by decide);rw[hu]at s2
  let U:Sv:=.val (.int (u:Int))
  have e0:=G3 (e7 (i:=1)) (D4 (D3 (vx U .no .no .no .no) (e7 (i:=1)) h1) (e7 (i:=8)) (by decide));have e1:=G3 (e7 (i:=1)) (D4 (D3 (vx U .no .no .no .no) (e7 (i:=2)) h2) (e7 (i:=8)) (by decide));have e2:=G3 (e7 (i:=2)) (D4 (D3 (vx U .no .no .no .no) (e7 (i:=3)) h3) (e7 (i:=9)) (by decide));rw[hp]at e0;rw[hq]at e1;rw[hr]at e2;have s3:=z0L (d7 e0 (d7 e1 (d7 e2 i8))) (m7 (show 3<=1000 by decide) (by decide)) rfl;have e3:=G3 (e7 (i:=1)) (D4 (D3 (vx U (.val (nL p q r)) .no .no .no) (e7 (i:=1)) h1) (e7 (i:=3)) (by decide));rw[hp3]at e3;have s4:=z0L (d7 e3 i8) (m7 (show 1<=1000 by decide) (by decide)) rfl;obtain⟨n,hn,nn,V,i3⟩:∃n:Nat,n<13/\1<=n/\Vld u n q r/\∀o,evSs G (run G T 100 58) 100 [.set 3 false (.slt (.var 3) (.ix (.lst [.int 1,.int 2,.int 3,.int 1,.int 1]) (.var 2))),.ret (.joi (.str ":") (.bin .Add (.lst [.ix (.lst [.str "alike",.str "less",.str "sums",.str "shared",.str "pick"]) (.var 2)]) (.comp (.bi .str [.var 0]) (.one 0) (.var 3) [none])))] (if u<=2 then S U (.val (nL p q r)) .no .no .no else S U (.val (.lst [.int (n:Int)])) .no .no .no)=o->evSs G (run G T 100 58) 100 [.iff (.cmp .Gt (.var 2) (.int 2)) [.set 3 false (.lst [.bin .Add (.int 1) (.bin .Mod (.ix (.var 1) (.int 1)) (.int 3))])] [],.set 3 false (.slt (.var 3) (.ix (.lst [.int 1,.int 2,.int 3,.int 1,.int 1]) (.var 2))),.ret (.joi (.str ":") (.bin .Add (.lst [.ix (.lst [.str "alike",.str "less",.str "sums",.str "shared",.str "pick"]) (.var 2)]) (.comp (.bi .str [.var 0]) (.one 0) (.var 3) [none])))] (S U (.val (nL p q r)) .no .no .no)=o/\(u<=2->n=p):=by
   have cg:=b_gt (b9 (G:=G) (F:=run G T 100 58) (δ:=S U (.val (nL p q r)) .no .no .no) (n:=2) (d:=.int (u:Int)) rfl) (e7 (i:=2));by_cases z:u<=2
   ·rw[m6 (by omega)]at cg;refine⟨p,by omega,by omega,⟨by omega,by rw[d4 z];omega,λ_=>by omega,λ_=>by omega⟩,λo h=>⟨g6 (i6 cg) (by rw[d4 z]at h;exact h),λ_=>rfl⟩⟩
   ·rw[r9 (by omega)]at cg;refine⟨p3,by omega,by omega,⟨by omega,by rw[d6 z];omega,(λy=>by omega),(λy=>by omega)⟩,λo h=>⟨q6K (δ':=S U (.val (.lst [.int (p3:Int)])) .no .no .no) (i6 cg) (j3 (p7 (i:=3) s4 rfl) rfl) (by rw[d6 z]at h;exact h),λy=>absurd y z⟩⟩
  let St:=if u<=2 then S U (.val (nL p q r)) .no .no .no else S U (.val (.lst [.int (n:Int)])) .no .no .no
  let S5:=S U (.val (.lst (nsD (numsOf u n q r)))) .no .no .no
  have np:u<=2->n=p:=(i3 _ rfl).2;have s5:evS G (run G T 100 58) 100 (.set 3 false (.slt (.var 3) (.ix (.lst [.int 1,.int 2,.int 3,.int 1,.int 1]) (.var 2)))) St=some (.nx S5):=by
   rcases five uw with rfl | rfl | rfl | rfl | rfl
   ·have:=np (by decide);subst this;rfl
   ·have:=np (by decide);subst this;rfl
   ·have:=np (by decide);subst this;rfl
   ·rfl
   ·rfl
  have nr:=q8G uw hn (show q<13 by omega) (show r<13 by omega);have cm:=J4 (l:=numsOf u n q r) (h:=λ(n:Nat)=>DV.int (n:Int)) (f:=λn=>.str (stx (dg n))) (F:=run G T 100 58) (δ:=S5) (elt:=.bi .str [.var 0]) (tg:=.one 0) (it:=.var 3) (fr:=[none]) (cl:=.strong)
   rfl (by decide) (big _ (by rw[q6w uw];rcases five uw with rfl | rfl | rfl | rfl | rfl<;>decide)) (λj hj=>⟨[.val (.int (j:Int))],.strong,rfl,z9X (nr j hj) (b9 rfl),rfl⟩)
  rw[z5l]at cm;have nme:evE G (run G T 100 58) (.lst [.ix (.lst [.str "alike",.str "less",.str "sums",.str "shared",.str "pick"]) (.var 2)]) S5=some (.ok (.lst [.str (nmS u)]) .fresh):=(by rcases five uw with rfl | rfl | rfl | rfl | rfl<;>rfl);have ad:evE G (run G T 100 58) (.bin .Add (.lst [.ix (.lst [.str "alike",.str "less",.str "sums",.str "shared",.str "pick"]) (.var 2)]) (.comp (.bi .str [.var 0]) (.one 0) (.var 3) [none])) S5=some (.ok (.lst (dS (X3 u n q r))) .fresh):=(by refine Z5 nme cm ?_;refine(d4 (by unfold dS;rw[g9,g9,q6w uw];rcases five uw with rfl | rfl | rfl | rfl | rfl<;>exact big _ (by decide))).trans ?_;rw[z6U u uw];rfl);have jn:=z1D (c:=58) (a:=.str ":") (ca:=.strong) (by rw[←T4];rfl) ad (m7 (q6X uw) (by decide));have fin:=(i3 _ (j3 s5 (j4 (r6 jn)))).1;refine⟨nmT u n q r,z4E uw hn (by omega) (by omega),List.length_pos_of_mem (z4v uw),m7 (z0z uw) (by decide),?_,z5U uw hn (by omega) (by omega) V⟩;rw[j7 (fd:=q1C) rfl rfl];exact m5 (go _ (C4 (i6 q0) (j3 (δ':=S U .no .no .no .no) (p7 (i:=2) s2 rfl) (j3 (δ':=S U (.val (nL p q r)) .no .no .no) (p7 (i:=3) s3 rfl) fin))))
 ·rw[show(a0%3==0)=false from y8.mpr z0]at q0;obtain⟨W,hW⟩:∃n:Nat,1+a1%5=(n:Int):=⟨(1+a1%5).toNat,by omega⟩;obtain⟨N,hN⟩:∃n:Nat,1+a2%5=(n:Int):=⟨(1+a2%5).toNat,by omega⟩;have s4:=G3 (e7 (i:=1)) (D4 (D3 (vx .no .no .no .no .no) (e7 (i:=1)) h1) (e7 (i:=5)) (by decide));rw[hW]at s4
  let WV:Sv:=.val (.int (W:Int))
  have nn:=G3 (e7 (i:=1)) (D4 (D3 (vx .no .no WV (.own (.lst [])) .no) (e7 (i:=2)) h2) (e7 (i:=5)) (by decide));rw[hN]at nn;obtain⟨δ1,l1,z,rfl⟩:=q4P (i:=6) (I:=λj δ=>∃z:Sv,δ=S .no .no WV (.own (.lst (dS ((F4 xs W j).map rowT)))) z) (body:=λδ'=>evSs G (run G T 100 58) 100 [.app 5 (.joi (.str "") (.comp (.bi .str [.bin .Mod (.var 0) (.int 10)]) (.one 0) (.sl (.var 1) (.bin .Add (.int 4) (.bin .Mult (.int 5) (.var 6))) (.bin .Add (.bin .Add (.int 4) (.bin .Mult (.int 5) (.var 6))) (.var 4))) [none]))] δ') N 0 (δ:=S .no .no WV (.own (.lst [])) .no)
   (λj hj δ I=>by
    obtain⟨z,rfl⟩:=I;rw[w2v];have rw1:=z8e (F:=run G T 100 58) (xs:=xs) (W:=W) (j:=j) (a:=.val (.int v)) (c:=.no) (d:=.no) (g:=.own (.lst (dS ((F4 xs W j).map rowT)))) hx (by omega) (by omega);refine⟨_,j3 (z4t (d:=.str (stx (rowT (rowX xs W j)))) (cl:=.strong) rfl rw1 rfl (by unfold dS F4;rw[g9,g9,g9,K6];exact p5 (show j<5 by omega) (by decide))) rfl,.val (.int (j:Int)),?_⟩;rw[z7l,w2u];have e:dS ((F4 xs W j).map rowT++List.map rowT [rowX xs W j])=dS ((F4 xs W j).map rowT)++[.str (stx (rowT (rowX xs W j)))]:=by unfold dS;rw[w2u];rfl
    rw[e];rfl) ⟨.no,rfl⟩
  have hR:=q9y (xs:=xs) (W:=W) (N:=N) hx (by omega) (by omega);have h9:W9 (F4 xs W N):=z7j;have nm:N*W<=25:=Nat.mul_le_mul (show N<=5 by omega) (show W<=5 by omega);have jn:=z1D (F:=run G T 100 58) (δ:=S .no .no WV (.own (.lst (dS ((F4 xs W N).map rowT)))) z) (c:=47) (a:=.str "/") (e:=.var 5) (l:=(F4 xs W N).map rowT) (ca:=.strong) (ce:=.top) (by rw[←q9d];rfl) (z7m rfl) (by rw[q9l hR,g9,hR.1];exact big _ (by omega));obtain⟨t1,t2⟩:=z5z hR (by omega) (by omega) (by omega) (by omega) h9;refine⟨txt (F4 xs W N),z0J h9,t1,by have:=z0W hR (by omega) (by omega);omega,?_,t2⟩;rw[j7 (fd:=q1C) rfl rfl];exact m5 (go _ (g6 (i6 q0) (j3 (δ':=S .no .no WV .no .no) (p7 (i:=4) s4 rfl) (j3 (δ':=S .no .no WV (.own (.lst [])) .no) (z4L (i:=5) rfl) (Q4 (q9U (n:=N) nn (by omega)) (.inr rfl) l1 (j4 (r6 jn)))))))
theorem z5j(ns:List Int)(hns:ns.length<=63):run G T 100 60 28 [.scr ns]=some (.v (.bl true) false):=by
 rw[j7 (fd:=z5E) rfl rfl];obtain⟨v0,c0⟩:=z2e (fu:=100) (k:=58) ns 0;obtain⟨v1,c1⟩:=z2e (fu:=100) (k:=58) ns 1;obtain⟨v2,c2⟩:=z2e (fu:=100) (k:=58) ns 2;obtain⟨l,ok,l1,l8,tx,R,du⟩:=z6C v0
 let S0:List Sv:=i4 3 [.scr ns]
 let S (z:Sv):List Sv:=[.val (.scr ns),.val (.str (stx l)),z]
 have s1:=p8 (G:=G) (F:=run G T 100 59) (δ:=S0) (f:=27) (d7 (p8 (f:=16) (d7 (b9 (n:=0) (d:=.scr ns) rfl) (d7 (e7 (i:=((0:Nat):Int))) i8)) rfl c0) i8) rfl tx;have k1:=p8 (G:=G) (F:=run G T 100 59) (δ:=S .no) (f:=16) (d7 (b9 (n:=0) (d:=.scr ns) rfl) (d7 (e7 (i:=((1:Nat):Int))) i8)) rfl c1;have k2:=p8 (G:=G) (F:=run G T 100 59) (δ:=S .no) (f:=16) (d7 (b9 (n:=0) (d:=.scr ns) rfl) (d7 (e7 (i:=((2:Nat):Int))) i8)) rfl c2;obtain⟨ms,hms,it⟩:∃ms:List Int,ms.length<=100/\t6 (evE G (run G T 100 59) (.bin .Add (.lst [.call 16 [.var 0,.int 1],.call 16 [.var 0,.int 2]]) (.sl (.var 0) (.int 3) (.int 15))) (S .no))=some (.ok (iD ms) .fresh):=(by have ls:=z0L (d7 k1 (d7 k2 i8)) (m7 (show 2<=1000 by decide) (by decide)) rfl;have sl:evE G (run G T 100 59) (.sl (.var 0) (.int 3) (.int 15)) (S .no)=some (.ok (.lst (cutD (iD ns) (some 3) (some 15))) .fresh):=rfl;obtain⟨ks,hk,ek⟩:∃ks:List Int,ks.length<=63/\cutD (iD ns) (some 3) (some 15)=iD ks:=(by unfold cutD iD;refine⟨(ns.drop (slIx (ns.map DV.int).length 0 (some 3))).take (slIx (ns.map DV.int).length (ns.map DV.int).length (some 15) - slIx (ns.map DV.int).length 0 (some 3)),by rw[G7,U6];omega,?_⟩;rw[←List.map_drop,←List.map_take]);rw[ek]at sl;refine⟨v1::v2::ks,by simp;omega,?_⟩;have e:evE G (run G T 100 59) (.bin .Add (.lst [.call 16 [.var 0,.int 1],.call 16 [.var 0,.int 2]]) (.sl (.var 0) (.int 3) (.int 15))) (S .no)=some (.ok (.lst (iD (v1::v2::ks))) .fresh):=Z5 (op:=.Add) ls sl (d4 (by show 2+(iD ks).length<=mostLen;unfold iD;rw[g9];exact big _ (by omega)));rw[e];rfl);have lp:∀(q:List Int) (z:Sv),∃z',n8 (.one 2) (λδ'=>evSs G (run G T 100 59) 100 [.iff (.not (.call 26 [.call 25 [.var 1,.call 17 [.var 2,.int 3]]])) [.ret (.bl false)] []] δ') (iD q) (S z)=some (.nx (S z')):=by
  intro q
  induction q with
  | nil=>exact λz=>⟨z,rfl⟩
  | cons x q ih=>
   intro z;obtain⟨xs,hx,st⟩:=q9f (fu:=100) (k:=58) x 3 (by omega);obtain⟨d,fd,sp⟩:=z0V ok l1 l8 hx
   let Sx:=S (.val (.int x))
   have a1:=p8 (G:=G) (F:=run G T 100 59) (δ:=Sx) (f:=17) (d7 (b9 (n:=2) (d:=.int x) rfl) (d7 (e7 (i:=((3:Nat):Int))) i8)) rfl st;have a2:=p8 (G:=G) (F:=run G T 100 59) (δ:=Sx) (f:=25) (d7 (b9 (n:=1) (d:=.str (stx l)) rfl) (d7 a1 i8)) rfl sp;have a3:=p8 (G:=G) (F:=run G T 100 59) (δ:=Sx) (f:=26) (d7 a2 i8) rfl (z9Y fd);obtain⟨z',e⟩:=ih (.val (.int x));exact⟨z',(q4q (d:=.int x) rfl (g6 (i6 (Q5 a3)) rfl)).trans e⟩
 obtain⟨z',lq⟩:=lp ms .no
 let Sz:=S z'
 have v1':=b9 (G:=G) (F:=run G T 100 59) (δ:=Sz) (n:=1) (d:=.str (stx l)) rfl;have b1:=p8 (G:=G) (F:=run G T 100 59) (δ:=Sz) (f:=23) (d7 v1' i8) rfl du;have b2:evE G (run G T 100 59) (.cmp .IsNot (.call 23 [.var 1]) (.non)) Sz=some (.ok (.bl true) .strong):=G2 b1 (show evE G (run G T 100 59) (.non) Sz=some (.ok .non .strong)from rfl) rfl;have b3:=p8 (G:=G) (F:=run G T 100 59) (δ:=Sz) (f:=26) (d7 v1' i8) rfl (z9Y (q3C ok (by omega)));exact m5 (j3 (δ':=S .no) (p7 (i:=1) s1 rfl) (Q4 it (.inr rfl) lq (j4 (r6 (M3 b2 (R8 b3))))))
end
end k82
end
noncomputable section
namespace k82
open PySem PySem.W L2 PySem.Spec PyProof.Rows
section
theorem lnS(h:us.length=n+1):∃a r,us=a::r/\r.length=n:=by cases us with | nil=>cases h | cons a r=>exact⟨a,r,rfl,Nat.succ.inj h⟩
theorem ln0(h:us.length=0):us=[]:=X5.mp h
theorem ln1(h:us.length=1):∃a0,us=[a0]:=by obtain⟨_,_,rfl,h0⟩:=lnS h;obtain rfl:=ln0 h0;exact⟨_,rfl⟩
theorem ln2(h:us.length=2):∃a0 a1,us=[a0,a1]:=by obtain⟨_,_,rfl,h0⟩:=lnS h;obtain⟨_,_,rfl,h1⟩:=lnS h0;obtain rfl:=ln0 h1;exact⟨_,_,rfl⟩
theorem ln3(h:us.length=3):∃a0 a1 a2,us=[a0,a1,a2]:=by obtain⟨_,_,rfl,h0⟩:=lnS h;obtain⟨_,_,rfl,h1⟩:=lnS h0;obtain⟨_,_,rfl,h2⟩:=lnS h1;obtain rfl:=ln0 h2;exact⟨_,_,_,rfl⟩
def fn:List Str:=fnl
def bl:List Str:=bll
def cl:List Str:=cll
theorem ok0:okD fn bl cl q2V ["thing","least","most"] ["thing","least","most"] (top 6)=true:=by decide +kernel
theorem ok1:okD fn bl cl q1r ["rows"] ["rows"] (top 10)=true:=by decide +kernel
theorem ok2:okD fn bl cl q3r ["thing"] ["thing"] (top 11)=true:=by decide +kernel
theorem ok3:okD fn bl cl q4v ["thing"] ["thing"] (top 12)=true:=by decide +kernel
theorem ok4:okD fn bl cl q5O ["cards"] ["cards"] (top 13)=true:=by decide +kernel
theorem ok5:okD fn bl cl q5R ["n"] ["n"] (top 17)=true:=by decide +kernel
theorem ok6:okD fn bl cl q7F ["n","m"] ["n","m"] (top 18)=true:=by decide +kernel
theorem ok7:okD fn bl cl q5z ["n","m","k"] ["n","m","k"] (top 19)=true:=by decide +kernel
theorem ok8:okD fn bl cl q6t ["n"] ["n"] (top 20)=true:=by decide +kernel
theorem ok9:okD fn bl cl z0U ["n"] ["n"] (top 21)=true:=by decide +kernel
theorem ok10:okD fn bl cl q1F ["number","least","most"] ["number","least","most"] (top 22)=true:=by decide +kernel
theorem ok11:okD fn bl cl q8d ["height","width","rule"] ["height","width","rule"] (top 23)=true:=by decide +kernel
theorem ok12:okD fn bl cl q1o ["text"] ["text"] (top 26)=true:=by decide +kernel
theorem ok13:okD fn bl cl q1y ["words","name","numbers"] ["words"] (top 27)=true:=by decide +kernel
theorem ok14:okD fn bl cl q2z ["word"] ["word"] (top 28)=true:=by decide +kernel
theorem ok15:okD fn bl cl q3Y ["_law_found"] ["_law_found"] (top 30)=true:=by decide +kernel
theorem ok16:okD fn bl cl q1E ["_law_script","_law_k"] ["_law_script","_law_k"] (top 31)=true:=by decide +kernel
theorem ok17:okD fn bl cl q1M ["_law_cell","_law_many","_law_found","_law_number_here","_law_k"] ["_law_cell","_law_many"] (top 32)=true:=by decide +kernel
theorem ok18:okD fn bl cl q1A ["_law_found","_law_due_here","_law_row","_law_right"] ["_law_found","_law_due_here"] (top 33)=true:=by decide +kernel
theorem ok19:okD fn bl cl q4L ["_law_r","_law_c","_law_found"] ["_law_r","_law_c"] (top 34)=true:=by decide +kernel
theorem ok20:okD fn bl cl q1n ["_law_way","_law_numbers","_law_n","_law_m","_law_k","_law_wide"] ["_law_way","_law_numbers"] (top 35)=true:=by decide +kernel
theorem ok21:okD fn bl cl q1Q ["_law_word","_law_sign"] ["_law_word"] (top 36)=true:=by decide +kernel
theorem ok22:okD fn bl cl q1H ["_law_text_here","_law_words","_law_names","_law_way","_law_numbers"] ["_law_text_here"] (top 37)=true:=by decide +kernel
theorem ok23:okD fn bl cl q1S ["_law_text_here","_law_rows","_law_row","_law_sign"] ["_law_text_here"] (top 38)=true:=by decide +kernel
theorem ok24:okD fn bl cl q3V ["_law_number_here","_law_some"] ["_law_number_here"] (top 39)=true:=by decide +kernel
theorem ok25:okD fn bl cl q1i ["_law_text_here","_law_xs","_law_sign","_law_at"] ["_law_text_here","_law_xs"] (top 40)=true:=by decide +kernel
theorem ok26:okD fn bl cl q1X ["_law_text_here","_law_caught","_law_found","error","_law_due_here"] ["_law_text_here"] (top 41)=true:=by decide +kernel
theorem ok27:okD fn bl cl q1C ["_law_cell","_law_xs","_law_way","_law_numbers","_law_wide","_law_rows","_law_k"] ["_law_cell"] (top 42)=true:=by decide +kernel
theorem ok28:okD fn bl cl z5E ["_law_script","_law_text_here","_law_cell"] ["_law_script"] (top 43)=true:=by decide +kernel
theorem dfok:DfOk G T:=by
 refine⟨λf ds q=>?_,λf n q=>?_⟩
 ·unfold G at q;cases q
 ·unfold G at q;cases q
abbrev ck(P:Params)(x:Str)(f:Addr)(i:Nat)(dV pm:Value)(cd:Addr):Prop:=(nsIn (kK P) mainGlobals x,(kK P).lookup f,codeIn (kK P) (.ref cd) x,keepIn (kK P) (.ref f))=(some (some (.ref f)),some (fo x i dV pm cd),true,true)
theorem ck4(q:ck P x f i dV pm cd):nsIn (kK P) mainGlobals x=some (some (.ref f))/\(kK P).lookup f=some (fo x i dV pm cd)/\codeIn (kK P) (.ref cd) x=true/\keepIn (kK P) (.ref f)=true:=by
 obtain⟨a,b⟩:=Prod.mk.inj q;obtain⟨b,c⟩:=Prod.mk.inj b;exact⟨a,b,Prod.mk.inj c⟩
theorem kN(P:Params):((kK P).map (·.1)).Nodup:=by rw[show(kK P).map (·.1)=kA by kernel_rfl];decide +kernel
theorem kM(P:Params):((u0 (kK P)).map (·.1)).Nodup:=by rw[show(u0 (kK P)).map (·.1)=[65,72,77,84,89,94,101,109,116,123,130,137,142,147,152,157,164,171,178,183,190,195,202,207,212,219,226,233,238] by kernel_rfl];decide +kernel
theorem zz(P:Params):bl.map (nsIn (kK P) mainGlobals)=bl.map λ_=>some none:=by kernel_rfl
open PySem.W
theorem all_mk{l:OpenLaw}{w:World}{h:Heap}{mg:Str->Option Value}{fa:Addr}(X:(kK w.params).In h)(Ns:h.Ns mainGlobals mg)(hfa:mg "law" = some (.ref fa)):∃fd:FuncData,(∀(s:Shared) (v:Value),BindsTo s fd ⟨[v],[]⟩ [("_law_script",v)])/\∀base:Heap,(kK w.params).In base->base.Ns mainGlobals mg->FnOk l.prog w (kK w.params) mg base CX0 60 fa fd ["_law_script"] (spS (kK w.params)):=by
 obtain⟨a0,l0,c0,k0⟩:=ck4 (P:=w.params) (x:="is_int") (f:=70) (i:=6) (dV:=.none) (pm:=(.str "talkleast.checks" 255)) (cd:=69) (by kernel_rfl);have S0:=u8 X Ns ok0 a0 l0 c0 k0 λ_ _ _ _ _ _ us hl=>by obtain⟨_,_,_,rfl⟩:=ln3 hl;rfl
 obtain⟨a1,l1,c1,k1⟩:=ck4 (P:=w.params) (x:="made_table") (f:=75) (i:=10) (dV:=.none) (pm:=(.str "talkleast.tables" 266)) (cd:=74) (by kernel_rfl);have S1:=u8 X Ns ok1 a1 l1 c1 k1 λ_ _ _ _ _ _ us hl=>by obtain⟨_,rfl⟩:=ln1 hl;rfl
 obtain⟨a2,l2,c2,k2⟩:=ck4 (P:=w.params) (x:="is_line") (f:=82) (i:=11) (dV:=.none) (pm:=(.str "talkleast.tables" 266)) (cd:=81) (by kernel_rfl);have S2:=u8 X Ns ok2 a2 l2 c2 k2 λ_ _ _ _ _ _ us hl=>by obtain⟨_,rfl⟩:=ln1 hl;rfl
 obtain⟨a3,l3,c3,k3⟩:=ck4 (P:=w.params) (x:="is_row") (f:=87) (i:=12) (dV:=.none) (pm:=(.str "talkleast.tables" 266)) (cd:=86) (by kernel_rfl);have S3:=u8 X Ns ok3 a3 l3 c3 k3 λ_ _ _ _ _ _ us hl=>by obtain⟨_,rfl⟩:=ln1 hl;rfl
 obtain⟨a4,l4,c4,k4⟩:=ck4 (P:=w.params) (x:="cards_in") (f:=92) (i:=13) (dV:=.none) (pm:=(.str "talkleast.tables" 266)) (cd:=91) (by kernel_rfl);have S4:=u8 X Ns ok4 a4 l4 c4 k4 λ_ _ _ _ _ _ us hl=>by obtain⟨_,rfl⟩:=ln1 hl;rfl
 obtain⟨a5,l5,c5,k5⟩:=ck4 (P:=w.params) (x:="alike") (f:=99) (i:=17) (dV:=.none) (pm:=(.str "talkleast.named" 297)) (cd:=98) (by kernel_rfl);have S5:=u8 X Ns ok5 a5 l5 c5 k5 λ_ _ _ _ _ _ us hl=>by obtain⟨_,rfl⟩:=ln1 hl;rfl
 obtain⟨a6,l6,c6,k6⟩:=ck4 (P:=w.params) (x:="less") (f:=106) (i:=18) (dV:=.none) (pm:=(.str "talkleast.named" 297)) (cd:=105) (by kernel_rfl);have S6:=u8 X Ns ok6 a6 l6 c6 k6 λ_ _ _ _ _ _ us hl=>by obtain⟨_,_,rfl⟩:=ln2 hl;rfl
 obtain⟨a7,l7,c7,k7⟩:=ck4 (P:=w.params) (x:="sums") (f:=114) (i:=19) (dV:=(.ref 107)) (pm:=(.str "talkleast.named" 297)) (cd:=113) (by kernel_rfl);have tl7:(kK w.params).lookup 107=some ⟨.type "tuple",none,.seq #[.int 2 318] 0,#[]⟩:=by kernel_rfl
 have S7:=q5C X Ns ok7 a7 l7 c7 k7 (λs us hK hl=>by rw[z9]at hl ⊢;obtain⟨_,_,rfl,h0⟩:=lnS hl;obtain⟨_,_,rfl,h1⟩:=lnS h0;obtain⟨_,_,rfl,h2⟩:=lnS h1;obtain rfl:=ln0 h2;first | exact .of_eq rfl | exact .of_defaults rfl (hK _ _ tl7) rfl rfl rfl) ⟨λ_=>⟨[.int 2 318],[.int 2],λs us hK hl=>by(rw[A7]at hl;replace hl:=Nat.succ.inj hl;obtain⟨_,_,rfl,h0⟩:=lnS hl;obtain⟨_,_,rfl,h1⟩:=lnS h0;obtain rfl:=ln0 h1;first | exact .of_eq rfl | exact .of_defaults rfl (hK _ _ tl7) rfl rfl rfl),.cons ⟨_,rfl⟩ .nil,λH=>RepL.one (A4.mpr rfl)⟩,λn z=>by cases z⟩;obtain⟨a8,l8,c8,k8⟩:=ck4 (P:=w.params) (x:="shared") (f:=121) (i:=20) (dV:=.none) (pm:=(.str "talkleast.named" 297)) (cd:=120) (by kernel_rfl);have S8:=u8 X Ns ok8 a8 l8 c8 k8 λ_ _ _ _ _ _ us hl=>by obtain⟨_,rfl⟩:=ln1 hl;rfl
 obtain⟨a9,l9,c9,k9⟩:=ck4 (P:=w.params) (x:="pick") (f:=128) (i:=21) (dV:=.none) (pm:=(.str "talkleast.named" 297)) (cd:=127) (by kernel_rfl);have S9:=u8 X Ns ok9 a9 l9 c9 k9 λ_ _ _ _ _ _ us hl=>by obtain⟨_,rfl⟩:=ln1 hl;rfl
 obtain⟨a10,l10,c10,k10⟩:=ck4 (P:=w.params) (x:="check_number") (f:=135) (i:=22) (dV:=.none) (pm:=(.str "talkleast.named" 297)) (cd:=134) (by kernel_rfl);have S10:=u8 X Ns ok10 a10 l10 c10 k10 λ_ _ _ _ _ _ us hl=>by obtain⟨_,_,_,rfl⟩:=ln3 hl;rfl
 obtain⟨a11,l11,c11,k11⟩:=ck4 (P:=w.params) (x:="ruled") (f:=140) (i:=23) (dV:=.none) (pm:=(.str "talkleast.named" 297)) (cd:=139) (by kernel_rfl);have S11:=u8 X Ns ok11 a11 l11 c11 k11 λ_ _ _ _ _ _ us hl=>by obtain⟨_,_,_,rfl⟩:=ln3 hl;rfl
 obtain⟨a12,l12,c12,k12⟩:=ck4 (P:=w.params) (x:="read_table") (f:=145) (i:=26) (dV:=.none) (pm:=(.str "talkleast.texts" 358)) (cd:=144) (by kernel_rfl);have S12:=u8 X Ns ok12 a12 l12 c12 k12 λ_ _ _ _ _ _ us hl=>by obtain⟨_,rfl⟩:=ln1 hl;rfl
 obtain⟨a13,l13,c13,k13⟩:=ck4 (P:=w.params) (x:="table_named") (f:=150) (i:=27) (dV:=.none) (pm:=(.str "talkleast.texts" 358)) (cd:=149) (by kernel_rfl);have S13:=u8 X Ns ok13 a13 l13 c13 k13 λ_ _ _ _ _ _ us hl=>by obtain⟨_,rfl⟩:=ln1 hl;rfl
 obtain⟨a14,l14,c14,k14⟩:=ck4 (P:=w.params) (x:="read_number") (f:=155) (i:=28) (dV:=.none) (pm:=(.str "talkleast.texts" 358)) (cd:=154) (by kernel_rfl);have S14:=u8 X Ns ok14 a14 l14 c14 k14 λ_ _ _ _ _ _ us hl=>by obtain⟨_,rfl⟩:=ln1 hl;rfl
 obtain⟨a15,l15,c15,k15⟩:=ck4 (P:=w.params) (x:="_law_int") (f:=162) (i:=30) (dV:=.none) (pm:=(.str "law_talkleast_k82_what_is_no_text_of_a_table" 380)) (cd:=161) (by kernel_rfl);have S15:=u8 X Ns ok15 a15 l15 c15 k15 λ_ _ _ _ _ _ us hl=>by obtain⟨_,rfl⟩:=ln1 hl;rfl
 obtain⟨a16,l16,c16,k16⟩:=ck4 (P:=w.params) (x:="_law_cell_at") (f:=169) (i:=31) (dV:=.none) (pm:=(.str "law_talkleast_k82_what_is_no_text_of_a_table" 380)) (cd:=168) (by kernel_rfl);have S16:=u8 X Ns ok16 a16 l16 c16 k16 λ_ _ _ _ _ _ us hl=>by obtain⟨_,_,rfl⟩:=ln2 hl;rfl
 obtain⟨a17,l17,c17,k17⟩:=ck4 (P:=w.params) (x:="_law_stream") (f:=176) (i:=32) (dV:=.none) (pm:=(.str "law_talkleast_k82_what_is_no_text_of_a_table" 380)) (cd:=175) (by kernel_rfl);have S17:=u8 X Ns ok17 a17 l17 c17 k17 λ_ _ _ _ _ _ us hl=>by obtain⟨_,_,rfl⟩:=ln2 hl;rfl
 obtain⟨a18,l18,c18,k18⟩:=ck4 (P:=w.params) (x:="_law_is_table") (f:=181) (i:=33) (dV:=.none) (pm:=(.str "law_talkleast_k82_what_is_no_text_of_a_table" 380)) (cd:=180) (by kernel_rfl);have S18:=u8 X Ns ok18 a18 l18 c18 k18 λ_ _ _ _ _ _ us hl=>by obtain⟨_,_,rfl⟩:=ln2 hl;rfl
 obtain⟨a19,l19,c19,k19⟩:=ck4 (P:=w.params) (x:="_law_both") (f:=188) (i:=34) (dV:=.none) (pm:=(.str "law_talkleast_k82_what_is_no_text_of_a_table" 380)) (cd:=187) (by kernel_rfl);have S19:=u8 X Ns ok19 a19 l19 c19 k19 λ_ _ _ _ _ _ us hl=>by obtain⟨_,_,rfl⟩:=ln2 hl;rfl
 obtain⟨a20,l20,c20,k20⟩:=ck4 (P:=w.params) (x:="_law_ruled") (f:=193) (i:=35) (dV:=.none) (pm:=(.str "law_talkleast_k82_what_is_no_text_of_a_table" 380)) (cd:=192) (by kernel_rfl);have S20:=u8 X Ns ok20 a20 l20 c20 k20 λ_ _ _ _ _ _ us hl=>by obtain⟨_,_,rfl⟩:=ln2 hl;rfl
 obtain⟨a21,l21,c21,k21⟩:=ck4 (P:=w.params) (x:="_law_number") (f:=200) (i:=36) (dV:=.none) (pm:=(.str "law_talkleast_k82_what_is_no_text_of_a_table" 380)) (cd:=199) (by kernel_rfl);have S21:=u8 X Ns ok21 a21 l21 c21 k21 λ_ _ _ _ _ _ us hl=>by obtain⟨_,rfl⟩:=ln1 hl;rfl
 obtain⟨a22,l22,c22,k22⟩:=ck4 (P:=w.params) (x:="_law_named") (f:=205) (i:=37) (dV:=.none) (pm:=(.str "law_talkleast_k82_what_is_no_text_of_a_table" 380)) (cd:=204) (by kernel_rfl);have S22:=u8 X Ns ok22 a22 l22 c22 k22 λ_ _ _ _ _ _ us hl=>by obtain⟨_,rfl⟩:=ln1 hl;rfl
 obtain⟨a23,l23,c23,k23⟩:=ck4 (P:=w.params) (x:="_law_due") (f:=210) (i:=38) (dV:=.none) (pm:=(.str "law_talkleast_k82_what_is_no_text_of_a_table" 380)) (cd:=209) (by kernel_rfl);have S23:=u8 X Ns ok23 a23 l23 c23 k23 λ_ _ _ _ _ _ us hl=>by obtain⟨_,rfl⟩:=ln1 hl;rfl
 obtain⟨a24,l24,c24,k24⟩:=ck4 (P:=w.params) (x:="_law_odd") (f:=217) (i:=39) (dV:=.none) (pm:=(.str "law_talkleast_k82_what_is_no_text_of_a_table" 380)) (cd:=216) (by kernel_rfl);have S24:=u8 X Ns ok24 a24 l24 c24 k24 λ_ _ _ _ _ _ us hl=>by obtain⟨_,rfl⟩:=ln1 hl;rfl
 obtain⟨a25,l25,c25,k25⟩:=ck4 (P:=w.params) (x:="_law_spoiled") (f:=224) (i:=40) (dV:=.none) (pm:=(.str "law_talkleast_k82_what_is_no_text_of_a_table" 380)) (cd:=223) (by kernel_rfl);have S25:=u8 X Ns ok25 a25 l25 c25 k25 λ_ _ _ _ _ _ us hl=>by obtain⟨_,_,rfl⟩:=ln2 hl;rfl
 obtain⟨a26,l26,c26,k26⟩:=ck4 (P:=w.params) (x:="_law_answered") (f:=231) (i:=41) (dV:=.none) (pm:=(.str "law_talkleast_k82_what_is_no_text_of_a_table" 380)) (cd:=230) (by kernel_rfl);have S26:=u8 X Ns ok26 a26 l26 c26 k26 λ_ _ _ _ _ _ us hl=>by obtain⟨_,rfl⟩:=ln1 hl;rfl
 obtain⟨a27,l27,c27,k27⟩:=ck4 (P:=w.params) (x:="_law_text") (f:=236) (i:=42) (dV:=.none) (pm:=(.str "law_talkleast_k82_what_is_no_text_of_a_table" 380)) (cd:=235) (by kernel_rfl);have S27:=u8 X Ns ok27 a27 l27 c27 k27 λ_ _ _ _ _ _ us hl=>by obtain⟨_,rfl⟩:=ln1 hl;rfl
 obtain⟨a28,l28,c28,k28⟩:=ck4 (P:=w.params) (x:="law") (f:=243) (i:=43) (dV:=.none) (pm:=(.str "law_talkleast_k82_what_is_no_text_of_a_table" 380)) (cd:=242) (by kernel_rfl);have S28:=u8 X Ns ok28 a28 l28 c28 k28 λ_ _ _ _ _ _ us hl=>by obtain⟨_,rfl⟩:=ln1 hl;rfl
 have e:=hfa.symm.trans (mg_of X Ns a28);cases e;refine⟨_,λs v=>.of_eq rfl,λbase _ _=>z3j (T:=T) (G:=G) (fu:=100) rfl (u4 S0 (u4 S1 (u4 S2 (u4 S3 (u4 S4 (u4 S5 (u4 S6 (u4 S7 (u4 S8 (u4 S9 (u4 S10 (u4 S11 (u4 S12 (u4 S13 (u4 S14 (u4 S15 (u4 S16 (u4 S17 (u4 S18 (u4 S19 (u4 S20 (u4 S21 (u4 S22 (u4 S23 (u4 S24 (u4 S25 (u4 S26 (u4 S27 (u4 S28 z9B))))))))))))))))))))))))))))) (λx hx=>mg_none_of X Ns (List.map_inj_left.mp (zz _) x hx)) ?_ ?_ ?_ dfok z3U (i:=28) rfl rfl S28 (λ_=>⟨⟨rfl,rfl,rfl⟩,by decide,λi d x qual st fa fd _ _ F=>z8i (K:=kK w.params) (by kernel_rfl) F⟩) z5j⟩
 ·have xa0:nsIn (kK w.params) mainGlobals "TalkError" = some (some (.ref 24)):=by kernel_rfl
  have xa1:nsIn (kK w.params) mainGlobals "NoTable" = some (some (.ref 37)):=by kernel_rfl
  have xa2:nsIn (kK w.params) mainGlobals "NoPlan" = some (some (.ref 49)):=by kernel_rfl
  have xa3:nsIn (kK w.params) mainGlobals "NoText" = some (some (.ref 61)):=by kernel_rfl
  refine⟨q4r ⟨24,mg_of X Ns xa0,⟨by kernel_rfl,by kernel_rfl,by kernel_rfl,by kernel_rfl,by kernel_rfl,by kernel_rfl,by kernel_rfl,by kernel_rfl⟩,⟨_,_,_,[.type "ValueError",.type "Exception",.type "BaseException",.type "object"],w1H,by kernel_rfl⟩,(E7 (t:="TalkError") (Ct:=24) (mg_of X Ns xa0) ⟨by kernel_rfl,by kernel_rfl⟩ (E7 (t:="NoTable") (Ct:=37) (mg_of X Ns xa1) ⟨by kernel_rfl,by kernel_rfl⟩ (E7 (t:="NoPlan") (Ct:=49) (mg_of X Ns xa2) ⟨by kernel_rfl,by kernel_rfl⟩ (E7 (t:="NoText") (Ct:=61) (mg_of X Ns xa3) ⟨by kernel_rfl,by kernel_rfl⟩ q5Y)))),by kernel_rfl⟩ (q4r ⟨37,mg_of X Ns xa1,⟨by kernel_rfl,by kernel_rfl,by kernel_rfl,by kernel_rfl,by kernel_rfl,by kernel_rfl,by kernel_rfl,by kernel_rfl⟩,⟨_,_,_,[.type "ValueError",.type "Exception",.type "BaseException",.type "object"],w1H,by kernel_rfl⟩,(E7 (t:="TalkError") (Ct:=24) (mg_of X Ns xa0) ⟨by kernel_rfl,by kernel_rfl⟩ (E7 (t:="NoTable") (Ct:=37) (mg_of X Ns xa1) ⟨by kernel_rfl,by kernel_rfl⟩ (E7 (t:="NoPlan") (Ct:=49) (mg_of X Ns xa2) ⟨by kernel_rfl,by kernel_rfl⟩ (E7 (t:="NoText") (Ct:=61) (mg_of X Ns xa3) ⟨by kernel_rfl,by kernel_rfl⟩ q5Y)))),by kernel_rfl⟩ (q4r ⟨49,mg_of X Ns xa2,⟨by kernel_rfl,by kernel_rfl,by kernel_rfl,by kernel_rfl,by kernel_rfl,by kernel_rfl,by kernel_rfl,by kernel_rfl⟩,⟨_,_,_,[.type "ValueError",.type "Exception",.type "BaseException",.type "object"],w1H,by kernel_rfl⟩,(E7 (t:="TalkError") (Ct:=24) (mg_of X Ns xa0) ⟨by kernel_rfl,by kernel_rfl⟩ (E7 (t:="NoTable") (Ct:=37) (mg_of X Ns xa1) ⟨by kernel_rfl,by kernel_rfl⟩ (E7 (t:="NoPlan") (Ct:=49) (mg_of X Ns xa2) ⟨by kernel_rfl,by kernel_rfl⟩ (E7 (t:="NoText") (Ct:=61) (mg_of X Ns xa3) ⟨by kernel_rfl,by kernel_rfl⟩ q5Y)))),by kernel_rfl⟩ (q4r ⟨61,mg_of X Ns xa3,⟨by kernel_rfl,by kernel_rfl,by kernel_rfl,by kernel_rfl,by kernel_rfl,by kernel_rfl,by kernel_rfl,by kernel_rfl⟩,⟨_,_,_,[.type "ValueError",.type "Exception",.type "BaseException",.type "object"],w1H,by kernel_rfl⟩,(E7 (t:="TalkError") (Ct:=24) (mg_of X Ns xa0) ⟨by kernel_rfl,by kernel_rfl⟩ (E7 (t:="NoTable") (Ct:=37) (mg_of X Ns xa1) ⟨by kernel_rfl,by kernel_rfl⟩ (E7 (t:="NoPlan") (Ct:=49) (mg_of X Ns xa2) ⟨by kernel_rfl,by kernel_rfl⟩ (E7 (t:="NoText") (Ct:=61) (mg_of X Ns xa3) ⟨by kernel_rfl,by kernel_rfl⟩ q5Y)))),by kernel_rfl⟩ (z7f)))),all_cons ⟨_,mg_of X Ns xa0⟩ (all_cons ⟨_,mg_of X Ns xa1⟩ (all_cons ⟨_,mg_of X Ns xa2⟩ (all_cons ⟨_,mg_of X Ns xa3⟩ (z5e))))⟩
 ·intro x d h;have g0:nsIn (kK w.params) mainGlobals "MOST_LINES" = some (some (.int 8 268)):=by kernel_rfl
  have g1:nsIn (kK w.params) mainGlobals "GREATEST_WORD" = some (some (.int 9 270)):=by kernel_rfl
  have g2:nsIn (kK w.params) mainGlobals "GREATEST_MODULUS" = some (some (.int 10 299)):=by kernel_rfl
  have g3:nsIn (kK w.params) mainGlobals "MOST_BITS" = some (some (.int 3 301)):=by kernel_rfl
  have g4:nsIn (kK w.params) mainGlobals "DIGITS" = some (some (.str "0123456789" 360)):=by kernel_rfl
  exact q3P ⟨_,.int _,mg_of X Ns g0,⟨_,rfl⟩,λH=>A4.mpr rfl⟩ (q3P ⟨_,.int _,mg_of X Ns g1,⟨_,rfl⟩,λH=>A4.mpr rfl⟩ (q3P ⟨_,.int _,mg_of X Ns g2,⟨_,rfl⟩,λH=>A4.mpr rfl⟩ (q3P ⟨_,.int _,mg_of X Ns g3,⟨_,rfl⟩,λH=>A4.mpr rfl⟩ (q3P ⟨_,.str _,mg_of X Ns g4,⟨_,rfl⟩,λH=>y7.mpr ⟨rfl,by decide⟩⟩ (z6v))))) x d h
 ·intro x kvs h;exact z5c x kvs h
end
end k82
open PySem PySem.W PyProof.Rows
set_option maxRecDepth 100000 in
set_option maxHeartbeats 0 in
theorem PySem.Challenge.cw_talkleast_k82_what_is_no_text_of_a_table_holds : PySem.Challenge.rw_talkleast_k82_what_is_no_text_of_a_table.Holds := by
 refine holds_law (by kernel_rfl) λ said => ?_
 refine holds_open (q := k82.kQ) (loose := k82.kL) (Xt := λ s => xlAt k82.kQ [] s && recOk (RowW.records (OpenRow.toRowW (OpenLaw.row PySem.Challenge.rw_talkleast_k82_what_is_no_text_of_a_table))) s) (XP := XL k82.kQ []) (Yf := (kHook k82.kAll k82.kB k82.kE).obs) (Ya := (kHook k82.kAll k82.kB k82.kE).val) (YP := (kHook k82.kAll k82.kB k82.kE).says) (N := 3640) k82.kLeft (kHook k82.kAll k82.kB k82.kE).of (kHook k82.kAll k82.kB k82.kE).keeps (λ s e => xl_of s (Bool.and_eq_true_iff.mp e).1) XL.keeps (by rfl) (by rfl) (by rfl) (λ s e => recFacts_of (Bool.and_eq_true_iff.mp e).2) (by rfl) said (by decide +kernel) ⟨rfl, rfl, rfl, rfl, rfl, by decide +kernel⟩ ?hw ?hc
 case hw => w_witness2
 exact L2.walkE (l := PySem.Challenge.rw_talkleast_k82_what_is_no_text_of_a_table) (k := 60) (p := "_law_script") rfl rfl ⟨rfl, by decide, by decide⟩ (λ w h Y => (L2.in_app (kIn_of Y) (by kernel_rfl)).1) (λ w h Y => ⟨L2.htb_of (T := k82.kT) (L2.in_app (kIn_of Y) (by kernel_rfl)).1 (L2.in_app (kIn_of Y) (by kernel_rfl)).2 (k82.kN _) (by kernel_rfl), k82.kM _⟩) λ w mg fa h KX G hmg => k82.all_mk KX G hmg
end
